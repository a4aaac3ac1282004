/- The law MenuCounts: for every input the Go function returns true, and its arguments read as before. -/
import Derived.Test.YtkboeldafppicaaApartP
import Derived.Test.YtkboeldafppicaaMRank
import Derived.Test.YtkboeldafppicaaRTabM
import Derived.Test.YtkboeldafppicaaMRkM
import Derived.BigQuiet
import Derived.Test.YtkboeldafppicaaLgD
import Derived.Test.YtkboeldafppicaaMNot
import Derived.Test.YtkboeldafppicaaRTwo
import Derived.Test.YtkboeldafppicaaMCount
import Derived.Test.YtkboeldafppicaaMLg
/- The chapter's first two examples: known of canteenlaw03. -/
/- The chapter's examples: the plain forms of Apart(2, 2) and Apart(3, 2). -/
set_option linter.unusedVariables false
namespace Go.Proofs.Ytkboeldafppicaa
open Go.RowKit

def smN (n s c : Nat) : Nat := if s = n + 1 then n + 1 else if s = c + 1 then n + 1 else c + 1
def smA (n s : Nat) : Bool := !(s == n + 1)
def smR (n : Nat) (s : Nat) (r : Rec) : Prop := (s = 0 ∧ r = (-1, -1, false)) ∨ (∃ c, c < n ∧ s = c + 1 ∧ r.1 = (c : Int) ∧ r.2.2 = false) ∨ (s = n + 1 ∧ r.2.2 = true)
theorem smR_next (n s : Nat) (r : Rec) (c : Nat) (h : smR n s r) (hc : c < n) : smR n (smN n s c) (apN 2 r c) := by
  obtain ⟨a, b, l⟩ := r
  rcases h with ⟨rfl, h⟩ | ⟨d, hd, rfl, h1, h2⟩ | ⟨rfl, h⟩
  · simp only [Prod.mk.injEq] at h
    obtain ⟨rfl, rfl, rfl⟩ := h
    refine .inr (.inl ⟨c, hc, ?_, ?_, ?_⟩)
    · unfold smN; rw [if_neg (by omega), if_neg (by omega)]
    · unfold apN; rw [if_neg (by simp)]
    · unfold apN; rw [if_neg (by simp)]
  · dsimp only at h1 h2
    subst h1; subst h2
    by_cases e : c = d
    · subst e
      refine .inr (.inr ⟨?_, ?_⟩)
      · unfold smN; rw [if_neg (by omega), if_pos rfl]
      · unfold apN; rw [if_pos (by simp)]
    · refine .inr (.inl ⟨c, hc, ?_, ?_, ?_⟩)
      · unfold smN; rw [if_neg (by omega), if_neg (by omega)]
      · unfold apN; rw [if_neg (by simp; omega)]
      · unfold apN; rw [if_neg (by simp; omega)]
  · dsimp only at h
    subst h
    refine .inr (.inr ⟨?_, ?_⟩)
    · unfold smN; rw [if_pos rfl]
    · unfold apN; rw [if_pos (.inl rfl)]
theorem smR_acc (n s : Nat) (r : Rec) (h : smR n s r) : smA n s = apK r := by
  obtain ⟨a, b, l⟩ := r
  unfold smA apK
  rcases h with ⟨rfl, h⟩ | ⟨d, hd, rfl, h1, h2⟩ | ⟨rfl, h⟩
  · simp only [Prod.mk.injEq] at h
    obtain ⟨rfl, rfl, rfl⟩ := h
    simp
  · dsimp only at h2
    subst h2
    simp; omega
  · dsimp only at h
    subst h; simp
theorem apL_sm (n : Nat) : apL n 2 = langOf n (smN n) (smA n) 0 := (langOf_rel (R := smR n) n (smN n) (apN 2) (smA n) apK (smR_next n) (smR_acc n) 0 (-1, -1, false) (.inl ⟨rfl, rfl⟩)).symm
theorem sm_canon (n : Nat) (hn : n = 2 ∨ n = 3) (i : Nat) : (listTo n (smN n) (smA n) 0 i).1.length = (canon n (apL n 2) i).1.length ∧ (listTo n (smN n) (smA n) 0 i).2 = (canon n (apL n 2) i).2 := by
  have := canon_of (L := n) (next := smN n) (acc := smA n) (s0 := 0) (fun s => s < n + 2) (by omega) (fun s c hs hc => by unfold smN; split <;> (try split) <;> omega) (f := langOf n (smN n) (smA n)) (fun s c _ hc => (langOf_dv s c hc).symm) (fun s _ => (langOf_ep s).symm)
    (fun s t hs ht e => by
      have he := langOf_eq s t |>.1 e
      have h0 := he [] (wd_nil n)
      have h1 : ∀ c, c < n → smA n (smN n s c) = smA n (smN n t c) := fun c hc => he [c] (wd_cons.2 ⟨hc, wd_nil n⟩)
      have hall : ∀ n, n = 2 ∨ n = 3 → ∀ s, s < n + 2 → ∀ t, t < n + 2 → smA n s = smA n t → (∀ c, c < n → smA n (smN n s c) = smA n (smN n t c)) → s = t := by
        intro n hn
        rcases hn with rfl | rfl
        · decide
        · decide
      exact hall n hn s hs t ht h0 h1)
    i
  rw [← apL_sm] at this
  exact ⟨by have h := congrArg List.length this.1; rwa [List.length_map] at h, this.2⟩
def rows3 : List (List Int) := [[1, 2, 3], [4, 2, 3], [1, 4, 3], [1, 2, 4], [4, 4, 4]]
def accs3 : List Bool := [true, true, true, true, false]
theorem full2 : FullC 2 (apL 2 2) 4 := ⟨by rw [← (sm_canon 2 (.inl rfl) 4).1]; decide, fun j hj => by
  rw [← (sm_canon 2 (.inl rfl) j).1]
  have : ∀ j, j < 4 → j < (listTo 2 (smN 2) (smA 2) 0 j).1.length := by decide
  exact this j hj⟩
theorem full3 : FullC 3 (apL 3 2) 5 := ⟨by rw [← (sm_canon 3 (.inr rfl) 5).1]; decide, fun j hj => by
  rw [← (sm_canon 3 (.inr rfl) j).1]
  have : ∀ j, j < 5 → j < (listTo 3 (smN 3) (smA 3) 0 j).1.length := by decide
  exact this j hj⟩
theorem canon3 : (canon 3 (apL 3 2) 5).2.1 = rows3 ∧ (canon 3 (apL 3 2) 5).2.2 = accs3 := by
  rw [← (sm_canon 3 (.inr rfl) 5).2]
  decide
theorem known3_nums : lenE 3 rows3 accs3 3 = 0 ∧ cntA 3 rows3 accs3 3 = 12 ∧ rnkE 3 rows3 accs3 [0, 2, 0] = 0 ∧ rnkA 3 rows3 accs3 [0, 2, 0] = 2 := by
  decide
end Go.Proofs.Ytkboeldafppicaa
set_option linter.unusedVariables false
set_option linter.unusedSimpArgs false
namespace Go.Proofs.Ytkboeldafppicaa
open Go.RowKit

set_option maxRecDepth 100000 in
set_option maxHeartbeats 4000000 in
theorem known3_any (w : World) : Calls Try.prog 20 #[] w fun e w' => Below w.heap.size w w' ∧ e = .returned (.bool true) := by
  have k1 := known3_nums.1
  have k2 := known3_nums.2.1
  have k3 := known3_nums.2.2.1
  have k4 := known3_nums.2.2.2
  go_enter Try.func20, Try.ntmps20
  go_wp2_with fail
  refine (apart_any 2 2 w).mono ?_
  rintro e w1 ⟨hb1, hor⟩
  obtain ⟨i, hF, hans⟩ := (hor.resolve_right (fun h => h.1 (by decide))).2
  have hi : i = 4 := hF.unique full2
  subst hi
  rcases hans with ⟨h64, _⟩ | ⟨_, Na, nc, Aa, ac, rfl, _⟩
  · omega
  have HB1 := hid hb1
  clear hb1 hF hor
  unfold machV
  have hA2 : Below w1.heap.size w1 (w1.alloc (.cells #[.int .i64 2, .slice Na 4 nc, .slice Aa 4 ac] 25)) := (Below.refl _ _).alloc (Nat.le_refl _) _
  have n1 : (w1.alloc (.cells #[.int .i64 2, .slice Na 4 nc, .slice Aa 4 ac] 25)).cell? ⟨w1.heap.size, 1, none⟩ = some (.slice Na 4 nc) := by go_simp
  have HB2 := hid (HB1.out.trans (hA2.mono HB1.out.size))
  clear hA2
  go_wp2_with fail
  refine (apart_any 3 2 _).mono ?_
  rintro e w2 ⟨hb2, hor⟩
  obtain ⟨i, hF, hans⟩ := (hor.resolve_right (fun h => h.1 (by decide))).2
  have hi : i = 5 := hF.unique full3
  subst hi
  rcases hans with ⟨h64, _⟩ | ⟨_, Nb, nd, Ab, ad, rfl, hM⟩
  · omega
  have HM := hid hM.mach
  rw [show (canon (3 : Int).toNat (apL (3 : Int).toNat 2) 5).2.1 = rows3 from canon3.1, show (canon (3 : Int).toNat (apL (3 : Int).toNat 2) 5).2.2 = accs3 from canon3.2] at HM
  have n1 := (hb2.cell (cell_lt n1)).trans n1
  have HB3 := hid (HB2.out.trans (hb2.mono HB2.out.size))
  clear hb2 hF hM hor
  unfold machV
  have hA4 : Below w2.heap.size w2 (w2.alloc (.cells #[.int .i64 3, .slice Nb 5 nd, .slice Ab 5 ad] 25)) := (Below.refl _ _).alloc (Nat.le_refl _) _
  have HC := hid (mCount_any 3 nd ad Nb Ab rows3 accs3 3 _ (HM.out.below hA4))
  have n1 := (hA4.cell (cell_lt n1)).trans n1
  have b0 : (w2.alloc (.cells #[.int .i64 3, .slice Nb 5 nd, .slice Ab 5 ad] 25)).cell? ⟨w2.heap.size, 0, none⟩ = some (.int .i64 3) := by go_simp
  have b1 : (w2.alloc (.cells #[.int .i64 3, .slice Nb 5 nd, .slice Ab 5 ad] 25)).cell? ⟨w2.heap.size, 1, none⟩ = some (.slice Nb 5 nd) := by go_simp
  have b2 : (w2.alloc (.cells #[.int .i64 3, .slice Nb 5 nd, .slice Ab 5 ad] 25)).cell? ⟨w2.heap.size, 2, none⟩ = some (.slice Ab 5 ad) := by go_simp
  have HB4 := hid (HB3.out.trans (hA4.mono HB3.out.size))
  have HM4 := hid (HM.out.below hA4)
  rw [k1, k2, show rows3.length = 5 from rfl, show accs3.length = 5 from rfl] at HC
  unfold machV at HC
  clear hA4 k1 k2
  go_wp2_with fail
  refine HC.out.mono ?_
  rintro e w3 ⟨hb3, rfl⟩
  have n1 := (hb3.cell (cell_lt n1)).trans n1
  have b0 := (hb3.cell (cell_lt b0)).trans b0
  have b1 := (hb3.cell (cell_lt b1)).trans b1
  have b2 := (hb3.cell (cell_lt b2)).trans b2
  have HB5 := hid (HB4.out.trans (hb3.mono HB4.out.size))
  have hA5 : Below w3.heap.size w3 (w3.alloc (.cells #[.int .i64 0, .int .i64 2, .int .i64 0] 3)) := (Below.refl _ _).alloc (Nat.le_refl _) _
  have hI : Ints (w3.alloc (.cells #[.int .i64 0, .int .i64 2, .int .i64 0] 3)) (some ⟨w3.heap.size, 0, none⟩) [0, 2, 0] := ⟨by decide, .inr ⟨w3.heap.size, 0, rfl, fun i hi => by
    match i, hi with
    | 0, _ => go_simp
    | 1, _ => go_simp
    | 2, _ => go_simp⟩, by simp⟩
  have HR := hid (mRank_any 3 nd ad Nb Ab rows3 accs3 (some ⟨w3.heap.size, 0, none⟩) [0, 2, 0] 3 _ ((HM4.out.below hb3).below hA5) hI)
  have n1 := (hA5.cell (cell_lt n1)).trans n1
  have HB6 := hid (HB5.out.trans (hA5.mono HB5.out.size))
  rw [k3, k4, show rows3.length = 5 from rfl, show accs3.length = 5 from rfl, show ([0, 2, 0] : List Int).length = 3 from rfl] at HR
  unfold machV at HR
  clear hA5 hI hb3 k3 k4 HC
  go_wp2_with fail
  refine HR.out.mono ?_
  rintro e w4 ⟨hb4, rfl⟩
  have n1 := (hb4.cell (cell_lt n1)).trans n1
  have HB7 := hid (HB6.out.trans (hb4.mono HB6.out.size))
  clear hb4 HR
  go_wp2
  go_ret
  exact ⟨HB7.out, rfl⟩
end Go.Proofs.Ytkboeldafppicaa
/- The document's Count and Rank: chapter 3. -/
set_option linter.unusedVariables false
set_option linter.unusedSimpArgs false
namespace Go.Proofs.Ytkboeldafppicaa
open Go.RowKit

set_option maxRecDepth 100000 in
set_option maxHeartbeats 1000000 in
theorem rSized_any (L : Int) (nc ac : Nat) (Na Aa : Option Addr) (rows : List (List Int)) (accs : List Bool) (n : Int) (w : World) (h : MachAt w Na rows Aa accs) :
    Calls Try.prog 107 #[machV L Na rows.length nc Aa accs.length ac, .int .i64 n] w fun e w' => Below w.heap.size w w' ∧ e = .returned (.int .i64 (lenE L rows accs n)) := by
  have hn := h.nlen
  have hal := h.alen
  have hA : Below w.heap.size w (w.alloc (amachO L Na rows.length nc Aa accs.length ac)) := (Below.refl _ _).alloc (Nat.le_refl _) _
  have HA := hid hA
  have HV := hid (rValidate_any L nc ac Na Aa rows accs _ (h.below hA))
  have HW := hid (show lenE L rows accs n = if vE L rows accs ≠ 0 then vE L rows accs else if n < 0 ∨ 20 < n then 1 else 0 from rfl)
  clear h hA
  unfold machV at *
  go_enter Try.func107, Try.ntmps107
  go_wp2_with fail
  refine HV.out.mono ?_
  rintro e w1 ⟨hb1, rfl⟩
  have HB1 := hid (HA.out.trans (hb1.mono HA.out.size))
  clear hb1 HV
  generalize vE L rows accs = v at *
  by_cases hv : v = 0
  · subst hv
    have HW := hid (HW.out.trans (if_neg (fun h => h rfl)))
    go_wp2_with fail
    refine (rWithin_any n 0 20 _).mono ?_
    rintro e w2 ⟨rfl, rfl⟩
    by_cases h1 : n < 0 ∨ 20 < n
    · have HW := hid (HW.out.trans (if_pos h1))
      have hd : decide (0 ≤ n ∧ n ≤ 20) = false := by simp; omega
      rw [hd]
      clear hd h1
      go_wp2
      go_ret
      exact ⟨HB1.out, by rw [HW.out]; rfl⟩
    · have HW := hid (HW.out.trans (if_neg h1))
      have hd : decide (0 ≤ n ∧ n ≤ 20) = true := by simp; omega
      rw [hd]
      clear hd h1
      go_wp2
      go_ret
      exact ⟨HB1.out, by rw [HW.out]; rfl⟩
  · have HW := hid (HW.out.trans (if_pos hv))
    have hv' : (v != 0) = true := by simpa using hv
    clear hv
    go_wp2
    go_ret
    exact ⟨HB1.out, by rw [HW.out]; rfl⟩
set_option maxRecDepth 100000 in
set_option maxHeartbeats 4000000 in
theorem rCount_any (L : Int) (nc ac : Nat) (Na Aa : Option Addr) (rows : List (List Int)) (accs : List Bool) (n : Int) (w : World) (h : MachAt w Na rows Aa accs) :
    Calls Try.prog 49 #[machV L Na rows.length nc Aa accs.length ac, .int .i64 n] w fun e w' => Below w.heap.size w w' ∧ e = .returned (.tuple #[.int .i64 (cntA L rows accs n), .int .i64 (lenE L rows accs n)]) := by
  have hn := h.nlen
  have hal := h.alen
  have hA : Below w.heap.size w (w.alloc (amachO L Na rows.length nc Aa accs.length ac)) := (Below.refl _ _).alloc (Nat.le_refl _) _
  have HA := hid hA
  have HH := hid h
  have HE := hid (show cntA L rows accs n = if lenE L rows accs n = 0 then wT L.toNat rows accs n.toNat 0 else 0 from rfl)
  have HO := hid (lenE_ok (L := L) (rows := rows) (accs := accs) (n := n))
  have HC := hid (rSized_any L nc ac Na Aa rows accs n _ (h.below hA))
  clear h
  have c0 : (w.alloc (amachO L Na rows.length nc Aa accs.length ac)).cell? ⟨w.heap.size, 0, none⟩ = some (.int .i64 L) := by go_simp
  have c1 : (w.alloc (amachO L Na rows.length nc Aa accs.length ac)).cell? ⟨w.heap.size, 1, none⟩ = some (.slice Na rows.length nc) := by go_simp
  have c2 : (w.alloc (amachO L Na rows.length nc Aa accs.length ac)).cell? ⟨w.heap.size, 2, none⟩ = some (.slice Aa accs.length ac) := by go_simp
  unfold machV at *
  go_enter Try.func49, Try.ntmps49
  go_wp2_with fail
  refine HC.out.mono ?_
  rintro e w1 ⟨hb1, rfl⟩
  have d0 := (hb1.cell (cell_lt c0)).trans c0
  have d1 := (hb1.cell (cell_lt c1)).trans c1
  have d2 := (hb1.cell (cell_lt c2)).trans c2
  have HB1 := hid (HA.out.trans (hb1.mono HA.out.size))
  clear hb1 c0 c1 c2 hA HC HA
  generalize hv0 : lenE L rows accs n = v at *
  have HV0 := hid hv0
  clear hv0
  by_cases hv : v = 0
  · subst hv
    obtain ⟨hV, ⟨m, rfl, hm⟩, l, rfl⟩ := HO.out rfl
    obtain ⟨hg, h64⟩ := vE_ok hV
    have hpos := hg.pos
    have hacc := hg.acc
    have HE := hid (show cntA l rows accs m = wT l rows accs m 0 by rw [HE.out, if_pos rfl, Int.toNat_natCast, Int.toNat_natCast])
    have HT := hid (rTable_any l m nc ac Na Aa rows accs w1 (HH.out.below HB1.out) hg hm (by omega))
    rw [hacc] at d2
    unfold machV at HT
    clear hV hg hacc HO
    go_wp2_with fail
    refine HT.out.mono ?_
    rintro e w2 ⟨hb2, vT, G, rfl, hT⟩
    have HB2 := hid (HB1.out.trans (hb2.mono HB1.out.size))
    obtain ⟨gT, cT, hvT, hcT⟩ := hT.form (by omega)
    subst hvT
    have e1 := hcT m (by omega)
    have e2 := hT.get m 0 (by omega) hpos
    have hmi : (m : Int) < (m : Int) + 1 := by omega
    clear hT hb2 HT hcT
    go_wp2
    go_ret2
    exact ⟨HB2.out, by rw [HE.out, HV0.out]; rfl⟩
  · have HE := hid (show cntA L rows accs n = 0 by rw [HE.out, if_neg hv])
    have hv' : (v != 0) = true := by simpa using hv
    clear hv HO
    go_wp2
    go_ret2
    exact ⟨HB1.out, by rw [HE.out, HV0.out]; rfl⟩
end Go.Proofs.Ytkboeldafppicaa
/- Not of the document. -/
/- Not: the languages of chapter 3. -/
set_option linter.unusedVariables false
namespace Go.Proofs.Ytkboeldafppicaa
open Go.RowKit

theorem LgD.good {ok L : Int} {f : Lang} {M : Int} {t : List (List Int)} {bs : List Bool} {n : Nat} (h : LgD ok L f M t bs 0) (hn : L = n) (h1 : 1 ≤ n) (h6 : n ≤ 6) (hf : langOf n dv ep f = f) : ok = 0 ∧ M = n ∧ GoodM n t bs ∧ t.length ≤ 64 ∧ mLang n t bs 0 = f ∧ FullC n f t.length ∧ t = (canon n f t.length).2.1 ∧ bs = (canon n f t.length).2.2 := by
  subst hn
  rcases h with ⟨hv, _, _, _, e⟩ | ⟨hv, i, hF, hans⟩
  · exact absurd e.symm hv
  · rcases hans with ⟨_, _, _, _, e⟩ | ⟨h64, hM, ht, hbs, _⟩
    · cases e
    · rw [Int.toNat_natCast] at hF hM ht hbs
      have hti : t.length = i := by rw [ht]; exact (listTo_len n dv ep f i).1
      refine ⟨hv, hM, by rw [ht, hbs]; exact (full_good h1 h6 (L := n) (next := dv) (acc := ep) (s0 := f) hF).1, by omega, ?_, by rw [hti]; exact hF, by rw [hti]; exact ht, by rw [hti]; exact hbs⟩
      rw [ht, hbs]
      have := (full_lang h1 h6 (L := n) (next := dv) (acc := ep) (s0 := f) hF).1
      unfold canon
      rw [this]
      exact hf
theorem nLang_eq (L : Nat) (rows : List (List Int)) (accs : List Bool) : nLang L rows accs = fun w => by classical exact if Wd L w then !mLang L rows accs 0 w else false := by
  classical
  funext w
  unfold nLang mLang
  by_cases hw : Wd L w
  · rw [langOf_in hw, langOf_in hw]; simp [hw]
  · rw [langOf_out hw]; simp [hw]
theorem nLang_twice {L : Nat} {rows t : List (List Int)} {accs bs : List Bool} (h : mLang L t bs 0 = nLang L rows accs) : nLang L t bs = mLang L rows accs 0 := by
  classical
  rw [nLang_eq, h, nLang_eq]
  funext w
  by_cases hw : Wd L w
  · simp [hw]
  · simp [hw]; unfold mLang; rw [langOf_out hw]
theorem foldl_tw (ra rb : List (List Int)) (w : List Nat) : ∀ i j : Nat, w.foldl (tw ra rb) ((i : Int), (j : Int)) = (((w.foldl (mN ra) i : Nat) : Int), ((w.foldl (mN rb) j : Nat) : Int)) := by
  induction w with
  | nil => intro i j; rfl
  | cons c w ih =>
    intro i j
    rw [List.foldl_cons, List.foldl_cons, List.foldl_cons, show tw ra rb ((i : Int), (j : Int)) c = ((mN ra i c : Int), (mN rb j c : Int)) from by unfold tw; simp]
    exact ih _ _
theorem both_lang (L : Nat) (ra rb : List (List Int)) (aa ab : List Bool) (w : List Nat) : langOf L (tw ra rb) (bothA aa ab) (0, 0) w = (mLang L ra aa 0 w && mLang L rb ab 0 w) := by
  unfold mLang
  by_cases hw : Wd L w
  · rw [langOf_in hw, langOf_in hw, langOf_in hw]
    have := foldl_tw ra rb w 0 0
    rw [show ((0 : Int), (0 : Int)) = (((0 : Nat) : Int), ((0 : Nat) : Int)) from rfl, this]
    unfold bothA
    simp
  · rw [langOf_out hw, langOf_out hw]; rfl
theorem both_not {L : Nat} {rows t : List (List Int)} {accs bs : List Bool} (h : mLang L t bs 0 = nLang L rows accs) : langOf L (tw rows t) (bothA accs bs) (0, 0) = fun _ => false := by
  classical
  funext w
  rw [both_lang, h, nLang_eq]
  by_cases hw : Wd L w
  · simp [hw]
  · simp [hw]
theorem fold_no (w : List Nat) : w.foldl dv (fun _ => false) = (fun _ => false) := by
  induction w with
  | nil => rfl
  | cons c w ih => rw [List.foldl_cons]; exact ih
theorem no_one {L i : Nat} (h : FullC L (fun _ => false) i) : i = 1 := by
  have hn := canon_nodup L (fun _ => false) i
  have hm := canon_mem h
  have h0 := listTo_first L dv ep (fun _ => false) i
  have hi := h.1
  have hall : ∀ g ∈ (canon L (fun _ => false) i).1, g = (fun _ => false) := fun g hg => by
    obtain ⟨w, _, e⟩ := (hm g).1 hg
    rw [← e, fold_no]
  generalize hl : (canon L (fun _ => false) i).1 = l at *
  have hpos : 0 < l.length := by
    have := (List.getElem?_eq_some_iff.1 h0).1
    unfold canon at hl
    rw [hl] at this
    exact this
  match l, hn, hall, hpos with
  | [x], _, _, _ => simpa using hi
  | x :: y :: l', hn, hall, _ =>
    have h1 := hall x (by simp)
    have h2 := hall y (by simp)
    rw [h1, h2] at hn
    simp at hn
theorem mA_lang {L : Nat} {t : List (List Int)} {bs : List Bool} {f : Lang} (h : mLang L t bs 0 = f) : mA bs 0 = f [] := by
  rw [← h]
  unfold mLang
  rw [langOf_in (fun c hc => by simp at hc)]
  rfl
theorem LgD.ok0 {ok L : Int} {f : Lang} {M : Int} {t : List (List Int)} {bs : List Bool} (h : LgD ok L f M t bs 0) : ok = 0 := by
  rcases h with ⟨hv, _, _, _, e⟩ | ⟨hv, _⟩
  · exact absurd e.symm hv
  · exact hv
theorem plain_zero {n : Nat} {rows : List (List Int)} {accs : List Bool} {M : Int} {t : List (List Int)} {bs : List Bool} {v : Int} (h : LgD 0 n (mLang n rows accs 0) M t bs v) (hg : GoodM n rows accs) (h64 : rows.length ≤ 64) : v = 0 := by
  rcases h with ⟨hv, _⟩ | ⟨_, i, hF, hans⟩
  · exact absurd rfl hv
  · rw [Int.toNat_natCast] at hF
    have h1 := canon_bound (L := n) (accs := accs) hg.cl 0 hg.pos i
    have h2 := hF.1
    rcases hans with ⟨h, _⟩ | ⟨_, _, _, _, e⟩
    · omega
    · exact e
theorem none_one {n : Nat} {M : Int} {t : List (List Int)} {bs : List Bool} {v : Int} (h : LgD 0 n (fun _ => false) M t bs v) (h1 : 1 ≤ n) (h6 : n ≤ 6) : v = 0 ∧ t.length = 1 ∧ bs.length = 1 ∧ mA bs 0 = false := by
  have hv : v = 0 := by
    rcases h with ⟨hv, _⟩ | ⟨_, i, hF, hans⟩
    · exact absurd rfl hv
    · have := no_one hF
      rcases hans with ⟨h, _⟩ | ⟨_, _, _, _, e⟩
      · omega
      · exact e
  subst hv
  obtain ⟨_, _, hg, _, hl, hF, _, _⟩ := h.good rfl h1 h6 (by
    funext w
    by_cases hw : Wd n w
    · rw [langOf_in hw, fold_no]; rfl
    · rw [langOf_out hw])
  have h2 := no_one hF
  exact ⟨rfl, h2, by rw [hg.acc]; exact h2, mA_lang hl⟩
end Go.Proofs.Ytkboeldafppicaa
set_option linter.unusedVariables false
set_option linter.unusedSimpArgs false
namespace Go.Proofs.Ytkboeldafppicaa
open Go.RowKit Go.Maps

theorem twoE_self (L : Int) (rows : List (List Int)) (accs : List Bool) : twoE L rows accs L rows accs = vE L rows accs := by
  unfold twoE
  by_cases h : vE L rows accs = 0
  · simp [h]
  · simp [h]
theorem tab_nlang {n : Nat} {rows : List (List Int)} {accs : List Bool} (hg : GoodM n rows accs) : langOf n (tw rows rows) (tabA true false false false accs accs) (0, 0) = nLang n rows accs := by
  unfold nLang
  refine langOf_rel (R := fun (s : Two) (t : Nat) => s = ((t : Int), (t : Int)) ∧ t < rows.length) n _ _ _ _ (fun s t c h hc => ?_) (fun s t h => ?_) _ _ ⟨rfl, hg.pos⟩
  · obtain ⟨rfl, ht⟩ := h
    exact ⟨by unfold tw; simp, hg.cl t c ht hc⟩
  · obtain ⟨rfl, ht⟩ := h
    unfold tabA tbv
    simp only [Int.toNat_natCast]
    by_cases hm : mA accs t = true <;> simp [hm]
theorem not_of_two {w' : World} {B : Nat} {L : Int} {rows : List (List Int)} {accs : List Bool} {e : Ending} (h : TwoA w' B L rows accs L rows accs (tabA true false false false) e) : NotA w' B L rows accs e := by
  unfold TwoA at h
  rw [twoE_self] at h
  rcases h with h | ⟨hv, h⟩
  · exact .inl h
  · obtain ⟨n, rfl⟩ := vE_nat hv
    rw [Int.toNat_natCast] at h
    rw [tab_nlang (vE_ok hv).1] at h
    exact .inr ⟨hv, by rw [Int.toNat_natCast]; exact h⟩
set_option maxRecDepth 100000 in
set_option maxHeartbeats 4000000 in
theorem rNot_any (L : Int) (nc ac : Nat) (Na Aa : Option Addr) (rows : List (List Int)) (accs : List Bool) (w : World) (h : MachAt w Na rows Aa accs) :
    Calls Try.prog 39 #[machV L Na rows.length nc Aa accs.length ac] w fun e w' => Below w.heap.size w w' ∧ NotA w' w.heap.size L rows accs e := by
  have hB1 : Below w.heap.size w ((w.alloc (.cells #[.int .i64 L, .slice Na rows.length nc, .slice Aa accs.length ac] 25)).alloc (.cells #[.int .i64 0, .slice none 0 0, .slice none 0 0] 25)) := ((Below.refl _ _).alloc (Nat.le_refl _) _).alloc (by simp) _
  have HV := hid (rProduct_any true false false false L nc ac Na Aa rows accs L nc ac Na Aa rows accs _ (h.below hB1) (h.below hB1))
  have HB1 := hid hB1
  clear h hB1
  unfold machV at HV ⊢
  go_enter Try.func39, Try.ntmps39
  go_wp2_with fail
  refine HV.out.mono ?_
  rintro e w1 ⟨hb1, hans⟩
  have hans := not_of_two hans
  have z0 : w1.cell? ⟨w.heap.size + 1, 0, none⟩ = some (.int .i64 0) := by rw [hb1.cell (by simp)]; go_simp
  have z1 : w1.cell? ⟨w.heap.size + 1, 1, none⟩ = some (.slice none 0 0) := by rw [hb1.cell (by simp)]; go_simp
  have z2 : w1.cell? ⟨w.heap.size + 1, 2, none⟩ = some (.slice none 0 0) := by rw [hb1.cell (by simp)]; go_simp
  have y0 : w1.frozen? ⟨w.heap.size + 1, 0, none⟩ = false := by rw [hb1.frozen (by simp)]; go_simp
  have y1 : w1.frozen? ⟨w.heap.size + 1, 1, none⟩ = false := by rw [hb1.frozen (by simp)]; go_simp
  have y2 : w1.frozen? ⟨w.heap.size + 1, 2, none⟩ = false := by rw [hb1.frozen (by simp)]; go_simp
  have hsz : w.heap.size + 1 < w1.heap.size := cell_lt z0
  have HB2 := hid (HB1.out.trans (hb1.mono HB1.out.size))
  have hlt0 : w.heap.size ≤ ((w.alloc (.cells #[.int .i64 L, .slice Na rows.length nc, .slice Aa accs.length ac] 25)).alloc (.cells #[.int .i64 0, .slice none 0 0, .slice none 0 0] 25)).heap.size := HB1.out.size
  clear hb1 HV HB1
  rcases hans with ⟨hv, rfl⟩ | ⟨hv, i, hF, ⟨h64, rfl⟩ | ⟨h64, Na5, nc5, Aa5, ac5, rfl, hM⟩⟩
  · generalize hvv : vE L rows accs = v at *
    have HVV := hid hvv
    clear hvv hlt0
    have HV := hid hv
    unfold machV
    go_wp2
    have t0 : (((w1.setCell ⟨w.heap.size + 1, 0, none⟩ (.int .i64 0)).setCell ⟨w.heap.size + 1, 1, none⟩ (.slice none 0 0)).setCell ⟨w.heap.size + 1, 2, none⟩ (.slice none 0 0)).cell? ⟨w.heap.size + 1, 0, none⟩ = some (.int .i64 0) := by go_simp
    have t1 : (((w1.setCell ⟨w.heap.size + 1, 0, none⟩ (.int .i64 0)).setCell ⟨w.heap.size + 1, 1, none⟩ (.slice none 0 0)).setCell ⟨w.heap.size + 1, 2, none⟩ (.slice none 0 0)).cell? ⟨w.heap.size + 1, 1, none⟩ = some (.slice none 0 0) := by go_simp
    have t2 : (((w1.setCell ⟨w.heap.size + 1, 0, none⟩ (.int .i64 0)).setCell ⟨w.heap.size + 1, 1, none⟩ (.slice none 0 0)).setCell ⟨w.heap.size + 1, 2, none⟩ (.slice none 0 0)).cell? ⟨w.heap.size + 1, 2, none⟩ = some (.slice none 0 0) := by go_simp
    have HBz := hid (((HB2.out.setCell (p := ⟨w.heap.size + 1, 0, none⟩) (by first | (simp; done) | (simp; omega)) (.int .i64 0)).setCell (p := ⟨w.heap.size + 1, 1, none⟩) (by first | (simp; done) | (simp; omega)) (.slice none 0 0)).setCell (p := ⟨w.heap.size + 1, 2, none⟩) (by first | (simp; done) | (simp; omega)) (.slice none 0 0))
    generalize (((w1.setCell ⟨w.heap.size + 1, 0, none⟩ (.int .i64 0)).setCell ⟨w.heap.size + 1, 1, none⟩ (.slice none 0 0)).setCell ⟨w.heap.size + 1, 2, none⟩ (.slice none 0 0)) = wz at *
    refine bodyPost_ret (v := .tuple #[machV 0 none 0 0 none 0 0, .int .i64 v]) (by simp [machV, results, Try.results39, go_sem, t0, t1, t2]) rfl ⟨HBz.out, .inl ⟨by rw [HVV.out]; exact HV.out, by rw [HVV.out]⟩⟩
  · obtain ⟨n, rfl⟩ := vE_nat hv
    have HVz := hid hv
    have HF := hid hF
    clear hv hF hlt0
    unfold machV
    go_wp2
    have t0 : (((w1.setCell ⟨w.heap.size + 1, 0, none⟩ (.int .i64 0)).setCell ⟨w.heap.size + 1, 1, none⟩ (.slice none 0 0)).setCell ⟨w.heap.size + 1, 2, none⟩ (.slice none 0 0)).cell? ⟨w.heap.size + 1, 0, none⟩ = some (.int .i64 0) := by go_simp
    have t1 : (((w1.setCell ⟨w.heap.size + 1, 0, none⟩ (.int .i64 0)).setCell ⟨w.heap.size + 1, 1, none⟩ (.slice none 0 0)).setCell ⟨w.heap.size + 1, 2, none⟩ (.slice none 0 0)).cell? ⟨w.heap.size + 1, 1, none⟩ = some (.slice none 0 0) := by go_simp
    have t2 : (((w1.setCell ⟨w.heap.size + 1, 0, none⟩ (.int .i64 0)).setCell ⟨w.heap.size + 1, 1, none⟩ (.slice none 0 0)).setCell ⟨w.heap.size + 1, 2, none⟩ (.slice none 0 0)).cell? ⟨w.heap.size + 1, 2, none⟩ = some (.slice none 0 0) := by go_simp
    have HBz := hid (((HB2.out.setCell (p := ⟨w.heap.size + 1, 0, none⟩) (by first | (simp; done) | (simp; omega)) (.int .i64 0)).setCell (p := ⟨w.heap.size + 1, 1, none⟩) (by first | (simp; done) | (simp; omega)) (.slice none 0 0)).setCell (p := ⟨w.heap.size + 1, 2, none⟩) (by first | (simp; done) | (simp; omega)) (.slice none 0 0))
    generalize (((w1.setCell ⟨w.heap.size + 1, 0, none⟩ (.int .i64 0)).setCell ⟨w.heap.size + 1, 1, none⟩ (.slice none 0 0)).setCell ⟨w.heap.size + 1, 2, none⟩ (.slice none 0 0)) = wz at *
    refine bodyPost_ret (v := .tuple #[machV 0 none 0 0 none 0 0, .int .i64 4]) (by simp [machV, results, Try.results39, go_sem, t0, t1, t2]) rfl ⟨HBz.out, .inr ⟨HVz.out, i, HF.out, .inl ⟨h64, rfl⟩⟩⟩
  · obtain ⟨n, rfl⟩ := vE_nat hv
    have HVz := hid hv
    rw [Int.toNat_natCast] at hF hM
    have HF := hid hF
    have HM := hid hM
    have HLt := hid hlt0
    clear hv hF hM hlt0
    unfold machV
    go_wp2
    have t0 : (((w1.setCell ⟨w.heap.size + 1, 0, none⟩ (.int .i64 (n : Int))).setCell ⟨w.heap.size + 1, 1, none⟩ (.slice Na5 i nc5)).setCell ⟨w.heap.size + 1, 2, none⟩ (.slice Aa5 i ac5)).cell? ⟨w.heap.size + 1, 0, none⟩ = some (.int .i64 (n : Int)) := by go_simp
    have t1 : (((w1.setCell ⟨w.heap.size + 1, 0, none⟩ (.int .i64 (n : Int))).setCell ⟨w.heap.size + 1, 1, none⟩ (.slice Na5 i nc5)).setCell ⟨w.heap.size + 1, 2, none⟩ (.slice Aa5 i ac5)).cell? ⟨w.heap.size + 1, 1, none⟩ = some (.slice Na5 i nc5) := by go_simp
    have t2 : (((w1.setCell ⟨w.heap.size + 1, 0, none⟩ (.int .i64 (n : Int))).setCell ⟨w.heap.size + 1, 1, none⟩ (.slice Na5 i nc5)).setCell ⟨w.heap.size + 1, 2, none⟩ (.slice Aa5 i ac5)).cell? ⟨w.heap.size + 1, 2, none⟩ = some (.slice Aa5 i ac5) := by go_simp
    have HBz := hid (((HB2.out.setCell (p := ⟨w.heap.size + 1, 0, none⟩) (by first | (simp; done) | (simp; omega)) (.int .i64 (n : Int))).setCell (p := ⟨w.heap.size + 1, 1, none⟩) (by first | (simp; done) | (simp; omega)) (.slice Na5 i nc5)).setCell (p := ⟨w.heap.size + 1, 2, none⟩) (by first | (simp; done) | (simp; omega)) (.slice Aa5 i ac5))
    have HMz := hid ((((HM.out.setCell ⟨w.heap.size + 1, 0, none⟩ (.int .i64 (n : Int)) (by first | (simp; done) | (simp; omega))).setCell ⟨w.heap.size + 1, 1, none⟩ (.slice Na5 i nc5) (by first | (simp; done) | (simp; omega))).setCell ⟨w.heap.size + 1, 2, none⟩ (.slice Aa5 i ac5) (by first | (simp; done) | (simp; omega))).weak (B' := w.heap.size) HLt.out)
    generalize (((w1.setCell ⟨w.heap.size + 1, 0, none⟩ (.int .i64 (n : Int))).setCell ⟨w.heap.size + 1, 1, none⟩ (.slice Na5 i nc5)).setCell ⟨w.heap.size + 1, 2, none⟩ (.slice Aa5 i ac5)) = wz at *
    refine bodyPost_ret (v := .tuple #[machV n Na5 i nc5 Aa5 i ac5, .int .i64 0]) (by simp [machV, results, Try.results39, go_sem, t0, t1, t2]) rfl ⟨HBz.out, .inr ⟨HVz.out, by rw [Int.toNat_natCast]; exact ⟨i, HF.out, .inr ⟨h64, Na5, nc5, Aa5, ac5, rfl, HMz.out⟩⟩⟩⟩
end Go.Proofs.Ytkboeldafppicaa
/- How many words of a length a language has: both and at least one add up. -/
set_option linter.unusedVariables false
namespace Go.Proofs.Ytkboeldafppicaa
open Go.RowKit

theorem sumN_same (f g : Nat → Int) (k : Nat) (h : ∀ c, c < k → f c = g c) : sumN f k = sumN g k := by
  induction k with
  | zero => rfl
  | succ k ih => rw [sumN, sumN, ih (fun c hc => h c (by omega)), h k (by omega)]
theorem sumN_plus (f g : Nat → Int) (k : Nat) : sumN (fun c => f c + g c) k = sumN f k + sumN g k := by
  induction k with
  | zero => rfl
  | succ k ih => rw [sumN, sumN, sumN, ih]; omega
noncomputable def lc (L : Nat) : Nat → Lang → Int
  | 0, f => if ep f = true then 1 else 0
  | k + 1, f => sumN (fun c => lc L k (dv f c)) L
theorem lc_add (L : Nat) (f g : Lang) (k : Nat) : lc L k (fun w => f w && g w) + lc L k (fun w => f w || g w) = lc L k f + lc L k g := by
  induction k generalizing f g with
  | zero =>
    rw [lc, lc, lc, lc]
    unfold ep
    show (if (f [] && g []) = true then (1 : Int) else 0) + (if (f [] || g []) = true then 1 else 0) = _
    cases f [] <;> cases g [] <;> rfl
  | succ k ih =>
    rw [lc, lc, lc, lc, ← sumN_plus, ← sumN_plus]
    exact sumN_same _ _ _ (fun c _ => ih (dv f c) (dv g c))
theorem wT_lc (L : Nat) (rows : List (List Int)) (accs : List Bool) (k : Nat) : ∀ s, wT L rows accs k s = lc L k (mLang L rows accs s) := by
  induction k with
  | zero => intro s; rw [wT, lc]; unfold mLang; rw [langOf_ep]
  | succ k ih =>
    intro s
    rw [wT, lc]
    refine sumN_same _ _ _ (fun c hc => ?_)
    rw [ih]
    unfold mLang
    rw [langOf_dv s c hc]
theorem eith_lang (L : Nat) (ra rb : List (List Int)) (aa ab : List Bool) (w : List Nat) : langOf L (tw ra rb) (eithA aa ab) (0, 0) w = (mLang L ra aa 0 w || mLang L rb ab 0 w) := by
  unfold mLang
  by_cases hw : Wd L w
  · rw [langOf_in hw, langOf_in hw, langOf_in hw]
    have := foldl_tw ra rb w 0 0
    rw [show ((0 : Int), (0 : Int)) = (((0 : Nat) : Int), ((0 : Nat) : Int)) from rfl, this]
    unfold eithA
    simp
  · rw [langOf_out hw, langOf_out hw, langOf_out hw]; rfl
theorem cnt_add {L : Int} {rows : List (List Int)} {accs : List Bool} {L' : Int} {rows' : List (List Int)} {accs' : List Bool} {n : Int} {M : Int} {t : List (List Int)} {bs : List Bool} {M' : Int} {t' : List (List Int)} {bs' : List Bool}
    (h1 : lenE L rows accs n = 0) (h2 : lenE L' rows' accs' n = 0) (hb : LgD (twoE L rows accs L' rows' accs') L (langOf L.toNat (tw rows rows') (bothA accs accs') (0, 0)) M t bs 0) (he : LgD (twoE L rows accs L' rows' accs') L (langOf L.toNat (tw rows rows') (eithA accs accs') (0, 0)) M' t' bs' 0) :
    lenE M t bs n = 0 ∧ lenE M' t' bs' n = 0 ∧ cntA M t bs n + cntA M' t' bs' n = cntA L rows accs n + cntA L' rows' accs' n := by
  obtain ⟨l, rfl, rfl, hg, hg', h64, h64'⟩ := twoE_ok hb.ok0
  obtain ⟨hv, ⟨m, rfl, hm⟩, _⟩ := lenE_ok h1
  rw [Int.toNat_natCast] at hb he
  obtain ⟨_, rfl, g1, s1, f1, _⟩ := hb.good rfl hg.lo hg.hi (lang_self (next := tw rows rows') (acc := bothA accs accs') (0, 0))
  obtain ⟨_, rfl, g2, s2, f2, _⟩ := he.good rfl hg.lo hg.hi (lang_self (next := tw rows rows') (acc := eithA accs accs') (0, 0))
  have z1 := good_vE g1 s1
  have z2 := good_vE g2 s2
  have e1 : lenE l t bs m = 0 := by unfold lenE; rw [if_neg (by simpa using z1), if_neg (by omega)]
  have e2 : lenE l t' bs' m = 0 := by unfold lenE; rw [if_neg (by simpa using z2), if_neg (by omega)]
  refine ⟨e1, e2, ?_⟩
  unfold cntA
  rw [if_pos e1, if_pos e2, if_pos h1, if_pos h2, Int.toNat_natCast, Int.toNat_natCast, wT_lc, wT_lc, wT_lc, wT_lc, f1, f2, ← lc_add l (mLang l rows accs 0) (mLang l rows' accs' 0)]
  congr 1
  · congr 1; funext w; exact both_lang _ _ _ _ _ w
  · congr 1; funext w; exact eith_lang _ _ _ _ _ w
end Go.Proofs.Ytkboeldafppicaa
/- The walk of the law MenuCounts. -/
set_option linter.unusedVariables false
set_option linter.unusedSimpArgs false
namespace Go.Proofs.Ytkboeldafppicaa
open Go.RowKit

set_option maxRecDepth 100000 in
set_option maxHeartbeats 4000000 in
theorem menuCounts_walk (L : Int) (nc ac : Nat) (Na Aa : Option Addr) (rows : List (List Int)) (accs : List Bool) (L' : Int) (nc' ac' : Nat) (Na' Aa' : Option Addr) (rows' : List (List Int)) (accs' : List Bool) (n : Int) (w : World) (hM : MachRaw w Na rows Aa accs) (hM' : MachRaw w Na' rows' Aa' accs') :
    Calls Try.prog 10 #[.agg #[.int .i64 L, .slice Na rows.length nc, .slice Aa accs.length ac], .agg #[.int .i64 L', .slice Na' rows'.length nc', .slice Aa' accs'.length ac'], .int .i64 n] w fun e w' => Below w.heap.size w w' ∧ e = .returned (.bool true) := by
  have hA : Below w.heap.size w ((w.alloc (.cells #[.int .i64 L, .slice Na rows.length nc, .slice Aa accs.length ac] 25)).alloc (.cells #[.int .i64 L', .slice Na' rows'.length nc', .slice Aa' accs'.length ac'] 25)) := ((Below.refl _ _).alloc (Nat.le_refl _) _).alloc (by simp) _
  have hA1 : Below (w.alloc (.cells #[.int .i64 L, .slice Na rows.length nc, .slice Aa accs.length ac] 25)).heap.size (w.alloc (.cells #[.int .i64 L, .slice Na rows.length nc, .slice Aa accs.length ac] 25)) ((w.alloc (.cells #[.int .i64 L, .slice Na rows.length nc, .slice Aa accs.length ac] 25)).alloc (.cells #[.int .i64 L', .slice Na' rows'.length nc', .slice Aa' accs'.length ac'] 25)) := (Below.refl _ _).alloc (Nat.le_refl _) _
  have HXa := hid ((BoxM.made w L Na rows.length nc Aa accs.length ac).below hA1)
  have HXb := hid (BoxM.made (w.alloc (.cells #[.int .i64 L, .slice Na rows.length nc, .slice Aa accs.length ac] 25)) L' Na' rows'.length nc' Aa' accs'.length ac')
  have HMa := hid (hM.below hA)
  have HMb := hid (hM'.below hA)
  have HB := hid hA
  have hsz : (w.alloc (.cells #[.int .i64 L, .slice Na rows.length nc, .slice Aa accs.length ac] 25)).heap.size = w.heap.size + 1 := by simp
  rw [hsz] at HXb
  clear hM hM' hA hA1 hsz
  have HLg := hid (lLarge_any L nc ac Na Aa rows accs _ HMa.out)
  unfold machV at HLg
  go_enter Try.func10, Try.ntmps10
  have e0 := HXa.out.c0
  have e1 := HXa.out.c1
  have e2 := HXa.out.c2
  cases hlg : largeM rows accs with
  | true =>
    rw [hlg] at HLg
    clear hlg
    go_wp2_with fail
    refine HLg.out.mono ?_
    rintro e w1 ⟨hw1, rfl⟩
    have hbw : Below ((w.alloc (.cells #[.int .i64 L, .slice Na rows.length nc, .slice Aa accs.length ac] 25)).alloc (.cells #[.int .i64 L', .slice Na' rows'.length nc', .slice Aa' accs'.length ac'] 25)).heap.size ((w.alloc (.cells #[.int .i64 L, .slice Na rows.length nc, .slice Aa accs.length ac] 25)).alloc (.cells #[.int .i64 L', .slice Na' rows'.length nc', .slice Aa' accs'.length ac'] 25)) w1 := by rw [hw1]; exact (Below.refl _ _).alloc (Nat.le_refl _) _
    have HB := hid (HB.out.trans (hbw.mono HB.out.size))
    clear hbw hw1 HLg HXa HXb HMa HMb e0 e1 e2
    go_wp2_with fail
    refine (known3_any _).mono ?_
    rintro e wk ⟨hb, rfl⟩
    have HBz := hid (HB.out.trans (hb.mono HB.out.size))
    clear hb
    go_wp2
    go_ret
    exact ⟨HBz.out, rfl⟩
  | false =>
    obtain ⟨hma, _⟩ := largeM_mach HMa.out hlg
    have HMa := hid hma
    rw [hlg] at HLg
    clear hlg hma
    go_wp2_with fail
    refine HLg.out.mono ?_
    rintro e w1 ⟨hw1, rfl⟩
    have hbw : Below ((w.alloc (.cells #[.int .i64 L, .slice Na rows.length nc, .slice Aa accs.length ac] 25)).alloc (.cells #[.int .i64 L', .slice Na' rows'.length nc', .slice Aa' accs'.length ac'] 25)).heap.size ((w.alloc (.cells #[.int .i64 L, .slice Na rows.length nc, .slice Aa accs.length ac] 25)).alloc (.cells #[.int .i64 L', .slice Na' rows'.length nc', .slice Aa' accs'.length ac'] 25)) w1 := by rw [hw1]; exact (Below.refl _ _).alloc (Nat.le_refl _) _
    have HXa := hid (HXa.out.below hbw)
    have HXb := hid (HXb.out.below hbw)
    have HMa := hid (HMa.out.below hbw)
    have HMb := hid (HMb.out.below hbw)
    have HB := hid (HB.out.trans (hbw.mono HB.out.size))
    clear hbw hw1 HLg e0 e1 e2
    have HLg := hid (lLarge_any L' nc' ac' Na' Aa' rows' accs' _ HMb.out)
    unfold machV at HLg
    have e0 := HXb.out.c0
    have e1 := HXb.out.c1
    have e2 := HXb.out.c2
    cases hlg : largeM rows' accs' with
    | true =>
      rw [hlg] at HLg
      clear hlg
      go_wp2_with fail
      refine HLg.out.mono ?_
      rintro e w2 ⟨hw2, rfl⟩
      have hbw : Below w1.heap.size w1 w2 := by rw [hw2]; exact (Below.refl _ _).alloc (Nat.le_refl _) _
      have HB := hid (HB.out.trans (hbw.mono HB.out.size))
      clear hbw hw2 HLg HXa HXb HMa HMb e0 e1 e2
      go_wp2_with fail
      refine (known3_any _).mono ?_
      rintro e wk ⟨hb, rfl⟩
      have HBz := hid (HB.out.trans (hb.mono HB.out.size))
      clear hb
      go_wp2
      go_ret
      exact ⟨HBz.out, rfl⟩
    | false =>
      obtain ⟨hmb, _⟩ := largeM_mach HMb.out hlg
      have HMb := hid hmb
      rw [hlg] at HLg
      clear hlg hmb
      go_wp2_with fail
      refine HLg.out.mono ?_
      rintro e w2 ⟨hw2, rfl⟩
      have hbw : Below w1.heap.size w1 w2 := by rw [hw2]; exact (Below.refl _ _).alloc (Nat.le_refl _) _
      have HXa := hid (HXa.out.below hbw)
      have HXb := hid (HXb.out.below hbw)
      have HMa := hid (HMa.out.below hbw)
      have HMb := hid (HMb.out.below hbw)
      have HB := hid (HB.out.trans (hbw.mono HB.out.size))
      clear hbw hw2 HLg e0 e1 e2
      have HC := hid (mCount_any L nc ac Na Aa rows accs n _ HMa.out)
      unfold machV at HC
      have e0 := HXa.out.c0
      have e1 := HXa.out.c1
      have e2 := HXa.out.c2
      go_wp2_with fail
      refine HC.out.mono ?_
      rintro e wa ⟨hb, rfl⟩
      clear HC e0 e1 e2
      have HXa := hid (HXa.out.below hb)
      have HMa := hid (HMa.out.below hb)
      have HXb := hid (HXb.out.below hb)
      have HMb := hid (HMb.out.below hb)
      have HB := hid (HB.out.trans (hb.mono HB.out.size))
      clear hb
      have HC := hid (rCount_any L nc ac Na Aa rows accs n _ HMa.out)
      unfold machV at HC
      have e0 := HXa.out.c0
      have e1 := HXa.out.c1
      have e2 := HXa.out.c2
      go_wp2_with fail
      refine HC.out.mono ?_
      rintro e wb ⟨hb, rfl⟩
      clear HC e0 e1 e2
      have HXa := hid (HXa.out.below hb)
      have HMa := hid (HMa.out.below hb)
      have HXb := hid (HXb.out.below hb)
      have HMb := hid (HMb.out.below hb)
      have HB := hid (HB.out.trans (hb.mono HB.out.size))
      clear hb
      have hxx : (cntA L rows accs n != cntA L rows accs n) = false := by simp
      have hee : (lenE L rows accs n != lenE L rows accs n) = false := by simp
      have HC := hid (mCount_any L' nc' ac' Na' Aa' rows' accs' n _ HMb.out)
      unfold machV at HC
      have e0 := HXb.out.c0
      have e1 := HXb.out.c1
      have e2 := HXb.out.c2
      go_wp2_with fail
      refine HC.out.mono ?_
      rintro e w2 ⟨hb, rfl⟩
      clear HC e0 e1 e2
      have HXa := hid (HXa.out.below hb)
      have HMa := hid (HMa.out.below hb)
      have HXb := hid (HXb.out.below hb)
      have HMb := hid (HMb.out.below hb)
      have HB := hid (HB.out.trans (hb.mono HB.out.size))
      clear hb
      clear hxx hee
      have HC := hid (mBoth_any L nc ac Na Aa rows accs L' nc' ac' Na' Aa' rows' accs' _ HMa.out HMb.out)
      unfold machV at HC
      have e0 := HXa.out.c0
      have e1 := HXa.out.c1
      have e2 := HXa.out.c2
      have d0 := HXb.out.c0
      have d1 := HXb.out.c1
      have d2 := HXb.out.c2
      go_wp2_with fail
      refine HC.out.mono ?_
      rintro e w3 ⟨hb, hans⟩
      clear HC e0 e1 e2 d0 d1 d2
      obtain ⟨M1, t1, b1, v1, N1, n1, A1, a1, hD, rfl, hmk⟩ := lg_out hans
      have HD1 := hid hD
      have hal : Below w3.heap.size w3 (w3.alloc (.cells #[.int .i64 M1, .slice N1 t1.length n1, .slice A1 b1.length a1] 25)) := (Below.refl _ _).alloc (Nat.le_refl _) _
      have HX1 := hid (BoxM.made w3 M1 N1 t1.length n1 A1 b1.length a1)
      have HM1 := hid (hmk.mach.below hal)
      have hbb := hb.trans (hal.mono hb.size)
      have HXa := hid (HXa.out.below hbb)
      have HMa := hid (HMa.out.below hbb)
      have HXb := hid (HXb.out.below hbb)
      have HMb := hid (HMb.out.below hbb)
      have HB := hid (HB.out.trans (hbb.mono HB.out.size))
      clear hb hans hD hmk hal hbb
      unfold machV
      have HC := hid (mEither_any L nc ac Na Aa rows accs L' nc' ac' Na' Aa' rows' accs' _ HMa.out HMb.out)
      unfold machV at HC
      have e0 := HXa.out.c0
      have e1 := HXa.out.c1
      have e2 := HXa.out.c2
      have d0 := HXb.out.c0
      have d1 := HXb.out.c1
      have d2 := HXb.out.c2
      go_wp2_with fail
      refine HC.out.mono ?_
      rintro e w5 ⟨hb, hans⟩
      clear HC e0 e1 e2 d0 d1 d2
      generalize w3.alloc (.cells #[.int .i64 M1, .slice N1 t1.length n1, .slice A1 b1.length a1] 25) = y3 at *
      obtain ⟨M3, t3, b3, v3, N3, n3, A3, a3, hD, rfl, hmk⟩ := lg_out hans
      have HD3 := hid hD
      have hal : Below w5.heap.size w5 (w5.alloc (.cells #[.int .i64 M3, .slice N3 t3.length n3, .slice A3 b3.length a3] 25)) := (Below.refl _ _).alloc (Nat.le_refl _) _
      have HX3 := hid (BoxM.made w5 M3 N3 t3.length n3 A3 b3.length a3)
      have HM3 := hid (hmk.mach.below hal)
      have hbb := hb.trans (hal.mono hb.size)
      have HXa := hid (HXa.out.below hbb)
      have HMa := hid (HMa.out.below hbb)
      have HXb := hid (HXb.out.below hbb)
      have HMb := hid (HMb.out.below hbb)
      have HX1 := hid (HX1.out.below hbb)
      have HM1 := hid (HM1.out.below hbb)
      have HB := hid (HB.out.trans (hbb.mono HB.out.size))
      clear hb hans hD hmk hal hbb
      unfold machV
      by_cases hc : lenE L rows accs n = 0
      rotate_left
      · have hq : (lenE L rows accs n != 0) = true := by simpa using hc
        clear hc HXa HXb HMa HMb HX1 HX3 HM1 HM3
        go_wp2_with fail
        refine (known3_any _).mono ?_
        rintro e wk ⟨hb, rfl⟩
        have HBz := hid (HB.out.trans (hb.mono HB.out.size))
        clear hb
        go_wp2
        go_ret
        exact ⟨HBz.out, rfl⟩
      have q0 : (lenE L rows accs n != 0) = false := by simp [hc]
      have HC0 := hid hc
      clear hc
      by_cases hc : lenE L' rows' accs' n = 0
      rotate_left
      · have hq : (lenE L' rows' accs' n != 0) = true := by simpa using hc
        clear hc HXa HXb HMa HMb HX1 HX3 HM1 HM3
        go_wp2_with fail
        refine (known3_any _).mono ?_
        rintro e wk ⟨hb, rfl⟩
        have HBz := hid (HB.out.trans (hb.mono HB.out.size))
        clear hb
        go_wp2
        go_ret
        exact ⟨HBz.out, rfl⟩
      have q1 : (lenE L' rows' accs' n != 0) = false := by simp [hc]
      have HC1 := hid hc
      clear hc
      by_cases hc : v1 = 0
      rotate_left
      · have hq : (v1 != 0) = true := by simpa using hc
        clear hc HXa HXb HMa HMb HX1 HX3 HM1 HM3
        go_wp2_with fail
        refine (known3_any _).mono ?_
        rintro e wk ⟨hb, rfl⟩
        have HBz := hid (HB.out.trans (hb.mono HB.out.size))
        clear hb
        go_wp2
        go_ret
        exact ⟨HBz.out, rfl⟩
      have q2 : (v1 != 0) = false := by simp [hc]
      have HC2 := hid hc
      clear hc
      by_cases hc : v3 = 0
      rotate_left
      · have hq : (v3 != 0) = true := by simpa using hc
        clear hc HXa HXb HMa HMb HX1 HX3 HM1 HM3
        go_wp2_with fail
        refine (known3_any _).mono ?_
        rintro e wk ⟨hb, rfl⟩
        have HBz := hid (HB.out.trans (hb.mono HB.out.size))
        clear hb
        go_wp2
        go_ret
        exact ⟨HBz.out, rfl⟩
      have q3 : (v3 != 0) = false := by simp [hc]
      have HC3 := hid hc
      clear hc
      have hsub : v1 = 0 := HC2.out
      have hsub3 : v3 = 0 := HC3.out
      have hd1 := HD1.out
      have hd3 := HD3.out
      rw [hsub] at hd1
      rw [hsub3] at hd3
      have hsum := cnt_add HC0.out HC1.out hd1 hd3
      have HSum := hid hsum
      clear hsub hsub3 hd1 hd3 hsum HXa HXb HMa HMb
      have HC := hid (mCount_any M1 n1 a1 N1 A1 t1 b1 n _ HM1.out)
      unfold machV at HC
      have e0 := HX1.out.c0
      have e1 := HX1.out.c1
      have e2 := HX1.out.c2
      go_wp2_with fail
      refine HC.out.mono ?_
      rintro e wc ⟨hb, rfl⟩
      clear HC e0 e1 e2
      have HX3 := hid (HX3.out.below hb)
      have HM3 := hid (HM3.out.below hb)
      have HB := hid (HB.out.trans (hb.mono HB.out.size))
      clear hb
      clear q0 q1 q2 q3
      have HC := hid (mCount_any M3 n3 a3 N3 A3 t3 b3 n _ HM3.out)
      unfold machV at HC
      have e0 := HX3.out.c0
      have e1 := HX3.out.c1
      have e2 := HX3.out.c2
      go_wp2_with fail
      refine HC.out.mono ?_
      rintro e wd ⟨hb, rfl⟩
      clear HC e0 e1 e2
      have HB := hid (HB.out.trans (hb.mono HB.out.size))
      clear hb
      obtain ⟨h1, h2, h3⟩ := HSum.out
      have q1 : (lenE M1 t1 b1 n == 0) = true := by simpa using h1
      have q2 : (lenE M3 t3 b3 n == 0) = true := by simpa using h2
      clear h1 h2 HX1 HX3 HM1 HM3
      go_wp2_with fail
      refine (known3_any _).mono ?_
      rintro e wk ⟨hb, rfl⟩
      have HBz := hid (HB.out.trans (hb.mono HB.out.size))
      clear hb
      go_wp2
      go_ret
      exact ⟨HBz.out, rfl⟩
end Go.Proofs.Ytkboeldafppicaa
set_option linter.unusedVariables false
namespace Go.Proofs.Ytkboeldafppicaa.lawMenuCounts
open Go.ChangeShapes Go.WideShapes Go.ChangeAt Go.RowKit Go.Joins
open Go.ChangeMaps (open_string shut_string)

theorem paramsK : Try.f10.params = #[25, 25, 3] := by kernel_rfl

set_option maxRecDepth 100000 in
set_option maxHeartbeats 1000000 in
theorem lifted (os : Os) (started : os.Started) (H : Type) (enc : TypeId × Value → H) :
    ReturnsInHanded {} Try.checked os 10 .any (Rows.menuCountsSpec.pre6 enc Try.prog Try.f10 Rows.menuCountsRow.domain false) (Rows.menuCountsSpec.post enc Try.prog Try.f10 false true false false) := by
  refine returnsInHanded_of_change (C := Try.checked) law_own started (by kernel_rfl) Try.func10
    (ChangeSpec.witness6 (enc := enc) (C := Try.checked) false ⟨#[], #[.agg #[.int .i64 0, .slice none 0 0, .slice none 0 0], .agg #[.int .i64 0, .slice none 0 0, .slice none 0 0], .int .i64 0], []⟩ 8 (by kernel_rfl) (by kernel_rfl) (by kernel_rfl) (by kernel_rfl)) ?_
  intro W base args ds gs before hval0 hW hcnd _
  have hval : ∀ (j : Nat) t v, Try.f10.params[j]? = some t → args[j]? = some v → Value.okWide Try.prog W .any base t v := hval0
  have hW' := hW
  obtain ⟨p, q, hA0, hV, rfl, hfz, hnd⟩ := hW
  have hA : DataW.TrodAll enc Try.prog W 0 (fun _ => true) true Try.f10.params.toList args.toList ds p := hA0
  rw [paramsK] at hA hval
  obtain ⟨v0, vs0, d0, ds0, p0, q0, hargs, rfl, rfl, h0, r0⟩ := trodAll_cons hA
  obtain ⟨v1, vs1, d1, ds1, p1, q1, rfl, rfl, rfl, h1, r1⟩ := trodAll_cons r0
  obtain ⟨v2, vs2, d2, ds2, p2, q2, rfl, rfl, rfl, h2, r2⟩ := trodAll_cons r1
  obtain ⟨rfl, rfl, rfl⟩ := trodAll_nil r2
  obtain rfl : args = #[v0, v1, v2] := by cases args; simp_all
  obtain ⟨rfl, rfl⟩ := trodVars_none hV
  have lt0 : ∀ x ∈ p0, x.block < W.heap.size := by obtain ⟨m, hm⟩ := h0; exact DataW.trod_lt m _ _ _ hm
  have k0 := h0
  have lt1 : ∀ x ∈ p1, x.block < W.heap.size := by obtain ⟨m, hm⟩ := h1; exact DataW.trod_lt m _ _ _ hm
  have k1 := h1
  have lt2 : ∀ x ∈ p2, x.block < W.heap.size := by obtain ⟨m, hm⟩ := h2; exact DataW.trod_lt m _ _ _ hm
  have k2 := h2
  obtain ⟨L0, Na0, rows0, nc0, Aa0, accs0, ac0, rfl, bL0, M0⟩ := open_machine (hval 0 25 v0 rfl rfl) h0
  obtain ⟨L1, Na1, rows1, nc1, Aa1, accs1, ac1, rfl, bL1, M1⟩ := open_machine (hval 1 25 v1 rfl rfl) h1
  obtain ⟨x2, rfl, _, _, wx2⟩ := open_int Try.underlying3 (hval 2 3 v2 rfl rfl) h2
  have bx2 := wf_i64 wx2
  clear hA0 hval0
  refine (menuCounts_walk L0 nc0 ac0 Na0 Aa0 rows0 accs0 L1 nc1 ac1 Na1 Aa1 rows1 accs1 x2 W M0 M1).mono fun e W' ⟨bel, he⟩ => ?_
  subst he
  exact ⟨_, rfl, _, _, _, [], _, [], hW', trodAll_mk1 (shut_bool Try.underlying4 _), (trodAll_cons_mk (Below.trod law_laidOut (by kernel_rfl) (of_decide_eq_true (by kernel_rfl)) k0 bel lt0) (trodAll_cons_mk (Below.trod law_laidOut (by kernel_rfl) (of_decide_eq_true (by kernel_rfl)) k1 bel lt1) (trodAll_cons_mk (Below.trod law_laidOut (by kernel_rfl) (of_decide_eq_true (by kernel_rfl)) k2 bel lt2) (trodAll_mk0)))), rfl, bel.frame _, fun h => by cases h⟩

theorem over : Rows.menuCountsRow.holds Try.pinned (OpenSpec.ofChange Rows.menuCountsSpec) :=
  OpenClaim.holds_of_wide 10 Try.f10 rfl rfl rfl rfl rfl rfl rfl ⟨rfl, rfl, rfl, rfl, rfl⟩ rfl rfl rfl rfl rfl (by kernel_rfl) Try.func10 (by kernel_rfl)
    (of_decide_eq_true (by kernel_rfl)) (by unfold Func.isWrapper; first | (rw [if_pos (by decide +kernel)]; kernel_rfl) | (rw [if_neg (by decide +kernel)]; exact ⟨rfl, rfl⟩))
    (fun os started H enc _ => lifted os started H enc)

theorem proved : Rows.MenuCountsSaid := over
#print axioms proved
end Go.Proofs.Ytkboeldafppicaa.lawMenuCounts
