/- Not of the document. -/
import Derived.Test.YtkboeldafppicaaLgD
import Derived.Test.YtkboeldafppicaaMNot
import Derived.Test.YtkboeldafppicaaRTwo
/- Not: the languages of chapter 3. -/
set_option linter.unusedVariables false
namespace Go.Proofs.Ytkboeldafppicaa
open Go.RowKit

theorem LgD.good {ok L : Int} {f : Lang} {M : Int} {t : List (List Int)} {bs : List Bool} {n : Nat} (h : LgD ok L f M t bs 0) (hn : L = n) (h1 : 1 ≤ n) (h6 : n ≤ 6) (hf : langOf n dv ep f = f) : ok = 0 ∧ M = n ∧ GoodM n t bs ∧ t.length ≤ 64 ∧ mLang n t bs 0 = f ∧ FullC n f t.length ∧ t = (canon n f t.length).2.1 ∧ bs = (canon n f t.length).2.2 := by
  subst hn
  rcases h with ⟨hv, _, _, _, e⟩ | ⟨hv, i, hF, hans⟩
  · exact absurd e.symm hv
  · rcases hans with ⟨_, _, _, _, e⟩ | ⟨h64, hM, ht, hbs, _⟩
    · cases e
    · rw [Int.toNat_natCast] at hF hM ht hbs
      have hti : t.length = i := by rw [ht]; exact (listTo_len n dv ep f i).1
      refine ⟨hv, hM, by rw [ht, hbs]; exact (full_good h1 h6 (L := n) (next := dv) (acc := ep) (s0 := f) hF).1, by omega, ?_, by rw [hti]; exact hF, by rw [hti]; exact ht, by rw [hti]; exact hbs⟩
      rw [ht, hbs]
      have := (full_lang h1 h6 (L := n) (next := dv) (acc := ep) (s0 := f) hF).1
      unfold canon
      rw [this]
      exact hf
theorem nLang_eq (L : Nat) (rows : List (List Int)) (accs : List Bool) : nLang L rows accs = fun w => by classical exact if Wd L w then !mLang L rows accs 0 w else false := by
  classical
  funext w
  unfold nLang mLang
  by_cases hw : Wd L w
  · rw [langOf_in hw, langOf_in hw]; simp [hw]
  · rw [langOf_out hw]; simp [hw]
theorem nLang_twice {L : Nat} {rows t : List (List Int)} {accs bs : List Bool} (h : mLang L t bs 0 = nLang L rows accs) : nLang L t bs = mLang L rows accs 0 := by
  classical
  rw [nLang_eq, h, nLang_eq]
  funext w
  by_cases hw : Wd L w
  · simp [hw]
  · simp [hw]; unfold mLang; rw [langOf_out hw]
theorem foldl_tw (ra rb : List (List Int)) (w : List Nat) : ∀ i j : Nat, w.foldl (tw ra rb) ((i : Int), (j : Int)) = (((w.foldl (mN ra) i : Nat) : Int), ((w.foldl (mN rb) j : Nat) : Int)) := by
  induction w with
  | nil => intro i j; rfl
  | cons c w ih =>
    intro i j
    rw [List.foldl_cons, List.foldl_cons, List.foldl_cons, show tw ra rb ((i : Int), (j : Int)) c = ((mN ra i c : Int), (mN rb j c : Int)) from by unfold tw; simp]
    exact ih _ _
theorem both_lang (L : Nat) (ra rb : List (List Int)) (aa ab : List Bool) (w : List Nat) : langOf L (tw ra rb) (bothA aa ab) (0, 0) w = (mLang L ra aa 0 w && mLang L rb ab 0 w) := by
  unfold mLang
  by_cases hw : Wd L w
  · rw [langOf_in hw, langOf_in hw, langOf_in hw]
    have := foldl_tw ra rb w 0 0
    rw [show ((0 : Int), (0 : Int)) = (((0 : Nat) : Int), ((0 : Nat) : Int)) from rfl, this]
    unfold bothA
    simp
  · rw [langOf_out hw, langOf_out hw]; rfl
theorem both_not {L : Nat} {rows t : List (List Int)} {accs bs : List Bool} (h : mLang L t bs 0 = nLang L rows accs) : langOf L (tw rows t) (bothA accs bs) (0, 0) = fun _ => false := by
  classical
  funext w
  rw [both_lang, h, nLang_eq]
  by_cases hw : Wd L w
  · simp [hw]
  · simp [hw]
theorem fold_no (w : List Nat) : w.foldl dv (fun _ => false) = (fun _ => false) := by
  induction w with
  | nil => rfl
  | cons c w ih => rw [List.foldl_cons]; exact ih
theorem no_one {L i : Nat} (h : FullC L (fun _ => false) i) : i = 1 := by
  have hn := canon_nodup L (fun _ => false) i
  have hm := canon_mem h
  have h0 := listTo_first L dv ep (fun _ => false) i
  have hi := h.1
  have hall : ∀ g ∈ (canon L (fun _ => false) i).1, g = (fun _ => false) := fun g hg => by
    obtain ⟨w, _, e⟩ := (hm g).1 hg
    rw [← e, fold_no]
  generalize hl : (canon L (fun _ => false) i).1 = l at *
  have hpos : 0 < l.length := by
    have := (List.getElem?_eq_some_iff.1 h0).1
    unfold canon at hl
    rw [hl] at this
    exact this
  match l, hn, hall, hpos with
  | [x], _, _, _ => simpa using hi
  | x :: y :: l', hn, hall, _ =>
    have h1 := hall x (by simp)
    have h2 := hall y (by simp)
    rw [h1, h2] at hn
    simp at hn
theorem mA_lang {L : Nat} {t : List (List Int)} {bs : List Bool} {f : Lang} (h : mLang L t bs 0 = f) : mA bs 0 = f [] := by
  rw [← h]
  unfold mLang
  rw [langOf_in (fun c hc => by simp at hc)]
  rfl
theorem LgD.ok0 {ok L : Int} {f : Lang} {M : Int} {t : List (List Int)} {bs : List Bool} (h : LgD ok L f M t bs 0) : ok = 0 := by
  rcases h with ⟨hv, _, _, _, e⟩ | ⟨hv, _⟩
  · exact absurd e.symm hv
  · exact hv
theorem plain_zero {n : Nat} {rows : List (List Int)} {accs : List Bool} {M : Int} {t : List (List Int)} {bs : List Bool} {v : Int} (h : LgD 0 n (mLang n rows accs 0) M t bs v) (hg : GoodM n rows accs) (h64 : rows.length ≤ 64) : v = 0 := by
  rcases h with ⟨hv, _⟩ | ⟨_, i, hF, hans⟩
  · exact absurd rfl hv
  · rw [Int.toNat_natCast] at hF
    have h1 := canon_bound (L := n) (accs := accs) hg.cl 0 hg.pos i
    have h2 := hF.1
    rcases hans with ⟨h, _⟩ | ⟨_, _, _, _, e⟩
    · omega
    · exact e
theorem none_one {n : Nat} {M : Int} {t : List (List Int)} {bs : List Bool} {v : Int} (h : LgD 0 n (fun _ => false) M t bs v) (h1 : 1 ≤ n) (h6 : n ≤ 6) : v = 0 ∧ t.length = 1 ∧ bs.length = 1 ∧ mA bs 0 = false := by
  have hv : v = 0 := by
    rcases h with ⟨hv, _⟩ | ⟨_, i, hF, hans⟩
    · exact absurd rfl hv
    · have := no_one hF
      rcases hans with ⟨h, _⟩ | ⟨_, _, _, _, e⟩
      · omega
      · exact e
  subst hv
  obtain ⟨_, _, hg, _, hl, hF, _, _⟩ := h.good rfl h1 h6 (by
    funext w
    by_cases hw : Wd n w
    · rw [langOf_in hw, fold_no]; rfl
    · rw [langOf_out hw])
  have h2 := no_one hF
  exact ⟨rfl, h2, by rw [hg.acc]; exact h2, mA_lang hl⟩
end Go.Proofs.Ytkboeldafppicaa
set_option linter.unusedVariables false
set_option linter.unusedSimpArgs false
namespace Go.Proofs.Ytkboeldafppicaa
open Go.RowKit Go.Maps

theorem twoE_self (L : Int) (rows : List (List Int)) (accs : List Bool) : twoE L rows accs L rows accs = vE L rows accs := by
  unfold twoE
  by_cases h : vE L rows accs = 0
  · simp [h]
  · simp [h]
theorem tab_nlang {n : Nat} {rows : List (List Int)} {accs : List Bool} (hg : GoodM n rows accs) : langOf n (tw rows rows) (tabA true false false false accs accs) (0, 0) = nLang n rows accs := by
  unfold nLang
  refine langOf_rel (R := fun (s : Two) (t : Nat) => s = ((t : Int), (t : Int)) ∧ t < rows.length) n _ _ _ _ (fun s t c h hc => ?_) (fun s t h => ?_) _ _ ⟨rfl, hg.pos⟩
  · obtain ⟨rfl, ht⟩ := h
    exact ⟨by unfold tw; simp, hg.cl t c ht hc⟩
  · obtain ⟨rfl, ht⟩ := h
    unfold tabA tbv
    simp only [Int.toNat_natCast]
    by_cases hm : mA accs t = true <;> simp [hm]
theorem not_of_two {w' : World} {B : Nat} {L : Int} {rows : List (List Int)} {accs : List Bool} {e : Ending} (h : TwoA w' B L rows accs L rows accs (tabA true false false false) e) : NotA w' B L rows accs e := by
  unfold TwoA at h
  rw [twoE_self] at h
  rcases h with h | ⟨hv, h⟩
  · exact .inl h
  · obtain ⟨n, rfl⟩ := vE_nat hv
    rw [Int.toNat_natCast] at h
    rw [tab_nlang (vE_ok hv).1] at h
    exact .inr ⟨hv, by rw [Int.toNat_natCast]; exact h⟩
set_option maxRecDepth 100000 in
set_option maxHeartbeats 4000000 in
theorem rNot_any (L : Int) (nc ac : Nat) (Na Aa : Option Addr) (rows : List (List Int)) (accs : List Bool) (w : World) (h : MachAt w Na rows Aa accs) :
    Calls Try.prog 39 #[machV L Na rows.length nc Aa accs.length ac] w fun e w' => Below w.heap.size w w' ∧ NotA w' w.heap.size L rows accs e := by
  have hB1 : Below w.heap.size w ((w.alloc (.cells #[.int .i64 L, .slice Na rows.length nc, .slice Aa accs.length ac] 25)).alloc (.cells #[.int .i64 0, .slice none 0 0, .slice none 0 0] 25)) := ((Below.refl _ _).alloc (Nat.le_refl _) _).alloc (by simp) _
  have HV := hid (rProduct_any true false false false L nc ac Na Aa rows accs L nc ac Na Aa rows accs _ (h.below hB1) (h.below hB1))
  have HB1 := hid hB1
  clear h hB1
  unfold machV at HV ⊢
  go_enter Try.func39, Try.ntmps39
  go_wp2_with fail
  refine HV.out.mono ?_
  rintro e w1 ⟨hb1, hans⟩
  have hans := not_of_two hans
  have z0 : w1.cell? ⟨w.heap.size + 1, 0, none⟩ = some (.int .i64 0) := by rw [hb1.cell (by simp)]; go_simp
  have z1 : w1.cell? ⟨w.heap.size + 1, 1, none⟩ = some (.slice none 0 0) := by rw [hb1.cell (by simp)]; go_simp
  have z2 : w1.cell? ⟨w.heap.size + 1, 2, none⟩ = some (.slice none 0 0) := by rw [hb1.cell (by simp)]; go_simp
  have y0 : w1.frozen? ⟨w.heap.size + 1, 0, none⟩ = false := by rw [hb1.frozen (by simp)]; go_simp
  have y1 : w1.frozen? ⟨w.heap.size + 1, 1, none⟩ = false := by rw [hb1.frozen (by simp)]; go_simp
  have y2 : w1.frozen? ⟨w.heap.size + 1, 2, none⟩ = false := by rw [hb1.frozen (by simp)]; go_simp
  have hsz : w.heap.size + 1 < w1.heap.size := cell_lt z0
  have HB2 := hid (HB1.out.trans (hb1.mono HB1.out.size))
  have hlt0 : w.heap.size ≤ ((w.alloc (.cells #[.int .i64 L, .slice Na rows.length nc, .slice Aa accs.length ac] 25)).alloc (.cells #[.int .i64 0, .slice none 0 0, .slice none 0 0] 25)).heap.size := HB1.out.size
  clear hb1 HV HB1
  rcases hans with ⟨hv, rfl⟩ | ⟨hv, i, hF, ⟨h64, rfl⟩ | ⟨h64, Na5, nc5, Aa5, ac5, rfl, hM⟩⟩
  · generalize hvv : vE L rows accs = v at *
    have HVV := hid hvv
    clear hvv hlt0
    have HV := hid hv
    unfold machV
    go_wp2
    have t0 : (((w1.setCell ⟨w.heap.size + 1, 0, none⟩ (.int .i64 0)).setCell ⟨w.heap.size + 1, 1, none⟩ (.slice none 0 0)).setCell ⟨w.heap.size + 1, 2, none⟩ (.slice none 0 0)).cell? ⟨w.heap.size + 1, 0, none⟩ = some (.int .i64 0) := by go_simp
    have t1 : (((w1.setCell ⟨w.heap.size + 1, 0, none⟩ (.int .i64 0)).setCell ⟨w.heap.size + 1, 1, none⟩ (.slice none 0 0)).setCell ⟨w.heap.size + 1, 2, none⟩ (.slice none 0 0)).cell? ⟨w.heap.size + 1, 1, none⟩ = some (.slice none 0 0) := by go_simp
    have t2 : (((w1.setCell ⟨w.heap.size + 1, 0, none⟩ (.int .i64 0)).setCell ⟨w.heap.size + 1, 1, none⟩ (.slice none 0 0)).setCell ⟨w.heap.size + 1, 2, none⟩ (.slice none 0 0)).cell? ⟨w.heap.size + 1, 2, none⟩ = some (.slice none 0 0) := by go_simp
    have HBz := hid (((HB2.out.setCell (p := ⟨w.heap.size + 1, 0, none⟩) (by first | (simp; done) | (simp; omega)) (.int .i64 0)).setCell (p := ⟨w.heap.size + 1, 1, none⟩) (by first | (simp; done) | (simp; omega)) (.slice none 0 0)).setCell (p := ⟨w.heap.size + 1, 2, none⟩) (by first | (simp; done) | (simp; omega)) (.slice none 0 0))
    generalize (((w1.setCell ⟨w.heap.size + 1, 0, none⟩ (.int .i64 0)).setCell ⟨w.heap.size + 1, 1, none⟩ (.slice none 0 0)).setCell ⟨w.heap.size + 1, 2, none⟩ (.slice none 0 0)) = wz at *
    refine bodyPost_ret (v := .tuple #[machV 0 none 0 0 none 0 0, .int .i64 v]) (by simp [machV, results, Try.results39, go_sem, t0, t1, t2]) rfl ⟨HBz.out, .inl ⟨by rw [HVV.out]; exact HV.out, by rw [HVV.out]⟩⟩
  · obtain ⟨n, rfl⟩ := vE_nat hv
    have HVz := hid hv
    have HF := hid hF
    clear hv hF hlt0
    unfold machV
    go_wp2
    have t0 : (((w1.setCell ⟨w.heap.size + 1, 0, none⟩ (.int .i64 0)).setCell ⟨w.heap.size + 1, 1, none⟩ (.slice none 0 0)).setCell ⟨w.heap.size + 1, 2, none⟩ (.slice none 0 0)).cell? ⟨w.heap.size + 1, 0, none⟩ = some (.int .i64 0) := by go_simp
    have t1 : (((w1.setCell ⟨w.heap.size + 1, 0, none⟩ (.int .i64 0)).setCell ⟨w.heap.size + 1, 1, none⟩ (.slice none 0 0)).setCell ⟨w.heap.size + 1, 2, none⟩ (.slice none 0 0)).cell? ⟨w.heap.size + 1, 1, none⟩ = some (.slice none 0 0) := by go_simp
    have t2 : (((w1.setCell ⟨w.heap.size + 1, 0, none⟩ (.int .i64 0)).setCell ⟨w.heap.size + 1, 1, none⟩ (.slice none 0 0)).setCell ⟨w.heap.size + 1, 2, none⟩ (.slice none 0 0)).cell? ⟨w.heap.size + 1, 2, none⟩ = some (.slice none 0 0) := by go_simp
    have HBz := hid (((HB2.out.setCell (p := ⟨w.heap.size + 1, 0, none⟩) (by first | (simp; done) | (simp; omega)) (.int .i64 0)).setCell (p := ⟨w.heap.size + 1, 1, none⟩) (by first | (simp; done) | (simp; omega)) (.slice none 0 0)).setCell (p := ⟨w.heap.size + 1, 2, none⟩) (by first | (simp; done) | (simp; omega)) (.slice none 0 0))
    generalize (((w1.setCell ⟨w.heap.size + 1, 0, none⟩ (.int .i64 0)).setCell ⟨w.heap.size + 1, 1, none⟩ (.slice none 0 0)).setCell ⟨w.heap.size + 1, 2, none⟩ (.slice none 0 0)) = wz at *
    refine bodyPost_ret (v := .tuple #[machV 0 none 0 0 none 0 0, .int .i64 4]) (by simp [machV, results, Try.results39, go_sem, t0, t1, t2]) rfl ⟨HBz.out, .inr ⟨HVz.out, i, HF.out, .inl ⟨h64, rfl⟩⟩⟩
  · obtain ⟨n, rfl⟩ := vE_nat hv
    have HVz := hid hv
    rw [Int.toNat_natCast] at hF hM
    have HF := hid hF
    have HM := hid hM
    have HLt := hid hlt0
    clear hv hF hM hlt0
    unfold machV
    go_wp2
    have t0 : (((w1.setCell ⟨w.heap.size + 1, 0, none⟩ (.int .i64 (n : Int))).setCell ⟨w.heap.size + 1, 1, none⟩ (.slice Na5 i nc5)).setCell ⟨w.heap.size + 1, 2, none⟩ (.slice Aa5 i ac5)).cell? ⟨w.heap.size + 1, 0, none⟩ = some (.int .i64 (n : Int)) := by go_simp
    have t1 : (((w1.setCell ⟨w.heap.size + 1, 0, none⟩ (.int .i64 (n : Int))).setCell ⟨w.heap.size + 1, 1, none⟩ (.slice Na5 i nc5)).setCell ⟨w.heap.size + 1, 2, none⟩ (.slice Aa5 i ac5)).cell? ⟨w.heap.size + 1, 1, none⟩ = some (.slice Na5 i nc5) := by go_simp
    have t2 : (((w1.setCell ⟨w.heap.size + 1, 0, none⟩ (.int .i64 (n : Int))).setCell ⟨w.heap.size + 1, 1, none⟩ (.slice Na5 i nc5)).setCell ⟨w.heap.size + 1, 2, none⟩ (.slice Aa5 i ac5)).cell? ⟨w.heap.size + 1, 2, none⟩ = some (.slice Aa5 i ac5) := by go_simp
    have HBz := hid (((HB2.out.setCell (p := ⟨w.heap.size + 1, 0, none⟩) (by first | (simp; done) | (simp; omega)) (.int .i64 (n : Int))).setCell (p := ⟨w.heap.size + 1, 1, none⟩) (by first | (simp; done) | (simp; omega)) (.slice Na5 i nc5)).setCell (p := ⟨w.heap.size + 1, 2, none⟩) (by first | (simp; done) | (simp; omega)) (.slice Aa5 i ac5))
    have HMz := hid ((((HM.out.setCell ⟨w.heap.size + 1, 0, none⟩ (.int .i64 (n : Int)) (by first | (simp; done) | (simp; omega))).setCell ⟨w.heap.size + 1, 1, none⟩ (.slice Na5 i nc5) (by first | (simp; done) | (simp; omega))).setCell ⟨w.heap.size + 1, 2, none⟩ (.slice Aa5 i ac5) (by first | (simp; done) | (simp; omega))).weak (B' := w.heap.size) HLt.out)
    generalize (((w1.setCell ⟨w.heap.size + 1, 0, none⟩ (.int .i64 (n : Int))).setCell ⟨w.heap.size + 1, 1, none⟩ (.slice Na5 i nc5)).setCell ⟨w.heap.size + 1, 2, none⟩ (.slice Aa5 i ac5)) = wz at *
    refine bodyPost_ret (v := .tuple #[machV n Na5 i nc5 Aa5 i ac5, .int .i64 0]) (by simp [machV, results, Try.results39, go_sem, t0, t1, t2]) rfl ⟨HBz.out, .inr ⟨HVz.out, by rw [Int.toNat_natCast]; exact ⟨i, HF.out, .inr ⟨h64, Na5, nc5, Aa5, ac5, rfl, HMz.out⟩⟩⟩⟩
end Go.Proofs.Ytkboeldafppicaa
