/- The walk of the law TopMenus. -/
import Derived.Test.YtkboeldafppicaaMUnrank
import Derived.Test.YtkboeldafppicaaMRound
import Derived.Test.YtkboeldafppicaaMeanX
import Derived.Test.YtkboeldafppicaaMTwo
import Derived.Test.YtkboeldafppicaaPlD
import Derived.Test.YtkboeldafppicaaAppend
import Derived.Test.YtkboeldafppicaaKn3
import Derived.Test.YtkboeldafppicaaREqual
import Derived.Deep.Cut
import Derived.Deep.CutRange
/- TopMenus: ranks ascend with words, repetitions, the language of several rules: mathematics. -/
set_option linter.unusedVariables false
namespace Go.Proofs.Ytkboeldafppicaa

theorem lex_rank {L : Nat} {rows : List (List Int)} {accs : List Bool} (hg : GoodM L rows accs) : ∀ (u v : List Int) (s : Nat), s < rows.length → u.length = v.length → allB u L = true → allB v L = true → acF rows accs s u = true → acF rows accs s v = true → ∀ i, i < u.length → (∀ j, j < i → ltr u j = ltr v j) → ltr u i < ltr v i → rkF L rows accs s u < rkF L rows accs s v
  | [], v, s, hs, hl, hu, hv, au, av, i, hi, he, hlt => by simp at hi
  | x :: t, [], s, hs, hl, hu, hv, au, av, i, hi, he, hlt => by simp at hl
  | x :: t, y :: t', s, hs, hl, hu, hv, au, av, i, hi, he, hlt => by
    have hx := allB_iff.1 hu x (by simp)
    have hy := allB_iff.1 hv y (by simp)
    have hu' : allB t L = true := allB_iff.2 (fun z hz => allB_iff.1 hu z (by simp [hz]))
    have hv' : allB t' L = true := allB_iff.2 (fun z hz => allB_iff.1 hv z (by simp [hz]))
    have hl' : t.length = t'.length := by simpa using hl
    have nx := (hg.ent s x.toNat hs (by omega)).1
    have ny := (hg.ent s y.toNat hs (by omega)).1
    have hfnn : ∀ c, c < L → 0 ≤ wT L rows accs t.length (mN rows s c) := fun c hc => wT_nn hg _ _ (hg.ent s c hs hc).1
    show sumN (fun c => wT L rows accs t.length (mN rows s c)) x.toNat + rkF L rows accs (mN rows s x.toNat) t < sumN (fun c => wT L rows accs t'.length (mN rows s c)) y.toNat + rkF L rows accs (mN rows s y.toNat) t'
    rw [← hl']
    obtain ⟨b1, b2, _⟩ := rkF_bd hg t _ nx hu' au
    obtain ⟨c1, c2, _⟩ := rkF_bd hg t' _ ny hv' av
    cases i with
    | zero =>
      have hxy : x < y := hlt
      have h1 : sumN (fun c => wT L rows accs t.length (mN rows s c)) (x.toNat + 1) = sumN (fun c => wT L rows accs t.length (mN rows s c)) x.toNat + wT L rows accs t.length (mN rows s x.toNat) := rfl
      have h2 := sumN_mono (fun c => wT L rows accs t.length (mN rows s c)) L hfnn (x.toNat + 1) y.toNat (by omega) (by omega)
      omega
    | succ i =>
      have hxy : x = y := he 0 (by omega)
      subst hxy
      have ih := lex_rank hg t t' (mN rows s x.toNat) nx hl' hu' hv' au av i (by simpa using hi) (fun j hj => he (j + 1) (by omega)) hlt
      omega
/-- The word with the next rank comes behind. -/
theorem num_next {L : Nat} {rows : List (List Int)} {accs : List Bool} (hg : GoodM L rows accs) (n : Nat) (r : Int) (h0 : 0 ≤ r) (h1 : r + 1 < wT L rows accs n 0) :
    (∀ i, i < n → (∀ j, j < i → ltr (urD L rows accs n 0 (r + 1)) j = ltr (urD L rows accs n 0 r) j) → ltr (urD L rows accs n 0 (r + 1)) i ≠ ltr (urD L rows accs n 0 r) i → ltr (urD L rows accs n 0 (r + 1)) i > ltr (urD L rows accs n 0 r) i) ∧ ¬ (∀ j, j < n → ltr (urD L rows accs n 0 (r + 1)) j = ltr (urD L rows accs n 0 r) j) := by
  obtain ⟨a1, a2, a3, a4⟩ := urD_spec hg n 0 r hg.pos h0 (by omega)
  obtain ⟨b1, b2, b3, b4⟩ := urD_spec hg n 0 (r + 1) hg.pos (by omega) h1
  generalize urD L rows accs n 0 r = u at *
  generalize urD L rows accs n 0 (r + 1) = v at *
  refine ⟨fun i hi he hne => ?_, fun he => ?_⟩
  · by_cases hlt : ltr v i < ltr u i
    · have := lex_rank hg v u 0 hg.pos (by omega) b2 a2 b3 a3 i (by omega) he hlt
      omega
    · omega
  · have : v = u := by
      refine List.ext_getElem (by omega) fun k k1 k2 => ?_
      have := he k (by omega)
      unfold ltr at this
      rw [List.getElem?_eq_getElem k1, List.getElem?_eq_getElem k2] at this
      exact this
    rw [this] at b4
    omega
theorem rdB_all {L : Nat} {rows : List (List Int)} {accs : List Bool} (hg : GoodM L rows accs) (l : List Int) (hl : allB l L = true) (h : rdB rows accs l rows.length = true) : ∀ k, mA accs (rdS rows l (k + 1)) = true := by
  intro k
  induction k using Nat.strongRecOn with
  | _ k ih =>
  by_cases hk : k < rows.length
  · cases hb : mA accs (rdS rows l (k + 1)) with
    | true => rfl
    | false => rw [rdB_false hk hb] at h; cases h
  · obtain ⟨i, j, hij, hj, he⟩ := pigeon (fun i => rdS rows l (i + 1)) rows.length (fun i hi => rdS_lt hg l hl _)
    have hs := rdS_shift rows l (i := i + 1) (j := j + 1) he (k - j)
    have e1 : j + 1 + (k - j) = k + 1 := by omega
    have e2 : i + 1 + (k - j) = (i + (k - j)) + 1 := by omega
    rw [e1, e2] at hs
    rw [← hs]
    exact ih (i + (k - j)) (by omega)
theorem runK_fold (rows : List (List Int)) (s : Nat) (l : List Int) : runK rows s l l.length = (l.map Int.toNat).foldl (mN rows) s := by
  have h : ∀ k, runK rows s l k = stK (mN rows) s l k := by
    intro k
    induction k with
    | zero => rfl
    | succ k ih => rw [runK, stK, ih]; rfl
  rw [h, ← stK_all]
/-- A word again and again. -/
def repW (l : List Int) : Nat → List Int
  | 0 => []
  | k + 1 => repW l k ++ l
theorem repW_len (l : List Int) (k : Nat) : (repW l k).length = k * l.length := by
  induction k with
  | zero => simp [repW]
  | succ k ih => rw [repW, List.length_append, ih, Nat.add_mul]; omega
theorem repW_run (rows : List (List Int)) (l : List Int) (k : Nat) : runK rows 0 (repW l k) (repW l k).length = rdS rows l k := by
  rw [runK_fold]
  induction k with
  | zero => rfl
  | succ k ih =>
    rw [repW, List.map_append, List.foldl_append, ih, ← runK_fold]
    rfl
theorem repW_all {l : List Int} {n : Int} (h : allB l n = true) (k : Nat) : allB (repW l k) n = true := by
  refine allB_iff.2 fun x hx => ?_
  induction k with
  | zero => simp [repW] at hx
  | succ k ih =>
    rw [repW] at hx
    rcases List.mem_append.1 hx with hx | hx
    · exact ih hx
    · exact allB_iff.1 h x hx
theorem lg_good {ok L : Int} {f : Lang} {M : Int} {t : List (List Int)} {bs : List Bool} {n : Nat} (h : LgD ok L f M t bs 0) (hn : L = n) (h1 : 1 ≤ n) (h6 : n ≤ 6) (hf : langOf n dv ep f = f) : ok = 0 ∧ M = n ∧ GoodM n t bs ∧ t.length ≤ 64 ∧ mLang n t bs 0 = f := by
  subst hn
  rcases h with ⟨hv, _, _, _, e⟩ | ⟨hv, i, hF, hans⟩
  · exact absurd e.symm hv
  · rcases hans with ⟨_, _, _, _, e⟩ | ⟨h64, hM, ht, hbs, _⟩
    · cases e
    · rw [Int.toNat_natCast] at hF hM ht hbs
      have hti : t.length = i := by rw [ht]; exact (listTo_len n dv ep f i).1
      refine ⟨hv, hM, by rw [ht, hbs]; exact (full_good h1 h6 (L := n) (next := dv) (acc := ep) (s0 := f) hF).1, by omega, ?_⟩
      rw [ht, hbs]
      have := (full_lang h1 h6 (L := n) (next := dv) (acc := ep) (s0 := f) hF).1
      unfold canon
      rw [this]
      exact hf
theorem lg_v {ok L : Int} {f : Lang} {M : Int} {t : List (List Int)} {bs : List Bool} {v : Int} (h : LgD ok L f M t bs v) (h0 : ok = 0) : v = 0 ∨ v = 4 := by
  rcases h with ⟨hv, _⟩ | ⟨_, i, _, hans⟩
  · exact absurd h0 hv
  · rcases hans with ⟨_, _, _, _, e⟩ | ⟨_, _, _, _, e⟩
    · exact .inr e
    · exact .inl e
theorem both_lang2 (L : Nat) (ra rb : List (List Int)) (aa ab : List Bool) (w : List Nat) : langOf L (tw ra rb) (bothA aa ab) (0, 0) w = (mLang L ra aa 0 w && mLang L rb ab 0 w) := by
  have hf : ∀ (w : List Nat) (i j : Nat), w.foldl (tw ra rb) ((i : Int), (j : Int)) = (((w.foldl (mN ra) i : Nat) : Int), ((w.foldl (mN rb) j : Nat) : Int)) := by
    intro w
    induction w with
    | nil => intro i j; rfl
    | cons c t ih => intro i j; exact ih _ _
  by_cases hw : Wd L w
  · unfold mLang
    rw [langOf_in hw, langOf_in hw, langOf_in hw]
    have := hf w 0 0
    rw [show ((0 : Int), (0 : Int)) = (((0 : Nat) : Int), ((0 : Nat) : Int)) from rfl, this]
    simp [bothA]
  · unfold mLang
    rw [langOf_out hw, langOf_out hw, langOf_out hw]; rfl
theorem acc_mlang {n : Nat} {t : List (List Int)} {bs : List Bool} (hg : GoodM n t bs) (h64 : t.length ≤ 64) (l : List Int) : wordE n t bs l = lE l n ∧ (lE l n = 0 → accB n t bs l = mLang n t bs 0 (l.map Int.toNat)) := by
  have hv0 := good_vE hg h64
  have hw : wordE n t bs l = lE l n := by unfold wordE; rw [if_neg (fun hh => hh hv0)]
  refine ⟨hw, fun h0 => ?_⟩
  obtain ⟨_, _, hall, _⟩ := wordE_ok (hw.trans h0)
  have hwd : Wd n (l.map Int.toNat) := by
    intro c hc
    obtain ⟨x, hx, rfl⟩ := List.mem_map.1 hc
    have := allB_iff.1 hall x hx
    omega
  unfold accB mLang
  rw [langOf_in hwd, hw, h0, runK_fold]
  simp
theorem good_two {n : Nat} {ra rb : List (List Int)} {aa ab : List Bool} (h : GoodM n ra aa) (h' : GoodM n rb ab) (h64 : ra.length ≤ 64) (h64' : rb.length ≤ 64) : twoE n ra aa n rb ab = 0 := by
  unfold twoE
  rw [if_neg (fun hh => hh (good_vE h h64)), if_neg (fun hh => hh (good_vE h' h64')), if_neg (fun hh => hh rfl)]
end Go.Proofs.Ytkboeldafppicaa
/- numbered and round, which TopMenus calls: both answer true. -/
set_option linter.unusedVariables false
set_option linter.unusedSimpArgs false
namespace Go.Proofs.Ytkboeldafppicaa
open Go.RowKit Go.Maps

theorem drwT (w : World) (n : Nat) : Below w.heap.size w (w.drewN n) := ⟨(Below.refl w.heap.size w).os, (Below.refl w.heap.size w).tape, (Below.refl w.heap.size w).output, (Below.refl w.heap.size w).size, (Below.refl w.heap.size w).block⟩
theorem srcT {w : World} {A : Option Addr} {xs : List Int} (h : Ints w A xs) : xs.length = 0 ∨ ∃ ad, A = some ad ∧ ∀ (j : Nat) (u : Value), (xs.map (Value.int .i64))[j]? = some u → w.cell? (ad.add j) = some u := by
  rcases h.at_ with rfl | ⟨b, off, rfl, hc⟩
  · exact .inl rfl
  · refine .inr ⟨_, rfl, fun j u hu => ?_⟩
    have hj : j < xs.length := by
      rcases Nat.lt_or_ge j xs.length with h | h
      · exact h
      · rw [List.getElem?_eq_none (by simpa using h)] at hu; cases hu
    have e : (⟨b, off, none⟩ : Addr).add j = ⟨b, off + j, none⟩ := by
      unfold Addr.add; split
      · simp_all
      · rfl
    rw [e, hc j hj, ← hu, List.getElem?_map, List.getElem?_eq_getElem hj]
    simp
theorem oneT (xs : List Int) : ∀ u ∈ xs.map (Value.int .i64), u.oneCell' = true := by
  intro u hu
  obtain ⟨x, _, rfl⟩ := List.mem_map.1 hu
  rfl
set_option maxRecDepth 100000 in
set_option maxHeartbeats 4000000 in
theorem topRound_any (L nc ac cap : Nat) (Na Aa A : Option Addr) (rows : List (List Int)) (accs : List Bool) (l : List Int) (w : World) (h : MachAt w Na rows Aa accs) (hg : GoodM L rows accs) (h64 : rows.length ≤ 64) (hw : Ints w A l) (hl : lE l L = 0) (hr : rdB rows accs l rows.length = true) :
    Calls Try.prog 63 #[machV L Na rows.length nc Aa accs.length ac, .slice A l.length cap] w fun e w' => Below w.heap.size w w' ∧ e = .returned (.bool true) := by
  obtain ⟨i0, hinf, hz0, hz1, hz2⟩ := info_parts int_info
  have hA : Below w.heap.size w (w.alloc (.cells #[.int .i64 (L : Int), .slice Na rows.length nc, .slice Aa accs.length ac] 25)) := (Below.refl _ _).alloc (Nat.le_refl _) _
  have HX := hid (BoxM.made w L Na rows.length nc Aa accs.length ac)
  have HM := hid (h.below hA)
  have HW := hid (hw.below hA)
  have HA := hid hA
  have hw20 : wordE L rows accs l = 0 := (acc_mlang hg h64 l).1.trans hl
  obtain ⟨_, h20, hall, _⟩ := wordE_ok hw20
  have HG := hid (fun k (hk : k * l.length ≤ 20) => show lE (repW l k) L = 0 from by
    unfold lE
    rw [if_neg (by rw [repW_len]; omega), if_pos (repW_all hall k)])
  have HAc := hid (fun (k : Nat) (hk : k * l.length ≤ 20) => show wordE L rows accs (repW l (k + 1)) = lE (repW l (k + 1)) L ∧ (lE (repW l (k + 1)) L = 0 → accB L rows accs (repW l (k + 1)) = true) from by
    obtain ⟨a1, a2⟩ := acc_mlang hg h64 (repW l (k + 1))
    refine ⟨a1, fun h0 => ?_⟩
    have h1 := repW_run rows l (k + 1)
    have h2 := rdB_all hg l hall hr k
    unfold accB
    rw [a1, h0, h1, h2]
    rfl)
  have HB0 := hid (show ∀ k, ∀ x ∈ repW l k, -9223372036854775808 ≤ x ∧ x ≤ 9223372036854775807 from fun k x hx => by
    have := allB_iff.1 (repW_all hall k) x hx
    have := hg.hi
    omega)
  clear h hw hA hg h64 hl hr hw20
  unfold machV
  go_enter Try.func63, Try.ntmps63
  go_upto_region 1 with (fail)
  generalize w.alloc (.cells #[.int .i64 (L : Int), .slice Na rows.length nc, .slice Aa accs.length ac] 25) = w0 at *
  go_wp2_with fail
  go_loopw [5, 6, 7] (fun v _ _ wr => ∃ (k : Nat), k * l.length ≤ 20 ∧ Hid (Own wr w0.heap.size v (repW l k)) ∧ Hid (Below w0.heap.size w0 wr)) (fun v _ _ _ => match v with | .slice _ n _ => 20 - n | _ => 0)
  case atStart => exact ⟨0, by omega, Own.nil _ _, Below.refl _ _⟩
  case round =>
    obtain ⟨k, hk, HO, HB⟩ := hrel
    obtain ⟨a5, c5, rfl, hints⟩ := HO.out.ints (by rw [repW_len]; omega) (HB0.out k)
    have HBz := hid (HA.out.trans (HB.out.mono HA.out.size))
    have HRl := hid (repW_len l k)
    by_cases h0 : (l.length : Int) > 0
    · have hd0 : decide ((l.length : Int) > 0) = true := decide_eq_true h0
      by_cases hsum : (((repW l k).length : Int) + (l.length : Int)) ≤ 20
      · have hk1 : (k + 1) * l.length ≤ 20 := by have := HRl.out; rw [Nat.add_mul]; omega
        obtain ⟨q1, q2⟩ := HAc.out k hk
        have hE := HG.out (k + 1) hk1
        have HQ := hid (show wordE L rows accs (repW l (k + 1)) = 0 ∧ accB L rows accs (repW l (k + 1)) = true from ⟨q1.trans hE, q2 hE⟩)
        have hSr := srcT (HW.out.below HB.out)
        have hown := HO.out
        unfold Own at hown
        have hbs := HB.out.size
        have hrl20 : (repW l k).length ≤ 20 := by omega
        clear q1 q2 hE hints HO
        have e0 := (HB.out.cell (cell_lt HX.out.c0)).trans HX.out.c0
        have e1 := (HB.out.cell (cell_lt HX.out.c1)).trans HX.out.c1
        have e2 := (HB.out.cell (cell_lt HX.out.c2)).trans HX.out.c2
        go_wp2_with (at_builtin; refine wpList_append_src rfl _ _ 26 rfl w0.heap.size 3 i0 (.int .i64 0) 1 8 Try.underlying26 hinf hz0 hz1 hz2 rfl (by decide) (.slice a5 (repW l k).length c5) (repW l k).length ((repW l k).map (Value.int .i64)) rfl hown A l.length cap (l.map (Value.int .i64)) rfl (by simp) hSr (oneT l) (by unfold maxLen; omega) (by omega) hbs ?_)
        intro v9 w9 hown9 hgr9
        have HO9 := hid (show Own w9 w0.heap.size v9 (repW l (k + 1)) by
          rw [show repW l (k + 1) = repW l k ++ l from rfl]
          unfold Own
          simpa using hown9)
        have HB9 := hid (HB.out.grown hgr9 hbs (fun q hq => (hown.lt q hq).1))
        obtain ⟨a9, c9, rfl, hi9⟩ := HO9.out.ints (by rw [repW_len]; omega) (HB0.out (k + 1))
        have f0 := (HB9.out.cell (cell_lt HX.out.c0)).trans HX.out.c0
        have f1 := (HB9.out.cell (cell_lt HX.out.c1)).trans HX.out.c1
        have f2 := (HB9.out.cell (cell_lt HX.out.c2)).trans HX.out.c2
        have HAq := hid (mAccepts_any L nc ac Na Aa rows accs a9 (repW l (k + 1)) c9 w9 (HM.out.below HB9.out) hi9)
        rw [HQ.out.1, HQ.out.2] at HAq
        have HLn := hid (show (repW l (k + 1)).length = (repW l k).length + l.length by rw [repW, List.length_append])
        unfold machV at HAq
        clear hown hown9 hgr9 hSr hi9 e0 e1 e2
        go_wp2_with fail
        refine HAq.out.mono ?_
        rintro e w10 ⟨hb10, rfl⟩
        have HB10 := hid (HB9.out.trans (hb10.mono HB9.out.size))
        have HO10 := hid (HO9.out.below hb10)
        clear hb10 HAq f0 f1 f2
        go_wp2
        go_roundw
        case rel => exact ⟨k + 1, hk1, HO10.out, HB10.out⟩
        case measure => have := HLn.out; dsimp only; omega
      · have hrl20 : (repW l k).length ≤ 20 := by have := HRl.out; omega
        clear hints HO
        go_wp2
        go_ret
        exact ⟨HBz.out, rfl⟩
    · have hd0 : decide ((l.length : Int) > 0) = false := decide_eq_false h0
      clear hints HO
      go_wp2
      go_ret
      exact ⟨HBz.out, rfl⟩
/-- The word of a rank, and its rank. -/
theorem num_word {L : Nat} {rows : List (List Int)} {accs : List Bool} (hg : GoodM L rows accs) (h64 : rows.length ≤ 64) (m : Nat) (hm : m ≤ 20) (hle : lenE L rows accs (m : Int) = 0) (r : Int) :
    ukE L rows accs (m : Int) r = (if 0 ≤ r ∧ r < wT L rows accs m 0 then 0 else 5) ∧ (0 ≤ r → r < wT L rows accs m 0 → ukL L rows accs (m : Int) r = urD L rows accs m 0 r ∧ (urD L rows accs m 0 r).length = m ∧ rnkE L rows accs (urD L rows accs m 0 r) = 0 ∧ rnkA L rows accs (urD L rows accs m 0 r) = r) := by
  have hu : ukE L rows accs (m : Int) r = (if 0 ≤ r ∧ r < wT L rows accs m 0 then 0 else 5) := by
    unfold ukE
    rw [if_neg (fun hh => hh hle), Int.toNat_natCast, Int.toNat_natCast]
  refine ⟨hu, fun h0 h1 => ?_⟩
  obtain ⟨b1, b2, b3, b4⟩ := urD_spec hg m 0 r hg.pos h0 h1
  have hv0 := good_vE hg h64
  have hwe : wordE L rows accs (urD L rows accs m 0 r) = 0 := by
    unfold wordE lE
    rw [if_neg (fun hh => hh hv0), if_neg (by omega), if_pos b2]
  have hrn : rnkE L rows accs (urD L rows accs m 0 r) = 0 := by
    unfold rnkE
    rw [if_neg (fun hh => hh hwe), if_pos (by rw [← acF_runK]; exact b3)]
  refine ⟨?_, b1, hrn, ?_⟩
  · unfold ukL
    rw [if_pos (by rw [hu, if_pos ⟨h0, h1⟩]), Int.toNat_natCast, Int.toNat_natCast]
  · unfold rnkA
    rw [if_pos hrn, Int.toNat_natCast, rkK_full]
    exact b4
set_option maxRecDepth 100000 in
set_option maxHeartbeats 4000000 in
theorem topNumbered_any (L nc ac : Nat) (Na Aa : Option Addr) (rows : List (List Int)) (accs : List Bool) (n r : Int) (w : World) (h : MachAt w Na rows Aa accs) (hg : GoodM L rows accs) (h64 : rows.length ≤ 64) (hr : -9223372036854775808 ≤ r ∧ r ≤ 9223372036854775807) :
    Calls Try.prog 62 #[machV L Na rows.length nc Aa accs.length ac, .int .i64 n, .int .i64 r] w fun e w' => Below w.heap.size w w' ∧ e = .returned (.bool true) := by
  have hA : Below w.heap.size w (w.alloc (.cells #[.int .i64 (L : Int), .slice Na rows.length nc, .slice Aa accs.length ac] 25)) := (Below.refl _ _).alloc (Nat.le_refl _) _
  have HX := hid (BoxM.made w L Na rows.length nc Aa accs.length ac)
  have HM := hid (h.below hA)
  have HA := hid hA
  have HCn := hid (fun wx (hb : Below (w.alloc (.cells #[.int .i64 (L : Int), .slice Na rows.length nc, .slice Aa accs.length ac] 25)).heap.size (w.alloc (.cells #[.int .i64 (L : Int), .slice Na rows.length nc, .slice Aa accs.length ac] 25)) wx) => mCount_any L nc ac Na Aa rows accs n wx (HM.out.below hb))
  unfold machV at HCn
  clear h hA
  unfold machV
  by_cases hle : lenE L rows accs n = 0
  · obtain ⟨_, ⟨m, rfl, hm⟩, _⟩ := lenE_ok hle
    have hca : cntA L rows accs (m : Int) = wT L rows accs m 0 := by unfold cntA; rw [if_pos hle, Int.toNat_natCast, Int.toNat_natCast]
    obtain ⟨hC0, hC1⟩ := wT_small hg m 0 hm hg.pos
    have HNw := hid (num_word hg h64 m hm hle)
    have HNx := hid (num_next hg m)
    rw [hle, hca] at HCn
    clear hle hca hg
    generalize wT L rows accs m 0 = C at *
    obtain ⟨cN, rfl⟩ : ∃ cN : Nat, C = cN := ⟨C.toNat, by omega⟩
    have HUn := hid (fun wx (hb : Below (w.alloc (.cells #[.int .i64 (L : Int), .slice Na rows.length nc, .slice Aa accs.length ac] 25)).heap.size (w.alloc (.cells #[.int .i64 (L : Int), .slice Na rows.length nc, .slice Aa accs.length ac] 25)) wx) (x : Int) (hx : I64 x) => mUnrank_any L nc ac Na Aa rows accs (m : Int) x wx (HM.out.below hb) hx)
    have HRk := hid (fun wx (hb : Below (w.alloc (.cells #[.int .i64 (L : Int), .slice Na rows.length nc, .slice Aa accs.length ac] 25)).heap.size (w.alloc (.cells #[.int .i64 (L : Int), .slice Na rows.length nc, .slice Aa accs.length ac] 25)) wx) (A : Option Addr) (u : List Int) (cap : Nat) (hu : Ints wx A u) => mRank_any L nc ac Na Aa rows accs A u cap wx (HM.out.below hb) hu)
    unfold machV at HUn HRk
    go_enter Try.func62, Try.ntmps62
    go_upto_region 1 with (fail)
    have hrf : Below (w.alloc (.cells #[.int .i64 (L : Int), .slice Na rows.length nc, .slice Aa accs.length ac] 25)).heap.size (w.alloc (.cells #[.int .i64 (L : Int), .slice Na rows.length nc, .slice Aa accs.length ac] 25)) (w.alloc (.cells #[.int .i64 (L : Int), .slice Na rows.length nc, .slice Aa accs.length ac] 25)) := Below.refl _ _
    generalize w.alloc (.cells #[.int .i64 (L : Int), .slice Na rows.length nc, .slice Aa accs.length ac] 25) = w0 at *
    have HB := hid hrf
    clear hrf
    have e0 := HX.out.c0
    have e1 := HX.out.c1
    have e2 := HX.out.c2
    go_wp2_with fail
    refine (HCn.out _ HB.out).mono ?_
    rintro e w1 ⟨hb, rfl⟩
    have HB := hid hb
    clear hb e0 e1 e2 HCn
    have e0 := (HB.out.cell (cell_lt HX.out.c0)).trans HX.out.c0
    have e1 := (HB.out.cell (cell_lt HX.out.c1)).trans HX.out.c1
    have e2 := (HB.out.cell (cell_lt HX.out.c2)).trans HX.out.c2
    have hu1 := (HNw.out (cN : Int)).1
    rw [if_neg (by omega)] at hu1
    have HQ := hid (HUn.out w1 HB.out (cN : Int) (by unfold I64; omega))
    rw [hu1] at HQ
    clear hu1
    go_wp2_with fail
    refine HQ.out.mono ?_
    rintro e w2 ⟨hb, A2, c2, rfl, _⟩
    have HB := hid (HB.out.trans (hb.mono HB.out.size))
    have HBz := hid (HA.out.trans (HB.out.mono HA.out.size))
    clear hb e0 e1 e2 HQ
    have e0 := (HB.out.cell (cell_lt HX.out.c0)).trans HX.out.c0
    have e1 := (HB.out.cell (cell_lt HX.out.c1)).trans HX.out.c1
    have e2 := (HB.out.cell (cell_lt HX.out.c2)).trans HX.out.c2
    by_cases hc0 : cN = 0
    · have hc0' : ((cN : Int) == 0) = true := by simp [hc0]
      clear HNw HNx HUn HRk hc0
      go_wp2
      go_ret
      exact ⟨HBz.out, rfl⟩
    · have hc0' : ((cN : Int) == 0) = false := by rw [beq_eq_false_iff_ne]; omega
      have hne : (cN : Int) ≠ 0 := by omega
      obtain ⟨p, hp⟩ : ∃ p : Nat, IntKind.u64.wrap r = (p : Int) := ⟨(IntKind.u64.wrap r).toNat, by rw [IntKind.wrap_u64]; omega⟩
      have hlw : IntKind.u64.wrap (cN : Int) = (cN : Int) := by rw [IntKind.wrap_u64]; omega
      have hql : p % cN < cN := Nat.mod_lt _ (by omega)
      have hmod : Int.tmod (p : Int) (cN : Int) = ((p % cN : Nat) : Int) := by rw [Int.tmod_eq_emod_of_nonneg (by omega)]; omega
      generalize p % cN = q at *
      have hkw : IntKind.i64.wrap (q : Int) = (q : Int) := IntWalk.i64_in _ (by omega)
      have hku : IntKind.u64.wrap (q : Int) = (q : Int) := by rw [IntKind.wrap_u64]; omega
      obtain ⟨hu1, hu2⟩ := HNw.out (q : Int)
      rw [if_pos (by omega)] at hu1
      obtain ⟨hu3, hu4, hu5, hu6⟩ := hu2 (by omega) (by omega)
      have HQ := hid (HUn.out w2 HB.out (q : Int) (by unfold I64; omega))
      rw [hu1, hu3] at HQ
      have HUw := hid (And.intro hu4 (And.intro hu5 hu6))
      clear hu1 hu2 hu3 hu4 hu5 hu6 hc0
      go_wp2_with fail
      refine HQ.out.mono ?_
      rintro e w3 ⟨hb, A3, c3, rfl, hI3⟩
      have HB := hid (HB.out.trans (hb.mono HB.out.size))
      have HI3 := hid hI3
      clear hb e0 e1 e2 HQ hI3 HBz
      have e0 := (HB.out.cell (cell_lt HX.out.c0)).trans HX.out.c0
      have e1 := (HB.out.cell (cell_lt HX.out.c1)).trans HX.out.c1
      have e2 := (HB.out.cell (cell_lt HX.out.c2)).trans HX.out.c2
      have HR := hid (HRk.out w3 HB.out A3 _ c3 HI3.out)
      rw [HUw.out.2.1, HUw.out.2.2] at HR
      go_wp2_with fail
      refine HR.out.mono ?_
      rintro e w4 ⟨hb, rfl⟩
      have HB := hid (HB.out.trans (hb.mono HB.out.size))
      have HI3 := hid (HI3.out.below hb)
      have HBz := hid (HA.out.trans (HB.out.mono HA.out.size))
      clear hb e0 e1 e2 HR
      have e0 := (HB.out.cell (cell_lt HX.out.c0)).trans HX.out.c0
      have e1 := (HB.out.cell (cell_lt HX.out.c1)).trans HX.out.c1
      have e2 := (HB.out.cell (cell_lt HX.out.c2)).trans HX.out.c2
      have hxl : (urD L rows accs m 0 (q : Int)).length = m := HUw.out.1
      have HXl := hid hxl
      have q1 : ((q : Int) != (q : Int)) = false := by simp
      have q2 : (((urD L rows accs m 0 (q : Int)).length : Int) != (m : Int)) = false := by rw [hxl]; simp
      have hu20 : (urD L rows accs m 0 (q : Int)).length ≤ 20 := by omega
      clear hxl
      by_cases hlast : q + 1 = cN
      · have hl1 : ((q : Int) + 1 == (cN : Int)) = true := by rw [beq_iff_eq]; omega
        clear HNw HNx HUn HRk HUw hlast
        go_wp2
        go_ret
        exact ⟨HBz.out, rfl⟩
      · have hl1 : ((q : Int) + 1 == (cN : Int)) = false := by rw [beq_eq_false_iff_ne]; omega
        obtain ⟨hv1, hv2⟩ := HNw.out ((q : Int) + 1)
        rw [if_pos (by omega)] at hv1
        obtain ⟨hv3, hv4, _, _⟩ := hv2 (by omega) (by omega)
        obtain ⟨hn1, hn2⟩ := HNx.out (q : Int) (by omega) (by omega)
        have HQ := hid (HUn.out w4 HB.out ((q : Int) + 1) (by unfold I64; omega))
        rw [hv1, hv3] at HQ
        have HN1 := hid hn1
        have HN2 := hid hn2
        have HYl := hid hv4
        have q3 : (((urD L rows accs m 0 ((q : Int) + 1)).length : Int) != (m : Int)) = false := by rw [hv4]; simp
        clear hv1 hv2 hv3 hv4 hn1 hn2 HNw HNx HRk HUn HUw
        generalize urD L rows accs m 0 (q : Int) = u at *
        generalize urD L rows accs m 0 ((q : Int) + 1) = v at *
        have hv20 : v.length ≤ 20 := by have := HYl.out; omega
        clear hlast
        go_wp2_with fail
        refine HQ.out.mono ?_
        rintro e w5 ⟨hb, A5, c5, rfl, hI5⟩
        have HI3 := hid (HI3.out.below hb)
        have HI5 := hid hI5
        have HBz := hid (HBz.out.trans (hb.mono HBz.out.size))
        clear hb hI5 HQ e0 e1 e2 HB
        go_wp2_with fail
        go_loopw [16] (fun i wr => ∃ (k : Nat), k ≤ m ∧ i = .int .i64 (k : Int) ∧ Hid (∀ j, j < k → ltr v j = ltr u j) ∧ Hid (∃ d, wr = w5.drewN d)) (fun i _ => m - (intOf i).toNat)
        case atStart => exact ⟨0, Nat.zero_le _, rfl, fun j hj => by omega, 0, rfl⟩
        case round =>
          obtain ⟨k, hk, rfl, HE, HWr⟩ := hrel
          obtain ⟨d0, hd0⟩ := HWr.out
          by_cases hlt : k < m
          · have hlt1 : (k : Int) < (m : Int) := by omega
            have hk0 : (0 : Int) ≤ (k : Int) := by omega
            have hku1 : (k : Int) < (u.length : Int) := by have := HXl.out; omega
            have hkv1 : (k : Int) < (v.length : Int) := by have := HYl.out; omega
            obtain ⟨b3, o3, hA3, hc3⟩ : ∃ b o, A3 = some ⟨b, o, none⟩ ∧ ∀ i, i < u.length → w5.cell? ⟨b, o + i, none⟩ = some (.int .i64 (u[i]?.getD 0)) := by
              rcases HI3.out.at_ with e | hh
              · rw [e] at hku1; simp at hku1; omega
              · exact hh
            obtain ⟨b5, o5, hA5, hc5⟩ : ∃ b o, A5 = some ⟨b, o, none⟩ ∧ ∀ i, i < v.length → w5.cell? ⟨b, o + i, none⟩ = some (.int .i64 (v[i]?.getD 0)) := by
              rcases HI5.out.at_ with e | hh
              · rw [e] at hkv1; simp at hkv1; omega
              · exact hh
            have y1 : wr.cell? ⟨b3, o3 + k, none⟩ = some (.int .i64 (ltr u k)) := by rw [hd0]; exact hc3 k (by omega)
            have y2 : wr.cell? ⟨b5, o5 + k, none⟩ = some (.int .i64 (ltr v k)) := by rw [hd0]; exact hc5 k (by omega)
            have HGt := hid (HN1.out k hlt HE.out)
            have HE2 := hid (fun (he : ltr v k = ltr u k) => show ∀ j, j < k + 1 → ltr v j = ltr u j from fun j hj => by
              by_cases e : j = k
              · rw [e]; exact he
              · exact HE.out j (by omega))
            have HMm := hid (fun (x : Nat) => show ∃ d, wr.drewN x = w5.drewN d from ⟨_, by rw [hd0, World.drewN_drewN]⟩)
            have HBy := hid (fun (x y : Nat) => show Below w.heap.size w ((wr.drewN x).drewN y) from by
              rw [hd0, World.drewN_drewN, World.drewN_drewN]
              exact HBz.out.trans ((drwT w5 _).mono HBz.out.size))
            have HBy1 := hid (fun (x : Nat) => show Below w.heap.size w (wr.drewN x) from by
              rw [hd0, World.drewN_drewN]
              exact HBz.out.trans ((drwT w5 _).mono HBz.out.size))
            subst hA3 hA5
            clear hc3 hc5 hd0 HE q1 q2 q3
            generalize ltr u k = x at *
            generalize ltr v k = y at *
            by_cases hxy : y = x
            · have hne1 : (y != x) = false := by simp [hxy]
              have HE3 := hid (HE2.out hxy)
              clear hxy HGt HE2
              go_wp2_with fail
              go_quiet (fail)
              go_wp2
              go_roundw
              case rel => exact ⟨k + 1, by omega, by go_num, HE3.out, HMm.out _⟩
              case measure => simp [intOf]; omega
            · have hne1 : (y != x) = true := by simp [hxy]
              have hgt := HGt.out hxy
              have hgd : decide (y > x) = true := decide_eq_true hgt
              clear hxy HE2
              go_wp2_with fail
              go_quiet (fail)
              go_wp2_with fail
              go_quiet (fail)
              go_wp2
              go_ret
              exact ⟨by first | exact HBy.out _ _ | exact HBy1.out _, rfl⟩
          · exact absurd (fun j hj => HE.out j (by omega)) HN2.out
  · have hle' : (lenE L rows accs n != 0) = true := by simp [hle]
    clear hle hg
    generalize lenE L rows accs n = ve at *
    go_enter Try.func62, Try.ntmps62
    go_wp2_with fail
    refine (HCn.out _ (Below.refl _ _)).mono ?_
    rintro e w1 ⟨hb, rfl⟩
    have HBz := hid (HA.out.trans (hb.mono HA.out.size))
    clear hb
    go_wp2
    go_ret
    exact ⟨HBz.out, rfl⟩
end Go.Proofs.Ytkboeldafppicaa
set_option linter.unusedVariables false
set_option linter.unusedSimpArgs false
namespace Go.Proofs.Ytkboeldafppicaa
open Go.RowKit

structure Bx7 (w : World) (p : Nat) (a0 a1 a2 a3 a4 a5 a6 : Int) : Prop where
  c0 : w.cell? ⟨p, 0, none⟩ = some (.int .i64 a0)
  c1 : w.cell? ⟨p, 1, none⟩ = some (.int .i64 a1)
  c2 : w.cell? ⟨p, 2, none⟩ = some (.int .i64 a2)
  c3 : w.cell? ⟨p, 3, none⟩ = some (.int .i64 a3)
  c4 : w.cell? ⟨p, 4, none⟩ = some (.int .i64 a4)
  c5 : w.cell? ⟨p, 5, none⟩ = some (.int .i64 a5)
  c6 : w.cell? ⟨p, 6, none⟩ = some (.int .i64 a6)
theorem Bx7.below {w w' : World} {p : Nat} {a0 a1 a2 a3 a4 a5 a6 : Int} (h : Bx7 w p a0 a1 a2 a3 a4 a5 a6) (hb : Below w.heap.size w w') : Bx7 w' p a0 a1 a2 a3 a4 a5 a6 :=
  ⟨(hb.cell (cell_lt h.c0)).trans h.c0, (hb.cell (cell_lt h.c1)).trans h.c1, (hb.cell (cell_lt h.c2)).trans h.c2, (hb.cell (cell_lt h.c3)).trans h.c3, (hb.cell (cell_lt h.c4)).trans h.c4, (hb.cell (cell_lt h.c5)).trans h.c5, (hb.cell (cell_lt h.c6)).trans h.c6⟩
theorem ap32 {M : Int} {t : List (List Int)} {bs : List Bool} {v : Int} (h : LgD (if apOk 3 2 then 0 else 1) 3 (apL (3 : Int).toNat 2) M t bs v) : v = 0 ∧ t.length = 5 := by
  rw [if_pos (by decide)] at h
  rcases h with ⟨hv, _⟩ | ⟨_, i, hF, hans⟩
  · exact absurd rfl hv
  · have hi : i = 5 := hF.unique full3
    subst hi
    rcases hans with ⟨h6, _⟩ | ⟨_, _, ht, _, hv⟩
    · omega
    · refine ⟨hv, ?_⟩
      rw [ht]
      exact (listTo_len 3 dv ep (apL 3 2) 5).1
/-- A word that is accepted comes back from its rank. -/
theorem rank_word {L : Nat} {rows : List (List Int)} {accs : List Bool} (hg : GoodM L rows accs) (h64 : rows.length ≤ 64) (l : List Int) (h0 : lE l L = 0) (ha : accB L rows accs l = true) : rnkE L rows accs l = 0 ∧ ukE L rows accs (l.length : Int) (rnkA L rows accs l) = 0 ∧ ukL L rows accs (l.length : Int) (rnkA L rows accs l) = l ∧ I64 (rnkA L rows accs l) := by
  have hwe := (acc_mlang hg h64 l).1.trans h0
  obtain ⟨_, h20, hall, _⟩ := wordE_ok hwe
  have hac : acF rows accs 0 l = true := by
    rw [acF_runK]
    unfold accB at ha
    rw [hwe] at ha
    simpa using ha
  obtain ⟨k1, k2, k3⟩ := rkF_bd hg l 0 hg.pos hall hac
  have hrn : rnkE L rows accs l = 0 := by
    unfold rnkE
    rw [if_neg (fun hh => hh hwe), if_pos (by rw [← acF_runK]; exact hac)]
  have hr : rnkA L rows accs l = rkF L rows accs 0 l := by
    unfold rnkA
    rw [if_pos hrn, Int.toNat_natCast, rkK_full]
  have hle : lenE L rows accs (l.length : Int) = 0 := by
    unfold lenE
    rw [if_neg (fun hh => hh (good_vE hg h64)), if_neg (by omega)]
  have hu : ukE L rows accs (l.length : Int) (rnkA L rows accs l) = 0 := by
    unfold ukE
    rw [if_neg (fun hh => hh hle), hr, Int.toNat_natCast, Int.toNat_natCast, if_pos ⟨k1, k2⟩]
  refine ⟨hrn, hu, ?_, ?_⟩
  · unfold ukL
    rw [if_pos hu, hr, Int.toNat_natCast, Int.toNat_natCast, k3]
  · rw [hr]
    have := wT_small hg l.length 0 h20 hg.pos
    unfold I64
    omega
/-- What Round answers of a word that is right. -/
theorem round_word {L : Nat} {rows : List (List Int)} {accs : List Bool} (hg : GoodM L rows accs) (h64 : rows.length ≤ 64) (l : List Int) : (lE l L ≠ 0 → rdA L rows accs l = false) ∧ (lE l L = 0 → rdA L rows accs l = rdB rows accs l rows.length ∧ (rdB rows accs l rows.length = true → accB L rows accs l = true)) := by
  have hwe := (acc_mlang hg h64 l).1
  refine ⟨fun h => ?_, fun h0 => ?_⟩
  · unfold rdA
    rw [hwe]
    simp [h]
  · have hw0 := hwe.trans h0
    obtain ⟨_, h20, hall, _⟩ := wordE_ok hw0
    refine ⟨by unfold rdA; rw [hw0]; simp, fun hb => ?_⟩
    have h1 := rdB_all hg l hall hb 0
    unfold accB
    rw [hw0]
    have h2 : rdS rows l 1 = runK rows 0 l l.length := rfl
    rw [h2] at h1
    simp [h1]
set_option maxRecDepth 100000 in
set_option maxHeartbeats 16000000 in
theorem topMenus_walk (n a0 a1 a2 a3 a4 a5 a6 : Int) (A : Option Addr) (l : List Int) (cap : Nat) (w : World) (h6 : -9223372036854775808 ≤ a6 ∧ a6 ≤ 9223372036854775807) (hl : l.length ≤ 9223372036854775807) (hw : l.length ≤ 140737488355328 → Ints w A l) :
    Calls Try.prog 17 #[.int .i64 n, .agg #[.int .i64 a0, .int .i64 a1, .int .i64 a2, .int .i64 a3, .int .i64 a4, .int .i64 a5, .int .i64 a6], .slice A l.length cap] w fun e w' => Below w.heap.size w w' ∧ e = .returned (.bool true) := by
  have hA : Below w.heap.size w (w.alloc (.cells #[.int .i64 a0, .int .i64 a1, .int .i64 a2, .int .i64 a3, .int .i64 a4, .int .i64 a5, .int .i64 a6] 69)) := (Below.refl _ _).alloc (Nat.le_refl _) _
  have HC := hid (show Bx7 (w.alloc (.cells #[.int .i64 a0, .int .i64 a1, .int .i64 a2, .int .i64 a3, .int .i64 a4, .int .i64 a5, .int .i64 a6] 69)) w.heap.size a0 a1 a2 a3 a4 a5 a6 from ⟨by go_simp, by go_simp, by go_simp, by go_simp, by go_simp, by go_simp, by go_simp⟩)
  have HB := hid hA
  have HW := hid (fun (h : l.length ≤ 140737488355328) => (hw h).below hA)
  clear hA hw
  go_enter Try.func17, Try.ntmps17
  go_upto_region 1 with fail
  generalize w.alloc (.cells #[.int .i64 a0, .int .i64 a1, .int .i64 a2, .int .i64 a3, .int .i64 a4, .int .i64 a5, .int .i64 a6] 69) = w0 at *
  go_wp2_with fail
  refine (apart_any 3 2 _).mono ?_
  rintro e wa ⟨hba, hans⟩
  obtain ⟨M0, t0, bs0, v0, Na0, nc0, Aa0, ac0, hD, rfl, hM⟩ := rl_out hans
  have HD0 := hid hD
  have HM0 := hid hM.mach
  have HB := hid (HB.out.trans (hba.mono HB.out.size))
  have HC := hid (HC.out.below hba)
  have HW := hid (fun (h : l.length ≤ 140737488355328) => (HW.out h).below hba)
  clear hba hans hD hM
  unfold machV
  go_upto_region 2 with fail
  have hAl : Below wa.heap.size wa (wa.alloc (.cells #[.int .i64 M0, .slice Na0 t0.length nc0, .slice Aa0 bs0.length ac0] 25)) := (Below.refl _ _).alloc (Nat.le_refl _) _
  have HX0 := hid (BoxM.made wa M0 Na0 t0.length nc0 Aa0 bs0.length ac0)
  have HM0 := hid (HM0.out.below hAl)
  have HB := hid (HB.out.trans (hAl.mono HB.out.size))
  have HC := hid (HC.out.below hAl)
  have HW := hid (fun (h : l.length ≤ 140737488355328) => (HW.out h).below hAl)
  clear hAl
  generalize hww : wa.alloc (.cells #[.int .i64 M0, .slice Na0 t0.length nc0, .slice Aa0 bs0.length ac0] 25) = wc0 at *
  obtain ⟨p0, hp0⟩ : ∃ p, p = wa.heap.size := ⟨_, rfl⟩
  rw [← hp0] at HX0 ⊢
  clear hww hp0
  obtain ⟨hv0, ht0⟩ := ap32 HD0.out
  subst hv0
  have e1 := HX0.out.c1
  rw [ht0] at e1
  have z5 : ((5 : Int) != 5) = false := by decide
  clear ht0 HD0
  by_cases hlg : 200 < l.length
  · have hlg' : (l.length : Int) > 200 := by omega
    clear hlg
    go_wp2
    go_ret
    exact ⟨HB.out, rfl⟩
  · have hlg' : ¬ (l.length : Int) > 200 := by omega
    have HW := hid (HW.out (by omega))
    have hl2 : l.length ≤ 200 := by omega
    clear hl hlg
    go_upto_region 6 with fail
    clear e1 z5 HX0 HM0 hlg'
    have c0 := HC.out.c0
    have c1 := HC.out.c1
    have c2 := HC.out.c2
    have c3 := HC.out.c3
    have c4 := HC.out.c4
    have c5 := HC.out.c5
    have c6 := HC.out.c6
    go_wp2_with fail
    refine (apart_any n a0 _).mono ?_
    rintro e wa ⟨hba, hans⟩
    obtain ⟨M1, t1, bs1, v1, Na1, nc1, Aa1, ac1, hD, rfl, hM⟩ := rl_out hans
    have HD1 := hid hD
    have HM1 := hid hM.mach
    have HB := hid (HB.out.trans (hba.mono HB.out.size))
    have HC := hid (HC.out.below hba)
    have HW := hid (HW.out.below hba)
    clear hba hans hD hM c0 c1 c2 c3 c4 c5 c6
    unfold machV
    go_upto_region 7 with fail
    have hAl : Below wa.heap.size wa (wa.alloc (.cells #[.int .i64 M1, .slice Na1 t1.length nc1, .slice Aa1 bs1.length ac1] 25)) := (Below.refl _ _).alloc (Nat.le_refl _) _
    have HX1 := hid (BoxM.made wa M1 Na1 t1.length nc1 Aa1 bs1.length ac1)
    have HM1 := hid (HM1.out.below hAl)
    have HB := hid (HB.out.trans (hAl.mono HB.out.size))
    have HC := hid (HC.out.below hAl)
    have HW := hid (HW.out.below hAl)
    clear hAl
    generalize hww : wa.alloc (.cells #[.int .i64 M1, .slice Na1 t1.length nc1, .slice Aa1 bs1.length ac1] 25) = wc1 at *
    obtain ⟨p1, hp1⟩ : ∃ p, p = wa.heap.size := ⟨_, rfl⟩
    rw [← hp1] at HX1 ⊢
    clear hww hp1
    have c0 := HC.out.c0
    have c1 := HC.out.c1
    have c2 := HC.out.c2
    have c3 := HC.out.c3
    have c4 := HC.out.c4
    have c5 := HC.out.c5
    have c6 := HC.out.c6
    go_wp2_with fail
    refine (least_any n a1 a2 _).mono ?_
    rintro e wa ⟨hba, hans⟩
    obtain ⟨M2, t2, bs2, v2, Na2, nc2, Aa2, ac2, hD, rfl, hM⟩ := rl_out hans
    have HD2 := hid hD
    have HM2 := hid hM.mach
    have HB := hid (HB.out.trans (hba.mono HB.out.size))
    have HC := hid (HC.out.below hba)
    have HW := hid (HW.out.below hba)
    have HX1 := hid (HX1.out.below hba)
    have HM1 := hid (HM1.out.below hba)
    clear hba hans hD hM c0 c1 c2 c3 c4 c5 c6
    unfold machV
    go_upto_region 8 with fail
    have hAl : Below wa.heap.size wa (wa.alloc (.cells #[.int .i64 M2, .slice Na2 t2.length nc2, .slice Aa2 bs2.length ac2] 25)) := (Below.refl _ _).alloc (Nat.le_refl _) _
    have HX2 := hid (BoxM.made wa M2 Na2 t2.length nc2 Aa2 bs2.length ac2)
    have HM2 := hid (HM2.out.below hAl)
    have HB := hid (HB.out.trans (hAl.mono HB.out.size))
    have HC := hid (HC.out.below hAl)
    have HW := hid (HW.out.below hAl)
    have HX1 := hid (HX1.out.below hAl)
    have HM1 := hid (HM1.out.below hAl)
    clear hAl
    generalize hww : wa.alloc (.cells #[.int .i64 M2, .slice Na2 t2.length nc2, .slice Aa2 bs2.length ac2] 25) = wc2 at *
    obtain ⟨p2, hp2⟩ : ∃ p, p = wa.heap.size := ⟨_, rfl⟩
    rw [← hp2] at HX2 ⊢
    clear hww hp2
    have c0 := HC.out.c0
    have c1 := HC.out.c1
    have c2 := HC.out.c2
    have c3 := HC.out.c3
    have c4 := HC.out.c4
    have c5 := HC.out.c5
    have c6 := HC.out.c6
    go_wp2_with fail
    refine (never_any n a3 a4 _).mono ?_
    rintro e wa ⟨hba, hans⟩
    obtain ⟨M3, t3, bs3, v3, Na3, nc3, Aa3, ac3, hD, rfl, hM⟩ := rl_out hans
    have HD3 := hid hD
    have HM3 := hid hM.mach
    have HB := hid (HB.out.trans (hba.mono HB.out.size))
    have HC := hid (HC.out.below hba)
    have HW := hid (HW.out.below hba)
    have HX1 := hid (HX1.out.below hba)
    have HM1 := hid (HM1.out.below hba)
    have HX2 := hid (HX2.out.below hba)
    have HM2 := hid (HM2.out.below hba)
    clear hba hans hD hM c0 c1 c2 c3 c4 c5 c6
    unfold machV
    go_upto_region 9 with fail
    have hAl : Below wa.heap.size wa (wa.alloc (.cells #[.int .i64 M3, .slice Na3 t3.length nc3, .slice Aa3 bs3.length ac3] 25)) := (Below.refl _ _).alloc (Nat.le_refl _) _
    have HX3 := hid (BoxM.made wa M3 Na3 t3.length nc3 Aa3 bs3.length ac3)
    have HM3 := hid (HM3.out.below hAl)
    have HB := hid (HB.out.trans (hAl.mono HB.out.size))
    have HC := hid (HC.out.below hAl)
    have HW := hid (HW.out.below hAl)
    have HX1 := hid (HX1.out.below hAl)
    have HM1 := hid (HM1.out.below hAl)
    have HX2 := hid (HX2.out.below hAl)
    have HM2 := hid (HM2.out.below hAl)
    clear hAl
    generalize hww : wa.alloc (.cells #[.int .i64 M3, .slice Na3 t3.length nc3, .slice Aa3 bs3.length ac3] 25) = wc3 at *
    obtain ⟨p3, hp3⟩ : ∃ p, p = wa.heap.size := ⟨_, rfl⟩
    rw [← hp3] at HX3 ⊢
    clear hww hp3
    by_cases hv1 : v1 = 0
    · by_cases hv2 : v2 = 0
      · by_cases hv3 : v3 = 0
        · subst hv1 hv2 hv3
          have hz : ((0 : Int) != 0) = false := by decide
          have hz1 : ((0 : Int) == 0) = true := by decide
          have hD1 := HD1.out
          have hD2 := HD2.out
          have hD3 := HD3.out
          obtain ⟨hok1, _, _⟩ := ap_acc hD1 l
          obtain ⟨hok2, _, _⟩ := le_acc hD2 l
          obtain ⟨hok3, _, _⟩ := nv_acc hD3 l
          have hn16 : 1 ≤ n ∧ n ≤ 6 := by unfold apOk at hok1; omega
          obtain ⟨L, rfl⟩ : ∃ L : Nat, n = L := ⟨n.toNat, by omega⟩
          rw [if_pos hok1, Int.toNat_natCast] at hD1
          rw [if_pos hok2, Int.toNat_natCast] at hD2
          rw [if_pos hok3, Int.toNat_natCast] at hD3
          obtain ⟨_, hM1, hg1, h641, _⟩ := lg_good hD1 rfl (by omega) (by omega) (lang_self _)
          obtain ⟨_, hM2, hg2, h642, _⟩ := lg_good hD2 rfl (by omega) (by omega) (lang_self _)
          obtain ⟨_, hM3, hg3, h643, _⟩ := lg_good hD3 rfl (by omega) (by omega) (lang_self _)
          subst hM1 hM2 hM3
          have HG1 := hid (And.intro hg1 h641)
          have HG2 := hid (And.intro hg2 h642)
          have HG3 := hid (And.intro hg3 h643)
          have HL := hid hn16
          clear hD1 hD2 hD3 HD1 HD2 HD3 hok1 hok2 hok3 hg1 hg2 hg3 h641 h642 h643 hn16
          have htw := good_two HG1.out.1 HG2.out.1 HG1.out.2 HG2.out.2
          have HQ := hid (mBoth_any (L : Int) nc1 ac1 Na1 Aa1 t1 bs1 (L : Int) nc2 ac2 Na2 Aa2 t2 bs2 _ HM1.out HM2.out)
          unfold machV at HQ
          have e0 := HX1.out.c0
          have e1 := HX1.out.c1
          have e2 := HX1.out.c2
          have d0 := HX2.out.c0
          have d1 := HX2.out.c1
          have d2 := HX2.out.c2
          go_wp2_with fail
          refine (HQ.out).mono ?_
          rintro e wa ⟨hba, hans⟩
          obtain ⟨M4, t4, bs4, v4, Na4, nc4, Aa4, ac4, hD, rfl, hM⟩ := lg_out hans
          have HD4 := hid hD
          have HM4 := hid hM.mach
          have HB := hid (HB.out.trans (hba.mono HB.out.size))
          have HC := hid (HC.out.below hba)
          have HW := hid (HW.out.below hba)
          have HX1 := hid (HX1.out.below hba)
          have HM1 := hid (HM1.out.below hba)
          have HX2 := hid (HX2.out.below hba)
          have HM2 := hid (HM2.out.below hba)
          have HX3 := hid (HX3.out.below hba)
          have HM3 := hid (HM3.out.below hba)
          clear HQ hba hans hD hM e0 e1 e2 d0 d1 d2
          unfold machV
          go_upto_region 12 with fail
          have hAl : Below wa.heap.size wa (wa.alloc (.cells #[.int .i64 M4, .slice Na4 t4.length nc4, .slice Aa4 bs4.length ac4] 25)) := (Below.refl _ _).alloc (Nat.le_refl _) _
          have HX4 := hid (BoxM.made wa M4 Na4 t4.length nc4 Aa4 bs4.length ac4)
          have HM4 := hid (HM4.out.below hAl)
          have HB := hid (HB.out.trans (hAl.mono HB.out.size))
          have HC := hid (HC.out.below hAl)
          have HW := hid (HW.out.below hAl)
          have HX1 := hid (HX1.out.below hAl)
          have HM1 := hid (HM1.out.below hAl)
          have HX2 := hid (HX2.out.below hAl)
          have HM2 := hid (HM2.out.below hAl)
          have HX3 := hid (HX3.out.below hAl)
          have HM3 := hid (HM3.out.below hAl)
          clear hAl
          generalize hww : wa.alloc (.cells #[.int .i64 M4, .slice Na4 t4.length nc4, .slice Aa4 bs4.length ac4] 25) = wc4 at *
          obtain ⟨p4, hp4⟩ : ∃ p, p = wa.heap.size := ⟨_, rfl⟩
          rw [← hp4] at HX4 ⊢
          clear hww hp4
          rcases lg_v HD4.out htw with hv4 | hv4
          · subst hv4
            have hD4 := HD4.out
            rw [htw, Int.toNat_natCast] at hD4
            obtain ⟨_, hM4, hg4, h644, hla4⟩ := lg_good hD4 rfl (by have := HL.out; omega) (by have := HL.out; omega) (lang_self _)
            subst hM4
            have HG4 := hid (And.intro hg4 h644)
            have HLa4 := hid hla4
            clear hD4 HD4 hg4 h644 hla4 htw
            go_upto_region 14 with fail
            have htw := good_two HG4.out.1 HG3.out.1 HG4.out.2 HG3.out.2
            have HQ := hid (mBoth_any (L : Int) nc4 ac4 Na4 Aa4 t4 bs4 (L : Int) nc3 ac3 Na3 Aa3 t3 bs3 _ HM4.out HM3.out)
            unfold machV at HQ
            have e0 := HX4.out.c0
            have e1 := HX4.out.c1
            have e2 := HX4.out.c2
            have d0 := HX3.out.c0
            have d1 := HX3.out.c1
            have d2 := HX3.out.c2
            go_wp2_with fail
            refine (HQ.out).mono ?_
            rintro e wa ⟨hba, hans⟩
            obtain ⟨M5, t5, bs5, v5, Na5, nc5, Aa5, ac5, hD, rfl, hM⟩ := lg_out hans
            have HD5 := hid hD
            have HM5 := hid hM.mach
            have HB := hid (HB.out.trans (hba.mono HB.out.size))
            have HC := hid (HC.out.below hba)
            have HW := hid (HW.out.below hba)
            have HX1 := hid (HX1.out.below hba)
            have HM1 := hid (HM1.out.below hba)
            have HX2 := hid (HX2.out.below hba)
            have HM2 := hid (HM2.out.below hba)
            have HX3 := hid (HX3.out.below hba)
            have HM3 := hid (HM3.out.below hba)
            have HX4 := hid (HX4.out.below hba)
            have HM4 := hid (HM4.out.below hba)
            clear HQ hba hans hD hM e0 e1 e2 d0 d1 d2
            unfold machV
            go_upto_region 15 with fail
            have hAl : Below wa.heap.size wa (wa.alloc (.cells #[.int .i64 M5, .slice Na5 t5.length nc5, .slice Aa5 bs5.length ac5] 25)) := (Below.refl _ _).alloc (Nat.le_refl _) _
            have HX5 := hid (BoxM.made wa M5 Na5 t5.length nc5 Aa5 bs5.length ac5)
            have HM5 := hid (HM5.out.below hAl)
            have HB := hid (HB.out.trans (hAl.mono HB.out.size))
            have HC := hid (HC.out.below hAl)
            have HW := hid (HW.out.below hAl)
            have HX1 := hid (HX1.out.below hAl)
            have HM1 := hid (HM1.out.below hAl)
            have HX2 := hid (HX2.out.below hAl)
            have HM2 := hid (HM2.out.below hAl)
            have HX3 := hid (HX3.out.below hAl)
            have HM3 := hid (HM3.out.below hAl)
            have HX4 := hid (HX4.out.below hAl)
            have HM4 := hid (HM4.out.below hAl)
            clear hAl
            generalize hww : wa.alloc (.cells #[.int .i64 M5, .slice Na5 t5.length nc5, .slice Aa5 bs5.length ac5] 25) = wc5 at *
            obtain ⟨p5, hp5⟩ : ∃ p, p = wa.heap.size := ⟨_, rfl⟩
            rw [← hp5] at HX5 ⊢
            clear hww hp5
            rcases lg_v HD5.out htw with hv5 | hv5
            · subst hv5
              have hD5 := HD5.out
              rw [htw, Int.toNat_natCast] at hD5
              obtain ⟨_, hM5, hg5, h645, hla5⟩ := lg_good hD5 rfl (by have := HL.out; omega) (by have := HL.out; omega) (lang_self _)
              subst hM5
              have HG5 := hid (And.intro hg5 h645)
              have HLa5 := hid hla5
              clear hD5 HD5 hg5 h645 hla5 htw
              go_upto_region 17 with fail
              have HQ := hid (mAccepts_any (L : Int) nc1 ac1 Na1 Aa1 t1 bs1 A l cap _ HM1.out HW.out)
              unfold machV at HQ
              have e0 := HX1.out.c0
              have e1 := HX1.out.c1
              have e2 := HX1.out.c2
              go_wp2_with fail
              refine HQ.out.mono ?_
              rintro e wx1 ⟨hba, rfl⟩
              have HB := hid (HB.out.trans (hba.mono HB.out.size))
              have HC := hid (HC.out.below hba)
              have HW := hid (HW.out.below hba)
              have HX1 := hid (HX1.out.below hba)
              have HM1 := hid (HM1.out.below hba)
              have HX2 := hid (HX2.out.below hba)
              have HM2 := hid (HM2.out.below hba)
              have HX3 := hid (HX3.out.below hba)
              have HM3 := hid (HM3.out.below hba)
              have HX4 := hid (HX4.out.below hba)
              have HM4 := hid (HM4.out.below hba)
              have HX5 := hid (HX5.out.below hba)
              have HM5 := hid (HM5.out.below hba)
              clear hba HQ e0 e1 e2
              have HQ := hid (mAccepts_any (L : Int) nc2 ac2 Na2 Aa2 t2 bs2 A l cap _ HM2.out HW.out)
              unfold machV at HQ
              have e0 := HX2.out.c0
              have e1 := HX2.out.c1
              have e2 := HX2.out.c2
              go_wp2_with fail
              refine HQ.out.mono ?_
              rintro e wx2 ⟨hba, rfl⟩
              have HB := hid (HB.out.trans (hba.mono HB.out.size))
              have HC := hid (HC.out.below hba)
              have HW := hid (HW.out.below hba)
              have HX1 := hid (HX1.out.below hba)
              have HM1 := hid (HM1.out.below hba)
              have HX2 := hid (HX2.out.below hba)
              have HM2 := hid (HM2.out.below hba)
              have HX3 := hid (HX3.out.below hba)
              have HM3 := hid (HM3.out.below hba)
              have HX4 := hid (HX4.out.below hba)
              have HM4 := hid (HM4.out.below hba)
              have HX5 := hid (HX5.out.below hba)
              have HM5 := hid (HM5.out.below hba)
              clear hba HQ e0 e1 e2
              have HQ := hid (mAccepts_any (L : Int) nc3 ac3 Na3 Aa3 t3 bs3 A l cap _ HM3.out HW.out)
              unfold machV at HQ
              have e0 := HX3.out.c0
              have e1 := HX3.out.c1
              have e2 := HX3.out.c2
              go_wp2_with fail
              refine HQ.out.mono ?_
              rintro e wx3 ⟨hba, rfl⟩
              have HB := hid (HB.out.trans (hba.mono HB.out.size))
              have HC := hid (HC.out.below hba)
              have HW := hid (HW.out.below hba)
              have HX1 := hid (HX1.out.below hba)
              have HM1 := hid (HM1.out.below hba)
              have HX2 := hid (HX2.out.below hba)
              have HM2 := hid (HM2.out.below hba)
              have HX3 := hid (HX3.out.below hba)
              have HM3 := hid (HM3.out.below hba)
              have HX4 := hid (HX4.out.below hba)
              have HM4 := hid (HM4.out.below hba)
              have HX5 := hid (HX5.out.below hba)
              have HM5 := hid (HM5.out.below hba)
              clear hba HQ e0 e1 e2
              have HQ := hid (mAccepts_any (L : Int) nc5 ac5 Na5 Aa5 t5 bs5 A l cap _ HM5.out HW.out)
              unfold machV at HQ
              have e0 := HX5.out.c0
              have e1 := HX5.out.c1
              have e2 := HX5.out.c2
              go_wp2_with fail
              refine HQ.out.mono ?_
              rintro e wx5 ⟨hba, rfl⟩
              have HB := hid (HB.out.trans (hba.mono HB.out.size))
              have HC := hid (HC.out.below hba)
              have HW := hid (HW.out.below hba)
              have HX1 := hid (HX1.out.below hba)
              have HM1 := hid (HM1.out.below hba)
              have HX2 := hid (HX2.out.below hba)
              have HM2 := hid (HM2.out.below hba)
              have HX3 := hid (HX3.out.below hba)
              have HM3 := hid (HM3.out.below hba)
              have HX4 := hid (HX4.out.below hba)
              have HM4 := hid (HM4.out.below hba)
              have HX5 := hid (HX5.out.below hba)
              have HM5 := hid (HM5.out.below hba)
              clear hba HQ e0 e1 e2
              obtain ⟨x1, y1⟩ := acc_mlang HG1.out.1 HG1.out.2 l
              obtain ⟨x2, y2⟩ := acc_mlang HG2.out.1 HG2.out.2 l
              obtain ⟨x3, y3⟩ := acc_mlang HG3.out.1 HG3.out.2 l
              obtain ⟨x5, y5⟩ := acc_mlang HG5.out.1 HG5.out.2 l
              have HS := hid (show lE l L = 0 → accB L t5 bs5 l = ((accB L t1 bs1 l && accB L t2 bs2 l) && accB L t3 bs3 l) from fun h0 => by
                rw [y1 h0, y2 h0, y3 h0, y5 h0, HLa5.out, both_lang2, HLa4.out, both_lang2])
              have HRw := hid (fun h0 ha => rank_word HG5.out.1 HG5.out.2 l h0 ha)
              have HRd := hid (round_word HG5.out.1 HG5.out.2 l)
              have HWe := hid x5
              simp only [x1, x2, x3, x5]
              have hee : (lE l L != lE l L) = false := by simp
              have hee2 : (lE l L == lE l L) = true := by simp
              have hee3 : (!(lE l L == lE l L)) = false := by simp
              clear x1 y1 x2 y2 x3 y3 x5 y5 HLa4 HLa5
              generalize hE : lE l L = E at *
              have HE := hid hE
              clear hE
              generalize hP : accB L t1 bs1 l = P at *
              generalize hQ : accB L t2 bs2 l = Q at *
              generalize hR : accB L t3 bs3 l = R at *
              generalize hSS : accB L t5 bs5 l = S at *
              have HSS := hid hSS
              clear hP hQ hR hSS HX1 HX2 HX3 HX4 HM1 HM2 HM3 HM4 HG1 HG2 HG3 HG4
              go_upto_region 21 with fail
              obtain ⟨wv, hwv⟩ : ∃ x, x = wx5 := ⟨_, rfl⟩
              go_cut [149] from 122 to 149 (fun s149 wx => s149 = .bool false ∧ wx5 = wx)
              case first =>
                by_cases h0 : E = 0
                · have h0' : (E == 0) = true := by simp [h0]
                  have hs := HS.out h0
                  clear h0
                  subst hs
                  cases P <;> cases Q <;> cases R <;> (go_wp2_with fail; go_meet; exact ⟨rfl, rfl⟩)
                · have h0' : (E == 0) = false := by simp [h0]
                  clear h0
                  go_wp2_with fail
                  go_meet
                  case rel => exact ⟨rfl, rfl⟩
              case rest =>
              obtain ⟨rfl, rfl⟩ := hcut
              clear hwv wv
              have HQ := hid (topNumbered_any L nc5 ac5 Na5 Aa5 t5 bs5 a5 a6 wx5 HM5.out HG5.out.1 HG5.out.2 h6)
              unfold machV at HQ
              have e0 := HX5.out.c0
              have e1 := HX5.out.c1
              have e2 := HX5.out.c2
              have c5 := HC.out.c5
              have c6 := HC.out.c6
              go_wp2_with fail
              refine HQ.out.mono ?_
              rintro e wy ⟨hba, rfl⟩
              have HB := hid (HB.out.trans (hba.mono HB.out.size))
              have HC := hid (HC.out.below hba)
              have HW := hid (HW.out.below hba)
              have HX5 := hid (HX5.out.below hba)
              have HM5 := hid (HM5.out.below hba)
              clear hba HQ e0 e1 e2 c5 c6
              have hrf : Below wy.heap.size wy wy := Below.refl _ _
              obtain ⟨g, hg⟩ : ∃ g, g = (S && decide (E = 0)) := ⟨_, rfl⟩
              have HGg := hid hg
              go_upto_region 25 with fail
              go_cut [161] from 157 to 161 (fun s161 wx => s161 = .bool g ∧ wy = wx)
              case first =>
                cases S with
                | true =>
                  by_cases h0 : E = 0
                  · have h0' : (E == 0) = true := by simp [h0]
                    have HG2 := hid (show g = true by rw [hg]; simp [h0])
                    clear hg h0
                    go_wp2_with fail
                    go_meet
                    case rel => exact ⟨by rw [HG2.out], rfl⟩
                  · have h0' : (E == 0) = false := by simp [h0]
                    have HG2 := hid (show g = false by rw [hg]; simp [h0])
                    clear hg h0
                    go_wp2_with fail
                    go_meet
                    case rel => exact ⟨by rw [HG2.out], rfl⟩
                | false =>
                  have HG2 := hid (show g = false by rw [hg]; simp)
                  clear hg
                  go_wp2_with fail
                  go_meet
                  case rel => exact ⟨by rw [HG2.out], rfl⟩
              case rest =>
              clear hg
              obtain ⟨rfl, rfl⟩ := hcut
              go_upto_if 161 with fail
              go_cut [22, 23, 24, 25] from 162 (fun s22 s23 s24 s25 wx => Hid (Below wy.heap.size wy wx))
              case first =>
                have hgg := HGg.out
                cases g with
                | false =>
                  clear hgg
                  go_wp2_with fail
                  go_meet
                  case rel => exact hid hrf
                | true =>
                  obtain ⟨hS, h0⟩ : S = true ∧ E = 0 := by simpa using hgg.symm
                  obtain ⟨k1, k2, k3, k4⟩ := HRw.out h0 hS
                  have HQ := hid (mRank_any (L : Int) nc5 ac5 Na5 Aa5 t5 bs5 A l cap wy HM5.out HW.out)
                  have HU := hid (fun wx (hb : Below wy.heap.size wy wx) => mUnrank_any (L : Int) nc5 ac5 Na5 Aa5 t5 bs5 (l.length : Int) (rnkA L t5 bs5 l) wx (HM5.out.below hb) k4)
                  rw [k1] at HQ
                  rw [k2, k3] at HU
                  unfold machV at HQ HU
                  have e0 := HX5.out.c0
                  have e1 := HX5.out.c1
                  have e2 := HX5.out.c2
                  have hz : ((0 : Int) != 0) = false := by decide
                  clear hgg k1 k2 k3 k4 h0 hS
                  generalize rnkA L t5 bs5 l = rk at *
                  go_wp2_with fail
                  refine HQ.out.mono ?_
                  rintro e wz ⟨hbz, rfl⟩
                  have HZ := hid hbz
                  have e0 := (hbz.cell (cell_lt e0)).trans e0
                  have e1 := (hbz.cell (cell_lt e1)).trans e1
                  have e2 := (hbz.cell (cell_lt e2)).trans e2
                  clear hbz HQ
                  go_wp2_with fail
                  refine (HU.out wz HZ.out).mono ?_
                  rintro e wu ⟨hbu, Au, cu, rfl, hIu⟩
                  have HSi := hid (sameIntsM_any Au A l l cu cap wu hIu ((HW.out.below HZ.out).below hbu))
                  have hdt : decide (l = l) = true := decide_eq_true rfl
                  rw [hdt] at HSi
                  have HZ := hid (HZ.out.trans (hbu.mono HZ.out.size))
                  clear hbu hIu HU e0 e1 e2 hdt
                  go_wp2_with fail
                  refine HSi.out.mono ?_
                  rintro e wt ⟨⟨m7, hm7⟩, rfl⟩
                  have HZ := hid (HZ.out.trans (show Below wy.heap.size wu wt from by rw [hm7]; exact (drwT wu m7).mono HZ.out.size))
                  clear hm7 HSi
                  go_wp2_with fail
                  go_meet
                  case rel => exact HZ
              case rest =>
              have HZ := hid hcut.out
              clear hcut
              have HB := hid (HB.out.trans (HZ.out.mono HB.out.size))
              have HC := hid (HC.out.below HZ.out)
              have HW := hid (HW.out.below HZ.out)
              have HX5 := hid (HX5.out.below HZ.out)
              have HM5 := hid (HM5.out.below HZ.out)
              have HQ := hid (mRound_any (L : Int) nc5 ac5 Na5 Aa5 t5 bs5 A l cap wc HM5.out HW.out)
              rw [HWe.out] at HQ
              unfold machV at HQ
              have e0 := HX5.out.c0
              have e1 := HX5.out.c1
              have e2 := HX5.out.c2
              obtain ⟨r1, r2⟩ := HRd.out
              by_cases h0 : E = 0
              · obtain ⟨r3, r4⟩ := r2 h0
                rw [r3] at HQ
                have HTr := hid (fun (hb : rdB t5 bs5 l t5.length = true) wx (hbx : Below wc.heap.size wc wx) => topRound_any L nc5 ac5 cap Na5 Aa5 A t5 bs5 l wx (HM5.out.below hbx) HG5.out.1 HG5.out.2 (HW.out.below hbx) (HE.out.trans h0) hb)
                have HS4 := hid (fun (hb : rdB t5 bs5 l t5.length = true) => r4 hb)
                unfold machV at HTr
                clear h0 r1 r2 r3 r4 HRd
                generalize rdB t5 bs5 l t5.length = rb at *
                go_wp2_with fail
                refine HQ.out.mono ?_
                rintro e wz ⟨hbz, rfl⟩
                have HBz := hid (HB.out.trans (hbz.mono HB.out.size))
                have HZ := hid hbz
                have e0 := (hbz.cell (cell_lt e0)).trans e0
                have e1 := (hbz.cell (cell_lt e1)).trans e1
                have e2 := (hbz.cell (cell_lt e2)).trans e2
                clear hbz HQ
                cases rb with
                | false =>
                  go_wp2
                  go_ret
                  exact ⟨HBz.out, rfl⟩
                | true =>
                  have hS := HS4.out (by first | rfl | trivial)
                  subst hS
                  go_wp2_with fail
                  refine (HTr.out (by first | rfl | trivial) wz HZ.out).mono ?_
                  rintro e wq ⟨hbq, rfl⟩
                  have HBq := hid (HBz.out.trans (hbq.mono HBz.out.size))
                  clear hbq
                  go_wp2
                  go_ret
                  exact ⟨HBq.out, rfl⟩
              · rw [r1 h0] at HQ
                clear h0 r1 r2 HRd
                go_wp2_with fail
                refine HQ.out.mono ?_
                rintro e wz ⟨hbz, rfl⟩
                have HBz := hid (HB.out.trans (hbz.mono HB.out.size))
                clear hbz HQ e0 e1 e2
                go_wp2
                go_ret
                exact ⟨HBz.out, rfl⟩
            · have hz4 : (v5 != 0) = true := by rw [hv5]; decide
              have hz5 : (v5 == 4) = true := by rw [hv5]; decide
              clear hv5 htw
              go_wp2
              go_ret
              exact ⟨HB.out, rfl⟩
          · have hz4 : (v4 != 0) = true := by rw [hv4]; decide
            have hz5 : (v4 == 4) = true := by rw [hv4]; decide
            clear hv4 htw
            go_wp2
            go_ret
            exact ⟨HB.out, rfl⟩
        · have hz3 : (v3 != 0) = true := by simp [hv3]
          have hz2 : (v2 != 0) = false := by simp [hv2]
          have hz1 : (v1 != 0) = false := by simp [hv1]
          clear hv1 hv2 hv3
          go_wp2
          go_ret
          exact ⟨HB.out, rfl⟩
      · have hz2 : (v2 != 0) = true := by simp [hv2]
        have hz1 : (v1 != 0) = false := by simp [hv1]
        clear hv1 hv2
        go_wp2
        go_ret
        exact ⟨HB.out, rfl⟩
    · have hz1 : (v1 != 0) = true := by simp [hv1]
      clear hv1
      go_wp2
      go_ret
      exact ⟨HB.out, rfl⟩
end Go.Proofs.Ytkboeldafppicaa
