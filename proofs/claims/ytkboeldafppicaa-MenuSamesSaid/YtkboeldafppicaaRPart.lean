/- Part of the document; Same of both. -/
import Derived.Test.YtkboeldafppicaaWkM
import Derived.Test.YtkboeldafppicaaTwOne
import Derived.Test.YtkboeldafppicaaLgD
import Derived.Test.YtkboeldafppicaaMTwo
import Derived.Test.YtkboeldafppicaaMAcc
import Derived.Test.YtkboeldafppicaaRowsI
import Derived.Test.YtkboeldafppicaaTakeD
import Derived.Test.YtkboeldafppicaaLstS
import Derived.Deep.RegionHeld3
import Derived.Test.YtkboeldafppicaaListedT
import Derived.Laws.EntriesVeiled
import Derived.Test.YtkboeldafppicaaRWalk
import Derived.Test.YtkboeldafppicaaRPair
/- The way back in a listing is the first word of a state; two machines have the same language if and only if no listed pair parts them: mathematics. -/
set_option linter.unusedVariables false
namespace Go.Proofs.Ytkboeldafppicaa

section
variable {S : Type} [DecidableEq S]
theorem row_fst (next : S → Nat → S) (s : S) (wd : List Int) (sts : List S) (wds : List (List Int)) (hlen : wds.length = sts.length) (k : Nat) :
    (∀ (c : Nat) (x : Int), (rowTo next s sts k).2[c]? = some x → x < (rowTo next s sts k).1.length) ∧ sts.length ≤ (rowTo next s sts k).1.length ∧
    ∀ p, sts.length ≤ p → p < (rowTo next s sts k).1.length → ∃ c, c < k ∧ (rowTo next s sts k).2[c]? = some (p : Int) ∧ (∀ c' : Nat, c' < c → ∀ x : Int, (rowTo next s sts k).2[c']? = some x → x < p) ∧ (wRow next s wd sts wds k)[p]? = some (wd ++ [(c : Int)]) := by
  induction k with
  | zero => exact ⟨fun c x h => by simp [rowTo] at h, Nat.le_refl _, fun p h1 h2 => by simp [rowTo] at h2; omega⟩
  | succ k ih =>
    obtain ⟨i1, i2, i3⟩ := ih
    have hl := rowTo_len next s sts k
    obtain ⟨r1, r2⟩ := row_step next s wd sts wds k
    by_cases hm : next s k ∈ (rowTo next s sts k).1
    · obtain ⟨j, hj1, hj2, he⟩ := rowTo_had next s sts k hm
      obtain ⟨_, hw⟩ := r1 hm
      rw [he, hw]
      refine ⟨fun c x h => ?_, i2, fun p h1 h2 => ?_⟩
      · dsimp only at h ⊢
        by_cases hc : c < (rowTo next s sts k).2.length
        · rw [List.getElem?_append_left hc] at h; exact i1 c x h
        · rw [List.getElem?_append_right (by omega)] at h
          cases hcc : c - (rowTo next s sts k).2.length with
          | zero => rw [hcc] at h; simp at h; omega
          | succ q => rw [hcc] at h; simp at h
      · obtain ⟨c, g1, g2, g3, g4⟩ := i3 p h1 h2
        dsimp only
        refine ⟨c, by omega, ?_, fun c' hc' x hx => ?_, g4⟩
        · rw [List.getElem?_append_left (by omega)]; exact g2
        · rw [List.getElem?_append_left (by omega)] at hx; exact g3 c' hc' x hx
    · obtain ⟨_, hw⟩ := r2 hm
      rw [rowTo_new next s sts k hm, hw]
      have hwl := wRow_len next s wd sts wds hlen k
      refine ⟨fun c x h => ?_, by simp; omega, fun p h1 h2 => ?_⟩
      · dsimp only at h ⊢
        rw [List.length_append]
        by_cases hc : c < (rowTo next s sts k).2.length
        · rw [List.getElem?_append_left hc] at h; have := i1 c x h; simp; omega
        · rw [List.getElem?_append_right (by omega)] at h
          cases hcc : c - (rowTo next s sts k).2.length with
          | zero => rw [hcc] at h; simp at h; simp; omega
          | succ q => rw [hcc] at h; simp at h
      · dsimp only at h2 ⊢
        rw [List.length_append] at h2
        by_cases hp : p < (rowTo next s sts k).1.length
        · obtain ⟨c, g1, g2, g3, g4⟩ := i3 p h1 hp
          refine ⟨c, by omega, ?_, fun c' hc' x hx => ?_, ?_⟩
          · rw [List.getElem?_append_left (by omega)]; exact g2
          · rw [List.getElem?_append_left (by omega)] at hx; exact g3 c' hc' x hx
          · rw [List.getElem?_append_left (by omega)]; exact g4
        · have hpe : p = (rowTo next s sts k).1.length := by simp at h2; omega
          subst hpe
          refine ⟨k, by omega, ?_, fun c' hc' x hx => ?_, ?_⟩
          · rw [List.getElem?_append_right (by omega), hl]; simp
          · rw [List.getElem?_append_left (by omega)] at hx; exact i1 c' x hx
          · rw [List.getElem?_append_right (by omega), hwl]; simp
/-- The state p is first met behind the letter c of the state q, and its word is that of q and c. -/
def FstW (rows : List (List Int)) (wds : List (List Int)) (p q c : Nat) : Prop :=
  q < p ∧ (∃ r, rows[q]? = some r ∧ r[c]? = some (p : Int) ∧ ∀ c', c' < c → ∀ x, r[c']? = some x → x ≠ p) ∧ (∀ q', q' < q → ∀ r, rows[q']? = some r → (p : Int) ∉ r) ∧ wds[p]? = some ((wds[q]?.getD []) ++ [(c : Int)])
theorem list_fst (L : Nat) (next : S → Nat → S) (acc : S → Bool) (s0 : S) (i : Nat) (hf : ∀ j, j < i → j < (listTo L next acc s0 j).1.length) :
    (∀ r ∈ (listTo L next acc s0 i).2.1, ∀ x ∈ r, x < (listTo L next acc s0 i).1.length) ∧ 0 < (listTo L next acc s0 i).1.length ∧
    ∀ p, 1 ≤ p → p < (listTo L next acc s0 i).1.length → ∃ q c, q < i ∧ FstW (listTo L next acc s0 i).2.1 (wTo L next acc s0 i) p q c := by
  induction i with
  | zero => exact ⟨fun r hr => by simp [listTo] at hr, by simp [listTo], fun p h1 h2 => by simp [listTo] at h2; omega⟩
  | succ i ih =>
    obtain ⟨i1, i2, i3⟩ := ih (fun j hj => hf j (by omega))
    have hi := hf i (by omega)
    have hwl := wTo_len L next acc s0 i
    obtain ⟨hl1, hl2⟩ := listTo_len L next acc s0 i
    obtain ⟨f1, f2, f3⟩ := row_fst next ((listTo L next acc s0 i).1[i]?.getD s0) ((wTo L next acc s0 i)[i]?.getD []) (listTo L next acc s0 i).1 (wTo L next acc s0 i) hwl L
    have hpre := wRow_pre next ((listTo L next acc s0 i).1[i]?.getD s0) ((wTo L next acc s0 i)[i]?.getD []) (listTo L next acc s0 i).1 (wTo L next acc s0 i) L
    have hget : ∀ j u, (wTo L next acc s0 i)[j]? = some u → (wTo L next acc s0 (i + 1))[j]? = some u := fun j u h => by
      rw [wTo]; exact pre_get hpre h
    have hgd : ∀ j, j < (listTo L next acc s0 i).1.length → (wTo L next acc s0 (i + 1))[j]?.getD [] = (wTo L next acc s0 i)[j]?.getD [] := fun j hj => by
      have hj' : j < (wTo L next acc s0 i).length := by omega
      have h1 := hget j _ (List.getElem?_eq_getElem hj')
      rw [h1, List.getElem?_eq_getElem hj']
    rw [listTo]
    dsimp only
    refine ⟨fun r hr x hx => ?_, by omega, fun p h1 h2 => ?_⟩
    · rcases List.mem_append.1 hr with hr | hr
      · have := i1 r hr x hx; omega
      · simp at hr; subst hr
        obtain ⟨c, hc⟩ := List.getElem?_of_mem hx
        exact f1 c x hc
    · by_cases hp : p < (listTo L next acc s0 i).1.length
      · obtain ⟨q, c, g0, g1, ⟨r, g2, g3, g4⟩, g5, g6⟩ := i3 p h1 hp
        refine ⟨q, c, by omega, g1, ⟨r, ?_, g3, g4⟩, fun q' hq' r' hr' => ?_, ?_⟩
        · rw [List.getElem?_append_left (by omega)]; exact g2
        · rw [List.getElem?_append_left (by omega)] at hr'; exact g5 q' hq' r' hr'
        · rw [hget p _ g6, hgd q (by omega)]
      · obtain ⟨c, g1, g2, g3, g4⟩ := f3 p (by omega) h2
        refine ⟨i, c, by omega, by omega, ⟨_, ?_, g2, fun c' hc' x hx => by have := g3 c' hc' x hx; omega⟩, fun q' hq' r' hr' hm => ?_, ?_⟩
        · rw [List.getElem?_append_right (by omega), hl1]; simp
        · rw [List.getElem?_append_left (by omega)] at hr'
          have := i1 r' (List.mem_of_getElem? hr') _ hm
          omega
        · rw [hgd i hi]
          rw [wTo]; exact g4
theorem wTo_zero (L : Nat) (next : S → Nat → S) (acc : S → Bool) (s0 : S) (i : Nat) : (wTo L next acc s0 i)[0]? = some [] := by
  induction i with
  | zero => rfl
  | succ i ih => rw [wTo]; exact pre_get (wRow_pre _ _ _ _ _ _) ih
end
theorem one_lang (L : Nat) (ra rb : List (List Int)) (aa ab : List Bool) (w : List Nat) : langOf L (tw ra rb) (oneA aa ab) (0, 0) w = (mLang L ra aa 0 w != mLang L rb ab 0 w) := by
  have hf : ∀ (w : List Nat) (i j : Nat), w.foldl (tw ra rb) ((i : Int), (j : Int)) = (((w.foldl (mN ra) i : Nat) : Int), ((w.foldl (mN rb) j : Nat) : Int)) := by
    intro w
    induction w with
    | nil => intro i j; rfl
    | cons c t ih => intro i j; exact ih _ _
  by_cases hw : Wd L w
  · unfold mLang
    rw [langOf_in hw, langOf_in hw, langOf_in hw]
    have := hf w 0 0
    rw [show ((0 : Int), (0 : Int)) = (((0 : Nat) : Int), ((0 : Nat) : Int)) from rfl, this]
    simp [oneA]
  · unfold mLang
    rw [langOf_out hw, langOf_out hw, langOf_out hw]; rfl
/-- No listed pair parts two machines if and only if their languages are equal. -/
theorem part_lang {L : Nat} {ra rb : List (List Int)} {aa ab : List Bool} {i : Nat} (hF : Full L (tw ra rb) (oneA aa ab) (0, 0) i) :
    (∀ b ∈ (listTo L (tw ra rb) (oneA aa ab) (0, 0) i).2.2, b = false) ↔ mLang L ra aa 0 = mLang L rb ab 0 := by
  obtain ⟨h1, h2⟩ := hF
  have hg := listTo_get L (tw ra rb) (oneA aa ab) (0, 0) i h2
  have hl := (listTo_len L (tw ra rb) (oneA aa ab) (0, 0) i).2
  constructor
  · intro h
    funext w
    have ho := one_lang L ra rb aa ab w
    have hz : langOf L (tw ra rb) (oneA aa ab) (0, 0) w = false := by
      by_cases hw : Wd L w
      · rw [langOf_in hw]
        have hr := full_reach h1 h2 w hw
        obtain ⟨j, hj⟩ := List.getElem?_of_mem hr
        have hji : j < i := by rw [h1]; exact (List.getElem?_eq_some_iff.1 hj).1
        obtain ⟨s, r, g1, g2, g3, _⟩ := hg j hji
        rw [hj] at g1
        injection g1 with g1
        rw [g1]
        exact h _ (List.mem_of_getElem? g3)
      · exact langOf_out hw
    rw [hz] at ho
    simpa using ho.symm
  · intro h b hb
    obtain ⟨j, hj⟩ := List.getElem?_of_mem hb
    have hji : j < i := by rw [← hl]; exact (List.getElem?_eq_some_iff.1 hj).1
    obtain ⟨s, r, g1, g2, g3, _⟩ := hg j hji
    rw [hj] at g3
    injection g3 with g3
    obtain ⟨w, hw, hws⟩ := listTo_reached L (tw ra rb) (oneA aa ab) (0, 0) i s (List.mem_of_getElem? g1)
    have ho := one_lang L ra rb aa ab w
    rw [h, langOf_in hw, hws] at ho
    rw [g3]
    simpa using ho
end Go.Proofs.Ytkboeldafppicaa
/- slices.Index, slices.Contains, slices.IndexFunc as Part of the program calls them, and its closures. -/
set_option linter.unusedVariables false
set_option linter.unusedSimpArgs false
namespace Go.Proofs.Ytkboeldafppicaa
open Go.RowKit Go.Maps

theorem drw (w : World) (n : Nat) : Below w.heap.size w (w.drewN n) := ⟨(Below.refl w.heap.size w).os, (Below.refl w.heap.size w).tape, (Below.refl w.heap.size w).output, (Below.refl w.heap.size w).size, (Below.refl w.heap.size w).block⟩
/-- The first place of a list where something holds, or -1. -/
def FirstAt {α : Type} (pr : α → Prop) (l : List α) (v : Int) : Prop := (∃ (k : Nat) (x : α), v = k ∧ l[k]? = some x ∧ pr x ∧ ∀ j, j < k → ∀ y, l[j]? = some y → ¬ pr y) ∨ (v = -1 ∧ ∀ (j : Nat) (y : α), l[j]? = some y → ¬ pr y)
theorem FirstAt.unique {α : Type} {pr : α → Prop} {l : List α} {v v' : Int} (h : FirstAt pr l v) (h' : FirstAt pr l v') : v' = v := by
  rcases h with ⟨k, x, rfl, h1, h2, h3⟩ | ⟨rfl, h1⟩ <;> rcases h' with ⟨k', x', rfl, g1, g2, g3⟩ | ⟨rfl, g1⟩
  · rcases Nat.lt_trichotomy k k' with q | q | q
    · exact absurd h2 (g3 k q x h1)
    · rw [q]
    · exact absurd g2 (h3 k' q x' g1)
  · exact absurd h2 (g1 k x h1)
  · exact absurd g2 (h1 k' x' g1)
  · rfl
set_option maxRecDepth 100000 in
set_option maxHeartbeats 1000000 in
theorem idxInts_any (A : Option Addr) (l : List Int) (cap : Nat) (x : Int) (w : World) (h : Ints w A l) : Calls Try.prog 84 #[.slice A l.length cap, .int .i64 x] w fun e w' => w' = w ∧ ∃ v, FirstAt (fun y => y = x) l v ∧ e = .returned (.int .i64 v) := by
  have hl := h.len
  have HI := hid h
  clear h
  go_enter Try.func84, Try.ntmps84
  go_wp2
  go_loopw [5, 8] (fun _ i wr => ∃ (k : Nat), k ≤ l.length ∧ i = .int .i64 (k : Int) ∧ Hid (∀ j, j < k → ∀ y, l[j]? = some y → ¬ y = x) ∧ Hid (wr = w)) (fun _ i _ => l.length - (intOf i).toNat)
  case atStart => exact ⟨0, Nat.zero_le _, rfl, fun j hj => by omega, rfl⟩
  case round =>
    obtain ⟨k, hk, rfl, HN, HW⟩ := hrel
    by_cases hlt : k < l.length
    · have hlt1 : (k : Int) < (l.length : Int) := by omega
      have hk0 : (0 : Int) ≤ (k : Int) := by omega
      rcases HI.out.at_ with e | ⟨b, o, hA, hc⟩
      · rw [e] at hlt; simp at hlt
      have c0 : wr.cell? ⟨b, o + k, none⟩ = some (.int .i64 (l[k]?.getD 0)) := by rw [HW.out]; exact hc k hlt
      have hlk : l[k]? = some (l[k]?.getD 0) := by rw [List.getElem?_eq_getElem hlt]; rfl
      have HLk := hid hlk
      subst hA
      clear hc
      generalize l[k]?.getD 0 = y at *
      clear hlk
      by_cases hq : x = y
      · have hq1 : (x == y) = true := by simp [hq]
        have HF := hid (show FirstAt (fun y => y = x) l (k : Int) from .inl ⟨k, y, rfl, HLk.out, hq.symm, HN.out⟩)
        clear hq HN
        go_wp2
        go_ret
        exact ⟨HW.out, _, HF.out, rfl⟩
      · have hq1 : (x == y) = false := by simp [hq]
        have HN2 := hid (show ∀ j, j < k + 1 → ∀ y, l[j]? = some y → ¬ y = x from fun j hj z hz => by
          by_cases e : j = k
          · rw [e, HLk.out] at hz; injection hz with hz; rw [← hz]; exact fun hh => hq hh.symm
          · exact HN.out j (by omega) z hz)
        clear hq HN
        go_wp2
        go_roundw
        case rel => exact ⟨k + 1, by omega, by go_num, HN2.out, HW.out⟩
        case measure => simp [intOf]; omega
    · have hlt1 : ¬ (k : Int) < (l.length : Int) := by omega
      have HF := hid (show FirstAt (fun y => y = x) l (-1) from .inr ⟨rfl, fun j y hy => HN.out j (by have := (List.getElem?_eq_some_iff.1 hy).1; omega) y hy⟩)
      clear HN
      go_wp2
      go_ret
      exact ⟨HW.out, _, HF.out, rfl⟩
set_option maxRecDepth 100000 in
set_option maxHeartbeats 1000000 in
theorem idxTrue_any (A : Option Addr) (l : List Bool) (cap : Nat) (w : World) (hl : l.length ≤ 140737488355328) (h : l = [] ∨ ∃ b o, A = some ⟨b, o, none⟩ ∧ ∀ k, k < l.length → w.cell? ⟨b, o + k, none⟩ = some (.bool (l[k]?.getD false))) : Calls Try.prog 79 #[.slice A l.length cap, .bool true] w fun e w' => w' = w ∧ ∃ v, FirstAt (fun y => y = true) l v ∧ e = .returned (.int .i64 v) := by
  have HI := hid h
  clear h
  go_enter Try.func79, Try.ntmps79
  go_wp2
  go_loopw [5, 8] (fun _ i wr => ∃ (k : Nat), k ≤ l.length ∧ i = .int .i64 (k : Int) ∧ Hid (∀ j, j < k → ∀ y, l[j]? = some y → ¬ y = true) ∧ Hid (wr = w)) (fun _ i _ => l.length - (intOf i).toNat)
  case atStart => exact ⟨0, Nat.zero_le _, rfl, fun j hj => by omega, rfl⟩
  case round =>
    obtain ⟨k, hk, rfl, HN, HW⟩ := hrel
    by_cases hlt : k < l.length
    · have hlt1 : (k : Int) < (l.length : Int) := by omega
      have hk0 : (0 : Int) ≤ (k : Int) := by omega
      rcases HI.out with e | ⟨b, o, hA, hc⟩
      · rw [e] at hlt; simp at hlt
      have c0 : wr.cell? ⟨b, o + k, none⟩ = some (.bool (l[k]?.getD false)) := by rw [HW.out]; exact hc k hlt
      have hlk : l[k]? = some (l[k]?.getD false) := by rw [List.getElem?_eq_getElem hlt]; rfl
      have HLk := hid hlk
      subst hA
      clear hc
      generalize l[k]?.getD false = y at *
      clear hlk
      cases y with
      | true =>
        have HF := hid (show FirstAt (fun y => y = true) l (k : Int) from .inl ⟨k, true, rfl, HLk.out, rfl, HN.out⟩)
        clear HN
        go_wp2
        go_ret
        exact ⟨HW.out, _, HF.out, rfl⟩
      | false =>
        have HN2 := hid (show ∀ j, j < k + 1 → ∀ y, l[j]? = some y → ¬ y = true from fun j hj z hz => by
          by_cases e : j = k
          · rw [e, HLk.out] at hz; injection hz with hz; rw [← hz]; simp
          · exact HN.out j (by omega) z hz)
        clear HN
        go_wp2
        go_roundw
        case rel => exact ⟨k + 1, by omega, by go_num, HN2.out, HW.out⟩
        case measure => simp [intOf]; omega
    · have hlt1 : ¬ (k : Int) < (l.length : Int) := by omega
      have HF := hid (show FirstAt (fun y => y = true) l (-1) from .inr ⟨rfl, fun j y hy => HN.out j (by have := (List.getElem?_eq_some_iff.1 hy).1; omega) y hy⟩)
      clear HN
      go_wp2
      go_ret
      exact ⟨HW.out, _, HF.out, rfl⟩
set_option maxRecDepth 100000 in
set_option maxHeartbeats 1000000 in
theorem contInts_any (A : Option Addr) (l : List Int) (cap : Nat) (x : Int) (w : World) (h : Ints w A l) : Calls Try.prog 83 #[.slice A l.length cap, .int .i64 x] w fun e w' => w' = w ∧ e = .returned (.bool (decide (x ∈ l))) := by
  obtain ⟨R, hR⟩ : ∃ R, R = decide (x ∈ l) := ⟨_, rfl⟩
  rw [← hR]
  have HR := hid hR
  clear hR
  have HI := hid (idxInts_any A l cap x w h)
  clear h
  go_enter Try.func83, Try.ntmps83
  go_wp2_with fail
  refine HI.out.mono ?_
  rintro e w1 ⟨rfl, v, hF, rfl⟩
  rcases hF with ⟨k, y, rfl, h1, rfl, h3⟩ | ⟨rfl, h1⟩
  · have hk0 : (k : Int) ≥ 0 := by omega
    have HT := hid (show R = true by rw [HR.out]; exact decide_eq_true (List.mem_of_getElem? h1))
    clear h1 h3
    go_wp2
    go_ret
    exact ⟨rfl, by rw [HT.out]; rfl⟩
  · have HT := hid (show R = false by rw [HR.out]; exact decide_eq_false (fun hm => by obtain ⟨j, hj⟩ := List.getElem?_of_mem hm; exact h1 j x hj rfl))
    clear h1
    go_wp2
    go_ret
    exact ⟨rfl, by rw [HT.out]; rfl⟩
set_option maxRecDepth 100000 in
set_option maxHeartbeats 1000000 in
theorem partHas_any (A : Option Addr) (l : List Int) (cap p : Nat) (x : Int) (w : World) (h : Ints w A l) (hp : w.cell? ⟨p, 0, none⟩ = some (.int .i64 x)) : Calls Try.prog 82 #[.slice A l.length cap, .pointer (some ⟨p, 0, none⟩)] w fun e w' => w' = w ∧ e = .returned (.bool (decide (x ∈ l))) := by
  have HI := hid (contInts_any A l cap x w h)
  have hl := h.len
  clear h
  generalize decide (x ∈ l) = R at *
  go_enter Try.func82, Try.ntmps82
  go_wp2_with fail
  refine HI.out.mono ?_
  rintro e w1 ⟨rfl, rfl⟩
  go_wp2
  go_ret
  exact ⟨rfl, rfl⟩
theorem egPt : ∀ args (w : World), (callFunc 82 args).run Try.prog w = .ok (.enter 82 args) w := fun _ _ => by kernel_rfl
set_option maxRecDepth 100000 in
set_option maxHeartbeats 1000000 in
theorem idxRows_any (Na Aa : Option Addr) (rows : List (List Int)) (accs : List Bool) (cap p : Nat) (x : Int) (w : World) (h : MachAt w Na rows Aa accs) (hp : w.cell? ⟨p, 0, none⟩ = some (.int .i64 x)) : Calls Try.prog 81 #[.slice Na rows.length cap, .func (.func 82) #[] #[.pointer (some ⟨p, 0, none⟩)]] w fun e w' => w' = w ∧ ∃ v, FirstAt (fun r => x ∈ r) rows v ∧ e = .returned (.int .i64 v) := by
  have hl := h.nlen
  have HI := hid h
  have HP := hid hp
  have EG := egPt
  clear h hp
  go_enter Try.func81, Try.ntmps81
  go_wp2
  go_loopw [5, 8] (fun _ i wr => ∃ (k : Nat), k ≤ rows.length ∧ i = .int .i64 (k : Int) ∧ Hid (∀ j, j < k → ∀ y, rows[j]? = some y → ¬ x ∈ y) ∧ Hid (wr = w)) (fun _ i _ => rows.length - (intOf i).toNat)
  case atStart => exact ⟨0, Nat.zero_le _, rfl, fun j hj => by omega, rfl⟩
  case round =>
    obtain ⟨k, hk, rfl, HN, HW⟩ := hrel
    by_cases hlt : k < rows.length
    · have hlt1 : (k : Int) < (rows.length : Int) := by omega
      have hk0 : (0 : Int) ≤ (k : Int) := by omega
      rcases HI.out.nat_ with e | ⟨b, o, hA, hc⟩
      · rw [e] at hlt; simp at hlt
      obtain ⟨A, c, g1, g2⟩ := hc k hlt
      have c0 : wr.cell? ⟨b, o + k, none⟩ = some (.slice A (rows[k]?.getD []).length c) := by rw [HW.out]; exact g1
      have HC := hid (partHas_any A (rows[k]?.getD []) c p x wr (by rw [HW.out]; exact g2) (by rw [HW.out]; exact HP.out))
      have hlk : rows[k]? = some (rows[k]?.getD []) := by rw [List.getElem?_eq_getElem hlt]; rfl
      have HLk := hid hlk
      subst hA
      clear hc g1 g2
      generalize rows[k]?.getD [] = y at *
      clear hlk
      by_cases hq : x ∈ y
      · have HF := hid (show FirstAt (fun r => x ∈ r) rows (k : Int) from .inl ⟨k, y, rfl, HLk.out, hq, HN.out⟩)
        have hd : decide (x ∈ y) = true := decide_eq_true hq
        rw [hd] at HC
        clear hq HN hd
        go_wp2_with fail
        refine HC.out.mono ?_
        rintro e w1 ⟨rfl, rfl⟩
        go_wp2
        go_ret
        exact ⟨HW.out, _, HF.out, rfl⟩
      · have HN2 := hid (show ∀ j, j < k + 1 → ∀ y, rows[j]? = some y → ¬ x ∈ y from fun j hj z hz => by
          by_cases e : j = k
          · rw [e, HLk.out] at hz; injection hz with hz; rw [← hz]; exact hq
          · exact HN.out j (by omega) z hz)
        have hd : decide (x ∈ y) = false := decide_eq_false hq
        rw [hd] at HC
        clear hq HN hd
        go_wp2_with fail
        refine HC.out.mono ?_
        rintro e w1 ⟨rfl, rfl⟩
        go_wp2
        go_roundw
        case rel => exact ⟨k + 1, by omega, by go_num, HN2.out, HW.out⟩
        case measure => simp [intOf]; omega
    · have hlt1 : ¬ (k : Int) < (rows.length : Int) := by omega
      have HF := hid (show FirstAt (fun r => x ∈ r) rows (-1) from .inr ⟨rfl, fun j y hy => HN.out j (by have := (List.getElem?_eq_some_iff.1 hy).1; omega) y hy⟩)
      clear HN
      go_wp2
      go_ret
      exact ⟨HW.out, _, HF.out, rfl⟩
end Go.Proofs.Ytkboeldafppicaa
/- The way back of Part: the closure that calls itself answers the first word of a state. -/
set_option linter.unusedVariables false
set_option linter.unusedSimpArgs false
namespace Go.Proofs.Ytkboeldafppicaa
open Go.RowKit Go.Maps

theorem egPw : ∀ args (w : World), (callFunc 80 args).run Try.prog w = .ok (.enter 80 args) w := fun _ _ => by kernel_rfl
set_option maxRecDepth 100000 in
set_option maxHeartbeats 8000000 in
theorem partWord_any (L : Nat) (rows : List (List Int)) (accs : List Bool) (wds : List (List Int)) (Na Aa : Option Addr) (nc ac p9 p11 : Nat) (hL : L ≤ 6) (hR : ∀ (q : Nat) (r : List Int), rows[q]? = some r → r.length = L) (hn5 : rows.length ≤ 5000)
    (hF : ∀ p, 1 ≤ p → p < rows.length → ∃ q c, q < rows.length ∧ FstW rows wds p q c) (hz : wds[0]? = some []) (hw : ∀ u ∈ wds, u.length ≤ 5000) :
    ∀ (p : Nat), p < rows.length → ∀ (w : World), MachAt w Na rows Aa accs → w.cell? ⟨p11, 0, none⟩ = some (.func (.func 80) #[] #[.pointer (some ⟨p9, 0, none⟩), .pointer (some ⟨p11, 0, none⟩)]) → w.cell? ⟨p9, 1, none⟩ = some (.slice Na rows.length nc) →
    Calls Try.prog 80 #[.int .i64 (p : Int), .pointer (some ⟨p9, 0, none⟩), .pointer (some ⟨p11, 0, none⟩)] w fun e w' => Below w.heap.size w w' ∧ ∃ A c, Own w' w.heap.size (.slice A (wds[p]?.getD []).length c) (wds[p]?.getD []) ∧ e = .returned (.slice A (wds[p]?.getD []).length c) := by
  obtain ⟨i0, hinf, hz0, hz1, hz2⟩ := info_parts int_info
  intro p
  induction p using Nat.strongRecOn with
  | _ p ih =>
  intro hp w h hp11 hp91
  have hA : Below w.heap.size w (w.alloc (.cells #[.int .i64 (p : Int)] 3)) := (Below.refl _ _).alloc (Nat.le_refl _) _
  have hpb : (w.alloc (.cells #[.int .i64 (p : Int)] 3)).cell? ⟨w.heap.size, 0, none⟩ = some (.int .i64 (p : Int)) := by go_simp
  have k11 := (hA.cell (cell_lt hp11)).trans hp11
  have k91 := (hA.cell (cell_lt hp91)).trans hp91
  by_cases h0 : p = 0
  · subst h0
    have HA := hid hA
    rw [hz]
    clear h hp11 hp91 k11 k91 hA hpb ih
    go_enter Try.func80, Try.ntmps80
    go_wp2
    go_ret
    exact ⟨HA.out, none, 0, Own.nil _ _, rfl⟩
  · obtain ⟨q, c, hq, hqp, ⟨r, hr, hrc, hrf⟩, hbef, hwd⟩ := hF p (by omega) hp
    have hpne : ((p : Int) == 0) = false := by rw [beq_eq_false_iff_ne]; omega
    have hwq : wds[p]?.getD [] = (wds[q]?.getD []) ++ [(c : Int)] := by rw [hwd]; rfl
    have hwl : ((wds[q]?.getD []) ++ [(c : Int)]).length ≤ 5000 := hw _ (List.mem_of_getElem? hwd)
    rw [hwq]
    have HIF := hid (idxRows_any Na Aa rows accs nc w.heap.size (p : Int) _ (h.below hA) hpb)
    have HFq := hid (show FirstAt (fun r => (p : Int) ∈ r) rows (q : Int) from .inl ⟨q, r, rfl, hr, List.mem_of_getElem? hrc, fun j hj y hy => hbef j hj y hy⟩)
    have HFc := hid (show FirstAt (fun y => y = (p : Int)) r (c : Int) from .inl ⟨c, _, rfl, hrc, rfl, fun j hj y hy => hrf j hj y hy⟩)
    have HIH := hid (fun wx (hb : Below (w.alloc (.cells #[.int .i64 (p : Int)] 3)).heap.size (w.alloc (.cells #[.int .i64 (p : Int)] 3)) wx) => ih q hqp hq wx ((h.below hA).below hb) ((hb.cell (cell_lt k11)).trans k11) ((hb.cell (cell_lt k91)).trans k91))
    have hrl : r.length ≤ 140737488355328 := by have := hR q r hr; omega
    have HM := hid (h.below hA)
    have HA := hid hA
    rcases HM.out.nat_ with e | ⟨bN, oN, hNa, hrows⟩
    · rw [e] at hp; simp at hp
    obtain ⟨rA, rc, g1, g2⟩ := hrows q hq
    have hrr : rows[q]?.getD [] = r := by rw [hr]; rfl
    rw [hrr] at g1 g2
    have HIx := hid (fun wx (hb : Below (w.alloc (.cells #[.int .i64 (p : Int)] 3)).heap.size (w.alloc (.cells #[.int .i64 (p : Int)] 3)) wx) => (idxInts_any rA r rc (p : Int) wx (g2.below hb)).mono (R' := fun e w' => w' = wx ∧ e = .returned (.int .i64 (c : Int))) (by
      rintro e w' ⟨rfl, v, hv, rfl⟩
      exact ⟨rfl, by rw [HFc.out.unique hv]⟩))
    have hq0 : (0 : Int) ≤ (q : Int) := by omega
    have hq1 : (q : Int) < (rows.length : Int) := by omega
    generalize wds[q]?.getD [] = wd at *
    clear hbef hwd hrf hrc h ih hF hz hw hp91 hp11 g2 hrows hrr hr hwq hA h0 HFc
    have hwl2 : wd.length ≤ 5000 := by rw [List.length_append] at hwl; omega
    have hsz0 : (w.alloc (.cells #[.int .i64 (p : Int)] 3)).heap.size = w.heap.size + 1 := by simp
    clear hwl
    go_enter Try.func80, Try.ntmps80
    subst hNa
    go_wp2_with fail
    refine HIF.out.mono ?_
    rintro e w1 ⟨rfl, v, hv, rfl⟩
    obtain rfl := HFq.out.unique hv
    clear HIF hv HFq
    have EG := egPw
    go_upto_region 4 with (fail)
    generalize (w.alloc (.cells #[.int .i64 (p : Int)] 3)) = w0 at *
    have hr0 : Below w0.heap.size w0 w0 := Below.refl _ _
    have HKp := hid (fun w' (hb : Below w0.heap.size w0 w') => (show w'.cell? ⟨p11, 0, none⟩ = some (.func (.func 80) #[] #[.pointer (some ⟨p9, 0, none⟩), .pointer (some ⟨p11, 0, none⟩)]) ∧ w'.cell? ⟨p9, 1, none⟩ = some (.slice (some ⟨bN, oN, none⟩) rows.length nc) ∧ w'.cell? ⟨bN, oN + q, none⟩ = some (.slice rA r.length rc) ∧ w'.cell? ⟨w.heap.size, 0, none⟩ = some (.int .i64 (p : Int)) from ⟨(hb.cell (cell_lt k11)).trans k11, (hb.cell (cell_lt k91)).trans k91, (hb.cell (cell_lt g1)).trans g1, (hb.cell (cell_lt hpb)).trans hpb⟩))
    have l11 := cell_lt k11
    have l91 := cell_lt k91
    have lg1 := cell_lt g1
    have lpb := cell_lt hpb
    have HKg := hid (fun wx w' (row : Option Nat) (hb : Below w0.heap.size w0 wx) (hg : wx.grownBy w' row) (hne : ∀ g, row = some g → w0.heap.size ≤ g) => (show w'.cell? ⟨p11, 0, none⟩ = some (.func (.func 80) #[] #[.pointer (some ⟨p9, 0, none⟩), .pointer (some ⟨p11, 0, none⟩)]) ∧ w'.cell? ⟨p9, 1, none⟩ = some (.slice (some ⟨bN, oN, none⟩) rows.length nc) ∧ w'.cell? ⟨bN, oN + q, none⟩ = some (.slice rA r.length rc) ∧ w'.cell? ⟨w.heap.size, 0, none⟩ = some (.int .i64 (p : Int)) from by
      obtain ⟨a1, a2, a3, a4⟩ := HKp.out wx hb
      have hh : ∀ b : Nat, b < w0.heap.size → row ≠ some b := fun b hb e => by have := hne b e; omega
      exact ⟨(grown_cell hg (cell_lt a1) (hh _ l11)).trans a1, (grown_cell hg (cell_lt a2) (hh _ l91)).trans a2, (grown_cell hg (cell_lt a3) (hh _ lg1)).trans a3, (grown_cell hg (cell_lt a4) (hh _ lpb)).trans a4⟩))
    clear k11 k91 g1 hpb
    refine wp_region_held_drew (S := (fun w' => w'.cell? ⟨p11, 0, none⟩ = some (.func (.func 80) #[] #[.pointer (some ⟨p9, 0, none⟩), .pointer (some ⟨p11, 0, none⟩)]) ∧ w'.cell? ⟨p9, 1, none⟩ = some (.slice (some ⟨bN, oN, none⟩) rows.length nc) ∧ w'.cell? ⟨bN, oN + q, none⟩ = some (.slice rA r.length rc) ∧ w'.cell? ⟨w.heap.size, 0, none⟩ = some (.int .i64 (p : Int)))) (by kernel_rfl) (HKp.out _ hr0.drew) (fun hHeld => ?_)
    refine take_d (i := 0) (d := some 12) (v := ?_) rfl rfl (by kernel_rfl) (by kernel_rfl) (by kernel_rfl) (fun _ _ _ h => h) (Or.inl ⟨by first | rfl | (simp [*, Region.wanted, yielded]), ?hyp1⟩) (by assumption) ?restp1
    case hyp1 => (intro w hSw; (try dsimp only at hSw); go_simp <;> with_reducible rfl)
    try simp only [Act.put, List.setIfInBounds_toArray, List.set_cons_zero, List.set_cons_succ]
    refine take_d (i := 1) (d := some 13) (v := ?_) rfl rfl (by kernel_rfl) (by kernel_rfl) (by kernel_rfl) (fun _ _ _ h => h) (Or.inl ⟨by first | rfl | (simp [*, Region.wanted, yielded]), ?hyp2⟩) (by assumption) ?restp2
    case hyp2 => (intro w hSw; (try dsimp only at hSw); go_simp <;> with_reducible rfl)
    try simp only [Act.put, List.setIfInBounds_toArray, List.set_cons_zero, List.set_cons_succ]
    refine take_d (i := 3) (d := some 15) (v := ?_) rfl rfl (by kernel_rfl) (by kernel_rfl) (by kernel_rfl) (fun _ _ _ h => h) (Or.inl ⟨by first | rfl | (simp [*, Region.wanted, yielded]), ?hyp3⟩) (by assumption) ?restp3
    case hyp3 => (intro w hSw; (try dsimp only at hSw); go_simp <;> with_reducible rfl)
    try simp only [Act.put, List.setIfInBounds_toArray, List.set_cons_zero, List.set_cons_succ]
    refine take_d (i := 4) (d := some 16) (v := ?_) rfl rfl (by kernel_rfl) (by kernel_rfl) (by kernel_rfl) (fun _ _ _ h => h) (Or.inl ⟨by first | rfl | (simp [*, Region.wanted, yielded]), ?hyp4⟩) (by assumption) ?restp4
    case hyp4 => (intro w hSw; (try dsimp only at hSw); go_simp <;> with_reducible rfl)
    try simp only [Act.put, List.setIfInBounds_toArray, List.set_cons_zero, List.set_cons_succ]
    refine take_d (i := 5) (d := some 17) (v := ?_) rfl rfl (by kernel_rfl) (by kernel_rfl) (by kernel_rfl) (fun _ _ _ h => h) (Or.inl ⟨by first | rfl | (simp [*, Region.wanted, yielded]), ?hyp5⟩) (by assumption) ?restp5
    case hyp5 => (intro w hSw; (try dsimp only at hSw); go_simp <;> with_reducible rfl)
    try simp only [Act.put, List.setIfInBounds_toArray, List.set_cons_zero, List.set_cons_succ]
    refine take_d (i := 6) (d := some 18) (v := ?_) rfl rfl (by kernel_rfl) (by kernel_rfl) (by kernel_rfl) (fun _ _ _ h => h) (Or.inl ⟨by first | rfl | (simp [*, Region.wanted, yielded]), ?hyp6⟩) (by assumption) ?restp6
    case hyp6 => (intro w hSw; (try dsimp only at hSw); go_simp <;> with_reducible rfl)
    try simp only [Act.put, List.setIfInBounds_toArray, List.set_cons_zero, List.set_cons_succ]
    refine take_d (i := 7) (d := some 19) (v := ?_) rfl rfl (by kernel_rfl) (by kernel_rfl) (by kernel_rfl) (fun _ _ _ h => h) (Or.inl ⟨by first | rfl | (simp [*, Region.wanted, yielded]), ?hyp7⟩) (by assumption) ?restp7
    case hyp7 => (intro w hSw; (try dsimp only at hSw); go_simp <;> with_reducible rfl)
    try simp only [Act.put, List.setIfInBounds_toArray, List.set_cons_zero, List.set_cons_succ]
    refine take_d (i := 8) (d := some 20) (v := ?_) rfl rfl (by kernel_rfl) (by kernel_rfl) (by kernel_rfl) (fun _ _ _ h => h) (Or.inl ⟨by first | rfl | (simp [*, Region.wanted, yielded]), ?hyp8⟩) (by assumption) ?restp8
    case hyp8 => (intro w hSw; (try dsimp only at hSw); go_simp <;> with_reducible rfl)
    try simp only [Act.put, List.setIfInBounds_toArray, List.set_cons_zero, List.set_cons_succ]
    refine wpAnyH_ready (rs := [2]) (by kernel_rfl) (by simp) ?_
    refine AllReadyH.cons (o := _) rfl (fun K hK => ?_) AllReadyH.nil
    go_simp
    refine (HIH.out _ ?_).mono ?_
    · repeat (first | exact hr0 | apply Below.drew | (refine Below.alloc ?_ (by first | exact Below.size (by assumption) | omega | (simp; done) | (simp; omega)) _))
    rintro e2 w2 ⟨hb2, A2, c2, hO2, rfl⟩
    have p2 : Below w0.heap.size w0 w2 := Below.trans (by repeat (first | exact hr0 | apply Below.drew | (refine Below.alloc ?_ (by first | exact Below.size (by assumption) | omega | (simp; done) | (simp; omega)) _))) (hb2.mono (by first | (simp; done) | (simp; omega)))
    have HO2 := hid (own_weak (base' := w0.heap.size) hO2 (by first | (simp; done) | (simp; omega)))
    clear hO2 hb2
    go_wp2_with fail
    refine hK.out _ _ (HKp.out _ p2) (fun hHeld => ?_)
    clear hK K
    try simp only [Act.put, List.setIfInBounds_toArray, List.set_cons_zero, List.set_cons_succ]
    refine wpAnyH_ready (rs := [9]) (by kernel_rfl) (by simp) ?_
    refine AllReadyH.cons (o := _) rfl (fun K hK => ?_) AllReadyH.nil
    go_simp
    go_at_call 84
    refine (HIx.out _ (by repeat (first | exact hr0 | exact p2 | apply Below.drew | (refine Below.alloc ?_ (by first | exact Below.size (by assumption) | omega | (simp; done) | (simp; omega)) _)))).mono ?_
    rintro e9 w9 ⟨rfl, rfl⟩
    go_wp2_with fail
    refine hK.out _ _ (HKp.out _ (by repeat (first | exact hr0 | exact p2 | apply Below.drew | (refine Below.alloc ?_ (by first | exact Below.size (by assumption) | omega | (simp; done) | (simp; omega)) _)))) (fun hHeld => ?_)
    clear hK K
    try simp only [Act.put, List.setIfInBounds_toArray, List.set_cons_zero, List.set_cons_succ]
    refine wpAnyH_ready (rs := [10]) (by kernel_rfl) (by simp) ?_
    refine AllReadyH.cons (o := _) rfl (fun K hK => ?_) AllReadyH.nil
    go_simp
    try have l2 := p2.size
    go_wp2_with fail
    refine hK.out _ _ (HKp.out _ (by repeat (first | exact hr0 | exact p2 | apply Below.drew | (refine Below.alloc ?_ (by first | exact Below.size (by assumption) | omega | (simp; done) | (simp; omega)) _)))) (fun hHeld => ?_)
    clear hK K
    try simp only [Act.put, List.setIfInBounds_toArray, List.set_cons_zero, List.set_cons_succ]
    refine wpAnyH_ready (rs := [11]) (by kernel_rfl) (by simp) ?_
    refine AllReadyH.cons (o := _) rfl (fun K hK => ?_) AllReadyH.nil
    have l2 := p2.size
    have hO8 : (w9.alloc (.cells #[.int .i64 (c : Int)] 3)).ownsRow w0.heap.size 3 1 (.slice A2 wd.length c2) wd.length (wd.map (Value.int .i64)) := own_below HO2.out ((Below.refl _ _).alloc (Nat.le_refl _) _)
    refine step_append_lies _ rfl _ _ 26 rfl w0.heap.size 3 i0 (.int .i64 0) 1 8 Try.underlying26 hinf hz0 hz1 hz2 rfl (by decide) (.slice A2 wd.length c2) wd.length (wd.map (Value.int .i64)) (by rfl) (by exact hO8) ⟨w9.heap.size, 0, none⟩ 1 1 [.int .i64 (c : Int)] (by rfl) rfl (World.news_of_block (cs := #[.int .i64 (c : Int)]) (t := 3) (fr := (0, 0)) (heap_alloc_new w9 _)) (by simp [Value.oneCell']) (by decide) (by unfold maxLen; omega) (by first | omega | (simp; omega)) (by simp; omega) _ rfl ?_
    intro gV cV wz hown9 hgr9 hat9 hlt9
    refine hK.out _ _ (HKg.out _ _ _ (p2.alloc p2.size _) hgr9 (fun g hg => (hO8.lt g hg).1)) (fun hHeld => ?_)
    clear hK K
    try simp only [Act.put, List.setIfInBounds_toArray, List.set_cons_zero, List.set_cons_succ]
    refine take_d (i := 12) (d := some 4) (v := ?_) rfl rfl (by kernel_rfl) (by kernel_rfl) (by kernel_rfl) (fun _ _ _ h => h) (Or.inl ⟨by first | rfl | (simp [*, Region.wanted, yielded]), ?hyp9⟩) (by assumption) ?restp9
    case hyp9 => (intro w hSw; (try dsimp only at hSw); go_simp <;> with_reducible rfl)
    try simp only [Act.put, List.setIfInBounds_toArray, List.set_cons_zero, List.set_cons_succ]
    refine wpAnyH_done (by kernel_rfl) ?_ _
    go_simp
    have pz : Below w0.heap.size w0 wz := (p2.alloc p2.size (.cells #[.int .i64 (c : Int)] 3)).grown hgr9 (by simp; omega) (fun k hk => (hO8.lt k hk).1)
    have HBz := hid (HA.out.trans (pz.mono HA.out.size))
    have HOz := hid (show Own wz w.heap.size (.slice (some ⟨gV, 0, none⟩) (wd ++ [(c : Int)]).length cV) (wd ++ [(c : Int)]) from by
      unfold Own
      rw [List.length_append, List.map_append]
      exact own_weak hown9 (by omega))
    have hle : (wd ++ [(c : Int)]).length = wd.length + 1 := by simp
    have HLe := hid hle
    clear hown9 hgr9 hat9 hlt9 hO8 pz hHeld HKp HKg HIH HIx hle
    go_wp2
    go_ret
    exact ⟨HBz.out, some ⟨gV, 0, none⟩, cV, HOz.out, by rw [HLe.out]; rfl⟩
end Go.Proofs.Ytkboeldafppicaa
/- Part and Same of the program. -/
set_option linter.unusedVariables false
set_option linter.unusedSimpArgs false
namespace Go.Proofs.Ytkboeldafppicaa
open Go.RowKit Go.Maps

/-- What Part answers. -/
def PartD (L : Int) (rows : List (List Int)) (accs : List Bool) (L' : Int) (rows' : List (List Int)) (accs' : List Bool) (u : List Int) (is : Bool) (v : Int) : Prop :=
  (twoE L rows accs L' rows' accs' ≠ 0 ∧ u = [] ∧ is = false ∧ v = twoE L rows accs L' rows' accs') ∨
  (twoE L rows accs L' rows' accs' = 0 ∧ v = 0 ∧ ∃ i, Full L.toNat (tw rows rows') (oneA accs accs') (0, 0) i ∧ i ≤ 4096 ∧
    (((∀ b ∈ (listTo L.toNat (tw rows rows') (oneA accs accs') (0, 0) i).2.2, b = false) ∧ u = [] ∧ is = false) ∨
     (∃ p : Nat, FirstAt (fun y => y = true) (listTo L.toNat (tw rows rows') (oneA accs accs') (0, 0) i).2.2 (p : Int) ∧ u = (wTo L.toNat (tw rows rows') (oneA accs accs') (0, 0) i)[p]?.getD [] ∧ is = true)))
theorem PartD.unique {L : Int} {rows : List (List Int)} {accs : List Bool} {L' : Int} {rows' : List (List Int)} {accs' : List Bool} {u u' : List Int} {is is' : Bool} {v v' : Int} (h : PartD L rows accs L' rows' accs' u is v) (h' : PartD L rows accs L' rows' accs' u' is' v') : u' = u ∧ is' = is ∧ v' = v := by
  rcases h with ⟨hv, rfl, rfl, rfl⟩ | ⟨hv, rfl, i, hF, _, hh⟩ <;> rcases h' with ⟨hv', rfl, rfl, rfl⟩ | ⟨hv', rfl, i', hF', _, hh'⟩
  · exact ⟨rfl, rfl, rfl⟩
  · exact absurd hv' hv
  · exact absurd hv hv'
  · obtain rfl := hF.unique hF'
    rcases hh with ⟨h1, rfl, rfl⟩ | ⟨p, h1, rfl, rfl⟩ <;> rcases hh' with ⟨g1, rfl, rfl⟩ | ⟨p', g1, rfl, rfl⟩
    · exact ⟨rfl, rfl, rfl⟩
    · rcases g1 with ⟨k, x, e, q1, q2, _⟩ | ⟨e, _⟩
      · have := h1 x (List.mem_of_getElem? q1); rw [this] at q2; cases q2
      · omega
    · rcases h1 with ⟨k, x, e, q1, q2, _⟩ | ⟨e, _⟩
      · have := g1 x (List.mem_of_getElem? q1); rw [this] at q2; cases q2
      · omega
    · have := h1.unique g1
      have hpp : p' = p := by omega
      subst hpp
      exact ⟨rfl, rfl, rfl⟩
/-- Two machines are parted if and only if their languages differ. -/
theorem PartD.lang {L : Int} {rows : List (List Int)} {accs : List Bool} {L' : Int} {rows' : List (List Int)} {accs' : List Bool} {u : List Int} {is : Bool} {v : Int} (h : PartD L rows accs L' rows' accs' u is v) (h0 : twoE L rows accs L' rows' accs' = 0) : v = 0 ∧ (is = false ↔ mLang L.toNat rows accs 0 = mLang L.toNat rows' accs' 0) := by
  rcases h with ⟨hv, _⟩ | ⟨hv, rfl, i, hF, _, hh⟩
  · exact absurd h0 hv
  · refine ⟨rfl, ?_⟩
    rw [← part_lang hF]
    rcases hh with ⟨h1, _, rfl⟩ | ⟨p, h1, _, rfl⟩
    · exact ⟨fun _ => h1, fun _ => rfl⟩
    · constructor
      · intro e; cases e
      · intro e
        rcases h1 with ⟨k, x, _, q1, q2, _⟩ | ⟨e', _⟩
        · have := e x (List.mem_of_getElem? q1); rw [this] at q2; cases q2
        · omega
def PartA (w' : World) (L : Int) (rows : List (List Int)) (accs : List Bool) (L' : Int) (rows' : List (List Int)) (accs' : List Bool) (e : Ending) : Prop :=
  ∃ u is v A c, PartD L rows accs L' rows' accs' u is v ∧ Ints w' A u ∧ e = .returned (.tuple #[.slice A u.length c, .bool is, .int .i64 v])
theorem ints_none (w : World) : Ints w none [] := ⟨by simp, .inl rfl, by simp⟩
theorem egOne : ∀ args (w : World), (callFunc 77 args).run Try.prog w = .ok (.enter 77 args) w := fun _ _ => by kernel_rfl
set_option maxRecDepth 100000 in
set_option maxHeartbeats 8000000 in
theorem mPart_any (L : Int) (nc ac : Nat) (Na Aa : Option Addr) (rows : List (List Int)) (accs : List Bool) (L' : Int) (nc' ac' : Nat) (Na' Aa' : Option Addr) (rows' : List (List Int)) (accs' : List Bool) (w : World) (h : MachAt w Na rows Aa accs) (h' : MachAt w Na' rows' Aa' accs') :
    Calls Try.prog 31 #[machV L Na rows.length nc Aa accs.length ac, machV L' Na' rows'.length nc' Aa' accs'.length ac'] w fun e w' => Below w.heap.size w w' ∧ PartA w' L rows accs L' rows' accs' e := by
  have hB1 : Below w.heap.size w ((w.alloc (.cells #[.int .i64 L, .slice Na rows.length nc, .slice Aa accs.length ac] 25)).alloc (.cells #[.int .i64 L', .slice Na' rows'.length nc', .slice Aa' accs'.length ac'] 25)) := ((Below.refl _ _).alloc (Nat.le_refl _) _).alloc (by simp) _
  have HM1 := hid (h.below hB1)
  have HM1' := hid (h'.below hB1)
  have HV := hid (mCheckTwo_any L nc ac Na Aa rows accs L' nc' ac' Na' Aa' rows' accs' _ HM1.out HM1'.out)
  have HB1 := hid hB1
  have hvr := twoE_ok (L := L) (rows := rows) (accs := accs) (L' := L') (rows' := rows') (accs' := accs')
  have HVr := hid hvr
  clear h h' hB1 hvr
  unfold machV at HV ⊢
  go_enter Try.func31, Try.ntmps31
  go_wp2_with fail
  refine HV.out.mono ?_
  rintro e w1 ⟨hb1, rfl⟩
  have m0 : w1.cell? ⟨w.heap.size, 0, none⟩ = some (.int .i64 L) := by rw [hb1.cell (by first | (simp; done) | (simp; omega))]; go_simp
  have m1 : w1.cell? ⟨w.heap.size, 1, none⟩ = some (.slice Na rows.length nc) := by rw [hb1.cell (by first | (simp; done) | (simp; omega))]; go_simp
  have m2 : w1.cell? ⟨w.heap.size, 2, none⟩ = some (.slice Aa accs.length ac) := by rw [hb1.cell (by first | (simp; done) | (simp; omega))]; go_simp
  have n0 : w1.cell? ⟨w.heap.size + 1, 0, none⟩ = some (.int .i64 L') := by rw [hb1.cell (by first | (simp; done) | (simp; omega))]; go_simp
  have n1 : w1.cell? ⟨w.heap.size + 1, 1, none⟩ = some (.slice Na' rows'.length nc') := by rw [hb1.cell (by first | (simp; done) | (simp; omega))]; go_simp
  have n2 : w1.cell? ⟨w.heap.size + 1, 2, none⟩ = some (.slice Aa' accs'.length ac') := by rw [hb1.cell (by first | (simp; done) | (simp; omega))]; go_simp
  have hsz : w.heap.size + 1 < w1.heap.size := cell_lt n0
  have HB2 := hid (HB1.out.trans (hb1.mono HB1.out.size))
  have HM2 := hid (HM1.out.below hb1)
  have HM2' := hid (HM1'.out.below hb1)
  clear hb1 HM1 HM1' HV HB1
  by_cases hv : twoE L rows accs L' rows' accs' = 0
  · obtain ⟨n, hLn, hLn', hg, hg', h64, h64'⟩ := HVr.out hv
    subst hLn
    subst hLn'
    have HVz := hid hv
    have hal := hg.acc
    have hal' := hg'.acc
    rw [hal] at m2
    rw [hal'] at n2
    rw [hv]
    have hlo := hg.lo
    have hhi := hg.hi
    have hA2 : Below w1.heap.size w1 (w1.alloc (.cells #[.int .i64 (n : Int), .slice Na rows.length nc, .slice Aa rows.length ac, .int .i64 (n : Int), .slice Na' rows'.length nc', .slice Aa' rows'.length ac'] 83)) := (Below.refl _ _).alloc (Nat.le_refl _) _
    have HM3 := hid (HM2.out.below hA2)
    have HM3' := hid (HM2'.out.below hA2)
    have HB3 := hid (HB2.out.trans (hA2.mono HB2.out.size))
    have HRu := hid (twRule_any n nc ac nc' ac' Na Aa Na' Aa' rows rows' 77 #[twV n Na rows.length nc Aa ac Na' rows'.length nc' Aa' ac'] #[] (w1.alloc (.cells #[.int .i64 (n : Int), .slice Na rows.length nc, .slice Aa rows.length ac, .int .i64 (n : Int), .slice Na' rows'.length nc', .slice Aa' rows'.length ac'] 83)))
    have HPl := hid (fun (wx : World) (hm : MachAt wx Na rows Aa accs) (hm' : MachAt wx Na' rows' Aa' accs') => listedT_any n hg.hi hg.lo (0, 0) (tw rows rows') (oneA accs accs') (InT rows rows') 4096 125 77 #[twV n Na rows.length nc Aa ac Na' rows'.length nc' Aa' ac'] #[] #[twV n Na rows.length nc Aa ac Na' rows'.length nc' Aa' ac'] #[] wx (inT_start hg.pos hg'.pos) (inT_next hg.cl hg'.cl) inT_64 (fun l hn hh => Nat.le_trans (inT_bound l hn hh) (Nat.mul_le_mul h64 h64')) (by omega) egTw.1 egOne (fun w' s c hb h hc => by
      obtain ⟨i, j, rfl, hi, hj⟩ := h
      have := twNext_any n nc ac nc' ac' Na Aa Na' Aa' rows rows' accs accs' i j c w' (hm.below hb) (hm'.below hb) hg hg' hi hj hc
      exact this.mono (by rintro e w'' ⟨hb2, rfl⟩; exact ⟨hb2, by unfold V2 tw; simp⟩)) (fun w' s hb h => by
      obtain ⟨i, j, rfl, hi, hj⟩ := h
      have := twOne_any n nc ac nc' ac' Na Aa Na' Aa' rows rows' accs accs' i j w' (hm.below hb) (hm'.below hb) hg hg' hi hj
      exact this.mono (by rintro e w'' ⟨hb2, rfl⟩; exact ⟨hb2, by unfold oneA; simp⟩)))
    unfold twV at HRu HPl
    clear hg hg' hv hal hal'
    go_wp2_with fail
    refine HRu.out.mono ?_
    rintro e w4 ⟨hb4, rfl⟩
    have HB4 := hid (HB3.out.trans (hb4.mono HB3.out.size))
    have HM4 := hid (HM3.out.below hb4)
    have HM4' := hid (HM3'.out.below hb4)
    clear hb4 HRu hA2 m0 m1 m2 n0 n1 n2
    go_wp2_with fail
    refine (HPl.out _ HM4.out HM4'.out).mono ?_
    rintro e w5 ⟨hb5, i, Na5, nc5, Aa5, ac5, hF, hi, rfl, hMA⟩
    have HB5 := hid (HB4.out.trans (hb5.mono HB4.out.size))
    have HF := hid hF
    obtain ⟨hgl, _⟩ := full_good hlo hhi hF
    obtain ⟨hl1, hl2⟩ := listTo_len n (tw rows rows') (oneA accs accs') (0, 0) i
    obtain ⟨_, hpos, hfst⟩ := list_fst n (tw rows rows') (oneA accs accs') (0, 0) i hF.2
    have hwok := wTo_ok n (tw rows rows') (oneA accs accs') (0, 0) i
    have hwz := wTo_zero n (tw rows rows') (oneA accs accs') (0, 0) i
    have hwl := wTo_len n (tw rows rows') (oneA accs accs') (0, 0) i
    have hie := hF.1
    have HX := hid (fun (u : List Int) (is : Bool) (hh : ((∀ b ∈ (listTo n (tw rows rows') (oneA accs accs') (0, 0) i).2.2, b = false) ∧ u = [] ∧ is = false) ∨ (∃ p : Nat, FirstAt (fun y => y = true) (listTo n (tw rows rows') (oneA accs accs') (0, 0) i).2.2 (p : Int) ∧ u = (wTo n (tw rows rows') (oneA accs accs') (0, 0) i)[p]?.getD [] ∧ is = true)) => (show PartD (n : Int) rows accs (n : Int) rows' accs' u is 0 from .inr ⟨HVz.out, rfl, i, by rw [Int.toNat_natCast]; exact hF, hi, by rw [Int.toNat_natCast]; exact hh⟩))
    generalize (listTo n (tw rows rows') (oneA accs accs') (0, 0) i).2.1 = rw5 at *
    generalize (listTo n (tw rows rows') (oneA accs accs') (0, 0) i).2.2 = ac2 at *
    generalize wTo n (tw rows rows') (oneA accs accs') (0, 0) i = wds at *
    have HG5 := hid hgl
    have HM5 := hid hMA.mach
    have HFs := hid hfst
    have HWo := hid hwok
    have HWz := hid hwz
    rw [← hie] at hwl hpos hfst
    have HFs := hid hfst
    clear hb5 HPl HM4 HM4' HB4 hgl hMA hF HF hfst hwok hwz hie HB3 HM3 HM3' HM2 HM2' HB2 h64 h64' HVz HVr
    unfold machV
    subst hl1
    go_upto_region 6 with fail
    have hA6 : Below w5.heap.size w5 (w5.alloc (.cells #[.int .i64 (n : Int), .slice Na5 rw5.length nc5, .slice Aa5 rw5.length ac5] 73)) := (Below.refl _ _).alloc (Nat.le_refl _) _
    have HM6 := hid (HM5.out.below hA6)
    have HB6 := hid (HB5.out.trans (hA6.mono HB5.out.size))
    have k0 : (w5.alloc (.cells #[.int .i64 (n : Int), .slice Na5 rw5.length nc5, .slice Aa5 rw5.length ac5] 73)).cell? ⟨w5.heap.size, 1, none⟩ = some (.slice Na5 rw5.length nc5) := by go_simp
    have k1 : (w5.alloc (.cells #[.int .i64 (n : Int), .slice Na5 rw5.length nc5, .slice Aa5 rw5.length ac5] 73)).cell? ⟨w5.heap.size, 2, none⟩ = some (.slice Aa5 rw5.length ac5) := by go_simp
    have hl2' : rw5.length = ac2.length := hl2.symm
    have HIx := hid (idxTrue_any Aa5 ac2 ac5 _ HM6.out.alen HM6.out.aat)
    rw [← hl2'] at HIx
    have HL2 := hid hl2'
    clear hl2 hl2'
    clear hA6 HM5 HB5
    generalize hww : w5.alloc (.cells #[.int .i64 (n : Int), .slice Na5 rw5.length nc5, .slice Aa5 rw5.length ac5] 73) = w6 at *
    clear hww
    go_wp2_with fail
    refine HIx.out.mono ?_
    rintro e w7 ⟨rfl, v, hv, rfl⟩
    clear HIx
    rcases hv with ⟨p, x, rfl, h1, h2, h3⟩ | ⟨rfl, h1⟩
    · have hp : p < rw5.length := by rw [HL2.out]; exact (List.getElem?_eq_some_iff.1 h1).1
      have HX2 := hid (HX.out _ true (.inr ⟨p, .inl ⟨p, x, rfl, h1, h2, h3⟩, rfl, rfl⟩))
      have hp0 : ¬ (p : Int) < 0 := by omega
      have HW11 := hid (partWord_any n rw5 ac2 wds Na5 Aa5 nc5 ac5 w5.heap.size w7.heap.size hhi (fun q r hr => by
        have hq : q < rw5.length := (List.getElem?_eq_some_iff.1 hr).1
        have := HG5.out.row q hq
        rw [hr] at this
        exact this) (by omega) HFs.out HWz.out (fun u hu => by have := (HWo.out u hu).1; omega) p hp)
      have HWp := hid (show ∀ x ∈ wds[p]?.getD [], I64 x from by
        have hwp : wds[p]? = some (wds[p]?.getD []) := by rw [List.getElem?_eq_getElem (by omega)]; rfl
        intro x hx
        have := (HWo.out _ (List.mem_of_getElem? hwp)).2 x hx
        unfold I64; omega)
      have hwpl : (wds[p]?.getD []).length ≤ 5000 := by
        have hwp : wds[p]? = some (wds[p]?.getD []) := by rw [List.getElem?_eq_getElem (by omega)]; rfl
        have := (HWo.out _ (List.mem_of_getElem? hwp)).1
        omega
      generalize wds[p]?.getD [] = wd at *
      clear h1 h2 h3 HX HFs HWo HWz HG5
      have EG := egPw
      go_upto_region 11 with fail
      have hA8 : Below w7.heap.size w7 (w7.alloc (.cells #[.func (.func 80) #[] #[.pointer (some ⟨w5.heap.size, 0, none⟩), .pointer (some ⟨w7.heap.size, 0, none⟩)]] 92)) := (Below.refl _ _).alloc (Nat.le_refl _) _
      have j0 : (w7.alloc (.cells #[.func (.func 80) #[] #[.pointer (some ⟨w5.heap.size, 0, none⟩), .pointer (some ⟨w7.heap.size, 0, none⟩)]] 92)).cell? ⟨w7.heap.size, 0, none⟩ = some (.func (.func 80) #[] #[.pointer (some ⟨w5.heap.size, 0, none⟩), .pointer (some ⟨w7.heap.size, 0, none⟩)]) := by go_simp
      have k0 := (hA8.cell (cell_lt k0)).trans k0
      have HM8 := hid (HM6.out.below hA8)
      have HB8 := hid (HB6.out.trans (hA8.mono HB6.out.size))
      have HW12 := hid (HW11.out _ HM8.out j0 k0)
      clear hA8 HW11 k1 k0
      go_wp2_with fail
      refine HW12.out.mono ?_
      rintro e w9 ⟨hb9, A9, c9, hO9, rfl⟩
      have HB9 := hid (HB8.out.trans (hb9.mono HB8.out.size))
      obtain ⟨a, cap, hva, hints⟩ := hO9.ints (by omega) HWp.out
      have HI9 := hid hints
      simp only [Value.slice.injEq] at hva
      obtain ⟨rfl, _, rfl⟩ := hva
      clear hb9 hO9 hints HW12 j0
      go_wp2
      refine bodyPost_ret (v := .tuple #[.slice A9 wd.length c9, .bool true, .int .i64 0]) (by simp [results, Try.results31, go_sem]) rfl ⟨HB9.out, wd, true, 0, A9, c9, HX2.out, HI9.out, rfl⟩
    · have HX2 := hid (HX.out [] false (.inl ⟨fun b hb => by
        obtain ⟨j, hj⟩ := List.getElem?_of_mem hb
        have := h1 j b hj
        simpa using this, rfl, rfl⟩))
      clear h1 HX HFs HWo HWz HG5
      go_wp2
      refine bodyPost_ret (v := .tuple #[.slice none 0 0, .bool false, .int .i64 0]) (by simp [results, Try.results31, go_sem]) rfl ⟨HB6.out, [], false, 0, none, 0, HX2.out, ints_none _, rfl⟩
  · have hv' : (twoE L rows accs L' rows' accs' != 0) = true := by simp [hv]
    have HX := hid (show PartD L rows accs L' rows' accs' [] false (twoE L rows accs L' rows' accs') from .inl ⟨hv, rfl, rfl, rfl⟩)
    have HX' := hid (fun (x : Int) (e : twoE L rows accs L' rows' accs' = x) => (show PartD L rows accs L' rows' accs' [] false x from e ▸ HX.out))
    clear hv HX HVr
    obtain ⟨x, hx⟩ : ∃ x, x = twoE L rows accs L' rows' accs' := ⟨_, rfl⟩
    have HX2 := hid (HX'.out x hx.symm)
    rw [← hx] at hv' ⊢
    clear hx HX'
    go_wp2
    refine bodyPost_ret (v := .tuple #[.slice none 0 0, .bool false, .int .i64 x]) (by simp [results, Try.results31, go_sem]) rfl ⟨HB2.out, [], false, x, none, 0, HX2.out, ints_none _, rfl⟩
end Go.Proofs.Ytkboeldafppicaa
set_option linter.unusedVariables false
set_option linter.unusedSimpArgs false
namespace Go.Proofs.Ytkboeldafppicaa
open Go.RowKit Go.Maps

set_option maxRecDepth 100000 in
set_option maxHeartbeats 8000000 in
theorem rPart_any (L : Int) (nc ac : Nat) (Na Aa : Option Addr) (rows : List (List Int)) (accs : List Bool) (L' : Int) (nc' ac' : Nat) (Na' Aa' : Option Addr) (rows' : List (List Int)) (accs' : List Bool) (w : World) (h : MachAt w Na rows Aa accs) (h' : MachAt w Na' rows' Aa' accs') :
    Calls Try.prog 32 #[machV L Na rows.length nc Aa accs.length ac, machV L' Na' rows'.length nc' Aa' accs'.length ac'] w fun e w' => Below w.heap.size w w' ∧ PartA w' L rows accs L' rows' accs' e := by
  have hB1 : Below w.heap.size w ((w.alloc (.cells #[.int .i64 L, .slice Na rows.length nc, .slice Aa accs.length ac] 25)).alloc (.cells #[.int .i64 L', .slice Na' rows'.length nc', .slice Aa' accs'.length ac'] 25)) := ((Below.refl _ _).alloc (Nat.le_refl _) _).alloc (by simp) _
  have HM1 := hid (h.below hB1)
  have HM1' := hid (h'.below hB1)
  have HV := hid (rPair_any L nc ac Na Aa rows accs L' nc' ac' Na' Aa' rows' accs' _ HM1.out HM1'.out)
  have HB1 := hid hB1
  have hvr := twoE_ok (L := L) (rows := rows) (accs := accs) (L' := L') (rows' := rows') (accs' := accs')
  have HVr := hid hvr
  clear h h' hB1 hvr
  unfold machV at HV ⊢
  go_enter Try.func32, Try.ntmps32
  go_wp2_with fail
  refine HV.out.mono ?_
  rintro e w1 ⟨hb1, rfl⟩
  have m0 : w1.cell? ⟨w.heap.size, 0, none⟩ = some (.int .i64 L) := by rw [hb1.cell (by first | (simp; done) | (simp; omega))]; go_simp
  have m1 : w1.cell? ⟨w.heap.size, 1, none⟩ = some (.slice Na rows.length nc) := by rw [hb1.cell (by first | (simp; done) | (simp; omega))]; go_simp
  have m2 : w1.cell? ⟨w.heap.size, 2, none⟩ = some (.slice Aa accs.length ac) := by rw [hb1.cell (by first | (simp; done) | (simp; omega))]; go_simp
  have n0 : w1.cell? ⟨w.heap.size + 1, 0, none⟩ = some (.int .i64 L') := by rw [hb1.cell (by first | (simp; done) | (simp; omega))]; go_simp
  have n1 : w1.cell? ⟨w.heap.size + 1, 1, none⟩ = some (.slice Na' rows'.length nc') := by rw [hb1.cell (by first | (simp; done) | (simp; omega))]; go_simp
  have n2 : w1.cell? ⟨w.heap.size + 1, 2, none⟩ = some (.slice Aa' accs'.length ac') := by rw [hb1.cell (by first | (simp; done) | (simp; omega))]; go_simp
  have HB2 := hid (HB1.out.trans (hb1.mono HB1.out.size))
  have HM2 := hid (HM1.out.below hb1)
  have HM2' := hid (HM1'.out.below hb1)
  clear hb1 HM1 HM1' HV HB1
  by_cases hv : twoE L rows accs L' rows' accs' = 0
  · obtain ⟨n, hLn, hLn', hg, hg', h64, h64'⟩ := HVr.out hv
    subst hLn
    subst hLn'
    have HVz := hid hv
    have hal := hg.acc
    have hal' := hg'.acc
    rw [hal] at m2
    rw [hal'] at n2
    rw [hv]
    have hhi := hg.hi
    have HWk := hid (rWalk_any n nc ac nc' ac' Na Aa Na' Aa' rows rows' accs accs' (oneA accs accs') w1 HM2.out HM2'.out hg hg' h64 h64')
    have HIn := hid (fun i => (listTo_ok n (tw rows rows') (oneA accs accs') (0, 0) (inT_next hg.cl hg'.cl) (inT_start hg.pos hg'.pos) i).2.1)
    have HRs := hid (show rows.length ≤ 64 ∧ rows'.length ≤ 64 ∧ accs.length = rows.length ∧ accs'.length = rows'.length from ⟨h64, h64', hal, hal'⟩)
    unfold machV at HWk
    clear hg hg' hv hal hal' h64 h64' HVr
    go_wp2_with fail
    refine HWk.out.mono ?_
    rintro e w5 ⟨hb5, i, v, hF, hi, rfl, hW⟩
    have HB5 := hid (HB2.out.trans (hb5.mono HB2.out.size))
    have HM5 := hid (HM2.out.below hb5)
    have HM5' := hid (HM2'.out.below hb5)
    have m2 := (hb5.cell (cell_lt m2)).trans m2
    have n2 := (hb5.cell (cell_lt n2)).trans n2
    have hin := HIn.out i
    have hgt := listTo_get n (tw rows rows') (oneA accs accs') (0, 0) i hF.2
    obtain ⟨hl1, hl2⟩ := listTo_len n (tw rows rows') (oneA accs accs') (0, 0) i
    obtain ⟨_, hpos, _⟩ := list_fst n (tw rows rows') (oneA accs accs') (0, 0) i hF.2
    have hwok := wTo_ok n (tw rows rows') (oneA accs accs') (0, 0) i
    have hwl := wTo_len n (tw rows rows') (oneA accs accs') (0, 0) i
    have hie := hF.1
    have HX := hid (fun (u : List Int) (is : Bool) (hh : ((∀ b ∈ (listTo n (tw rows rows') (oneA accs accs') (0, 0) i).2.2, b = false) ∧ u = [] ∧ is = false) ∨ (∃ p : Nat, FirstAt (fun y => y = true) (listTo n (tw rows rows') (oneA accs accs') (0, 0) i).2.2 (p : Int) ∧ u = (wTo n (tw rows rows') (oneA accs accs') (0, 0) i)[p]?.getD [] ∧ is = true)) => (show PartD (n : Int) rows accs (n : Int) rows' accs' u is 0 from .inr ⟨HVz.out, rfl, i, by rw [Int.toNat_natCast]; exact hF, hi, by rw [Int.toNat_natCast]; exact hh⟩))
    have HGt := hid (show ∀ j, j < i → ∃ s, (listTo n (tw rows rows') (oneA accs accs') (0, 0) i).1[j]? = some s ∧ (listTo n (tw rows rows') (oneA accs accs') (0, 0) i).2.2[j]? = some (oneA accs accs' s) from fun j hj => by
      obtain ⟨s, r, a1, _, a3, _⟩ := hgt j hj
      exact ⟨s, a1, a3⟩)
    generalize (listTo n (tw rows rows') (oneA accs accs') (0, 0) i).2.2 = ac2 at *
    generalize (listTo n (tw rows rows') (oneA accs accs') (0, 0) i).1 = sts at *
    generalize wTo n (tw rows rows') (oneA accs accs') (0, 0) i = wds at *
    obtain ⟨gS, cS, rfl, hgS, hcel⟩ := hW.cells hpos
    have HCe := hid hcel
    have HHin := hid hin
    have HWo := hid hwok
    have HSi := hid (show i = sts.length ∧ ac2.length = i ∧ wds.length = i from ⟨hie, hl2, by omega⟩)
    have hsl : sts.length ≤ 4096 := by omega
    clear hb5 HWk HIn HM2 HM2' HB2 m0 m1 n0 n1 hin hgt hl1 hl2 hwok hwl hie hF hi hW hcel HVz hpos
    have hrf : Below w5.heap.size w5 w5 := Below.refl _ _
    go_wp2_with fail
    go_loopw [9] (fun v9 wr => ∃ (k : Nat), k ≤ sts.length ∧ v9 = .int .i64 (k : Int) ∧ Hid (∀ j, j < k → ∀ y, ac2[j]? = some y → ¬ y = true) ∧ Hid (∃ m, wr = w5.drewN m)) (fun i _ => sts.length - (intOf i).toNat)
    case atStart => exact ⟨0, Nat.zero_le _, rfl, fun j hj => by omega, 0, rfl⟩
    case round =>
      obtain ⟨k, hk, rfl, HN, HWr⟩ := hrel
      obtain ⟨m9, hm9⟩ := HWr.out
      have HBr := hid (show Below w.heap.size w wr from by rw [hm9]; exact HB5.out.trans ((drw w5 m9).mono HB5.out.size))
      by_cases hlt : k < sts.length
      · obtain ⟨s, hs1, hs2⟩ := HGt.out k (by rw [HSi.out.1]; exact hlt)
        obtain ⟨x, y, hse, hx, hy⟩ := HHin.out s (List.mem_of_getElem? hs1)
        obtain ⟨c0, c1, Aw, cw, c2, hOw⟩ := HCe.out k s hs1
        subst hse
        have hwlk : k < wds.length := by rw [HSi.out.2.2, HSi.out.1]; exact hlt
        have hwp : wds[k]? = some (wds[k]?.getD []) := by rw [List.getElem?_eq_getElem hwlk]; rfl
        have htr : tRM wds k = wds[k]?.getD [] := rfl
        rw [htr] at c2 hOw
        obtain ⟨hwa, hwb⟩ := HWo.out _ (List.mem_of_getElem? hwp)
        have hi4 : i ≤ 4096 := by rw [HSi.out.1]; exact hsl
        obtain ⟨aw, capw, hva, hints⟩ := hOw.ints (by omega) (fun z hz => by have := hwb z hz; have := HSi.out; omega)
        simp only [Value.slice.injEq] at hva
        obtain ⟨rfl, _, rfl⟩ := hva
        rcases HM5.out.aat with e | ⟨bA, oA, hAa, hca⟩
        · have := HRs.out.2.2.1; rw [e] at this; simp at this; omega
        rcases HM5'.out.aat with e | ⟨bB, oB, hAb, hcb⟩
        · have := HRs.out.2.2.2; rw [e] at this; simp at this; omega
        have d0 := hca x (by rw [HRs.out.2.2.1]; exact hx)
        have d1 := hcb y (by rw [HRs.out.2.2.2]; exact hy)
        subst hAa hAb
        have hod : oneA accs accs' ((x : Int), (y : Int)) = ((accs[x]?.getD false) != (accs'[y]?.getD false)) := rfl
        rw [hod] at hs2
        generalize accs[x]?.getD false = p at *
        generalize accs'[y]?.getD false = q at *
        have r0 : wr.cell? ⟨gS, k * 3, none⟩ = some (.int .i64 (x : Int)) := by rw [hm9]; exact c0
        have r1 : wr.cell? ⟨gS, k * 3 + 1, none⟩ = some (.int .i64 (y : Int)) := by rw [hm9]; exact c1
        have r2 : wr.cell? ⟨gS, k * 3 + 2, none⟩ = some (.slice Aw (wds[k]?.getD []).length cw) := by rw [hm9]; exact c2
        have r3 : wr.cell? ⟨bA, oA + x, none⟩ = some (.bool p) := by rw [hm9]; exact d0
        have r4 : wr.cell? ⟨bB, oB + y, none⟩ = some (.bool q) := by rw [hm9]; exact d1
        have r5 : wr.cell? ⟨w.heap.size, 2, none⟩ = some (.slice (some ⟨bA, oA, none⟩) rows.length ac) := by rw [hm9]; exact m2
        have r6 : wr.cell? ⟨w.heap.size + 1, 2, none⟩ = some (.slice (some ⟨bB, oB, none⟩) rows'.length ac') := by rw [hm9]; exact n2
        have hk0 : (0 : Int) ≤ (k : Int) := by omega
        have hk1 : (k : Int) < (sts.length : Int) := by omega
        have hx0 : (0 : Int) ≤ (x : Int) := by omega
        have hx1 : (x : Int) < (rows.length : Int) := by omega
        have hy0 : (0 : Int) ≤ (y : Int) := by omega
        have hy1 : (y : Int) < (rows'.length : Int) := by omega
        have HMm := hid (fun (q : Nat) => show ∃ m, wr.drewN q = w5.drewN m from ⟨_, by rw [hm9, World.drewN_drewN]⟩)
        have HBq := hid (fun (q : Nat) => show Below w.heap.size w (wr.drewN q) from HBr.out.trans ((drw wr q).mono HBr.out.size))
        have HIq := hid (fun (q : Nat) => show Ints (wr.drewN q) Aw (wds[k]?.getD []) from by rw [hm9]; exact (hints.below (drw w5 m9)).below (drw _ q))
        have HFs := hid (fun (hh : (p != q) = true) => HX.out (wds[k]?.getD []) true (.inr ⟨k, .inl ⟨k, _, rfl, hs2, hh, HN.out⟩, rfl, rfl⟩))
        have HN2 := hid (fun (hh : (p != q) = false) => show ∀ j, j < k + 1 → ∀ y, ac2[j]? = some y → ¬ y = true from fun j hj z hz => by
          by_cases e : j = k
          · rw [e, hs2] at hz; injection hz with hz; rw [← hz, hh]; simp
          · exact HN.out j (by omega) z hz)
        clear c0 c1 c2 d0 d1 hca hcb hm9 hs1 hs2 hOw hints hwp htr hwb hwa hod m2 n2 HM5 HM5' hx hy HX HN
        generalize wds[k]?.getD [] = u at *
        cases hq : (p != q) with
        | true =>
          have HF := hid (HFs.out hq)
          have hq2 : (!(p == q)) = true := hq
          clear HFs HN2
          go_wp2_with fail
          go_quiet (fail)
          go_wp2
          refine bodyPost_ret (v := .tuple #[.slice Aw u.length cw, .bool true, .int .i64 0]) (by simp [results, Try.results32, go_sem]) rfl ⟨HBq.out _, u, true, 0, Aw, cw, HF.out, HIq.out _, rfl⟩
        | false =>
          have HF := hid (HN2.out hq)
          have hq2 : (!(p == q)) = false := hq
          clear HFs HN2
          go_wp2_with fail
          go_quiet (fail)
          go_wp2
          go_roundw
          case rel => exact ⟨k + 1, by omega, by go_num, HF.out, HMm.out _⟩
          case measure => simp [intOf]; omega
      · have hk1 : ¬ (k : Int) < (sts.length : Int) := by omega
        have HF := hid (HX.out [] false (.inl ⟨fun b hb => by
          obtain ⟨j, hj⟩ := List.getElem?_of_mem hb
          have h1 : j < ac2.length := (List.getElem?_eq_some_iff.1 hj).1
          have := HN.out j (by have := HSi.out; omega) b hj
          simpa using this, rfl, rfl⟩))
        clear HX HN hm9 m2 n2
        go_wp2
        refine bodyPost_ret (v := .tuple #[.slice none 0 0, .bool false, .int .i64 0]) (by simp [results, Try.results32, go_sem]) rfl ⟨HBr.out, [], false, 0, none, 0, HF.out, ints_none _, rfl⟩
  · have hv' : (twoE L rows accs L' rows' accs' != 0) = true := by simp [hv]
    have HX := hid (show PartD L rows accs L' rows' accs' [] false (twoE L rows accs L' rows' accs') from .inl ⟨hv, rfl, rfl, rfl⟩)
    have HX' := hid (fun (x : Int) (e : twoE L rows accs L' rows' accs' = x) => (show PartD L rows accs L' rows' accs' [] false x from e ▸ HX.out))
    clear hv HX HVr
    obtain ⟨x, hx⟩ : ∃ x, x = twoE L rows accs L' rows' accs' := ⟨_, rfl⟩
    have HX2 := hid (HX'.out x hx.symm)
    rw [← hx] at hv' ⊢
    clear hx HX'
    go_wp2
    refine bodyPost_ret (v := .tuple #[.slice none 0 0, .bool false, .int .i64 x]) (by simp [results, Try.results32, go_sem]) rfl ⟨HB2.out, [], false, x, none, 0, HX2.out, ints_none _, rfl⟩
/-- What Same answers. -/
def SameA (L : Int) (rows : List (List Int)) (accs : List Bool) (L' : Int) (rows' : List (List Int)) (accs' : List Bool) (e : Ending) : Prop :=
  ∃ u is v, PartD L rows accs L' rows' accs' u is v ∧ e = .returned (.tuple #[.bool (decide (v = 0) && !is), .int .i64 v])
set_option maxRecDepth 100000 in
set_option maxHeartbeats 4000000 in
theorem mSame_any (L : Int) (nc ac : Nat) (Na Aa : Option Addr) (rows : List (List Int)) (accs : List Bool) (L' : Int) (nc' ac' : Nat) (Na' Aa' : Option Addr) (rows' : List (List Int)) (accs' : List Bool) (w : World) (h : MachAt w Na rows Aa accs) (h' : MachAt w Na' rows' Aa' accs') :
    Calls Try.prog 29 #[machV L Na rows.length nc Aa accs.length ac, machV L' Na' rows'.length nc' Aa' accs'.length ac'] w fun e w' => Below w.heap.size w w' ∧ SameA L rows accs L' rows' accs' e := by
  have hB1 : Below w.heap.size w ((w.alloc (.cells #[.int .i64 L, .slice Na rows.length nc, .slice Aa accs.length ac] 25)).alloc (.cells #[.int .i64 L', .slice Na' rows'.length nc', .slice Aa' accs'.length ac'] 25)) := ((Below.refl _ _).alloc (Nat.le_refl _) _).alloc (by simp) _
  have HV := hid (mPart_any L nc ac Na Aa rows accs L' nc' ac' Na' Aa' rows' accs' _ (h.below hB1) (h'.below hB1))
  have HB1 := hid hB1
  clear h h' hB1
  unfold machV at HV ⊢
  go_enter Try.func29, Try.ntmps29
  go_wp2_with fail
  refine HV.out.mono ?_
  rintro e w1 ⟨hb1, u, is, v, A, c, hD, _, rfl⟩
  have HB2 := hid (HB1.out.trans (hb1.mono HB1.out.size))
  have HD := hid hD
  clear hb1 HV HB1 hD
  by_cases hv : v = 0
  · have hv1 : (v == 0) = true := by simp [hv]
    have HE := hid (show (decide (v = 0) && !is) = !is by simp [hv])
    clear hv
    cases is with
    | true =>
      go_wp2
      refine bodyPost_ret (v := .tuple #[.bool false, .int .i64 v]) (by simp [results, Try.results29, go_sem]) rfl ⟨HB2.out, u, true, v, HD.out, by rw [HE.out]; rfl⟩
    | false =>
      go_wp2
      refine bodyPost_ret (v := .tuple #[.bool true, .int .i64 v]) (by simp [results, Try.results29, go_sem]) rfl ⟨HB2.out, u, false, v, HD.out, by rw [HE.out]; rfl⟩
  · have hv1 : (v == 0) = false := by simp [hv]
    have HE := hid (show (decide (v = 0) && !is) = false by simp [hv])
    clear hv
    go_wp2
    refine bodyPost_ret (v := .tuple #[.bool false, .int .i64 v]) (by simp [results, Try.results29, go_sem]) rfl ⟨HB2.out, u, is, v, HD.out, by rw [HE.out]⟩
set_option maxRecDepth 100000 in
set_option maxHeartbeats 4000000 in
theorem rSame_any (L : Int) (nc ac : Nat) (Na Aa : Option Addr) (rows : List (List Int)) (accs : List Bool) (L' : Int) (nc' ac' : Nat) (Na' Aa' : Option Addr) (rows' : List (List Int)) (accs' : List Bool) (w : World) (h : MachAt w Na rows Aa accs) (h' : MachAt w Na' rows' Aa' accs') :
    Calls Try.prog 30 #[machV L Na rows.length nc Aa accs.length ac, machV L' Na' rows'.length nc' Aa' accs'.length ac'] w fun e w' => Below w.heap.size w w' ∧ SameA L rows accs L' rows' accs' e := by
  have hB1 : Below w.heap.size w ((w.alloc (.cells #[.int .i64 L, .slice Na rows.length nc, .slice Aa accs.length ac] 25)).alloc (.cells #[.int .i64 L', .slice Na' rows'.length nc', .slice Aa' accs'.length ac'] 25)) := ((Below.refl _ _).alloc (Nat.le_refl _) _).alloc (by simp) _
  have HV := hid (rPart_any L nc ac Na Aa rows accs L' nc' ac' Na' Aa' rows' accs' _ (h.below hB1) (h'.below hB1))
  have HB1 := hid hB1
  clear h h' hB1
  unfold machV at HV ⊢
  go_enter Try.func30, Try.ntmps30
  go_wp2_with fail
  refine HV.out.mono ?_
  rintro e w1 ⟨hb1, u, is, v, A, c, hD, _, rfl⟩
  have HB2 := hid (HB1.out.trans (hb1.mono HB1.out.size))
  have HD := hid hD
  clear hb1 HV HB1 hD
  by_cases hv : v = 0
  · have hv1 : (v == 0) = true := by simp [hv]
    have HE := hid (show (decide (v = 0) && !is) = !is by simp [hv])
    clear hv
    cases is with
    | true =>
      go_wp2
      refine bodyPost_ret (v := .tuple #[.bool false, .int .i64 v]) (by simp [results, Try.results30, go_sem]) rfl ⟨HB2.out, u, true, v, HD.out, by rw [HE.out]; rfl⟩
    | false =>
      go_wp2
      refine bodyPost_ret (v := .tuple #[.bool true, .int .i64 v]) (by simp [results, Try.results30, go_sem]) rfl ⟨HB2.out, u, false, v, HD.out, by rw [HE.out]; rfl⟩
  · have hv1 : (v == 0) = false := by simp [hv]
    have HE := hid (show (decide (v = 0) && !is) = false by simp [hv])
    clear hv
    go_wp2
    refine bodyPost_ret (v := .tuple #[.bool false, .int .i64 v]) (by simp [results, Try.results30, go_sem]) rfl ⟨HB2.out, u, is, v, HD.out, by rw [HE.out]⟩
end Go.Proofs.Ytkboeldafppicaa
