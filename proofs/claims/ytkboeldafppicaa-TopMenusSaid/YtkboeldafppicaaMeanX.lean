/- What a rule's machine accepts, by what its states mean. -/
import Derived.Test.YtkboeldafppicaaPlainS
import Derived.Test.YtkboeldafppicaaMAcc
import Derived.Test.YtkboeldafppicaaApartP
import Derived.Test.YtkboeldafppicaaPlainI
import Derived.Laws.EntriesVeiled
import Derived.Test.YtkboeldafppicaaLgD
/- What a word means to the rules Apart, Never, Least and Most: plain mathematics. -/
set_option linter.unusedVariables false
set_option linter.unusedSimpArgs false
namespace Go.Proofs.Ytkboeldafppicaa

/-- The letter at a place. -/
def ltr (l : List Int) (i : Nat) : Int := l[i]?.getD 0
/-- A rule's state behind the first k letters. -/
def stK {S : Type} (next : S → Nat → S) (s0 : S) (l : List Int) : Nat → S
  | 0 => s0
  | k + 1 => next (stK next s0 l k) (ltr l k).toNat
theorem take_snoc (l : List Int) (k : Nat) (h : k < l.length) : l.take (k + 1) = l.take k ++ [ltr l k] := by
  rw [List.take_succ_eq_append_getElem h]
  unfold ltr
  rw [List.getElem?_eq_getElem h]
  rfl
theorem stK_fold {S : Type} (next : S → Nat → S) (s0 : S) (l : List Int) : ∀ k, k ≤ l.length → ((l.take k).map Int.toNat).foldl next s0 = stK next s0 l k
  | 0, _ => by simp [stK]
  | k + 1, h => by
    rw [take_snoc l k (by omega), List.map_append, List.foldl_append, stK_fold next s0 l k (by omega)]
    rfl
theorem stK_all {S : Type} (next : S → Nat → S) (s0 : S) (l : List Int) : (l.map Int.toNat).foldl next s0 = stK next s0 l l.length := by
  have := stK_fold next s0 l l.length (Nat.le_refl _)
  rwa [List.take_length] at this

/-- Two equal letters too near to one another, the later one before place k. -/
def Near (d : Int) (l : List Int) (k : Nat) : Prop := ∃ i j : Nat, i < k ∧ j < i ∧ (i : Int) - d + 1 ≤ j ∧ ltr l i = ltr l j
/-- The letter n places back. -/
def bk (l : List Int) (k n : Nat) : Int := if n ≤ k then ltr l (k - n) else -1
theorem near_succ {d : Int} {l : List Int} {k : Nat} : Near d l (k + 1) ↔ Near d l k ∨ ∃ j : Nat, j < k ∧ (k : Int) - d + 1 ≤ j ∧ ltr l k = ltr l j := by
  constructor
  · rintro ⟨i, j, h1, h2, h3, h4⟩
    by_cases e : i = k
    · subst e; exact .inr ⟨j, h2, h3, h4⟩
    · exact .inl ⟨i, j, by omega, h2, h3, h4⟩
  · rintro (⟨i, j, h1, h2, h3, h4⟩ | ⟨j, h2, h3, h4⟩)
    · exact ⟨i, j, by omega, h2, h3, h4⟩
    · exact ⟨k, j, by omega, h2, h3, h4⟩
theorem near_zero (d : Int) (l : List Int) : ¬ Near d l 0 := by rintro ⟨i, j, h, _⟩; omega
theorem near_last {d : Int} (hd : 0 ≤ d ∧ d ≤ 3) {l : List Int} {k : Nat} (h0 : 0 ≤ ltr l k) : (∃ j : Nat, j < k ∧ (k : Int) - d + 1 ≤ j ∧ ltr l k = ltr l j) ↔ (2 ≤ d ∧ ltr l k = bk l k 1) ∨ (3 ≤ d ∧ ltr l k = bk l k 2) := by
  unfold bk
  constructor
  · rintro ⟨j, h1, h2, h3⟩
    by_cases e : j + 1 = k
    · left
      refine ⟨by omega, ?_⟩
      rw [if_pos (by omega), h3]
      congr 1
      omega
    · right
      refine ⟨by omega, ?_⟩
      rw [if_pos (by omega), h3]
      congr 1
      omega
  · rintro (⟨h1, h2⟩ | ⟨h1, h2⟩)
    · by_cases e : 1 ≤ k
      · rw [if_pos e] at h2
        exact ⟨k - 1, by omega, by omega, h2⟩
      · rw [if_neg e] at h2; omega
    · by_cases e : 2 ≤ k
      · rw [if_pos e] at h2
        exact ⟨k - 2, by omega, by omega, h2⟩
      · rw [if_neg e] at h2; omega
theorem bk_succ (l : List Int) (k n : Nat) : bk l (k + 1) (n + 1) = if n = 0 then ltr l k else bk l k n := by
  unfold bk
  by_cases e : n = 0
  · subst e; simp
  · rw [if_neg e]
    by_cases h : n ≤ k
    · rw [if_pos h, if_pos (by omega)]; congr 1; omega
    · rw [if_neg h, if_neg (by omega)]
theorem ap_state (apN : Int → Int × Int × Bool → Nat → Int × Int × Bool) (d : Int) (hap : ∀ (s : Int × Int × Bool) (c : Nat), ((s.2.2 = true ∨ (2 ≤ d ∧ (c : Int) = s.1) ∨ (3 ≤ d ∧ (c : Int) = s.2.1)) → apN d s c = (0, 0, true)) ∧ (¬ (s.2.2 = true ∨ (2 ≤ d ∧ (c : Int) = s.1) ∨ (3 ≤ d ∧ (c : Int) = s.2.1)) → apN d s c = ((c : Int), s.1, false))) (hd : 0 ≤ d ∧ d ≤ 3) (l : List Int) (h0 : ∀ i, 0 ≤ ltr l i) :
    ∀ k, (Near d l k → stK (apN d) (-1, -1, false) l k = (0, 0, true)) ∧ (¬ Near d l k → stK (apN d) (-1, -1, false) l k = (bk l k 1, bk l k 2, false))
  | 0 => ⟨fun h => absurd h (near_zero d l), fun _ => by simp [stK, bk]⟩
  | k + 1 => by
    obtain ⟨i1, i2⟩ := ap_state apN d hap hd l h0 k
    have hc : (((ltr l k).toNat : Nat) : Int) = ltr l k := by have := h0 k; omega
    constructor
    · intro h
      show apN d (stK (apN d) (-1, -1, false) l k) (ltr l k).toNat = _
      rcases near_succ.1 h with h | h
      · exact (hap (stK (apN d) (-1, -1, false) l k) (ltr l k).toNat).1 (.inl (by rw [i1 h]))
      · by_cases hn : Near d l k
        · exact (hap (stK (apN d) (-1, -1, false) l k) (ltr l k).toNat).1 (.inl (by rw [i1 hn]))
        · refine (hap (stK (apN d) (-1, -1, false) l k) (ltr l k).toNat).1 (.inr ?_)
          rw [i2 hn, hc]
          exact (near_last hd (h0 k)).1 h
    · intro h
      show apN d (stK (apN d) (-1, -1, false) l k) (ltr l k).toNat = _
      have hn : ¬ Near d l k := fun hh => h (near_succ.2 (.inl hh))
      have hl : ¬ ((2 ≤ d ∧ ltr l k = bk l k 1) ∨ (3 ≤ d ∧ ltr l k = bk l k 2)) := fun hh => h (near_succ.2 (.inr ((near_last hd (h0 k)).2 hh)))
      rw [(hap (stK (apN d) (-1, -1, false) l k) (ltr l k).toNat).2 (by rw [i2 hn, hc]; rintro (e | e); cases e; exact hl e), i2 hn, hc, bk_succ, bk_succ]
      simp

/-- How often a letter comes among the first k. -/
def tms (a : Int) (l : List Int) : Nat → Int
  | 0 => 0
  | k + 1 => if ltr l k = a then tms a l k + 1 else tms a l k
theorem tms_nn (a : Int) (l : List Int) : ∀ k, 0 ≤ tms a l k ∧ tms a l k ≤ k
  | 0 => by simp [tms]
  | k + 1 => by
    have := tms_nn a l k
    unfold tms
    split <;> omega
def ctN (a e : Int) (s : Int) (c : Nat) : Int := if (c : Int) = a ∧ s < e then s + 1 else s
theorem ct_state (a e : Int) (he : 0 ≤ e) (l : List Int) (h0 : ∀ i, 0 ≤ ltr l i) : ∀ k, stK (ctN a e) 0 l k = min (tms a l k) e
  | 0 => by simp [stK, tms]; omega
  | k + 1 => by
    have ih := ct_state a e he l h0 k
    have hc : (((ltr l k).toNat : Nat) : Int) = ltr l k := by have := h0 k; omega
    show ctN a e (stK (ctN a e) 0 l k) (ltr l k).toNat = _
    rw [ih]
    unfold ctN
    rw [hc, show tms a l (k + 1) = if ltr l k = a then tms a l k + 1 else tms a l k from rfl]
    generalize tms a l k = x
    by_cases h1 : ltr l k = a
    · by_cases h2 : min x e < e
      · rw [if_pos ⟨h1, h2⟩, if_pos h1]; omega
      · rw [if_neg (fun hh => h2 hh.2), if_pos h1]; omega
    · rw [if_neg (fun hh => h1 hh.1), if_neg h1]
def leK (t : Int) (s : Int) : Bool := decide (t ≤ s)
def moK (t : Int) (s : Int) : Bool := decide (s ≤ t)
/-- The second letter directly behind the first one, before place k. -/
def Brk (a b : Int) (l : List Int) (k : Nat) : Prop := ∃ i : Nat, i < k ∧ 0 < i ∧ ltr l (i - 1) = a ∧ ltr l i = b
theorem brk_succ {a b : Int} {l : List Int} {k : Nat} : Brk a b l (k + 1) ↔ Brk a b l k ∨ (0 < k ∧ ltr l (k - 1) = a ∧ ltr l k = b) := by
  constructor
  · rintro ⟨i, h1, h2, h3, h4⟩
    by_cases e : i = k
    · subst e; exact .inr ⟨h2, h3, h4⟩
    · exact .inl ⟨i, by omega, h2, h3, h4⟩
  · rintro (⟨i, h1, h2, h3, h4⟩ | ⟨h2, h3, h4⟩)
    · exact ⟨i, by omega, h2, h3, h4⟩
    · exact ⟨k, by omega, h2, h3, h4⟩
theorem brk_zero (a b : Int) (l : List Int) : ¬ Brk a b l 0 := by rintro ⟨i, h, _⟩; omega
def nvN (a b : Int) (s : Int) (c : Nat) : Int := if s = 2 ∨ (s = 1 ∧ (c : Int) = b) then 2 else if (c : Int) = a then 1 else 0
def nvK (s : Int) : Bool := decide (s ≠ 2)
theorem nv_state (a b : Int) (l : List Int) (h0 : ∀ i, 0 ≤ ltr l i) : ∀ k, (Brk a b l k → stK (nvN a b) 0 l k = 2) ∧ (¬ Brk a b l k → stK (nvN a b) 0 l k = if 0 < k ∧ ltr l (k - 1) = a then 1 else 0)
  | 0 => ⟨fun h => absurd h (brk_zero a b l), fun _ => by simp [stK]⟩
  | k + 1 => by
    obtain ⟨i1, i2⟩ := nv_state a b l h0 k
    have hc : (((ltr l k).toNat : Nat) : Int) = ltr l k := by have := h0 k; omega
    constructor
    · intro h
      show nvN a b (stK (nvN a b) 0 l k) (ltr l k).toNat = _
      by_cases hn : Brk a b l k
      · rw [i1 hn]; simp [nvN]
      · rcases brk_succ.1 h with h | ⟨h1, h2, h3⟩
        · exact absurd h hn
        · rw [i2 hn, if_pos ⟨h1, h2⟩]
          unfold nvN
          rw [if_pos (.inr ⟨rfl, by rw [hc]; exact h3⟩)]
    · intro h
      show nvN a b (stK (nvN a b) 0 l k) (ltr l k).toNat = _
      have hn : ¬ Brk a b l k := fun hh => h (brk_succ.2 (.inl hh))
      have hl : ¬ (0 < k ∧ ltr l (k - 1) = a ∧ ltr l k = b) := fun hh => h (brk_succ.2 (.inr hh))
      rw [i2 hn]
      unfold nvN
      rw [hc]
      have h3 : k + 1 - 1 = k := by omega
      rw [h3]
      by_cases g : 0 < k ∧ ltr l (k - 1) = a
      · rw [if_pos g, if_neg (by rintro (e | ⟨_, e⟩); omega; exact hl ⟨g.1, g.2, e⟩)]
        by_cases q : ltr l k = a
        · rw [if_pos q, if_pos ⟨by omega, q⟩]
        · rw [if_neg q, if_neg (by rintro ⟨_, e⟩; exact q e)]
      · rw [if_neg g, if_neg (by rintro (e | ⟨e, _⟩) <;> omega)]
        by_cases q : ltr l k = a
        · rw [if_pos q, if_pos ⟨by omega, q⟩]
        · rw [if_neg q, if_neg (by rintro ⟨_, e⟩; exact q e)]
end Go.Proofs.Ytkboeldafppicaa
/- Never of package menu: its contract. -/
set_option linter.unusedVariables false
set_option linter.unusedSimpArgs false
namespace Go.Proofs.Ytkboeldafppicaa
open Go.RowKit Go.Maps

theorem nvP_next (a b s : Int) (c : Nat) (h : 0 ≤ s ∧ s ≤ 2) : 0 ≤ nvN a b s c ∧ nvN a b s c ≤ 2 := by
  unfold nvN; split
  · omega
  · split <;> omega
theorem small_bound (m : Nat) (l : List Int) (hn : l.Nodup) (h : ∀ s ∈ l, 0 ≤ s ∧ s ≤ (m : Int)) : l.length ≤ m + 1 := by
  refine coded_bound (fun s : Int => s.toNat) (m + 1) l hn (fun s hs => ?_) (fun s hs t ht e => ?_)
  · have := h s hs; omega
  · have := h s hs; have := h t ht; omega
set_option maxRecDepth 100000 in
set_option maxHeartbeats 1000000 in
theorem nvKeep_any (s : Int) (w : World) : Calls Try.prog 98 #[VI s] w fun e w' => Below w.heap.size w w' ∧ e = .returned (.bool (nvK s)) := by
  have hb := Below.refl w.heap.size w
  by_cases h : s = 2
  · have hq : (s != 2) = false := by simp [h]
    have hk := hid (show nvK s = false by simp [nvK, h])
    clear h
    unfold VI
    go_enter Try.func98, Try.ntmps98
    go_wp2
    go_ret
    exact ⟨hb, by rw [hk.out]; rfl⟩
  · have hq : (s != 2) = true := by simp [h]
    have hk := hid (show nvK s = true by simp [nvK, h])
    clear h
    unfold VI
    go_enter Try.func98, Try.ntmps98
    go_wp2
    go_ret
    exact ⟨hb, by rw [hk.out]; rfl⟩
set_option maxRecDepth 100000 in
set_option maxHeartbeats 2000000 in
theorem nvNext_any (s a b : Int) (c p q : Nat) (w : World) (hp : w.cell? ⟨p, 0, none⟩ = some (.int .i64 b)) (hq : w.cell? ⟨q, 0, none⟩ = some (.int .i64 a)) : Calls Try.prog 97 #[VI s, .int .i64 c, .pointer (some ⟨p, 0, none⟩), .pointer (some ⟨q, 0, none⟩)] w fun e w' => Below w.heap.size w w' ∧ e = .returned (VI (nvN a b s c)) := by
  have hb := hid (fun n => show Below w.heap.size w (w.drewN n) from ⟨(Below.refl w.heap.size w).os, (Below.refl w.heap.size w).tape, (Below.refl w.heap.size w).output, (Below.refl w.heap.size w).size, (Below.refl w.heap.size w).block⟩)
  by_cases h2 : s = 2
  · have E := hid (show nvN a b s c = 2 from if_pos (.inl h2))
    have q1 : (s == 2) = true := by simp [h2]
    clear h2
    unfold VI
    go_enter Try.func97, Try.ntmps97
    go_wp2_with fail
    try go_quiet (fail)
    go_wp2
    refine bodyPost_ret (v := VI 2) (by simp [VI, results, Try.results97, go_sem]) rfl ⟨by first | exact hb.out _ | exact (Below.refl _ _), by rw [E.out]; rfl⟩
  · have q1 : (s == 2) = false := by simp [h2]
    by_cases h1 : s = 1
    · have q2 : (s == 1) = true := by simp [h1]
      by_cases hcb : (c : Int) = b
      · have E := hid (show nvN a b s c = 2 from if_pos (.inr ⟨h1, hcb⟩))
        have q3 : ((c : Int) == b) = true := by simp [hcb]
        clear h2 h1 hcb
        unfold VI
        go_enter Try.func97, Try.ntmps97
        go_wp2_with fail
        try go_quiet (fail)
        go_wp2
        refine bodyPost_ret (v := VI 2) (by simp [VI, results, Try.results97, go_sem]) rfl ⟨by first | exact hb.out _ | exact (Below.refl _ _), by rw [E.out]; rfl⟩
      · have q3 : ((c : Int) == b) = false := by simp [hcb]
        by_cases hca : (c : Int) = a
        · have E := hid (show nvN a b s c = 1 from by unfold nvN; rw [if_neg (by rintro (e | e); exact h2 e; exact hcb e.2), if_pos hca])
          have q4 : ((c : Int) == a) = true := by simp [hca]
          clear h2 h1 hcb hca
          unfold VI
          go_enter Try.func97, Try.ntmps97
          go_wp2_with fail
          try go_quiet (fail)
          go_wp2
          refine bodyPost_ret (v := VI 1) (by simp [VI, results, Try.results97, go_sem]) rfl ⟨by first | exact hb.out _ | exact (Below.refl _ _), by rw [E.out]; rfl⟩
        · have E := hid (show nvN a b s c = 0 from by unfold nvN; rw [if_neg (by rintro (e | e); exact h2 e; exact hcb e.2), if_neg hca])
          have q4 : ((c : Int) == a) = false := by simp [hca]
          clear h2 h1 hcb hca
          unfold VI
          go_enter Try.func97, Try.ntmps97
          go_wp2_with fail
          try go_quiet (fail)
          go_wp2
          refine bodyPost_ret (v := VI 0) (by simp [VI, results, Try.results97, go_sem]) rfl ⟨by first | exact hb.out _ | exact (Below.refl _ _), by rw [E.out]; rfl⟩
    · have q2 : (s == 1) = false := by simp [h1]
      by_cases hca : (c : Int) = a
      · have E := hid (show nvN a b s c = 1 from by unfold nvN; rw [if_neg (by rintro (e | e); exact h2 e; exact h1 e.1), if_pos hca])
        have q4 : ((c : Int) == a) = true := by simp [hca]
        clear h2 h1 hca
        unfold VI
        go_enter Try.func97, Try.ntmps97
        go_wp2_with fail
        try go_quiet (fail)
        go_wp2
        refine bodyPost_ret (v := VI 1) (by simp [VI, results, Try.results97, go_sem]) rfl ⟨by first | exact hb.out _ | exact (Below.refl _ _), by rw [E.out]; rfl⟩
      · have E := hid (show nvN a b s c = 0 from by unfold nvN; rw [if_neg (by rintro (e | e); exact h2 e; exact h1 e.1), if_neg hca])
        have q4 : ((c : Int) == a) = false := by simp [hca]
        clear h2 h1 hca
        unfold VI
        go_enter Try.func97, Try.ntmps97
        go_wp2_with fail
        try go_quiet (fail)
        go_wp2
        refine bodyPost_ret (v := VI 0) (by simp [VI, results, Try.results97, go_sem]) rfl ⟨by first | exact hb.out _ | exact (Below.refl _ _), by rw [E.out]; rfl⟩
theorem egNv : (∀ args (w : World), (callFunc 97 args).run Try.prog w = .ok (.enter 97 args) w) ∧ (∀ args (w : World), (callFunc 98 args).run Try.prog w = .ok (.enter 98 args) w) := ⟨fun _ _ => by kernel_rfl, fun _ _ => by kernel_rfl⟩
/-- The language of Never. -/
noncomputable def nvL (n : Nat) (a b : Int) : Lang := langOf n (nvN a b) nvK 0
def nvOk (n a b : Int) : Prop := 1 ≤ n ∧ n ≤ 6 ∧ 0 ≤ a ∧ a < n ∧ 0 ≤ b ∧ b < n
instance (n a b : Int) : Decidable (nvOk n a b) := by unfold nvOk; infer_instance
set_option maxRecDepth 100000 in
set_option maxHeartbeats 4000000 in
theorem never_any (n a b : Int) (w : World) : Calls Try.prog 42 #[.int .i64 n, .int .i64 a, .int .i64 b] w fun e w' => Below w.heap.size w w' ∧ ((nvOk n a b ∧ PlainAns w' w.heap.size n.toNat (nvL n.toNat a b) e) ∨ (¬ nvOk n a b ∧ e = .returned (.tuple #[machV 0 none 0 0 none 0 0, .int .i64 1]))) := by
  have HA := hid (show Below w.heap.size w (((w.alloc (.cells #[.int .i64 a] 3)).alloc (.cells #[.int .i64 b] 3)).alloc (.cells #[.int .i64 0, .slice none 0 0, .slice none 0 0] 25)) from (((Below.refl _ _).alloc (Nat.le_refl _) _).alloc (by simp) _).alloc (by simp; omega) _)
  have c0 : (((w.alloc (.cells #[.int .i64 a] 3)).alloc (.cells #[.int .i64 b] 3)).alloc (.cells #[.int .i64 0, .slice none 0 0, .slice none 0 0] 25)).cell? ⟨w.heap.size, 0, none⟩ = some (.int .i64 a) := by go_simp
  have c1 : (((w.alloc (.cells #[.int .i64 a] 3)).alloc (.cells #[.int .i64 b] 3)).alloc (.cells #[.int .i64 0, .slice none 0 0, .slice none 0 0] 25)).cell? ⟨w.heap.size + 1, 0, none⟩ = some (.int .i64 b) := by go_simp
  have C0 := hid (And.intro c0 c1)
  have HP := hid (fun (h : nvOk n a b) => plainS_any n.toNat (by unfold nvOk at h; omega) (by unfold nvOk at h; omega) 0 (nvN a b) nvK (fun s => 0 ≤ s ∧ s ≤ 2) 3 97 98 #[] #[.pointer (some ⟨w.heap.size + 1, 0, none⟩), .pointer (some ⟨w.heap.size, 0, none⟩)] #[] #[] (((w.alloc (.cells #[.int .i64 a] 3)).alloc (.cells #[.int .i64 b] 3)).alloc (.cells #[.int .i64 0, .slice none 0 0, .slice none 0 0] 25))
    (by omega) (fun s c hs hc => nvP_next a b s c hs) (fun s hs => by unfold I64; omega) (fun l hn hl => small_bound 2 l hn hl) (by omega) egNv.1 egNv.2
    (fun w' s c hb hs hc => by
      have := nvNext_any s a b c (w.heap.size + 1) w.heap.size w' ((hb.cell (cell_lt C0.out.2)).trans C0.out.2) ((hb.cell (cell_lt C0.out.1)).trans C0.out.1)
      simpa using this)
    (fun w' s hb hs => by
      have := nvKeep_any s w'
      simpa using this))
  have HZ := hid (fun wx (hb : Below (((w.alloc (.cells #[.int .i64 a] 3)).alloc (.cells #[.int .i64 b] 3)).alloc (.cells #[.int .i64 0, .slice none 0 0, .slice none 0 0] 25)).heap.size (((w.alloc (.cells #[.int .i64 a] 3)).alloc (.cells #[.int .i64 b] 3)).alloc (.cells #[.int .i64 0, .slice none 0 0, .slice none 0 0] 25)) wx) => show wx.cell? ⟨w.heap.size + 2, 0, none⟩ = some (.int .i64 0) ∧ wx.cell? ⟨w.heap.size + 2, 1, none⟩ = some (.slice none 0 0) ∧ wx.cell? ⟨w.heap.size + 2, 2, none⟩ = some (.slice none 0 0) ∧ wx.frozen? ⟨w.heap.size + 2, 0, none⟩ = false ∧ wx.frozen? ⟨w.heap.size + 2, 1, none⟩ = false ∧ wx.frozen? ⟨w.heap.size + 2, 2, none⟩ = false from
    ⟨by rw [hb.cell (by simp)]; go_simp, by rw [hb.cell (by simp)]; go_simp, by rw [hb.cell (by simp)]; go_simp, by rw [hb.frozen (by simp)]; go_simp, by rw [hb.frozen (by simp)]; go_simp, by rw [hb.frozen (by simp)]; go_simp⟩)
  clear c0 c1
  by_cases hn : nvOk n a b
  · have HOk := hid hn
    have HP := hid (HP.out hn)
    have hnn : ((n.toNat : Nat) : Int) = n := by unfold nvOk at hn; omega
    rw [hnn] at HP
    have q1 : decide (1 ≤ n ∧ n ≤ 6) = true := by unfold nvOk at hn; simp; omega
    have q2 : decide (0 ≤ a ∧ a < n) = true := by unfold nvOk at hn; simp; omega
    have q3 : decide (0 ≤ b ∧ b < n) = true := by unfold nvOk at hn; simp; omega
    have K1 := hid (fun wx => mIsLetters_any n wx)
    have K2 := hid (fun wx => mIsBelow_any a n wx)
    have K3 := hid (fun wx => mIsBelow_any b n wx)
    rw [q1] at K1
    rw [q2] at K2
    rw [q3] at K3
    clear hn q1 q2 q3
    go_enter Try.func42, Try.ntmps42
    go_wp2_with fail
    refine (K1.out _).mono ?_
    rintro e w1 ⟨rfl, rfl⟩
    go_wp2_with fail
    refine (K2.out _).mono ?_
    rintro e w2 ⟨rfl, rfl⟩
    go_wp2_with fail
    refine (K3.out _).mono ?_
    rintro e w3 ⟨rfl, rfl⟩
    go_wp2_with fail
    refine HP.out.mono ?_
    rintro e w5 ⟨hb5, i, hF, hans⟩
    obtain ⟨z0, z1, z2, y0, y1, y2⟩ := HZ.out w5 hb5
    have HB5 := hid (HA.out.trans (hb5.mono HA.out.size))
    have hsz : w.heap.size + 2 < w5.heap.size := cell_lt z0
    have HF := hid hF
    clear hb5 HZ HP hF C0 K1 K2 K3
    rcases hans with ⟨h64, rfl⟩ | ⟨h64, Na, nc, Aa, ac, rfl, hM⟩
    · unfold machV
      go_wp2
      have t0 : (((w5.setCell ⟨w.heap.size + 2, 0, none⟩ (.int .i64 0)).setCell ⟨w.heap.size + 2, 1, none⟩ (.slice none 0 0)).setCell ⟨w.heap.size + 2, 2, none⟩ (.slice none 0 0)).cell? ⟨w.heap.size + 2, 0, none⟩ = some (.int .i64 0) := by go_simp
      have t1 : (((w5.setCell ⟨w.heap.size + 2, 0, none⟩ (.int .i64 0)).setCell ⟨w.heap.size + 2, 1, none⟩ (.slice none 0 0)).setCell ⟨w.heap.size + 2, 2, none⟩ (.slice none 0 0)).cell? ⟨w.heap.size + 2, 1, none⟩ = some (.slice none 0 0) := by go_simp
      have t2 : (((w5.setCell ⟨w.heap.size + 2, 0, none⟩ (.int .i64 0)).setCell ⟨w.heap.size + 2, 1, none⟩ (.slice none 0 0)).setCell ⟨w.heap.size + 2, 2, none⟩ (.slice none 0 0)).cell? ⟨w.heap.size + 2, 2, none⟩ = some (.slice none 0 0) := by go_simp
      have HBz := hid (((HB5.out.setCell (p := ⟨w.heap.size + 2, 0, none⟩) (by simp) (.int .i64 0)).setCell (p := ⟨w.heap.size + 2, 1, none⟩) (by simp) (.slice none 0 0)).setCell (p := ⟨w.heap.size + 2, 2, none⟩) (by simp) (.slice none 0 0))
      generalize (((w5.setCell ⟨w.heap.size + 2, 0, none⟩ (.int .i64 0)).setCell ⟨w.heap.size + 2, 1, none⟩ (.slice none 0 0)).setCell ⟨w.heap.size + 2, 2, none⟩ (.slice none 0 0)) = wz at *
      refine bodyPost_ret (v := .tuple #[machV 0 none 0 0 none 0 0, .int .i64 4]) (by simp [machV, results, Try.results42, go_sem, t0, t1, t2]) rfl ⟨HBz.out, .inl ⟨HOk.out, i, HF.out, .inl ⟨h64, rfl⟩⟩⟩
    · unfold machV
      rw [hnn]
      have HM := hid hM
      clear hM
      go_wp2
      have t0 : (((w5.setCell ⟨w.heap.size + 2, 0, none⟩ (.int .i64 n)).setCell ⟨w.heap.size + 2, 1, none⟩ (.slice Na i nc)).setCell ⟨w.heap.size + 2, 2, none⟩ (.slice Aa i ac)).cell? ⟨w.heap.size + 2, 0, none⟩ = some (.int .i64 n) := by go_simp
      have t1 : (((w5.setCell ⟨w.heap.size + 2, 0, none⟩ (.int .i64 n)).setCell ⟨w.heap.size + 2, 1, none⟩ (.slice Na i nc)).setCell ⟨w.heap.size + 2, 2, none⟩ (.slice Aa i ac)).cell? ⟨w.heap.size + 2, 1, none⟩ = some (.slice Na i nc) := by go_simp
      have t2 : (((w5.setCell ⟨w.heap.size + 2, 0, none⟩ (.int .i64 n)).setCell ⟨w.heap.size + 2, 1, none⟩ (.slice Na i nc)).setCell ⟨w.heap.size + 2, 2, none⟩ (.slice Aa i ac)).cell? ⟨w.heap.size + 2, 2, none⟩ = some (.slice Aa i ac) := by go_simp
      have HBz := hid (((HB5.out.setCell (p := ⟨w.heap.size + 2, 0, none⟩) (by simp) (.int .i64 n)).setCell (p := ⟨w.heap.size + 2, 1, none⟩) (by simp) (.slice Na i nc)).setCell (p := ⟨w.heap.size + 2, 2, none⟩) (by simp) (.slice Aa i ac))
      have HMz := hid ((((HM.out.setCell ⟨w.heap.size + 2, 0, none⟩ (.int .i64 n) (by first | omega | (simp; done) | (simp; omega) | (simp at *; omega))).setCell ⟨w.heap.size + 2, 1, none⟩ (.slice Na i nc) (by first | omega | (simp; done) | (simp; omega) | (simp at *; omega))).setCell ⟨w.heap.size + 2, 2, none⟩ (.slice Aa i ac) (by first | omega | (simp; done) | (simp; omega) | (simp at *; omega))).weak (B' := w.heap.size) (by first | omega | (simp; done) | (simp; omega)))
      generalize (((w5.setCell ⟨w.heap.size + 2, 0, none⟩ (.int .i64 n)).setCell ⟨w.heap.size + 2, 1, none⟩ (.slice Na i nc)).setCell ⟨w.heap.size + 2, 2, none⟩ (.slice Aa i ac)) = wz at *
      refine bodyPost_ret (v := .tuple #[machV n Na i nc Aa i ac, .int .i64 0]) (by simp [machV, results, Try.results42, go_sem, t0, t1, t2]) rfl ⟨HBz.out, .inl ⟨HOk.out, i, HF.out, .inr ⟨h64, Na, nc, Aa, ac, by rw [hnn], HMz.out⟩⟩⟩
  · have HNo := hid hn
    clear HP HZ C0
    go_enter Try.func42, Try.ntmps42
    go_wp2_with fail
    refine (mIsLetters_any n _).mono ?_
    rintro e w1 ⟨rfl, rfl⟩
    cases q1 : decide (1 ≤ n ∧ n ≤ 6) with
    | false =>
      clear hn q1
      go_wp2
      refine bodyPost_ret (v := .tuple #[machV 0 none 0 0 none 0 0, .int .i64 1]) (by simp [machV, results, Try.results42, go_sem]) rfl ⟨HA.out, .inr ⟨HNo.out, rfl⟩⟩
    | true =>
      go_wp2_with fail
      refine (mIsBelow_any a n _).mono ?_
      rintro e w1 ⟨rfl, rfl⟩
      cases q2 : decide (0 ≤ a ∧ a < n) with
      | false =>
        clear hn q1 q2
        go_wp2
        refine bodyPost_ret (v := .tuple #[machV 0 none 0 0 none 0 0, .int .i64 1]) (by simp [machV, results, Try.results42, go_sem]) rfl ⟨HA.out, .inr ⟨HNo.out, rfl⟩⟩
      | true =>
        go_wp2_with fail
        refine (mIsBelow_any b n _).mono ?_
        rintro e w1 ⟨rfl, rfl⟩
        have q3 : decide (0 ≤ b ∧ b < n) = false := by
          simp at q1 q2 ⊢
          unfold nvOk at hn
          omega
        rw [q3]
        clear hn q1 q2 q3
        go_wp2
        refine bodyPost_ret (v := .tuple #[machV 0 none 0 0 none 0 0, .int .i64 1]) (by simp [machV, results, Try.results42, go_sem]) rfl ⟨HA.out, .inr ⟨HNo.out, rfl⟩⟩
end Go.Proofs.Ytkboeldafppicaa
/- Least and Most of package menu: their contracts. -/
set_option linter.unusedVariables false
set_option linter.unusedSimpArgs false
namespace Go.Proofs.Ytkboeldafppicaa
open Go.RowKit Go.Maps

set_option maxRecDepth 100000 in
set_option maxHeartbeats 2000000 in
theorem ctNext_any (s a e : Int) (hs : 0 ≤ s ∧ s ≤ 21) (c p q : Nat) (w : World) (hp : w.cell? ⟨p, 0, none⟩ = some (.int .i64 a)) (hq : w.cell? ⟨q, 0, none⟩ = some (.int .i64 e)) : Calls Try.prog 134 #[VI s, .int .i64 c, .pointer (some ⟨p, 0, none⟩), .pointer (some ⟨q, 0, none⟩)] w fun r w' => Below w.heap.size w w' ∧ r = .returned (VI (ctN a e s c)) := by
  have hb := hid (fun n => show Below w.heap.size w (w.drewN n) from ⟨(Below.refl w.heap.size w).os, (Below.refl w.heap.size w).tape, (Below.refl w.heap.size w).output, (Below.refl w.heap.size w).size, (Below.refl w.heap.size w).block⟩)
  by_cases h1 : (c : Int) = a
  · have q1 : ((c : Int) == a) = true := by simp [h1]
    by_cases h2 : s < e
    · have E := hid (show ctN a e s c = s + 1 from if_pos ⟨h1, h2⟩)
      clear h1
      unfold VI
      go_enter Try.func134, Try.ntmps134
      go_wp2_with fail
      try go_quiet (fail)
      go_wp2
      refine bodyPost_ret (v := VI (s + 1)) (by simp [VI, results, Try.results134, go_sem]) rfl ⟨by first | exact hb.out _ | exact (Below.refl _ _), by rw [E.out]; rfl⟩
    · have E := hid (show ctN a e s c = s from if_neg (fun h => h2 h.2))
      clear h1
      unfold VI
      go_enter Try.func134, Try.ntmps134
      go_wp2_with fail
      try go_quiet (fail)
      go_wp2
      refine bodyPost_ret (v := VI s) (by simp [VI, results, Try.results134, go_sem]) rfl ⟨by first | exact hb.out _ | exact (Below.refl _ _), by rw [E.out]; rfl⟩
  · have q1 : ((c : Int) == a) = false := by simp [h1]
    have E := hid (show ctN a e s c = s from if_neg (fun h => h1 h.1))
    clear h1
    unfold VI
    go_enter Try.func134, Try.ntmps134
    go_wp2_with fail
    try go_quiet (fail)
    go_wp2
    refine bodyPost_ret (v := VI s) (by simp [VI, results, Try.results134, go_sem]) rfl ⟨by first | exact hb.out _ | exact (Below.refl _ _), by rw [E.out]; rfl⟩
set_option maxRecDepth 100000 in
set_option maxHeartbeats 1000000 in
theorem leK_any (s t : Int) (p : Nat) (w : World) (hp : w.cell? ⟨p, 0, none⟩ = some (.int .i64 t)) : Calls Try.prog 102 #[VI s, .pointer (some ⟨p, 0, none⟩)] w fun e w' => Below w.heap.size w w' ∧ e = .returned (.bool (leK t s)) := by
  have hb := Below.refl w.heap.size w
  by_cases h : t ≤ s
  · have hk := hid (show leK t s = true from decide_eq_true h)
    unfold VI
    go_enter Try.func102, Try.ntmps102
    go_wp2
    go_ret
    exact ⟨hb, by rw [hk.out]; rfl⟩
  · have hk := hid (show leK t s = false from decide_eq_false h)
    unfold VI
    go_enter Try.func102, Try.ntmps102
    go_wp2
    go_ret
    exact ⟨hb, by rw [hk.out]; rfl⟩
set_option maxRecDepth 100000 in
set_option maxHeartbeats 1000000 in
theorem moK_any (s t : Int) (p : Nat) (w : World) (hp : w.cell? ⟨p, 0, none⟩ = some (.int .i64 t)) : Calls Try.prog 104 #[VI s, .pointer (some ⟨p, 0, none⟩)] w fun e w' => Below w.heap.size w w' ∧ e = .returned (.bool (moK t s)) := by
  have hb := Below.refl w.heap.size w
  by_cases h : s ≤ t
  · have hk := hid (show moK t s = true from decide_eq_true h)
    unfold VI
    go_enter Try.func104, Try.ntmps104
    go_wp2
    go_ret
    exact ⟨hb, by rw [hk.out]; rfl⟩
  · have hk := hid (show moK t s = false from decide_eq_false h)
    unfold VI
    go_enter Try.func104, Try.ntmps104
    go_wp2
    go_ret
    exact ⟨hb, by rw [hk.out]; rfl⟩
set_option maxRecDepth 100000 in
set_option maxHeartbeats 2000000 in
theorem countingLeast_any (n a e : Int) (p : Nat) (w : World) : Calls Try.prog 101 #[.int .i64 n, .int .i64 a, .int .i64 e, .func (.func 102) #[] #[.pointer (some ⟨p, 0, none⟩)]] w fun r w' => Below w.heap.size w w' ∧ w'.cell? ⟨w.heap.size, 0, none⟩ = some (.int .i64 a) ∧ w'.cell? ⟨w.heap.size + 1, 0, none⟩ = some (.int .i64 e) ∧ r = .returned (.agg #[.int .i64 n, .int .i64 0, .func (.func 134) #[] #[.pointer (some ⟨w.heap.size, 0, none⟩), .pointer (some ⟨w.heap.size + 1, 0, none⟩)], .func (.func 102) #[] #[.pointer (some ⟨p, 0, none⟩)]]) := by
  go_enter Try.func101, Try.ntmps101
  go_wp2
  have t0 : (((w.alloc (.cells #[.int .i64 a] 3)).alloc (.cells #[.int .i64 e] 3)).alloc (.cells #[.int .i64 n, .int .i64 0, .func (.func 134) #[] #[.pointer (some ⟨w.heap.size, 0, none⟩), .pointer (some ⟨w.heap.size + 1, 0, none⟩)], .func (.func 102) #[] #[.pointer (some ⟨p, 0, none⟩)]] 79)).cell? ⟨w.heap.size + 1 + 1, 0, none⟩ = some (.int .i64 n) := by go_simp
  have t1 : (((w.alloc (.cells #[.int .i64 a] 3)).alloc (.cells #[.int .i64 e] 3)).alloc (.cells #[.int .i64 n, .int .i64 0, .func (.func 134) #[] #[.pointer (some ⟨w.heap.size, 0, none⟩), .pointer (some ⟨w.heap.size + 1, 0, none⟩)], .func (.func 102) #[] #[.pointer (some ⟨p, 0, none⟩)]] 79)).cell? ⟨w.heap.size + 1 + 1, 1, none⟩ = some (.int .i64 0) := by go_simp
  have t2 : (((w.alloc (.cells #[.int .i64 a] 3)).alloc (.cells #[.int .i64 e] 3)).alloc (.cells #[.int .i64 n, .int .i64 0, .func (.func 134) #[] #[.pointer (some ⟨w.heap.size, 0, none⟩), .pointer (some ⟨w.heap.size + 1, 0, none⟩)], .func (.func 102) #[] #[.pointer (some ⟨p, 0, none⟩)]] 79)).cell? ⟨w.heap.size + 1 + 1, 2, none⟩ = some (.func (.func 134) #[] #[.pointer (some ⟨w.heap.size, 0, none⟩), .pointer (some ⟨w.heap.size + 1, 0, none⟩)]) := by go_simp
  have t3 : (((w.alloc (.cells #[.int .i64 a] 3)).alloc (.cells #[.int .i64 e] 3)).alloc (.cells #[.int .i64 n, .int .i64 0, .func (.func 134) #[] #[.pointer (some ⟨w.heap.size, 0, none⟩), .pointer (some ⟨w.heap.size + 1, 0, none⟩)], .func (.func 102) #[] #[.pointer (some ⟨p, 0, none⟩)]] 79)).cell? ⟨w.heap.size + 1 + 1, 3, none⟩ = some (.func (.func 102) #[] #[.pointer (some ⟨p, 0, none⟩)]) := by go_simp
  have u0 : (((w.alloc (.cells #[.int .i64 a] 3)).alloc (.cells #[.int .i64 e] 3)).alloc (.cells #[.int .i64 n, .int .i64 0, .func (.func 134) #[] #[.pointer (some ⟨w.heap.size, 0, none⟩), .pointer (some ⟨w.heap.size + 1, 0, none⟩)], .func (.func 102) #[] #[.pointer (some ⟨p, 0, none⟩)]] 79)).cell? ⟨w.heap.size, 0, none⟩ = some (.int .i64 a) := by go_simp
  have u1 : (((w.alloc (.cells #[.int .i64 a] 3)).alloc (.cells #[.int .i64 e] 3)).alloc (.cells #[.int .i64 n, .int .i64 0, .func (.func 134) #[] #[.pointer (some ⟨w.heap.size, 0, none⟩), .pointer (some ⟨w.heap.size + 1, 0, none⟩)], .func (.func 102) #[] #[.pointer (some ⟨p, 0, none⟩)]] 79)).cell? ⟨w.heap.size + 1, 0, none⟩ = some (.int .i64 e) := by go_simp
  have hbz := hid (show Below w.heap.size w (((w.alloc (.cells #[.int .i64 a] 3)).alloc (.cells #[.int .i64 e] 3)).alloc (.cells #[.int .i64 n, .int .i64 0, .func (.func 134) #[] #[.pointer (some ⟨w.heap.size, 0, none⟩), .pointer (some ⟨w.heap.size + 1, 0, none⟩)], .func (.func 102) #[] #[.pointer (some ⟨p, 0, none⟩)]] 79)) from (((Below.refl _ _).alloc (Nat.le_refl _) _).alloc (by simp) _).alloc (by simp; omega) _)
  generalize (((w.alloc (.cells #[.int .i64 a] 3)).alloc (.cells #[.int .i64 e] 3)).alloc (.cells #[.int .i64 n, .int .i64 0, .func (.func 134) #[] #[.pointer (some ⟨w.heap.size, 0, none⟩), .pointer (some ⟨w.heap.size + 1, 0, none⟩)], .func (.func 102) #[] #[.pointer (some ⟨p, 0, none⟩)]] 79)) = wz at *
  refine bodyPost_ret (v := .agg #[.int .i64 n, .int .i64 0, .func (.func 134) #[] #[.pointer (some ⟨w.heap.size, 0, none⟩), .pointer (some ⟨w.heap.size + 1, 0, none⟩)], .func (.func 102) #[] #[.pointer (some ⟨p, 0, none⟩)]]) (by simp [results, Try.results101, go_sem, t0, t1, t2, t3]) rfl ⟨hbz.out, u0, u1, rfl⟩
set_option maxRecDepth 100000 in
set_option maxHeartbeats 2000000 in
theorem countingMost_any (n a e : Int) (p : Nat) (w : World) : Calls Try.prog 101 #[.int .i64 n, .int .i64 a, .int .i64 e, .func (.func 104) #[] #[.pointer (some ⟨p, 0, none⟩)]] w fun r w' => Below w.heap.size w w' ∧ w'.cell? ⟨w.heap.size, 0, none⟩ = some (.int .i64 a) ∧ w'.cell? ⟨w.heap.size + 1, 0, none⟩ = some (.int .i64 e) ∧ r = .returned (.agg #[.int .i64 n, .int .i64 0, .func (.func 134) #[] #[.pointer (some ⟨w.heap.size, 0, none⟩), .pointer (some ⟨w.heap.size + 1, 0, none⟩)], .func (.func 104) #[] #[.pointer (some ⟨p, 0, none⟩)]]) := by
  go_enter Try.func101, Try.ntmps101
  go_wp2
  have t0 : (((w.alloc (.cells #[.int .i64 a] 3)).alloc (.cells #[.int .i64 e] 3)).alloc (.cells #[.int .i64 n, .int .i64 0, .func (.func 134) #[] #[.pointer (some ⟨w.heap.size, 0, none⟩), .pointer (some ⟨w.heap.size + 1, 0, none⟩)], .func (.func 104) #[] #[.pointer (some ⟨p, 0, none⟩)]] 79)).cell? ⟨w.heap.size + 1 + 1, 0, none⟩ = some (.int .i64 n) := by go_simp
  have t1 : (((w.alloc (.cells #[.int .i64 a] 3)).alloc (.cells #[.int .i64 e] 3)).alloc (.cells #[.int .i64 n, .int .i64 0, .func (.func 134) #[] #[.pointer (some ⟨w.heap.size, 0, none⟩), .pointer (some ⟨w.heap.size + 1, 0, none⟩)], .func (.func 104) #[] #[.pointer (some ⟨p, 0, none⟩)]] 79)).cell? ⟨w.heap.size + 1 + 1, 1, none⟩ = some (.int .i64 0) := by go_simp
  have t2 : (((w.alloc (.cells #[.int .i64 a] 3)).alloc (.cells #[.int .i64 e] 3)).alloc (.cells #[.int .i64 n, .int .i64 0, .func (.func 134) #[] #[.pointer (some ⟨w.heap.size, 0, none⟩), .pointer (some ⟨w.heap.size + 1, 0, none⟩)], .func (.func 104) #[] #[.pointer (some ⟨p, 0, none⟩)]] 79)).cell? ⟨w.heap.size + 1 + 1, 2, none⟩ = some (.func (.func 134) #[] #[.pointer (some ⟨w.heap.size, 0, none⟩), .pointer (some ⟨w.heap.size + 1, 0, none⟩)]) := by go_simp
  have t3 : (((w.alloc (.cells #[.int .i64 a] 3)).alloc (.cells #[.int .i64 e] 3)).alloc (.cells #[.int .i64 n, .int .i64 0, .func (.func 134) #[] #[.pointer (some ⟨w.heap.size, 0, none⟩), .pointer (some ⟨w.heap.size + 1, 0, none⟩)], .func (.func 104) #[] #[.pointer (some ⟨p, 0, none⟩)]] 79)).cell? ⟨w.heap.size + 1 + 1, 3, none⟩ = some (.func (.func 104) #[] #[.pointer (some ⟨p, 0, none⟩)]) := by go_simp
  have u0 : (((w.alloc (.cells #[.int .i64 a] 3)).alloc (.cells #[.int .i64 e] 3)).alloc (.cells #[.int .i64 n, .int .i64 0, .func (.func 134) #[] #[.pointer (some ⟨w.heap.size, 0, none⟩), .pointer (some ⟨w.heap.size + 1, 0, none⟩)], .func (.func 104) #[] #[.pointer (some ⟨p, 0, none⟩)]] 79)).cell? ⟨w.heap.size, 0, none⟩ = some (.int .i64 a) := by go_simp
  have u1 : (((w.alloc (.cells #[.int .i64 a] 3)).alloc (.cells #[.int .i64 e] 3)).alloc (.cells #[.int .i64 n, .int .i64 0, .func (.func 134) #[] #[.pointer (some ⟨w.heap.size, 0, none⟩), .pointer (some ⟨w.heap.size + 1, 0, none⟩)], .func (.func 104) #[] #[.pointer (some ⟨p, 0, none⟩)]] 79)).cell? ⟨w.heap.size + 1, 0, none⟩ = some (.int .i64 e) := by go_simp
  have hbz := hid (show Below w.heap.size w (((w.alloc (.cells #[.int .i64 a] 3)).alloc (.cells #[.int .i64 e] 3)).alloc (.cells #[.int .i64 n, .int .i64 0, .func (.func 134) #[] #[.pointer (some ⟨w.heap.size, 0, none⟩), .pointer (some ⟨w.heap.size + 1, 0, none⟩)], .func (.func 104) #[] #[.pointer (some ⟨p, 0, none⟩)]] 79)) from (((Below.refl _ _).alloc (Nat.le_refl _) _).alloc (by simp) _).alloc (by simp; omega) _)
  generalize (((w.alloc (.cells #[.int .i64 a] 3)).alloc (.cells #[.int .i64 e] 3)).alloc (.cells #[.int .i64 n, .int .i64 0, .func (.func 134) #[] #[.pointer (some ⟨w.heap.size, 0, none⟩), .pointer (some ⟨w.heap.size + 1, 0, none⟩)], .func (.func 104) #[] #[.pointer (some ⟨p, 0, none⟩)]] 79)) = wz at *
  refine bodyPost_ret (v := .agg #[.int .i64 n, .int .i64 0, .func (.func 134) #[] #[.pointer (some ⟨w.heap.size, 0, none⟩), .pointer (some ⟨w.heap.size + 1, 0, none⟩)], .func (.func 104) #[] #[.pointer (some ⟨p, 0, none⟩)]]) (by simp [results, Try.results101, go_sem, t0, t1, t2, t3]) rfl ⟨hbz.out, u0, u1, rfl⟩
set_option maxRecDepth 100000 in
theorem mAreTimes_any (n a t : Int) (w : World) : Calls Try.prog 100 #[.int .i64 n, .int .i64 a, .int .i64 t] w fun e w' => w' = w ∧ e = .returned (.bool (decide (1 ≤ n ∧ n ≤ 6 ∧ 0 ≤ a ∧ a < n ∧ 0 ≤ t ∧ t ≤ 20))) := by
  obtain ⟨R, hR0⟩ : ∃ R, R = decide (1 ≤ n ∧ n ≤ 6 ∧ 0 ≤ a ∧ a < n ∧ 0 ≤ t ∧ t ≤ 20) := ⟨_, rfl⟩
  rw [← hR0]
  have HR0 := hid hR0
  clear hR0
  by_cases h1 : 1 ≤ n ∧ n ≤ 6
  · have q1 : decide (1 ≤ n ∧ n ≤ 6) = true := decide_eq_true h1
    by_cases h2 : 0 ≤ a ∧ a < n
    · have q2 : decide (0 ≤ a ∧ a < n) = true := decide_eq_true h2
      by_cases h3 : 0 ≤ t
      · have q3 : decide (0 ≤ t) = true := decide_eq_true h3
        by_cases h4 : t ≤ 20
        · have E := hid (show R = true from HR0.out.trans (decide_eq_true (by omega)))
          go_enter Try.func100, Try.ntmps100
          go_wp2_with fail
          refine (mIsLetters_any n _).mono ?_
          rintro e w1 ⟨rfl, rfl⟩
          rw [q1]
          go_wp2_with fail
          refine (mIsBelow_any a n _).mono ?_
          rintro e w1 ⟨rfl, rfl⟩
          rw [q2]
          go_wp2
          go_ret
          exact ⟨rfl, by rw [E.out]; rfl⟩
        · have E := hid (show R = false from HR0.out.trans (decide_eq_false (by omega)))
          go_enter Try.func100, Try.ntmps100
          go_wp2_with fail
          refine (mIsLetters_any n _).mono ?_
          rintro e w1 ⟨rfl, rfl⟩
          rw [q1]
          go_wp2_with fail
          refine (mIsBelow_any a n _).mono ?_
          rintro e w1 ⟨rfl, rfl⟩
          rw [q2]
          go_wp2
          go_ret
          exact ⟨rfl, by rw [E.out]; show Ending.returned (.bool (decide (t ≤ 20))) = _; rw [decide_eq_false (by omega)]⟩
      · have E := hid (show R = false from HR0.out.trans (decide_eq_false (by omega)))
        go_enter Try.func100, Try.ntmps100
        go_wp2_with fail
        refine (mIsLetters_any n _).mono ?_
        rintro e w1 ⟨rfl, rfl⟩
        rw [q1]
        go_wp2_with fail
        refine (mIsBelow_any a n _).mono ?_
        rintro e w1 ⟨rfl, rfl⟩
        rw [q2]
        go_wp2
        go_ret
        exact ⟨rfl, by rw [E.out]; rfl⟩
    · have q2 : decide (0 ≤ a ∧ a < n) = false := decide_eq_false h2
      have E := hid (show R = false from HR0.out.trans (decide_eq_false (by omega)))
      go_enter Try.func100, Try.ntmps100
      go_wp2_with fail
      refine (mIsLetters_any n _).mono ?_
      rintro e w1 ⟨rfl, rfl⟩
      rw [q1]
      go_wp2_with fail
      refine (mIsBelow_any a n _).mono ?_
      rintro e w1 ⟨rfl, rfl⟩
      rw [q2]
      go_wp2
      go_ret
      exact ⟨rfl, by rw [E.out]; rfl⟩
  · have q1 : decide (1 ≤ n ∧ n ≤ 6) = false := decide_eq_false h1
    have E := hid (show R = false from HR0.out.trans (decide_eq_false (by omega)))
    go_enter Try.func100, Try.ntmps100
    go_wp2_with fail
    refine (mIsLetters_any n _).mono ?_
    rintro e w1 ⟨rfl, rfl⟩
    rw [q1]
    go_wp2
    go_ret
    exact ⟨rfl, by rw [E.out]; rfl⟩
theorem egCt : (∀ args (w : World), (callFunc 134 args).run Try.prog w = .ok (.enter 134 args) w) ∧ (∀ args (w : World), (callFunc 102 args).run Try.prog w = .ok (.enter 102 args) w) ∧ (∀ args (w : World), (callFunc 104 args).run Try.prog w = .ok (.enter 104 args) w) := ⟨fun _ _ => by kernel_rfl, fun _ _ => by kernel_rfl, fun _ _ => by kernel_rfl⟩
def tmOk (n a t : Int) : Prop := 1 ≤ n ∧ n ≤ 6 ∧ 0 ≤ a ∧ a < n ∧ 0 ≤ t ∧ t ≤ 20
instance (n a b : Int) : Decidable (tmOk n a b) := by unfold tmOk; infer_instance
theorem ctP_next (a e s : Int) (he : 0 ≤ e ∧ e ≤ 21) (c : Nat) (h : 0 ≤ s ∧ s ≤ 21) : 0 ≤ ctN a e s c ∧ ctN a e s c ≤ 21 := by
  unfold ctN; split <;> omega
/-- The languages of Least and Most. -/
noncomputable def leL (n : Nat) (a t : Int) : Lang := langOf n (ctN a t) (leK t) 0
noncomputable def moL (n : Nat) (a t : Int) : Lang := langOf n (ctN a (t + 1)) (moK t) 0
set_option maxRecDepth 100000 in
set_option maxHeartbeats 4000000 in
theorem least_any (n a t : Int) (w : World) : Calls Try.prog 44 #[.int .i64 n, .int .i64 a, .int .i64 t] w fun e w' => Below w.heap.size w w' ∧ ((tmOk n a t ∧ PlainAns w' w.heap.size n.toNat (leL n.toNat a t) e) ∨ (¬ tmOk n a t ∧ e = .returned (.tuple #[machV 0 none 0 0 none 0 0, .int .i64 1]))) := by
  have HA := hid (show Below w.heap.size w ((w.alloc (.cells #[.int .i64 t] 3)).alloc (.cells #[.int .i64 0, .slice none 0 0, .slice none 0 0] 25)) from ((Below.refl _ _).alloc (Nat.le_refl _) _).alloc (by simp) _)
  have hs0 : ((w.alloc (.cells #[.int .i64 t] 3)).alloc (.cells #[.int .i64 0, .slice none 0 0, .slice none 0 0] 25)).heap.size = w.heap.size + 2 := by simp
  have c0 : ((w.alloc (.cells #[.int .i64 t] 3)).alloc (.cells #[.int .i64 0, .slice none 0 0, .slice none 0 0] 25)).cell? ⟨w.heap.size, 0, none⟩ = some (.int .i64 t) := by go_simp
  have C0 := hid c0
  have HZ := hid (fun wx (hb : Below ((w.alloc (.cells #[.int .i64 t] 3)).alloc (.cells #[.int .i64 0, .slice none 0 0, .slice none 0 0] 25)).heap.size ((w.alloc (.cells #[.int .i64 t] 3)).alloc (.cells #[.int .i64 0, .slice none 0 0, .slice none 0 0] 25)) wx) => show wx.cell? ⟨w.heap.size + 1, 0, none⟩ = some (.int .i64 0) ∧ wx.cell? ⟨w.heap.size + 1, 1, none⟩ = some (.slice none 0 0) ∧ wx.cell? ⟨w.heap.size + 1, 2, none⟩ = some (.slice none 0 0) ∧ wx.frozen? ⟨w.heap.size + 1, 0, none⟩ = false ∧ wx.frozen? ⟨w.heap.size + 1, 1, none⟩ = false ∧ wx.frozen? ⟨w.heap.size + 1, 2, none⟩ = false from
    ⟨by rw [hb.cell (by simp)]; go_simp, by rw [hb.cell (by simp)]; go_simp, by rw [hb.cell (by simp)]; go_simp, by rw [hb.frozen (by simp)]; go_simp, by rw [hb.frozen (by simp)]; go_simp, by rw [hb.frozen (by simp)]; go_simp⟩)
  have KT := hid (fun wx => mAreTimes_any n a t wx)
  by_cases hn : tmOk n a t
  · have HOk := hid hn
    have hq : decide (1 ≤ n ∧ n ≤ 6 ∧ 0 ≤ a ∧ a < n ∧ 0 ≤ t ∧ t ≤ 20) = true := decide_eq_true hn
    rw [hq] at KT
    have hnn : ((n.toNat : Nat) : Int) = n := by unfold tmOk at hn; omega
    have ht : 0 ≤ t ∧ t ≤ 20 := by unfold tmOk at hn; omega
    have HP := hid (fun wx (hbx : Below ((w.alloc (.cells #[.int .i64 t] 3)).alloc (.cells #[.int .i64 0, .slice none 0 0, .slice none 0 0] 25)).heap.size ((w.alloc (.cells #[.int .i64 t] 3)).alloc (.cells #[.int .i64 0, .slice none 0 0, .slice none 0 0] 25)) wx) (x0 : wx.cell? ⟨w.heap.size + 2, 0, none⟩ = some (.int .i64 a)) (x1 : wx.cell? ⟨w.heap.size + 2 + 1, 0, none⟩ = some (.int .i64 t)) => plainI_any n.toNat (by unfold tmOk at hn; omega) (by unfold tmOk at hn; omega) 0 (ctN a t) (leK t) (fun s => 0 ≤ s ∧ s ≤ 21) 22 134 102 #[] #[.pointer (some ⟨w.heap.size + 2, 0, none⟩), .pointer (some ⟨w.heap.size + 2 + 1, 0, none⟩)] #[] #[.pointer (some ⟨w.heap.size, 0, none⟩)] wx
      (by omega) (fun s c hs hc => ctP_next a t s (by omega) c hs) (fun s hs => by unfold I64; omega) (fun l hn hl => small_bound 21 l hn hl) (by omega) egCt.1 egCt.2.1
      (fun w' s c hb hs hc => by
        have := ctNext_any s a t hs c (w.heap.size + 2) (w.heap.size + 2 + 1) w' ((hb.cell (cell_lt x0)).trans x0) ((hb.cell (cell_lt x1)).trans x1)
        simpa using this)
      (fun w' s hb hs => by
        have x2 := (hbx.cell (cell_lt C0.out)).trans C0.out
        have := leK_any s t w.heap.size w' ((hb.cell (cell_lt x2)).trans x2)
        simpa using this))
    rw [hnn] at HP
    clear hn hq
    go_enter Try.func44, Try.ntmps44
    go_wp2_with fail
    refine (KT.out _).mono ?_
    rintro e w1 ⟨rfl, rfl⟩
    go_wp2_with fail
    refine (countingLeast_any n a t w.heap.size _).mono ?_
    rintro e w2 ⟨hb2, x0, x1, rfl⟩
    rw [hs0] at x0 x1
    have HP := hid (HP.out w2 hb2 x0 x1)
    have hb2' := hb2
    clear x0 x1
    go_wp2_with fail
    refine HP.out.mono ?_
    rintro e w5 ⟨hb5, i, hF, hans⟩
    have hbb := hb2'.trans (hb5.mono hb2'.size)
    obtain ⟨z0, z1, z2, y0, y1, y2⟩ := HZ.out w5 hbb
    have HB5 := hid (HA.out.trans (hbb.mono HA.out.size))
    have hsz : w.heap.size + 1 < w5.heap.size := cell_lt z0
    have hs2 : w.heap.size + 2 ≤ w2.heap.size := by have := hb2'.size; omega
    have HF := hid hF
    clear hb5 hbb HZ HP hF C0 KT c0 hb2 hb2'
    rcases hans with ⟨h64, rfl⟩ | ⟨h64, Na, nc, Aa, ac, rfl, hM⟩
    · unfold machV
      go_wp2
      have t0 : (((w5.setCell ⟨w.heap.size + 1, 0, none⟩ (.int .i64 0)).setCell ⟨w.heap.size + 1, 1, none⟩ (.slice none 0 0)).setCell ⟨w.heap.size + 1, 2, none⟩ (.slice none 0 0)).cell? ⟨w.heap.size + 1, 0, none⟩ = some (.int .i64 0) := by go_simp
      have t1 : (((w5.setCell ⟨w.heap.size + 1, 0, none⟩ (.int .i64 0)).setCell ⟨w.heap.size + 1, 1, none⟩ (.slice none 0 0)).setCell ⟨w.heap.size + 1, 2, none⟩ (.slice none 0 0)).cell? ⟨w.heap.size + 1, 1, none⟩ = some (.slice none 0 0) := by go_simp
      have t2 : (((w5.setCell ⟨w.heap.size + 1, 0, none⟩ (.int .i64 0)).setCell ⟨w.heap.size + 1, 1, none⟩ (.slice none 0 0)).setCell ⟨w.heap.size + 1, 2, none⟩ (.slice none 0 0)).cell? ⟨w.heap.size + 1, 2, none⟩ = some (.slice none 0 0) := by go_simp
      have HBz := hid (((HB5.out.setCell (p := ⟨w.heap.size + 1, 0, none⟩) (by simp) (.int .i64 0)).setCell (p := ⟨w.heap.size + 1, 1, none⟩) (by simp) (.slice none 0 0)).setCell (p := ⟨w.heap.size + 1, 2, none⟩) (by simp) (.slice none 0 0))
      generalize (((w5.setCell ⟨w.heap.size + 1, 0, none⟩ (.int .i64 0)).setCell ⟨w.heap.size + 1, 1, none⟩ (.slice none 0 0)).setCell ⟨w.heap.size + 1, 2, none⟩ (.slice none 0 0)) = wz at *
      refine bodyPost_ret (v := .tuple #[machV 0 none 0 0 none 0 0, .int .i64 4]) (by simp [machV, results, Try.results44, go_sem, t0, t1, t2]) rfl ⟨HBz.out, .inl ⟨HOk.out, i, HF.out, .inl ⟨h64, rfl⟩⟩⟩
    · unfold machV
      rw [hnn]
      have HM := hid hM
      clear hM
      go_wp2
      have t0 : (((w5.setCell ⟨w.heap.size + 1, 0, none⟩ (.int .i64 n)).setCell ⟨w.heap.size + 1, 1, none⟩ (.slice Na i nc)).setCell ⟨w.heap.size + 1, 2, none⟩ (.slice Aa i ac)).cell? ⟨w.heap.size + 1, 0, none⟩ = some (.int .i64 n) := by go_simp
      have t1 : (((w5.setCell ⟨w.heap.size + 1, 0, none⟩ (.int .i64 n)).setCell ⟨w.heap.size + 1, 1, none⟩ (.slice Na i nc)).setCell ⟨w.heap.size + 1, 2, none⟩ (.slice Aa i ac)).cell? ⟨w.heap.size + 1, 1, none⟩ = some (.slice Na i nc) := by go_simp
      have t2 : (((w5.setCell ⟨w.heap.size + 1, 0, none⟩ (.int .i64 n)).setCell ⟨w.heap.size + 1, 1, none⟩ (.slice Na i nc)).setCell ⟨w.heap.size + 1, 2, none⟩ (.slice Aa i ac)).cell? ⟨w.heap.size + 1, 2, none⟩ = some (.slice Aa i ac) := by go_simp
      have HBz := hid (((HB5.out.setCell (p := ⟨w.heap.size + 1, 0, none⟩) (by simp) (.int .i64 n)).setCell (p := ⟨w.heap.size + 1, 1, none⟩) (by simp) (.slice Na i nc)).setCell (p := ⟨w.heap.size + 1, 2, none⟩) (by simp) (.slice Aa i ac))
      have HMz := hid ((((HM.out.setCell ⟨w.heap.size + 1, 0, none⟩ (.int .i64 n) (by first | omega | (simp; done) | (simp; omega) | (simp at *; omega))).setCell ⟨w.heap.size + 1, 1, none⟩ (.slice Na i nc) (by first | omega | (simp; done) | (simp; omega) | (simp at *; omega))).setCell ⟨w.heap.size + 1, 2, none⟩ (.slice Aa i ac) (by first | omega | (simp; done) | (simp; omega) | (simp at *; omega))).weak (B' := w.heap.size) (by first | omega | (simp; done) | (simp; omega)))
      generalize (((w5.setCell ⟨w.heap.size + 1, 0, none⟩ (.int .i64 n)).setCell ⟨w.heap.size + 1, 1, none⟩ (.slice Na i nc)).setCell ⟨w.heap.size + 1, 2, none⟩ (.slice Aa i ac)) = wz at *
      refine bodyPost_ret (v := .tuple #[machV n Na i nc Aa i ac, .int .i64 0]) (by simp [machV, results, Try.results44, go_sem, t0, t1, t2]) rfl ⟨HBz.out, .inl ⟨HOk.out, i, HF.out, .inr ⟨h64, Na, nc, Aa, ac, by rw [hnn], HMz.out⟩⟩⟩
  · have HNo := hid hn
    have hq : decide (1 ≤ n ∧ n ≤ 6 ∧ 0 ≤ a ∧ a < n ∧ 0 ≤ t ∧ t ≤ 20) = false := decide_eq_false hn
    rw [hq] at KT
    clear hn hq C0 HZ
    go_enter Try.func44, Try.ntmps44
    go_wp2_with fail
    refine (KT.out _).mono ?_
    rintro e w1 ⟨rfl, rfl⟩
    go_wp2
    refine bodyPost_ret (v := .tuple #[machV 0 none 0 0 none 0 0, .int .i64 1]) (by simp [machV, results, Try.results44, go_sem]) rfl ⟨HA.out, .inr ⟨HNo.out, rfl⟩⟩
set_option maxRecDepth 100000 in
set_option maxHeartbeats 4000000 in
theorem most_any (n a t : Int) (w : World) : Calls Try.prog 46 #[.int .i64 n, .int .i64 a, .int .i64 t] w fun e w' => Below w.heap.size w w' ∧ ((tmOk n a t ∧ PlainAns w' w.heap.size n.toNat (moL n.toNat a t) e) ∨ (¬ tmOk n a t ∧ e = .returned (.tuple #[machV 0 none 0 0 none 0 0, .int .i64 1]))) := by
  have HA := hid (show Below w.heap.size w ((w.alloc (.cells #[.int .i64 t] 3)).alloc (.cells #[.int .i64 0, .slice none 0 0, .slice none 0 0] 25)) from ((Below.refl _ _).alloc (Nat.le_refl _) _).alloc (by simp) _)
  have hs0 : ((w.alloc (.cells #[.int .i64 t] 3)).alloc (.cells #[.int .i64 0, .slice none 0 0, .slice none 0 0] 25)).heap.size = w.heap.size + 2 := by simp
  have c0 : ((w.alloc (.cells #[.int .i64 t] 3)).alloc (.cells #[.int .i64 0, .slice none 0 0, .slice none 0 0] 25)).cell? ⟨w.heap.size, 0, none⟩ = some (.int .i64 t) := by go_simp
  have C0 := hid c0
  have HZ := hid (fun wx (hb : Below ((w.alloc (.cells #[.int .i64 t] 3)).alloc (.cells #[.int .i64 0, .slice none 0 0, .slice none 0 0] 25)).heap.size ((w.alloc (.cells #[.int .i64 t] 3)).alloc (.cells #[.int .i64 0, .slice none 0 0, .slice none 0 0] 25)) wx) => show wx.cell? ⟨w.heap.size + 1, 0, none⟩ = some (.int .i64 0) ∧ wx.cell? ⟨w.heap.size + 1, 1, none⟩ = some (.slice none 0 0) ∧ wx.cell? ⟨w.heap.size + 1, 2, none⟩ = some (.slice none 0 0) ∧ wx.frozen? ⟨w.heap.size + 1, 0, none⟩ = false ∧ wx.frozen? ⟨w.heap.size + 1, 1, none⟩ = false ∧ wx.frozen? ⟨w.heap.size + 1, 2, none⟩ = false from
    ⟨by rw [hb.cell (by simp)]; go_simp, by rw [hb.cell (by simp)]; go_simp, by rw [hb.cell (by simp)]; go_simp, by rw [hb.frozen (by simp)]; go_simp, by rw [hb.frozen (by simp)]; go_simp, by rw [hb.frozen (by simp)]; go_simp⟩)
  have KT := hid (fun wx => mAreTimes_any n a t wx)
  by_cases hn : tmOk n a t
  · have HOk := hid hn
    have hq : decide (1 ≤ n ∧ n ≤ 6 ∧ 0 ≤ a ∧ a < n ∧ 0 ≤ t ∧ t ≤ 20) = true := decide_eq_true hn
    rw [hq] at KT
    have hnn : ((n.toNat : Nat) : Int) = n := by unfold tmOk at hn; omega
    have ht : 0 ≤ t ∧ t ≤ 20 := by unfold tmOk at hn; omega
    have HP := hid (fun wx (hbx : Below ((w.alloc (.cells #[.int .i64 t] 3)).alloc (.cells #[.int .i64 0, .slice none 0 0, .slice none 0 0] 25)).heap.size ((w.alloc (.cells #[.int .i64 t] 3)).alloc (.cells #[.int .i64 0, .slice none 0 0, .slice none 0 0] 25)) wx) (x0 : wx.cell? ⟨w.heap.size + 2, 0, none⟩ = some (.int .i64 a)) (x1 : wx.cell? ⟨w.heap.size + 2 + 1, 0, none⟩ = some (.int .i64 (t + 1))) => plainI_any n.toNat (by unfold tmOk at hn; omega) (by unfold tmOk at hn; omega) 0 (ctN a (t + 1)) (moK t) (fun s => 0 ≤ s ∧ s ≤ 21) 22 134 104 #[] #[.pointer (some ⟨w.heap.size + 2, 0, none⟩), .pointer (some ⟨w.heap.size + 2 + 1, 0, none⟩)] #[] #[.pointer (some ⟨w.heap.size, 0, none⟩)] wx
      (by omega) (fun s c hs hc => ctP_next a (t + 1) s (by omega) c hs) (fun s hs => by unfold I64; omega) (fun l hn hl => small_bound 21 l hn hl) (by omega) egCt.1 egCt.2.2
      (fun w' s c hb hs hc => by
        have := ctNext_any s a (t + 1) hs c (w.heap.size + 2) (w.heap.size + 2 + 1) w' ((hb.cell (cell_lt x0)).trans x0) ((hb.cell (cell_lt x1)).trans x1)
        simpa using this)
      (fun w' s hb hs => by
        have x2 := (hbx.cell (cell_lt C0.out)).trans C0.out
        have := moK_any s t w.heap.size w' ((hb.cell (cell_lt x2)).trans x2)
        simpa using this))
    rw [hnn] at HP
    clear hn hq
    go_enter Try.func46, Try.ntmps46
    go_wp2_with fail
    refine (KT.out _).mono ?_
    rintro e w1 ⟨rfl, rfl⟩
    go_wp2_with fail
    refine (countingMost_any n a (t + 1) w.heap.size _).mono ?_
    rintro e w2 ⟨hb2, x0, x1, rfl⟩
    rw [hs0] at x0 x1
    have HP := hid (HP.out w2 hb2 x0 x1)
    have hb2' := hb2
    clear x0 x1
    go_wp2_with fail
    refine HP.out.mono ?_
    rintro e w5 ⟨hb5, i, hF, hans⟩
    have hbb := hb2'.trans (hb5.mono hb2'.size)
    obtain ⟨z0, z1, z2, y0, y1, y2⟩ := HZ.out w5 hbb
    have HB5 := hid (HA.out.trans (hbb.mono HA.out.size))
    have hsz : w.heap.size + 1 < w5.heap.size := cell_lt z0
    have hs2 : w.heap.size + 2 ≤ w2.heap.size := by have := hb2'.size; omega
    have HF := hid hF
    clear hb5 hbb HZ HP hF C0 KT c0 hb2 hb2'
    rcases hans with ⟨h64, rfl⟩ | ⟨h64, Na, nc, Aa, ac, rfl, hM⟩
    · unfold machV
      go_wp2
      have t0 : (((w5.setCell ⟨w.heap.size + 1, 0, none⟩ (.int .i64 0)).setCell ⟨w.heap.size + 1, 1, none⟩ (.slice none 0 0)).setCell ⟨w.heap.size + 1, 2, none⟩ (.slice none 0 0)).cell? ⟨w.heap.size + 1, 0, none⟩ = some (.int .i64 0) := by go_simp
      have t1 : (((w5.setCell ⟨w.heap.size + 1, 0, none⟩ (.int .i64 0)).setCell ⟨w.heap.size + 1, 1, none⟩ (.slice none 0 0)).setCell ⟨w.heap.size + 1, 2, none⟩ (.slice none 0 0)).cell? ⟨w.heap.size + 1, 1, none⟩ = some (.slice none 0 0) := by go_simp
      have t2 : (((w5.setCell ⟨w.heap.size + 1, 0, none⟩ (.int .i64 0)).setCell ⟨w.heap.size + 1, 1, none⟩ (.slice none 0 0)).setCell ⟨w.heap.size + 1, 2, none⟩ (.slice none 0 0)).cell? ⟨w.heap.size + 1, 2, none⟩ = some (.slice none 0 0) := by go_simp
      have HBz := hid (((HB5.out.setCell (p := ⟨w.heap.size + 1, 0, none⟩) (by simp) (.int .i64 0)).setCell (p := ⟨w.heap.size + 1, 1, none⟩) (by simp) (.slice none 0 0)).setCell (p := ⟨w.heap.size + 1, 2, none⟩) (by simp) (.slice none 0 0))
      generalize (((w5.setCell ⟨w.heap.size + 1, 0, none⟩ (.int .i64 0)).setCell ⟨w.heap.size + 1, 1, none⟩ (.slice none 0 0)).setCell ⟨w.heap.size + 1, 2, none⟩ (.slice none 0 0)) = wz at *
      refine bodyPost_ret (v := .tuple #[machV 0 none 0 0 none 0 0, .int .i64 4]) (by simp [machV, results, Try.results46, go_sem, t0, t1, t2]) rfl ⟨HBz.out, .inl ⟨HOk.out, i, HF.out, .inl ⟨h64, rfl⟩⟩⟩
    · unfold machV
      rw [hnn]
      have HM := hid hM
      clear hM
      go_wp2
      have t0 : (((w5.setCell ⟨w.heap.size + 1, 0, none⟩ (.int .i64 n)).setCell ⟨w.heap.size + 1, 1, none⟩ (.slice Na i nc)).setCell ⟨w.heap.size + 1, 2, none⟩ (.slice Aa i ac)).cell? ⟨w.heap.size + 1, 0, none⟩ = some (.int .i64 n) := by go_simp
      have t1 : (((w5.setCell ⟨w.heap.size + 1, 0, none⟩ (.int .i64 n)).setCell ⟨w.heap.size + 1, 1, none⟩ (.slice Na i nc)).setCell ⟨w.heap.size + 1, 2, none⟩ (.slice Aa i ac)).cell? ⟨w.heap.size + 1, 1, none⟩ = some (.slice Na i nc) := by go_simp
      have t2 : (((w5.setCell ⟨w.heap.size + 1, 0, none⟩ (.int .i64 n)).setCell ⟨w.heap.size + 1, 1, none⟩ (.slice Na i nc)).setCell ⟨w.heap.size + 1, 2, none⟩ (.slice Aa i ac)).cell? ⟨w.heap.size + 1, 2, none⟩ = some (.slice Aa i ac) := by go_simp
      have HBz := hid (((HB5.out.setCell (p := ⟨w.heap.size + 1, 0, none⟩) (by simp) (.int .i64 n)).setCell (p := ⟨w.heap.size + 1, 1, none⟩) (by simp) (.slice Na i nc)).setCell (p := ⟨w.heap.size + 1, 2, none⟩) (by simp) (.slice Aa i ac))
      have HMz := hid ((((HM.out.setCell ⟨w.heap.size + 1, 0, none⟩ (.int .i64 n) (by first | omega | (simp; done) | (simp; omega) | (simp at *; omega))).setCell ⟨w.heap.size + 1, 1, none⟩ (.slice Na i nc) (by first | omega | (simp; done) | (simp; omega) | (simp at *; omega))).setCell ⟨w.heap.size + 1, 2, none⟩ (.slice Aa i ac) (by first | omega | (simp; done) | (simp; omega) | (simp at *; omega))).weak (B' := w.heap.size) (by first | omega | (simp; done) | (simp; omega)))
      generalize (((w5.setCell ⟨w.heap.size + 1, 0, none⟩ (.int .i64 n)).setCell ⟨w.heap.size + 1, 1, none⟩ (.slice Na i nc)).setCell ⟨w.heap.size + 1, 2, none⟩ (.slice Aa i ac)) = wz at *
      refine bodyPost_ret (v := .tuple #[machV n Na i nc Aa i ac, .int .i64 0]) (by simp [machV, results, Try.results46, go_sem, t0, t1, t2]) rfl ⟨HBz.out, .inl ⟨HOk.out, i, HF.out, .inr ⟨h64, Na, nc, Aa, ac, by rw [hnn], HMz.out⟩⟩⟩
  · have HNo := hid hn
    have hq : decide (1 ≤ n ∧ n ≤ 6 ∧ 0 ≤ a ∧ a < n ∧ 0 ≤ t ∧ t ≤ 20) = false := decide_eq_false hn
    rw [hq] at KT
    clear hn hq C0 HZ
    go_enter Try.func46, Try.ntmps46
    go_wp2_with fail
    refine (KT.out _).mono ?_
    rintro e w1 ⟨rfl, rfl⟩
    go_wp2
    refine bodyPost_ret (v := .tuple #[machV 0 none 0 0 none 0 0, .int .i64 1]) (by simp [machV, results, Try.results46, go_sem]) rfl ⟨HA.out, .inr ⟨HNo.out, rfl⟩⟩
end Go.Proofs.Ytkboeldafppicaa
set_option linter.unusedVariables false
namespace Go.Proofs.Ytkboeldafppicaa
open Go.RowKit

theorem rl_out {okP : Prop} [Decidable okP] {w' : World} {B : Nat} {n : Int} {f : Lang} {e : Ending} (h : (okP ∧ PlainAns w' B n.toNat f e) ∨ (¬ okP ∧ e = .returned (.tuple #[machV 0 none 0 0 none 0 0, .int .i64 1]))) : ∃ M t bs v Na nc Aa ac, LgD (if okP then 0 else 1) n f M t bs v ∧ e = .returned (.tuple #[machV M Na t.length nc Aa bs.length ac, .int .i64 v]) ∧ MachFrom w' B Na t Aa bs := by
  refine lg_out ?_
  by_cases hk : okP
  · rw [if_pos hk]
    rcases h with ⟨_, h⟩ | ⟨h, _⟩
    · exact .inr ⟨rfl, h⟩
    · exact absurd hk h
  · rw [if_neg hk]
    rcases h with ⟨h, _⟩ | ⟨_, h⟩
    · exact absurd h hk
    · exact .inl ⟨by decide, h⟩
theorem runK_stK (rows : List (List Int)) (l : List Int) : ∀ k, runK rows 0 l k = stK (mN rows) 0 l k
  | 0 => rfl
  | k + 1 => by rw [runK, stK, runK_stK rows l k]; rfl
theorem ltr_nn {l : List Int} {n : Int} (h : allB l n = true) (i : Nat) : 0 ≤ ltr l i := by
  unfold ltr
  cases hi : l[i]? with
  | none => simp
  | some x => exact (allB_iff.1 h x (List.mem_of_getElem? hi)).1
theorem rl_acc {okP : Prop} [Decidable okP] {S : Type} {next : S → Nat → S} {acc : S → Bool} {s0 : S} {n : Int} {M : Int} {t : List (List Int)} {bs : List Bool} (hn : okP → 1 ≤ n ∧ n ≤ 6) (h : LgD (if okP then 0 else 1) n (langOf n.toNat next acc s0) M t bs 0) (l : List Int) :
    okP ∧ wordE M t bs l = lE l n ∧ (wordE M t bs l = 0 → accB M t bs l = acc (stK next s0 l l.length) ∧ ∀ i, 0 ≤ ltr l i) := by
  have hk : okP := by
    by_cases hk : okP
    · exact hk
    · rw [if_neg hk] at h
      rcases h with ⟨_, _, _, _, e⟩ | ⟨e, _⟩
      · cases e
      · cases e
  refine ⟨hk, ?_⟩
  rw [if_pos hk] at h
  have hn := hn hk
  obtain ⟨m, rfl⟩ : ∃ m : Nat, n = m := ⟨n.toNat, by omega⟩
  have hself : langOf m dv ep (langOf m next acc s0) = langOf m next acc s0 := lang_self s0
  rw [Int.toNat_natCast] at h
  have hh : M = m ∧ GoodM m t bs ∧ t.length ≤ 64 ∧ mLang m t bs 0 = langOf m next acc s0 := by
    rcases h with ⟨hv, _, _, _, e⟩ | ⟨hv, i, hF, hans⟩
    · exact absurd rfl hv
    · rcases hans with ⟨_, _, _, _, e⟩ | ⟨h64, hM, ht, hbs, _⟩
      · cases e
      · rw [Int.toNat_natCast] at hF hM ht hbs
        have hti : t.length = i := by rw [ht]; exact (listTo_len m dv ep _ i).1
        refine ⟨hM, by rw [ht, hbs]; exact (full_good (by omega) (by omega) (L := m) (next := dv) (acc := ep) (s0 := langOf m next acc s0) hF).1, by omega, ?_⟩
        rw [ht, hbs]
        have := (full_lang (by omega) (by omega) (L := m) (next := dv) (acc := ep) (s0 := langOf m next acc s0) hF).1
        unfold canon
        rw [this]
        exact hself
  obtain ⟨rfl, hg, h64, hl⟩ := hh
  have hv0 := good_vE hg h64
  have hw : wordE m t bs l = lE l m := by unfold wordE; rw [if_neg (fun hh => hh hv0)]
  refine ⟨hw, fun h0 => ?_⟩
  obtain ⟨_, _, hall, _⟩ := wordE_ok h0
  have hwd : Wd m (l.map Int.toNat) := by
    intro c hc
    obtain ⟨x, hx, rfl⟩ := List.mem_map.1 hc
    have := allB_iff.1 hall x hx
    omega
  have h1 := congrFun hl (l.map Int.toNat)
  unfold mLang at h1
  rw [langOf_in hwd, langOf_in hwd, stK_all, stK_all] at h1
  refine ⟨?_, ltr_nn hall⟩
  unfold accB
  rw [h0, runK_stK]
  simpa using h1
theorem ap_acc {n d M : Int} {t : List (List Int)} {bs : List Bool} (h : LgD (if apOk n d then 0 else 1) n (apL n.toNat d) M t bs 0) (l : List Int) : apOk n d ∧ wordE M t bs l = lE l n ∧ (wordE M t bs l = 0 → (accB M t bs l = true ↔ ¬ Near d l l.length)) := by
  obtain ⟨h1, h2, h3⟩ := rl_acc (fun hk => by unfold apOk at hk; omega) h l
  refine ⟨h1, h2, fun h0 => ?_⟩
  obtain ⟨h4, h5⟩ := h3 h0
  rw [h4]
  have hd : 0 ≤ d ∧ d ≤ 3 := by unfold apOk at h1; omega
  obtain ⟨k1, k2⟩ := ap_state apN d (fun s c => ⟨fun hh => if_pos hh, fun hh => if_neg hh⟩) hd l h5 l.length
  by_cases hq : Near d l l.length
  · rw [k1 hq]; simp [apK, hq]
  · rw [k2 hq]; simp [apK, hq]
theorem le_acc {n a b M : Int} {t : List (List Int)} {bs : List Bool} (h : LgD (if tmOk n a b then 0 else 1) n (leL n.toNat a b) M t bs 0) (l : List Int) : tmOk n a b ∧ wordE M t bs l = lE l n ∧ (wordE M t bs l = 0 → accB M t bs l = decide (b ≤ tms a l l.length)) := by
  obtain ⟨h1, h2, h3⟩ := rl_acc (fun hk => by unfold tmOk at hk; omega) h l
  refine ⟨h1, h2, fun h0 => ?_⟩
  obtain ⟨h4, h5⟩ := h3 h0
  rw [h4, ct_state a b (by unfold tmOk at h1; omega) l h5]
  unfold leK
  have := tms_nn a l l.length
  generalize tms a l l.length = x at *
  by_cases hq : b ≤ x
  · rw [decide_eq_true hq, decide_eq_true (by omega)]
  · rw [decide_eq_false hq, decide_eq_false (by omega)]
theorem mo_acc {n a b M : Int} {t : List (List Int)} {bs : List Bool} (h : LgD (if tmOk n a b then 0 else 1) n (moL n.toNat a b) M t bs 0) (l : List Int) : tmOk n a b ∧ wordE M t bs l = lE l n ∧ (wordE M t bs l = 0 → accB M t bs l = decide (tms a l l.length ≤ b)) := by
  obtain ⟨h1, h2, h3⟩ := rl_acc (fun hk => by unfold tmOk at hk; omega) h l
  refine ⟨h1, h2, fun h0 => ?_⟩
  obtain ⟨h4, h5⟩ := h3 h0
  rw [h4, ct_state a (b + 1) (by unfold tmOk at h1; omega) l h5]
  unfold moK
  have := tms_nn a l l.length
  generalize tms a l l.length = x at *
  by_cases hq : x ≤ b
  · rw [decide_eq_true hq, decide_eq_true (by omega)]
  · rw [decide_eq_false hq, decide_eq_false (by omega)]
theorem nv_acc {n a b M : Int} {t : List (List Int)} {bs : List Bool} (h : LgD (if nvOk n a b then 0 else 1) n (nvL n.toNat a b) M t bs 0) (l : List Int) : nvOk n a b ∧ wordE M t bs l = lE l n ∧ (wordE M t bs l = 0 → (accB M t bs l = true ↔ ¬ Brk a b l l.length)) := by
  obtain ⟨h1, h2, h3⟩ := rl_acc (fun hk => by unfold nvOk at hk; omega) h l
  refine ⟨h1, h2, fun h0 => ?_⟩
  obtain ⟨h4, h5⟩ := h3 h0
  rw [h4]
  obtain ⟨k1, k2⟩ := nv_state a b l h5 l.length
  by_cases hq : Brk a b l l.length
  · rw [k1 hq]; simp [nvK, hq]
  · rw [k2 hq]
    simp only [hq, not_false_eq_true, iff_true]
    unfold nvK
    split <;> decide
end Go.Proofs.Ytkboeldafppicaa
