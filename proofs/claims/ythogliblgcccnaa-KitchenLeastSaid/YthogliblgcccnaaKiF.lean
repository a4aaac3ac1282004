/- The longest path: the document's own, and package kitchen's. -/
import Derived.Test.YthogliblgcccnaaKiE
set_option linter.unusedVariables false
namespace Go.Proofs.Ythogliblgcccnaa
open Go.RowKit

def pathTo (s : List Bt) (k : Nat) : Nat → Int
  | 0 => 0
  | i + 1 => pathTo s k i + ((if i ≤ k then (btAt s i).1 else 0) + (if k ≤ i then (btAt s i).2 else 0))
theorem pathTo_low (s : List Bt) (k i : Nat) (h : i ≤ k) : pathTo s k i = cookTo s i := by
  induction i with
  | zero => rfl
  | succ i ih => rw [pathTo, ih (by omega), if_pos (by omega), if_neg (by omega), cookTo]; omega
theorem pathTo_high (s : List Bt) (k i : Nat) (h : k < i) : pathTo s k i = cookTo s (k + 1) + packSum s i - packSum s k := by
  induction i with
  | zero => omega
  | succ i ih =>
    rw [pathTo]
    by_cases e : i = k
    · subst e
      rw [pathTo_low s i i (Nat.le_refl _), if_pos (Nat.le_refl _), if_pos (Nat.le_refl _)]
      simp only [cookTo, packSum]; omega
    · rw [ih (by omega), if_neg (by omega), if_pos (by omega)]
      simp only [packSum]; omega
theorem pathTo_end (s : List Bt) (k : Nat) (h : k < s.length) : pathTo s k s.length = path s k := by
  rw [pathTo_high s k _ h, path_eq s k h, totP_end]
theorem pathTo_bd {s : List Bt} (h : ∀ i, i < s.length → (0 ≤ (btAt s i).1 ∧ (btAt s i).1 ≤ 1000) ∧ 0 ≤ (btAt s i).2 ∧ (btAt s i).2 ≤ 1000) (k i : Nat) (hi : i ≤ s.length) : 0 ≤ pathTo s k i ∧ pathTo s k i ≤ 2000 * i := by
  induction i with
  | zero => simp [pathTo]
  | succ i ih =>
    have := ih (by omega); have := h i (by omega)
    simp only [pathTo]; split <;> split <;> omega
theorem path_bd {s : List Bt} (h : ∀ i, i < s.length → (0 ≤ (btAt s i).1 ∧ (btAt s i).1 ≤ 1000) ∧ 0 ≤ (btAt s i).2 ∧ (btAt s i).2 ≤ 1000) (k : Nat) (hk : k < s.length) : 0 ≤ path s k ∧ path s k ≤ 2000 * s.length := by
  rw [← pathTo_end s k hk]; exact pathTo_bd h k _ (Nat.le_refl _)
def critFrom (s : List Bt) : Nat → Nat → Nat
  | 0, _ => 0
  | f + 1, k => if path s k = tm 0 0 s then k else critFrom s f (k + 1)
def critF (s : List Bt) : Nat := critFrom s s.length 0
theorem critFrom_is {s : List Bt} {k : Nat} (h : IsCrit s k) (f : Nat) : ∀ j, j ≤ k → k < j + f → critFrom s f j = k := by
  induction f with
  | zero => intro j h1 h2; omega
  | succ f ih =>
    intro j h1 h2
    unfold critFrom
    by_cases e : j = k
    · subst e; rw [if_pos h.eq]
    · rw [if_neg (h.first j (by omega))]; exact ih (j + 1) (by omega) (by omega)
theorem critF_is {s : List Bt} {k : Nat} (h : IsCrit s k) : critF s = k := critFrom_is h _ 0 (Nat.zero_le _) (by have := h.lt; omega)
theorem critF_crit {s : List Bt} (hs : NN s) (h0 : 0 < s.length) : IsCrit s (critF s) := by
  obtain ⟨k, hk⟩ := crit_has s hs h0
  rw [critF_is hk]; exact hk
theorem long_end {s : List Bt} (hs : NN s) {m : Int} {a : Nat} (h : Long s s.length m a) : m = tm 0 0 s ∧ a = critF s := by
  obtain ⟨h1, h2⟩ := h.time hs
  refine ⟨h1, ?_⟩
  by_cases h0 : s.length = 0
  · rw [(h.none h0).2]
    unfold critF
    rw [h0]; rfl
  · exact (critF_is (h2 (by omega))).symm
theorem NN_of {s : List Bt} (h : ∀ i, i < s.length → (0 ≤ (btAt s i).1 ∧ (btAt s i).1 ≤ 1000) ∧ 0 ≤ (btAt s i).2 ∧ (btAt s i).2 ≤ 1000) : NN s := by
  intro b hb
  obtain ⟨i, hi, rfl⟩ := mem_btAt hb
  exact ⟨(h i hi).1.1, (h i hi).2.1⟩

/-- The cells of the batch at a place of an order. -/
theorem at_place {w : World} {a A : Option Addr} {l : List Bt} {o : List Int} (h : Bts w a l) (hO : Ints w A o) (hl : BtsOk l) (ho : IsOrd o l.length) (i : Nat) (hi : i < o.length) :
    ∃ (n : Nat) (b off b2 off2 : Nat), n < l.length ∧ a = some ⟨b, off, none⟩ ∧ A = some ⟨b2, off2, none⟩ ∧ w.cell? ⟨b2, off2 + i, none⟩ = some (.int .i64 (n : Int)) ∧ w.cell? ⟨b, off + n * 2, none⟩ = some (.int .i64 (btAt (seqO l o) i).1) ∧ w.cell? ⟨b, off + n * 2 + 1, none⟩ = some (.int .i64 (btAt (seqO l o) i).2) := by
  have hm := ho.mem (oAt_mem o i hi)
  obtain ⟨n, hn⟩ := Int.eq_ofNat_of_zero_le hm.1
  have hnl : n < l.length := by omega
  have he : btAt (seqO l o) i = btAt l n := by rw [seqO_at l o i hi, hn]; rfl
  rcases h.at_ with e | ⟨b, off, ha, hc⟩
  · rw [e] at hnl; simp at hnl
  rcases hO.at_ with e | ⟨b2, off2, hA, hc2⟩
  · rw [e] at hi; simp at hi
  have c := hc2 i hi
  rw [show o[i]?.getD 0 = oAt o i from rfl, hn] at c
  exact ⟨n, b, off, b2, off2, hnl, ha, hA, c, by rw [he]; exact (hc n hnl).1, by rw [he]; exact (hc n hnl).2⟩
set_option maxRecDepth 100000 in
set_option maxHeartbeats 2000000 in
theorem krSum_any (a A : Option Addr) (l : List Bt) (o : List Int) (cap oc k : Nat) (w : World) (h : Bts w a l) (hO : Ints w A o) (hl : BtsOk l) (ho : IsOrd o l.length) (hk : k < o.length) :
  Calls Try.prog 72 #[.slice a l.length cap, .slice A o.length oc, .int .i64 (k : Int)] w (NumK w (path (seqO l o) k)) := by
  have hlen := h.len
  have holen := hO.len
  have hol7 : o.length ≤ 7 := by rw [ho.len]; exact hl.len
  have HP := hid (fun i (hi : i < o.length) => at_place h hO hl ho i hi)
  have HS := hid (seq_ok hl ho)
  have HB := hid (fun i (hi : i ≤ o.length) => pathTo_bd (seq_ok hl ho) k i (by rw [seqO_len]; exact hi))
  have HE := hid (show pathTo (seqO l o) k o.length = path (seqO l o) k by rw [← pathTo_end _ _ (by rw [seqO_len]; exact hk), seqO_len])
  have HSL := hid (seqO_len l o)
  clear h hO hl ho
  generalize seqO l o = s at *
  go_enter Try.func72, Try.ntmps72
  go_wp2
  go_loop [7, 8] (fun t i => ∃ (j : Nat), j ≤ o.length ∧ i = .int .i64 j ∧ t = .int .i64 (pathTo s k j)) (fun _ i => o.length - (intOf i).toNat)
  case atStart => exact ⟨0, Nat.zero_le _, rfl, rfl⟩
  case round =>
    obtain ⟨j, hj, rfl, rfl⟩ := hrel
    by_cases hlt : j < o.length
    · obtain ⟨n, b, off, b2, off2, hn, rfl, rfl, c0, c1, c2⟩ := HP.out j hlt
      have hb1 := HB.out j hj
      have hb2 := HS.out j (by rw [HSL.out]; exact hlt)
      have hd : decide (j < o.length) = true := decide_eq_true hlt
      have HN := hid (show pathTo s k (j + 1) = pathTo s k j + ((if j ≤ k then (btAt s j).1 else 0) + (if k ≤ j then (btAt s j).2 else 0)) from rfl)
      clear HP HS HB HE
      generalize pathTo s k j = v at *
      generalize btAt s j = y at *
      rcases Nat.lt_trichotomy j k with hjk | hjk | hjk
      · have HN2 := hid (show pathTo s k (j + 1) = v + y.1 by rw [HN.out, if_pos (by omega), if_neg (by omega)]; omega)
        have d1 : decide (j ≤ k) = true := decide_eq_true (by omega)
        have d2 : decide (k ≤ j) = false := decide_eq_false (by omega)
        have d3 : (j : Int) < (k : Int) := by omega
        clear HN hjk
        go_wp2
        go_round
        case rel => exact ⟨j + 1, by omega, by go_num, by rw [HN2.out]⟩
        case measure => simp [intOf]; omega
      · subst hjk
        have HN2 := hid (show pathTo s j (j + 1) = v + y.1 + y.2 by rw [HN.out, if_pos (by omega), if_pos (by omega)]; omega)
        clear HN
        go_wp2
        go_round
        case rel => exact ⟨j + 1, by omega, by go_num, by rw [HN2.out]⟩
        case measure => simp [intOf]; omega
      · have HN2 := hid (show pathTo s k (j + 1) = v + y.2 by rw [HN.out, if_neg (by omega), if_pos (by omega)]; omega)
        have d1 : decide (j ≤ k) = false := decide_eq_false (by omega)
        have d2 : decide (k ≤ j) = true := decide_eq_true (by omega)
        have d3 : (k : Int) < (j : Int) := by omega
        clear HN hjk
        go_wp2
        go_round
        case rel => exact ⟨j + 1, by omega, by go_num, by rw [HN2.out]⟩
        case measure => simp [intOf]; omega
    · obtain rfl : j = o.length := by omega
      have hd : decide (o.length < o.length) = false := decide_eq_false (Nat.lt_irrefl _)
      go_wp2
      go_ret
      exact ⟨rfl, by rw [← HE.out]; first | rfl | skip⟩
def Two2 (w : World) (x y : Int) (en : Ending) (w' : World) : Prop := w = w' ∧ en = .returned (.tuple #[.int .i64 x, .int .i64 y])
set_option maxRecDepth 100000 in
set_option maxHeartbeats 2000000 in
theorem krLongest_any (a A : Option Addr) (l : List Bt) (o : List Int) (cap oc : Nat) (w : World) (h : Bts w a l) (hO : Ints w A o) (hl : BtsOk l) (ho : IsOrd o l.length) :
  Calls Try.prog 57 #[.slice a l.length cap, .slice A o.length oc] w (Two2 w (timeO l o) (critF (seqO l o) : Nat)) := by
  have hlen := h.len
  have holen := hO.len
  have hol7 : o.length ≤ 7 := by rw [ho.len]; exact hl.len
  have HS := hid (fun k hk => krSum_any a A l o cap oc k w h hO hl ho hk)
  have HB := hid (fun k (hk : k < o.length) => path_bd (seq_ok hl ho) k (by rw [seqO_len]; exact hk))
  have HE := hid (fun m a (hL : Long (seqO l o) o.length m a) => long_end (NN_of (seq_ok hl ho)) (by rw [seqO_len]; exact hL))
  have HT := hid (show timeO l o = tm 0 0 (seqO l o) from rfl)
  have HSL := hid (seqO_len l o)
  clear h hO hl ho
  generalize seqO l o = s at *
  go_enter Try.func57, Try.ntmps57
  go_wp2
  go_loop [6, 7, 8] (fun t u i => ∃ (j q : Nat) (m : Int), j ≤ o.length ∧ i = .int .i64 j ∧ t = .int .i64 m ∧ u = .int .i64 (q : Int) ∧ q ≤ j ∧ Hid (Long s j m q)) (fun _ _ i => o.length - (intOf i).toNat)
  case atStart => exact ⟨0, 0, 0, Nat.zero_le _, rfl, rfl, rfl, Nat.zero_le _, Long.zero s⟩
  case round =>
    obtain ⟨j, q, m, hj, rfl, rfl, rfl, hq, HL⟩ := hrel
    by_cases hlt : j < o.length
    · have HS1 := hid (HS.out j hlt)
      have hd : decide (j < o.length) = true := decide_eq_true hlt
      by_cases h0 : j = 0
      · subst h0
        have HL2 := hid (Long.first s)
        clear HL HS HB HE
        generalize path s 0 = v at *
        go_wp2_with fail
        refine HS1.out.mono ?_
        rintro e w1 ⟨rfl, rfl⟩
        go_wp2
        go_round
        case rel => exact ⟨1, 0, v, by omega, by go_num, rfl, rfl, by omega, HL2⟩
        case measure => simp [intOf]; omega
      · have hz : ((j : Int) == 0) = false := by rw [beq_eq_false_iff_ne]; omega
        have hz2 : (j : Int) ≠ 0 := by omega
        by_cases hc : m < path s j
        · have HL2 := hid (HL.out.more (by omega) hc)
          clear HL HS HB HE h0
          generalize path s j = v at *
          go_wp2_with fail
          refine HS1.out.mono ?_
          rintro e w1 ⟨rfl, rfl⟩
          go_wp2
          go_round
          case rel => exact ⟨j + 1, j, v, by omega, by go_num, rfl, rfl, by omega, HL2⟩
          case measure => simp [intOf]; omega
        · have HL2 := hid (HL.out.stay (by omega) (by omega))
          have hc' : path s j ≤ m := by omega
          clear HL HS HB HE h0 hc
          generalize path s j = v at *
          go_wp2_with fail
          refine HS1.out.mono ?_
          rintro e w1 ⟨rfl, rfl⟩
          go_wp2
          go_round
          case rel => exact ⟨j + 1, q, m, by omega, by go_num, rfl, rfl, by omega, HL2⟩
          case measure => simp [intOf]; omega
    · obtain rfl : j = o.length := by omega
      have hd : decide (o.length < o.length) = false := decide_eq_false (Nat.lt_irrefl _)
      have HF := hid (HE.out m q HL.out)
      clear HE HL HS HB
      go_wp2
      go_ret2
      exact ⟨rfl, by rw [HT.out, ← HF.out.1, ← HF.out.2]; first | rfl | skip⟩
end Go.Proofs.Ythogliblgcccnaa
