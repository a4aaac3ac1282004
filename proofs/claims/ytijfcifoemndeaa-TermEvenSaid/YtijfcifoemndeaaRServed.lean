/- The document's own answers for how often menus are served, and how many are lost. -/
import Derived.Test.YtijfcifoemndeaaRefMenu
import Derived.Test.YtijfcifoemndeaaLost
import Derived.StillTailTactics
set_option linter.unusedVariables false
namespace Go.Proofs.Ytijfcifoemndeaa
open Go.RowKit

theorem Own.ints' {w : World} {base : Nat} {v : Value} {xs : List Int} (h : Own w base v xs) (hl : xs.length ≤ 140737488355328) (hb : ∀ x ∈ xs, -9223372036854775808 ≤ x ∧ x ≤ 9223372036854775807) :
    ∃ (a : Option Addr) (cap : Nat), v = .slice a xs.length cap ∧ Ints w a xs ∧ ∀ ad, a = some ad → base ≤ ad.block := by
  obtain ⟨a, cap, hv, hi⟩ := h.ints hl hb
  refine ⟨a, cap, hv, hi, fun ad had => ?_⟩
  rcases h.2 with ⟨hv2, hn⟩ | ⟨g, c, cur, hv2, hg, _⟩
  · rw [hv2] at hv; simp at hv; rw [had] at hv; simp at hv
  · rw [hv2] at hv; simp at hv; rw [had] at hv; simp at hv; rw [← hv.1]; exact hg

theorem servedL_eq (L : Int) (rs cs : List Int) (m f k : Int) : servedL L rs cs m f k =
    if checkC L rs cs [(m, f, k)] ≠ 0 then ([], checkC L rs cs [(m, f, k)]) else (srvR m.toNat (rst rs cs m k f L.toNat).2, 0) := by
  unfold servedL
  split
  · rfl
  · rename_i hz
    have hokc := validC_ok (checkC_zero (by simpa using hz)).2
    rw [mdays, srv_srvR rs cs m k f hokc.2.2.2.2]

theorem srvR_take (n : Nat) (l : List Int) (j : Nat) (h : j < l.length) (hl : ∀ x ∈ l, x < (n : Int)) :
    srvR n (l.take (j + 1)) = if 0 ≤ l[j]?.getD 0 then (srvR n (l.take j)).set (l[j]?.getD 0).toNat (cntR (l[j]?.getD 0) (l.take j) + 1) else srvR n (l.take j) := by
  have hx := hl l[j] (List.getElem_mem _)
  rw [List.take_succ_eq_append_getElem h, List.getElem?_eq_getElem h]
  simp only [Option.getD_some]
  split
  · rename_i h0
    obtain ⟨y, hy⟩ := Int.eq_ofNat_of_zero_le h0
    rw [hy, srvR_snoc n _ y (by omega)]
    simp
  · rw [srvR_snoc_no n _ _ (by omega)]
theorem rst_lt (rs cs : List Int) (m k f : Int) (hm : 1 ≤ m) (h0 : 0 ≤ f) (h1 : f < m) (n : Nat) : ∀ x ∈ (rst rs cs m k f n).2, -1 ≤ x ∧ x < m := by
  induction n with
  | zero => intro x hx; cases hx
  | succ n ih =>
    have hb := rst_bd rs cs m k f hm h0 h1 n
    rw [rst_succ]
    intro x hx
    rcases List.mem_append.1 hx with hx | hx
    · exact ih x hx
    · simp at hx
      split at hx <;> omega

set_option maxRecDepth 100000 in
set_option maxHeartbeats 4000000 in
theorem rserved_ok (N : Nat) (ra : Option Addr) (rs : List Int) (rc : Nat) (ca : Option Addr) (cs : List Int) (cc : Nat) (n : Nat) (f k : Int) (w : World) (h : TermAt w (N : Int) ra rs ca cs)
  (hz : checkC N rs cs [((n : Int), f, k)] = 0) :
  Calls Try.prog 36 #[.agg #[.int .i64 N, .slice ra rs.length rc, .slice ca cs.length cc], .agg #[.int .i64 n, .int .i64 f, .int .i64 k]] w (OwnERes w w.heap.size (servedL N rs cs n f k)) := by
  have hB0 := ((Below.refl w.heap.size w).alloc (Nat.le_refl _) (.cells #[.int .i64 N, .slice ra rs.length rc, .slice ca cs.length cc] 24)).alloc (by simp) (.cells #[.int .i64 n, .int .i64 f, .int .i64 k] 26)
  have hA := h.below hB0
  obtain ⟨hv, hca⟩ := checkC_zero hz
  have hma := validC_ok hca
  have hok := validT_ok hv
  have HM := hid (show servedL N rs cs n f k = (srvR n (rst rs cs n k f N).2, 0) by rw [servedL_eq, if_neg (by simp [hz])]; simp)
  have HZ := hid hz
  have hm1 := hma.1
  have hm2 := hma.2.1
  have hL1 := hok.1
  have hL2 := hok.2.1
  have HC := hid hca
  have HLn := hid (rst_len rs cs n k f N)
  have HVn := hid (rst_lt rs cs n k f hm1 hma.2.2.1 hma.2.2.2.1 N)
  have HMK := hid (make_ints n (by omega))
  clear hz hv hca hok hma
  go_enter Try.func36, Try.ntmps36
  go_wp2_with fail
  refine (both_any _ ra rs rc ca cs cc _ f k _ hA).mono ?_
  rintro en w1 ⟨hb, rfl⟩
  have p1 := hB0.trans (hb.mono (by simp; omega))
  have hs1 := hb.size
  simp only [World.size_alloc] at hs1
  obtain ⟨d1, d2⟩ := bcell hb
  simp only [World.size_alloc] at d1 d2
  have a0 : w1.cell? ⟨w.heap.size, 0, none⟩ = some (.int .i64 N) := by rw [d1 _ _ (by omega)]; go_simp
  have a1 : w1.cell? ⟨w.heap.size, 1, none⟩ = some (.slice ra rs.length rc) := by rw [d1 _ _ (by omega)]; go_simp
  have a2 : w1.cell? ⟨w.heap.size, 2, none⟩ = some (.slice ca cs.length cc) := by rw [d1 _ _ (by omega)]; go_simp
  have b0 : w1.cell? ⟨w.heap.size + 1, 0, none⟩ = some (.int .i64 n) := by rw [d1 _ _ (by omega)]; go_simp
  have b1 : w1.cell? ⟨w.heap.size + 1, 1, none⟩ = some (.int .i64 f) := by rw [d1 _ _ (by omega)]; go_simp
  have b2 : w1.cell? ⟨w.heap.size + 1, 2, none⟩ = some (.int .i64 k) := by rw [d1 _ _ (by omega)]; go_simp
  have g0 : w.heap.size < w1.heap.size := by omega
  have g1 : w.heap.size + 1 < w1.heap.size := by omega
  clear d1 d2
  rw [HZ.out]
  have hmk := HMK.out
  go_wp2_with fail
  obtain ⟨wc, hwc⟩ : ∃ wc, w1.alloc (.cells (Array.replicate n (Value.int .i64 0)) 3) = wc := ⟨_, rfl⟩
  have hbc : Below w1.heap.size w1 wc := by rw [← hwc]; exact (Below.refl _ _).alloc (Nat.le_refl _) _
  have hown : wc.ownsRow w1.heap.size 3 1 (.slice (some ⟨w1.heap.size, 0, none⟩) n n) n ((srvR n []).map (Value.int .i64)) := by
    rw [← hwc, srvR_nil, List.map_replicate]
    have := World.ownsRow_lit (base := w1.heap.size) (e := 3) (size := 1) w1 (Array.replicate n (Value.int .i64 0)) n (Nat.le_refl _) (by unfold maxLen; omega) (by simp)
    simpa using this
  have hsc : wc.heap.size = w1.heap.size + 1 := by rw [← hwc]; simp
  rw [hwc]
  clear hwc hmk
  have p2 := p1.trans (hbc.mono (by omega))
  refine (rmenus_any N _ _ _ _ _ _ _ _ _ _ (h.below p2) (by omega) HC.out).mono ?_
  rintro e w3 ⟨hb3, v, rfl, hown3⟩
  have p3 := p2.trans (hb3.mono p2.size)
  obtain ⟨a, cap, rfl, hin, hbase⟩ := hown3.ints' (by rw [HLn.out]; omega) (fun x hx => by have := HVn.out x hx; omega)
  rw [HLn.out]
  rcases hin.at_ with e | ⟨bb, off, rfl, hcell⟩
  · have := HLn.out; rw [e] at this; simp at this; omega
  have hbb := hbase _ rfl
  simp only at hbb
  have hbl := cell_lt (hcell 0 (by rw [HLn.out]; omega))
  have HCell := hid hcell
  have hrow := own_below hown hb3
  clear hcell hin hown3 hown hbase a0 a1 a2 b0 b1 b2
  go_wp2
  go_loopw [9] (fun i wr => ∃ j : Nat, j ≤ N ∧ i = .int .i64 j ∧ wr.ownsRow w1.heap.size 3 1 (.slice (some ⟨w1.heap.size, 0, none⟩) n n) n ((srvR n ((rst rs cs n k f N).2.take j)).map (Value.int .i64)) ∧ Keeps (· = w1.heap.size) w3 wr) (fun i _ => N - (intOf i).toNat)
  case atStart => exact ⟨0, Nat.zero_le _, rfl, hrow, Keeps.refl _ _⟩
  case round =>
    obtain ⟨j, hj, rfl, hown, hK⟩ := hrel
    by_cases hlt : j < N
    · have c0 : wr.cell? ⟨bb, off + j, none⟩ = some (.int .i64 ((rst rs cs n k f N).2[j]?.getD 0)) :=
        hK.cell (HCell.out j (by rw [HLn.out]; omega)) (by simp; omega)
      have hbd := HVn.out ((rst rs cs n k f N).2[j]?.getD 0) (by rw [List.getElem?_eq_getElem (by rw [HLn.out]; exact hlt)]; simp)
      have HT := hid (srvR_take n (rst rs cs n k f N).2 j (by rw [HLn.out]; exact hlt) (fun x hx => (HVn.out x hx).2))
      have hcb := cntR_bd ((rst rs cs n k f N).2[j]?.getD 0) ((rst rs cs n k f N).2.take j)
      have hlen : ((rst rs cs n k f N).2.take j).length ≤ j := List.length_take_le _ _
      have hsz := hK.size
      by_cases h0 : 0 ≤ (rst rs cs n k f N).2[j]?.getD 0
      · have HT2 := hid ((HT.out).trans (if_pos h0))
        clear HT
        generalize (rst rs cs n k f N).2[j]?.getD 0 = y at *
        obtain ⟨v, rfl⟩ := Int.eq_ofNat_of_zero_le h0
        have hvn : v < n := by omega
        have c1 : wr.cell? ⟨w1.heap.size, v, none⟩ = some (.int .i64 (cntR (v : Int) ((rst rs cs n k f N).2.take j))) := by
          rw [hown.cellAt _ (by omega)]
          simp [srvR, hvn]
        have f1 := hown.frozenAt v
        generalize cntR (v : Int) ((rst rs cs n k f N).2.take j) = cv at *
        go_wp2
        go_roundw
        case rel =>
          refine ⟨j + 1, by omega, by go_num, ?_, hK.setCell (.inl rfl) _⟩
          rw [HT2.out, List.map_set]
          exact (hown.stored v _).1
        case measure => simp [intOf]; omega
      · have HT2 := hid ((HT.out).trans (if_neg h0))
        clear HT
        generalize (rst rs cs n k f N).2[j]?.getD 0 = y at *
        go_wp2
        go_roundw
        case rel => exact ⟨j + 1, by omega, by go_num, by rw [HT2.out]; exact hown, hK⟩
        case measure => simp [intOf]; omega
    · obtain rfl : j = N := by omega
      have hl : (rst rs cs n k f j).2.take j = (rst rs cs n k f j).2 := List.take_of_length_le (by rw [HLn.out]; exact Nat.le_refl _)
      rw [hl] at hown
      clear hl
      have p4 : Below w.heap.size w wr := p3.trans (hK.below p3.size (fun b hb hh => by have : b = w1.heap.size := hh; omega))
      go_wp2
      refine bodyPost_ret (v := .tuple #[.slice (some ⟨w1.heap.size, 0, none⟩) n n, .int .i64 0]) (by simp [results, Try.results36, go_sem]) rfl ⟨p4, _, by rw [HM.out], ?_⟩
      rw [HM.out]
      unfold Own
      dsimp only
      rw [srvR_len]
      exact own_weak hown (by omega)

set_option maxRecDepth 100000 in
set_option maxHeartbeats 4000000 in
theorem rserved_any (L : Int) (ra : Option Addr) (rs : List Int) (rc : Nat) (ca : Option Addr) (cs : List Int) (cc : Nat) (m f k : Int) (w : World) (h : TermAt w L ra rs ca cs) :
  Calls Try.prog 36 #[.agg #[.int .i64 L, .slice ra rs.length rc, .slice ca cs.length cc], .agg #[.int .i64 m, .int .i64 f, .int .i64 k]] w (OwnERes w w.heap.size (servedL L rs cs m f k)) := by
  by_cases hz : checkC L rs cs [(m, f, k)] = 0
  · obtain ⟨n, rfl⟩ : ∃ n : Nat, m = n := ⟨m.toNat, by have := (validC_ok (checkC_zero hz).2).1; omega⟩
    obtain ⟨N, rfl⟩ : ∃ n : Nat, L = n := ⟨L.toNat, by have := (validT_ok (checkC_zero hz).1).1; omega⟩
    exact rserved_ok N ra rs rc ca cs cc n f k w h hz
  · have hB0 := ((Below.refl w.heap.size w).alloc (Nat.le_refl _) (.cells #[.int .i64 L, .slice ra rs.length rc, .slice ca cs.length cc] 24)).alloc (by simp) (.cells #[.int .i64 m, .int .i64 f, .int .i64 k] 26)
    have hA := h.below hB0
    have hz' : (checkC L rs cs [(m, f, k)] != 0) = true := by simp [hz]
    have HM := hid (show servedL L rs cs m f k = ([], checkC L rs cs [(m, f, k)]) from by rw [servedL, if_pos hz])
    clear hz
    go_enter Try.func36, Try.ntmps36
    go_wp2_with fail
    refine (both_any L ra rs rc ca cs cc m f k _ hA).mono ?_
    rintro en w1 ⟨hb, rfl⟩
    have p1 := hB0.trans (hb.mono (by simp; omega))
    go_wp2
    refine bodyPost_ret (v := .tuple #[.slice none 0 0, .int .i64 (checkC L rs cs [(m, f, k)])]) (by simp [results, Try.results36, go_sem]) rfl ⟨p1, _, by rw [HM.out], by rw [HM.out]; exact Own.nil _ _⟩

end Go.Proofs.Ytijfcifoemndeaa
