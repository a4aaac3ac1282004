/- The program's Drive: package van. -/
import Derived.Test.YtbffdpcogfmomaaVaDr
/- The first late visit; Check: package van. -/
set_option linter.unusedVariables false
namespace Go.Proofs.Ytbffdpcogfmomaa
open Go.RowKit

/-- m is the number of the first visit that is too late, or how many there are. -/
structure FirstL (t : Tbl) (l : List St) (o : List Int) (b : Int) (m : Nat) : Prop where
  le : m ≤ o.length
  ok : ∀ j, j < m → ar t l o b j ≤ (stI l (vAt o j)).cl
  late : m < o.length → (stI l (vAt o m)).cl < ar t l o b m
theorem FirstL.eq {t : Tbl} {l : List St} {o : List Int} {b : Int} {m n : Nat} (h : FirstL t l o b m) (k : FirstL t l o b n) : m = n := by
  rcases Nat.lt_trichotomy m n with e | e | e
  · have := h.late (by have := k.le; omega)
    have := k.ok m e
    omega
  · exact e
  · have := k.late (by have := h.le; omega)
    have := h.ok n e
    omega
theorem three_cell {w : World} {B : Nat} {u v x : Value} {t : TypeId} (h : w.heap[B]? = some (.cells #[u, v, x] t (0, 0))) : w.cell? ⟨B, 0, none⟩ = some u ∧ w.cell? ⟨B, 1, none⟩ = some v := by
  unfold World.cell?; simp [h]
set_option maxRecDepth 100000 in
set_option maxHeartbeats 4000000 in
theorem vFirstLate_any (A V : Option Addr) (t : Tbl) (l : List St) (o : List Int) (b : Int) (c d base : Nat) (w : World) (hs : StsAt w A l) (hV : w.ownsRow base 59 3 (.slice V o.length d) o.length (visC t l o b o.length)) (hl : StsOk l t.length) (hl7 : t.length ≤ 7) (ho : StopsOk o t.length) (hol : o.length ≤ 100) :
  Calls Try.prog 81 #[.slice A l.length c, .slice V o.length d] w (fun en w' => Below w.heap.size w w' ∧ ∃ m : Nat, en = .returned (.int .i64 (m : Int)) ∧ FirstL t l o b m) := by
  have HS := hid hs
  have HLL := hid hl.len
  have HO := hid ho
  have hVs : o.length = 0 ∨ ∃ g, V = some ⟨g, 0, none⟩ ∧ ∀ k, k < o.length → w.cell? ⟨g, k * 3, none⟩ = some (.int .i64 (vAt o k)) ∧ w.cell? ⟨g, k * 3 + 1, none⟩ = some (.int .i64 (ar t l o b k)) ∧ w.cell? ⟨g, k * 3 + 2, none⟩ = some (.int .i64 (lv t l o b (k + 1))) := by
    rcases hV.2 with ⟨_, h0⟩ | ⟨g, cap, cur, hv, _⟩
    · exact .inl h0
    · simp only [Value.slice.injEq, true_and] at hv
      obtain ⟨rfl, rfl⟩ := hv
      refine .inr ⟨g, rfl, fun k hk => ?_⟩
      obtain ⟨h1, h2, h3⟩ := visC_at t l o b o.length k hk
      exact ⟨(World.ownsRow.cellAt hV _ (by omega)).trans h1, (World.ownsRow.cellAt hV _ (by omega)).trans h2, (World.ownsRow.cellAt hV _ (by omega)).trans h3⟩
  have HV := hid hVs
  clear hs hV hl ho hVs
  go_enter Try.func81, Try.ntmps81
  go_wp2_with fail
  go_loopw [9] (fun i wr => ∃ (k : Nat), k ≤ o.length ∧ i = .int .i64 k ∧ Hid (∀ j, j < k → ar t l o b j ≤ (stI l (vAt o j)).cl) ∧ Hid (Below w.heap.size w wr)) (fun i _ => o.length - (intOf i).toNat)
  case atStart => exact ⟨0, Nat.zero_le _, rfl, fun j hj => by omega, Below.refl _ _⟩
  case round =>
    obtain ⟨k, hk, rfl, HG, HB⟩ := hrel
    by_cases hlt : k < o.length
    · rcases HV.out with h0 | ⟨g, rfl, hc⟩
      · omega
      obtain ⟨v0, v1, v2⟩ := hc k hlt
      have c0 := (HB.out.cell (cell_lt v0)).trans v0
      have c1 := (HB.out.cell (cell_lt v1)).trans v1
      have c2 := (HB.out.cell (cell_lt v2)).trans v2
      have hx := HO.out _ (vAt_mem hlt)
      obtain ⟨b3, o3, rfl, hc3⟩ := (HS.out.below HB.out).open_ (by rw [HLL.out]; omega)
      have HY := hid (fun (e : ar t l o b k ≤ (stI l (vAt o k)).cl) => show ∀ j, j < k + 1 → ar t l o b j ≤ (stI l (vAt o j)).cl from fun j hj => by
        rcases Nat.lt_or_ge j k with h | h
        · exact HG.out j h
        · rw [show j = k by omega]; exact e)
      have HN := hid (fun (e : (stI l (vAt o k)).cl < ar t l o b k) => show FirstL t l o b k from ⟨hk, HG.out, fun _ => e⟩)
      obtain ⟨x, hx0⟩ : ∃ x, vAt o k = x := ⟨_, rfl⟩
      rw [hx0] at c0 hx HY HN
      obtain ⟨xn, rfl⟩ := Int.eq_ofNat_of_zero_le (show 0 ≤ x by omega)
      obtain ⟨_, s1, _, _⟩ := hc3 xn (by rw [HLL.out]; omega)
      rw [show stAt l xn = stI l (xn : Int) from rfl] at s1
      obtain ⟨a1, ha1⟩ : ∃ a1, ar t l o b k = a1 := ⟨_, rfl⟩
      obtain ⟨s9, hs9⟩ : ∃ s9, (stI l (xn : Int)).cl = s9 := ⟨_, rfl⟩
      obtain ⟨l9, hl9⟩ : ∃ l9, lv t l o b (k + 1) = l9 := ⟨_, rfl⟩
      rw [ha1] at c1 HY HN
      rw [hs9] at s1 HY HN
      rw [hl9] at c2
      have q3 : (xn : Int) < (l.length : Int) := by rw [HLL.out]; exact hx.2
      have hbs := HB.out.size
      have hal := (Below.refl wr.heap.size wr).alloc (Nat.le_refl _) (.cells #[.int .i64 (xn : Int), .int .i64 a1, .int .i64 l9] 59)
      have hz := heap_alloc_new wr (.cells #[.int .i64 (xn : Int), .int .i64 a1, .int .i64 l9] 59)
      have r0 : (wr.alloc (.cells #[.int .i64 (xn : Int), .int .i64 a1, .int .i64 l9] 59)).cell? ⟨wr.heap.size, 0, none⟩ = some (.int .i64 (xn : Int)) := (three_cell hz).1
      have r1 : (wr.alloc (.cells #[.int .i64 (xn : Int), .int .i64 a1, .int .i64 l9] 59)).cell? ⟨wr.heap.size, 1, none⟩ = some (.int .i64 a1) := (three_cell hz).2
      have s1' := (hal.cell (cell_lt s1)).trans s1
      have HB2 := hid (HB.out.trans (hal.mono hbs))
      clear v0 v1 v2 hc hc3 ha1 hs9 hl9 hx0 hal hz s1
      by_cases hc : s9 < a1
      · have HZ := hid (HN.out hc)
        clear HY HN
        go_wp2_with fail
        go_quiet (fail)
        go_wp2
        go_ret
        exact ⟨below_drewN HB2.out _, k, rfl, HZ.out⟩
      · have hc' : a1 ≤ s9 := by omega
        have HZ := hid (HY.out hc')
        clear HY HN hc
        go_wp2_with fail
        go_quiet (fail)
        go_wp2
        go_roundw
        case rel => exact ⟨k + 1, by omega, by go_num, HZ, below_drewN HB2.out _⟩
        case measure => simp [intOf]; omega
    · obtain rfl : k = o.length := by omega
      have HZ := hid (show FirstL t l o b o.length from ⟨Nat.le_refl _, HG.out, fun h => by omega⟩)
      go_wp2
      go_ret
      exact ⟨HB.out, o.length, rfl, HZ.out⟩
/-- What Check answers. -/
def ChkR (t : Tbl) (l : List St) (o : List Int) (b : Int) (w : World) (en : Ending) (w' : World) : Prop :=
  Below w.heap.size w w' ∧ ((drvE t l o b ≠ 0 ∧ en = .returned (.tuple #[.int .i64 0, .int .i64 (drvE t l o b)])) ∨
    (drvE t l o b = 0 ∧ ∃ m : Nat, FirstL t l o b m ∧ en = .returned (.tuple #[.int .i64 (if m < o.length then (m : Int) else backD t l o b), .int .i64 (if m < o.length then 10 else 0)])))
set_option maxRecDepth 100000 in
set_option maxHeartbeats 4000000 in
theorem vCheck_any (a A B : Option Addr) (t : Tbl) (l : List St) (o : List Int) (b : Int) (cap c d : Nat) (w : World) (h : TabAt w a t) (hs : StsAt w A l) (hi : Ints w B o) (hol : o.length ≤ 100) :
  Calls Try.prog 46 #[.slice a t.length cap, .slice A l.length c, .slice B o.length d, .int .i64 b] w (ChkR t l o b w) := by
  have HV := hid (vCheckDrive_any a A B t l o b cap c d w h hs hi)
  by_cases hv : drvE t l o b = 0
  · obtain ⟨ht, hl, ho, _, hb⟩ := drvE_ok hv
    have hl7 := ht.len
    rw [hv] at HV
    have HD := hid (fun (W : World) (hb2 : Below w.heap.size w W) => vDrive_any a A B t l o b cap c d W (h.below hb2) (hs.below hb2) (hi.below hb2) ht hl ho hb hol)
    have HF := hid (fun (W : World) (V : Option Addr) (e base : Nat) (hb2 : Below w.heap.size w W) hV => vFirstLate_any A V t l o b c e base W (hs.below hb2) hV hl hl7 ho hol)
    have HE := hid hv
    clear h hs hi hv ht hl ho hb
    go_enter Try.func46, Try.ntmps46
    go_wp2_with fail
    refine HV.out.mono ?_
    rintro e w1 ⟨hb1, rfl⟩
    have HB1 := hid hb1
    have HC := hid (HD.out w1 hb1)
    clear hb1
    go_wp2_with fail
    refine HC.out.mono ?_
    rintro e w2 ⟨hb2, V, e2, rfl, hV⟩
    have HB2 := hid (HB1.out.trans (hb2.mono HB1.out.size))
    have HC2 := hid (HF.out w2 V e2 _ HB2.out hV)
    clear hb2 hV HC
    go_wp2_with fail
    refine HC2.out.mono ?_
    rintro e w3 ⟨hb3, m, rfl, hm⟩
    have HB3 := hid (HB2.out.trans (hb3.mono HB2.out.size))
    have HM := hid hm
    have hml := hm.le
    clear hb3 hm HC2
    by_cases hlt : m < o.length
    · have hlt' : (m : Int) < (o.length : Int) := by omega
      go_wp2
      go_ret2
      exact ⟨HB3.out, .inr ⟨HE.out, m, HM.out, by rw [if_pos hlt, if_pos hlt]; rfl⟩⟩
    · have hlt' : ¬ (m : Int) < (o.length : Int) := by omega
      go_wp2
      go_ret2
      exact ⟨HB3.out, .inr ⟨HE.out, m, HM.out, by rw [if_neg hlt, if_neg hlt]; rfl⟩⟩
  · have HE := hid hv
    have HEq := hid (show ∃ e0, drvE t l o b = e0 from ⟨_, rfl⟩)
    obtain ⟨e0, he0⟩ := HEq.out
    have HQ := hid he0
    rw [he0] at HV hv
    have hne : (e0 == 0) = false := by simp; exact hv
    clear h hs hi he0 HEq
    go_enter Try.func46, Try.ntmps46
    go_wp2_with fail
    refine HV.out.mono ?_
    rintro e w1 ⟨hb1, rfl⟩
    have HB1 := hid hb1
    clear hb1
    go_wp2
    go_ret2
    exact ⟨HB1.out, .inl ⟨HE.out, by rw [HQ.out]; rfl⟩⟩
end Go.Proofs.Ytbffdpcogfmomaa
set_option linter.unusedVariables false
namespace Go.Proofs.Ytbffdpcogfmomaa
open Go.RowKit

theorem row_lower {w : World} {b c : Nat} {e : TypeId} {size : Nat} {v : Value} {n : Nat} {xs : List Value} (h : w.ownsRow b e size v n xs) (hb : c ≤ b) : w.ownsRow c e size v n xs := by
  obtain ⟨h1, h2⟩ := h
  refine ⟨h1, ?_⟩
  rcases h2 with h2 | ⟨g, cap, cur, hv, hg, hr⟩
  · exact .inl h2
  · exact .inr ⟨g, cap, cur, hv, by omega, hr⟩
/-- What Drive answers. -/
def DriveP (t : Tbl) (l : List St) (o : List Int) (b : Int) (w : World) (en : Ending) (w' : World) : Prop :=
  Below w.heap.size w w' ∧ ((drvE t l o b ≠ 0 ∧ en = .returned (.tuple #[.slice none 0 0, .int .i64 0, .int .i64 (drvE t l o b)])) ∨
    (drvE t l o b = 0 ∧ ∃ V e, en = .returned (.tuple #[.slice V o.length e, .int .i64 (backD t l o b), .int .i64 0]) ∧ w'.ownsRow w.heap.size 59 3 (.slice V o.length e) o.length (visC t l o b o.length)))
set_option maxRecDepth 100000 in
set_option maxHeartbeats 4000000 in
theorem vDriveP_any (a A B : Option Addr) (t : Tbl) (l : List St) (o : List Int) (b : Int) (cap c d : Nat) (w : World) (h : TabAt w a t) (hs : StsAt w A l) (hi : Ints w B o) (hol : o.length ≤ 100) :
  Calls Try.prog 42 #[.slice a t.length cap, .slice A l.length c, .slice B o.length d, .int .i64 b] w (DriveP t l o b w) := by
  have HV := hid (vCheckDrive_any a A B t l o b cap c d w h hs hi)
  by_cases hv : drvE t l o b = 0
  · obtain ⟨ht, hl, ho, _, hb⟩ := drvE_ok hv
    rw [hv] at HV
    have HD := hid (fun (W : World) (hb2 : Below w.heap.size w W) => vDrive_any a A B t l o b cap c d W (h.below hb2) (hs.below hb2) (hi.below hb2) ht hl ho hb hol)
    have HE := hid hv
    clear h hs hi hv ht hl ho hb
    go_enter Try.func42, Try.ntmps42
    go_wp2_with fail
    refine HV.out.mono ?_
    rintro e w1 ⟨hb1, rfl⟩
    have HB1 := hid hb1
    have HC := hid (HD.out w1 hb1)
    have hws := hb1.size
    clear hb1
    go_wp2_with fail
    refine HC.out.mono ?_
    rintro e w2 ⟨hb2, V, e2, rfl, hV⟩
    have HB2 := hid (HB1.out.trans (hb2.mono HB1.out.size))
    have HVV := hid (row_lower hV hws)
    clear hb2 hV HC
    go_wp2
    go_ret3
    exact ⟨HB2.out, .inr ⟨HE.out, V, e2, rfl, HVV.out⟩⟩
  · have HE := hid hv
    have HEq := hid (show ∃ e0, drvE t l o b = e0 from ⟨_, rfl⟩)
    obtain ⟨e0, he0⟩ := HEq.out
    have HQ := hid he0
    rw [he0] at HV hv
    have hne : (e0 == 0) = false := by simp; exact hv
    clear h hs hi he0 HEq
    go_enter Try.func42, Try.ntmps42
    go_wp2_with fail
    refine HV.out.mono ?_
    rintro e w1 ⟨hb1, rfl⟩
    have HB1 := hid hb1
    clear hb1
    go_wp2
    go_ret3
    exact ⟨HB1.out, .inl ⟨HE.out, by rw [HQ.out]; rfl⟩⟩
end Go.Proofs.Ytbffdpcogfmomaa
