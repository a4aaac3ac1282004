/- The program's Latest, and the document's: chapter 8. -/
import Derived.Test.YtbffdpcogfmomaaVaLa
set_option linter.unusedVariables false
namespace Go.Proofs.Ytbffdpcogfmomaa
open Go.RowKit

theorem touE_ok {t : Tbl} {l : List St} {o : List Int} (h : touE t l o = 0) : Ways t ∧ StsOk l t.length ∧ StopsOk o t.length ∧ o.Nodup := by
  obtain ⟨h1, h2, h3, h4, _⟩ := drvE_ok (b := 0) (drvE_zin h (by decide))
  exact ⟨h1, h2, h3, h4⟩
theorem blk_kp8 {w w' : World} {g : Nat} {ob : Obj} (h : w.heap[g]? = some ob) (hb : Below w.heap.size w w') : w'.heap[g]? = some ob := (hb.block g (lt_block h)).trans h
/-- What Latest answers. -/
def LatR (t : Tbl) (l : List St) (o : List Int) (w : World) (en : Ending) (w' : World) : Prop :=
  Below w.heap.size w w' ∧ ((touE t l o ≠ 0 ∧ en = .returned (.tuple #[.int .i64 0, .bool false, .int .i64 (touE t l o)])) ∨
    (touE t l o = 0 ∧ ∃ k : Nat, LateK t l o k ∧ en = .returned (.tuple #[.int .i64 (if 0 < k then (k : Int) - 1 else 0), .bool (decide (0 < k)), .int .i64 0])))
theorem alloc3B (w : World) (o0 o1 o2 : Obj) : Below w.heap.size w (((w.alloc o0).alloc o1).alloc o2) := (((Below.refl _ _).alloc (Nat.le_refl _) _).alloc (by simp) _).alloc (by simp; omega) _
theorem alloc3_0 (w : World) (v : Value) (ty : TypeId) (o1 o2 : Obj) : (((w.alloc (.cells #[v] ty)).alloc o1).alloc o2).cell? ⟨w.heap.size, 0, none⟩ = some v := by
  have h := heap_alloc_new w (.cells #[v] ty)
  have h1 := blk_kp8 h ((Below.refl _ _).alloc (Nat.le_refl _) o1)
  have h2 := blk_kp8 h1 ((Below.refl _ _).alloc (Nat.le_refl _) o2)
  exact (cell_of_row _ _ 0 _ _ _ h2).trans rfl
theorem alloc3_1 (w : World) (v : Value) (ty : TypeId) (o0 o2 : Obj) : (((w.alloc o0).alloc (.cells #[v] ty)).alloc o2).cell? ⟨w.heap.size + 1, 0, none⟩ = some v := by
  have h := heap_alloc_new (w.alloc o0) (.cells #[v] ty)
  have h1 := blk_kp8 h ((Below.refl _ _).alloc (Nat.le_refl _) o2)
  rw [show (w.alloc o0).heap.size = w.heap.size + 1 from size_alloc1 _ _] at h1
  exact (cell_of_row _ _ 0 _ _ _ h1).trans rfl
theorem alloc3_2 (w : World) (v : Value) (ty : TypeId) (o0 o1 : Obj) : (((w.alloc o0).alloc o1).alloc (.cells #[v] ty)).cell? ⟨w.heap.size + 1 + 1, 0, none⟩ = some v := by
  have h := heap_alloc_new ((w.alloc o0).alloc o1) (.cells #[v] ty)
  rw [show ((w.alloc o0).alloc o1).heap.size = w.heap.size + 1 + 1 by rw [size_alloc1, size_alloc1]] at h
  exact (cell_of_row _ _ 0 _ _ _ h).trans rfl
set_option maxRecDepth 100000 in
set_option maxHeartbeats 4000000 in
theorem vLatest_any (a A B : Option Addr) (t : Tbl) (l : List St) (o : List Int) (cap c d : Nat) (w : World) (h : TabAt w a t) (hs : StsAt w A l) (hi : Ints w B o) (hol : o.length ≤ 100) :
  Calls Try.prog 50 #[.slice a t.length cap, .slice A l.length c, .slice B o.length d] w (LatR t l o w) := by
  have P0 := hid (alloc3B w (.cells #[.slice a t.length cap] 22) (.cells #[.slice A l.length c] 47) (.cells #[.slice B o.length d] 23))
  have c0 := alloc3_0 w (.slice a t.length cap) 22 (.cells #[.slice A l.length c] 47) (.cells #[.slice B o.length d] 23)
  have c1 := alloc3_1 w (.slice A l.length c) 47 (.cells #[.slice a t.length cap] 22) (.cells #[.slice B o.length d] 23)
  have c2 := alloc3_2 w (.slice B o.length d) 23 (.cells #[.slice a t.length cap] 22) (.cells #[.slice A l.length c] 47)
  obtain ⟨w3, hw3⟩ : ∃ w3, ((w.alloc (.cells #[.slice a t.length cap] 22)).alloc (.cells #[.slice A l.length c] 47)).alloc (.cells #[.slice B o.length d] 23) = w3 := ⟨_, rfl⟩
  rw [hw3] at P0 c0 c1 c2
  have HV := hid (vCheckStops_any a A B t l o cap c d w3 (h.below P0.out) (hs.below P0.out) (hi.below P0.out))
  have HT := hid h
  have HS := hid hs
  have HI := hid hi
  clear h hs hi
  by_cases hv : touE t l o = 0
  · obtain ⟨ht, hl, ho, _⟩ := touE_ok hv
    rw [hv] at HV
    have HE := hid hv
    have HWy := hid ht
    have HSt := hid hl
    have HOk := hid ho
    have HK := hid (fun (W : World) (hb : Below w3.heap.size w3 W) => (show W.cell? ⟨w.heap.size, 0, none⟩ = some (.slice a t.length cap) ∧ W.cell? ⟨w.heap.size + 1, 0, none⟩ = some (.slice A l.length c) ∧ W.cell? ⟨w.heap.size + 1 + 1, 0, none⟩ = some (.slice B o.length d) from ⟨(hb.cell (cell_lt c0)).trans c0, (hb.cell (cell_lt c1)).trans c1, (hb.cell (cell_lt c2)).trans c2⟩))
    clear hv ht hl ho
    go_enter Try.func50, Try.ntmps50
    go_wp2_with fail
    clear hw3
    refine HV.out.mono ?_
    rintro e w4 ⟨hb4, rfl⟩
    have HB4 := hid (P0.out.trans (hb4.mono P0.out.size))
    have HX4 := hid hb4
    have HSe := hid (vSearch_any 87 #[.pointer (some ⟨w.heap.size, 0, none⟩), .pointer (some ⟨w.heap.size + 1, 0, none⟩), .pointer (some ⟨w.heap.size + 1 + 1, 0, none⟩)] 10001 (fun i => !inTB t l o (i : Int)) w4 (fun args W => by kernel_rfl) (by decide)
      (fun W i hW hi => by
        have hbW := HB4.out.trans (hW.mono HB4.out.size)
        obtain ⟨k0, k1, k2⟩ := HK.out W (HX4.out.trans (hW.mono HX4.out.size))
        exact vLatestF_any a A B t l o i cap c d _ _ _ W (HT.out.below hbW) (HS.out.below hbW) (HI.out.below hbW) HWy.out HSt.out HOk.out (by omega) hol k0 k1 k2)
      (fun x y hxy hy hp => by
        simp only [Bool.not_eq_true'] at hp ⊢
        cases hq : inTB t l o (y : Int) with
        | false => rfl
        | true => rw [inTB_mono (b := (x : Int)) (by omega) hq] at hp; cases hp))
    clear hb4 c0 c1 c2 HV
    go_wp2_with fail
    refine HSe.out.mono ?_
    rintro e w5 ⟨hb5, k, hk, hk1, hk2, rfl⟩
    have HB5 := hid (HB4.out.trans (hb5.mono HB4.out.size))
    have HLK := hid (show LateK t l o k from ⟨by omega, fun b hb => by have := hk1 b hb; simpa using this, fun b h1 h2 => by have := hk2 b h1 h2; simpa using this⟩)
    clear hb5 hk1 hk2 HSe
    by_cases h0 : 0 < k
    · have h0' : (0 : Int) < (k : Int) := by omega
      have h1' : ¬ (k : Int) = 0 := by omega
      go_wp2
      go_ret3
      exact ⟨HB5.out, .inr ⟨HE.out, k, HLK.out, by rw [if_pos h0, decide_eq_true h0]; rfl⟩⟩
    · obtain rfl : k = 0 := by omega
      go_wp2
      go_ret3
      exact ⟨HB5.out, .inr ⟨HE.out, 0, HLK.out, by rw [if_neg (by omega), decide_eq_false (by omega)]; rfl⟩⟩
  · obtain ⟨e0, he0⟩ : ∃ e0, touE t l o = e0 := ⟨_, rfl⟩
    have HQ := hid he0
    rw [he0] at HV hv
    have HN := hid hv
    have hne : (e0 == 0) = false := by simp; exact hv
    have hnn : (e0 != 0) = true := by simp; exact hv
    clear hv he0
    go_enter Try.func50, Try.ntmps50
    go_wp2_with fail
    clear hw3
    refine HV.out.mono ?_
    rintro e w4 ⟨hb4, rfl⟩
    have HB4 := hid (P0.out.trans (hb4.mono P0.out.size))
    clear hb4 c0 c1 c2
    go_wp2
    go_ret3
    exact ⟨HB4.out, .inl ⟨by rw [HQ.out]; exact HN.out, by rw [HQ.out]; rfl⟩⟩
set_option maxRecDepth 100000 in
set_option maxHeartbeats 4000000 in
theorem rLatest_any (a A B : Option Addr) (t : Tbl) (l : List St) (o : List Int) (cap c d : Nat) (w : World) (h : TabAt w a t) (hs : StsAt w A l) (hi : Ints w B o) (hol : o.length ≤ 100) :
  Calls Try.prog 51 #[.slice a t.length cap, .slice A l.length c, .slice B o.length d] w (LatR t l o w) := by
  have HV := hid (rToured_any a A B t l o cap c d w h hs hi)
  by_cases hv : touE t l o = 0
  · obtain ⟨ht, hl, ho, _⟩ := touE_ok hv
    rw [hv] at HV
    have HE := hid hv
    have HD := hid (fun (W : World) (b : Int) (hb : 0 ≤ b ∧ b ≤ 10000) (hW : Below w.heap.size w W) => rCheckI_any a A B t l o b cap c d W (h.below hW) (hs.below hW) (hi.below hW) ht hl ho hb hol)
    clear h hs hi hv ht hl ho
    go_enter Try.func51, Try.ntmps51
    go_wp2_with fail
    refine HV.out.mono ?_
    rintro e w4 ⟨hb4, rfl⟩
    have HB4 := hid hb4
    clear hb4 HV
    go_wp2_with fail
    go_loopw [10] (fun s wr => ∃ (k : Nat), k ≤ 10001 ∧ s = .int .i64 ((k : Int) - 1) ∧ Hid (Below w.heap.size w wr) ∧ Hid (∀ b : Nat, k ≤ b → b < 10001 → inTB t l o (b : Int) = false)) (fun s _ => (intOf s + 1).toNat)
    case atStart => exact ⟨10001, Nat.le_refl _, rfl, HB4, fun b h1 h2 => by omega⟩
    case round =>
      obtain ⟨k, hk, rfl, HB, HN⟩ := hrel
      clear HB4
      by_cases h0 : 0 < k
      · have q1 : (0 : Int) ≤ (k : Int) - 1 := by omega
        have q1' : (1 : Int) ≤ (k : Int) := by omega
        have q2 : (k : Int) - 1 ≤ 10000 := by omega
        have HC := hid (HD.out wr ((k : Int) - 1) ⟨q1, q2⟩ HB.out)
        obtain ⟨z, hz⟩ : ∃ z, (k : Int) - 1 = z := ⟨_, rfl⟩
        have HZ := hid hz
        rw [hz] at HC q1 q2
        rw [hz]
        clear hz
        go_wp2_with fail
        refine HC.out.mono ?_
        rintro e w5 ⟨hb5, m, hm, rfl⟩
        have HB5 := hid (HB.out.trans (hb5.mono HB.out.size))
        have HI := hid hm.inT
        clear hb5 hm HC
        by_cases hme : m = o.length
        · have HI2 := hid (HI.out.trans (decide_eq_true hme))
          rw [decide_eq_true hme]
          clear hme
          generalize (if m < o.length then (m : Int) else backD t l o z) = r9 at *
          go_wp2
          go_ret3
          refine ⟨HB5.out, .inr ⟨HE.out, k, ⟨hk, fun b hb => inTB_mono (c := z) (by have := HZ.out; omega) HI2.out, fun b h1 h2 => HN.out b h1 h2⟩, ?_⟩⟩
          rw [if_pos h0, decide_eq_true h0, HZ.out]; rfl
        · have HI2 := hid (HI.out.trans (decide_eq_false hme))
          rw [decide_eq_false hme]
          clear hme
          have HN2 := hid (fun (b : Nat) (h1 : k - 1 ≤ b) (h2 : b < 10001) => (show inTB t l o (b : Int) = false from by
            rcases Nat.lt_or_ge b k with h | h
            · have e : (b : Int) = z := by have := HZ.out; omega
              rw [e]; exact HI2.out
            · exact HN.out b h h2))
          generalize (if m < o.length then (m : Int) else backD t l o z) = r9 at *
          go_wp2
          go_roundw
          case rel => exact ⟨k - 1, by omega, by rw [← HZ.out, show ((k - 1 : Nat) : Int) = (k : Int) - 1 by omega], HB5, HN2⟩
          case measure => have := HZ.out; simp [intOf]; omega
      · obtain rfl : k = 0 := by omega
        have q0 : ¬ (0 : Int) ≤ (((0 : Nat) : Int) - 1) := by omega
        go_wp2
        go_ret3
        refine ⟨HB.out, .inr ⟨HE.out, 0, ⟨by omega, fun b hb => by omega, fun b h1 h2 => HN.out b h1 h2⟩, ?_⟩⟩
        rw [if_neg (by omega), decide_eq_false (by omega)]; rfl
  · obtain ⟨e0, he0⟩ : ∃ e0, touE t l o = e0 := ⟨_, rfl⟩
    have HQ := hid he0
    rw [he0] at HV hv
    have HN := hid hv
    have hne : (e0 == 0) = false := by simp; exact hv
    have hnn : (e0 != 0) = true := by simp; exact hv
    clear h hs hi hv he0
    go_enter Try.func51, Try.ntmps51
    go_wp2_with fail
    refine HV.out.mono ?_
    rintro e w4 ⟨hb4, rfl⟩
    have HB4 := hid hb4
    clear hb4
    go_wp2
    go_ret3
    exact ⟨HB4.out, .inl ⟨by rw [HQ.out]; exact HN.out, by rw [HQ.out]; rfl⟩⟩
end Go.Proofs.Ytbffdpcogfmomaa
