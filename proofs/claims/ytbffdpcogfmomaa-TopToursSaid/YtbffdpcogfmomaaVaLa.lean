/- Latest: sort.Search, the program's Latest, and the document's: chapter 8. -/
import Derived.Test.YtbffdpcogfmomaaVaDe
import Derived.Laws.EntriesVeiled
set_option linter.unusedVariables false
namespace Go.Proofs.Ytbffdpcogfmomaa
open Go.RowKit

/-- No visit is too late. -/
def inTB (t : Tbl) (l : List St) (o : List Int) (b : Int) : Bool := (List.range o.length).all fun j => decide (ar t l o b j ≤ (stI l (vAt o j)).cl)
theorem inTB_iff (t : Tbl) (l : List St) (o : List Int) (b : Int) : inTB t l o b = true ↔ ∀ j, j < o.length → ar t l o b j ≤ (stI l (vAt o j)).cl := by
  simp [inTB]
theorem FirstL.inT {t : Tbl} {l : List St} {o : List Int} {b : Int} {m : Nat} (h : FirstL t l o b m) : inTB t l o b = decide (m = o.length) := by
  by_cases e : m = o.length
  · rw [decide_eq_true e, inTB_iff]
    exact fun j hj => h.ok j (by omega)
  · rw [decide_eq_false e, Bool.eq_false_iff]
    intro hq
    have h1 := (inTB_iff t l o b).1 hq m (by have := h.le; omega)
    have h2 := h.late (by have := h.le; omega)
    omega
theorem lv_mono (t : Tbl) (l : List St) (o : List Int) {b c : Int} (h : b ≤ c) : ∀ k, lv t l o b k ≤ lv t l o c k := by
  intro k
  induction k with
  | zero => exact h
  | succ k ih => simp only [lv]; omega
theorem ar_mono (t : Tbl) (l : List St) (o : List Int) {b c : Int} (h : b ≤ c) (k : Nat) : ar t l o b k ≤ ar t l o c k := by
  have := lv_mono t l o h k
  unfold ar; omega
theorem back_mono (t : Tbl) (l : List St) (o : List Int) {b c : Int} (h : b ≤ c) : backD t l o b ≤ backD t l o c := by
  have := lv_mono t l o h o.length
  unfold backD; omega
theorem inTB_mono {t : Tbl} {l : List St} {o : List Int} {b c : Int} (h : b ≤ c) (hc : inTB t l o c = true) : inTB t l o b = true := by
  rw [inTB_iff] at hc ⊢
  intro j hj
  have := hc j hj
  have := ar_mono t l o h j
  omega
/-- k minutes from 0 on are in time, and none behind them up to 10000. -/
structure LateK (t : Tbl) (l : List St) (o : List Int) (k : Nat) : Prop where
  le : k ≤ 10001
  ok : ∀ b : Nat, b < k → inTB t l o b = true
  no : ∀ b : Nat, k ≤ b → b < 10001 → inTB t l o b = false
theorem LateK.eq {t : Tbl} {l : List St} {o : List Int} {k m : Nat} (h : LateK t l o k) (g : LateK t l o m) : k = m := by
  rcases Nat.lt_trichotomy k m with e | e | e
  · have h1 := g.ok k e
    rw [h.no k (Nat.le_refl _) (by have := g.le; omega)] at h1
    cases h1
  · exact e
  · have h1 := h.ok m e
    rw [g.no m (Nat.le_refl _) (by have := h.le; omega)] at h1
    cases h1
def LatQ (t : Tbl) (l : List St) (o : List Int) (k : Nat) : Prop := LateK t l o k
/-- What sort.Search answers. -/
def SearchQ (n : Nat) (p : Nat → Bool) (w : World) (en : Ending) (w' : World) : Prop :=
  Below w.heap.size w w' ∧ ∃ k : Nat, k ≤ n ∧ (∀ t, t < k → p t = false) ∧ (∀ t, k ≤ t → t < n → p t = true) ∧ en = .returned (.int .i64 (k : Int))
set_option maxRecDepth 100000 in
set_option maxHeartbeats 4000000 in
theorem vSearch_any (g : Nat) (cb : Array Value) (n : Nat) (p : Nat → Bool) (w : World) (hg : ∀ args W, (callFunc g args).run Try.prog W = .ok (.enter g args) W) (hn : n ≤ 100000)
    (hf : ∀ (W : World) (i : Nat), Below w.heap.size w W → i < n → Calls Try.prog g (#[.int .i64 (i : Int)] ++ cb) W (fun e W' => e = .returned (.bool (p i)) ∧ Below W.heap.size W W'))
    (hmono : ∀ a b, a ≤ b → b < n → p a = true → p b = true) :
    Calls Try.prog 86 #[.int .i64 (n : Int), .func (.func g) #[] cb] w (SearchQ n p w) := by
  have HF := hid hf
  have HM := hid hmono
  have HG := hid hg
  clear hf hmono
  go_enter Try.func86, Try.ntmps86
  go_wp2_with fail
  go_loopw [5, 6] (fun s5 s6 wr => ∃ (lo hi : Nat), s5 = .int .i64 (lo : Int) ∧ s6 = .int .i64 (hi : Int) ∧ lo ≤ hi ∧ hi ≤ n ∧ Hid (Below w.heap.size w wr) ∧ Hid ((∀ t, t < lo → p t = false) ∧ (∀ t, hi ≤ t → t < n → p t = true))) (fun s5 s6 _ => (intOf s6).toNat - (intOf s5).toNat)
  case atStart => exact ⟨0, n, rfl, rfl, Nat.zero_le _, Nat.le_refl _, Below.refl _ _, fun t ht => by omega, fun t h1 h2 => by omega⟩
  case round =>
    obtain ⟨lo, hi, rfl, rfl, hlh, hin, HB, HI⟩ := hrel
    by_cases hlt : lo < hi
    · have hc := HF.out wr ((lo + hi) / 2) HB.out (by omega)
      rw [show (((lo + hi) / 2 : Nat) : Int) = ((lo : Int) + (hi : Int)) / 2 by omega] at hc
      cases hp : p ((lo + hi) / 2) with
      | false =>
        rw [hp] at hc
        have HC := hid hc
        have HI2 := hid (show (∀ t, t < (lo + hi) / 2 + 1 → p t = false) ∧ (∀ t, hi ≤ t → t < n → p t = true) from ⟨fun t ht => (by
            cases h : p t with
            | false => rfl
            | true => have := HM.out t ((lo + hi) / 2) (by omega) (by omega) h; rw [hp] at this; cases this), HI.out.2⟩)
        clear hc hp
        go_wp2_with (go_at_fn g; refine HC.out.mono ?_; rintro e w' ⟨rfl, hb⟩)
        have HB2 := hid (HB.out.trans (hb.mono HB.out.size))
        clear hb
        go_roundw
        case rel => exact ⟨(lo + hi) / 2 + 1, hi, by rw [show ((lo : Int) + (hi : Int)) / 2 + 1 = (((lo + hi) / 2 + 1 : Nat) : Int) by omega], rfl, by omega, hin, HB2, HI2⟩
        case measure => simp [intOf]; omega
      | true =>
        rw [hp] at hc
        have HC := hid hc
        have HI2 := hid (show (∀ t, t < lo → p t = false) ∧ (∀ t, (lo + hi) / 2 ≤ t → t < n → p t = true) from ⟨HI.out.1, fun t ht htn => HM.out ((lo + hi) / 2) t ht htn hp⟩)
        clear hc hp
        go_wp2_with (go_at_fn g; refine HC.out.mono ?_; rintro e w' ⟨rfl, hb⟩)
        have HB2 := hid (HB.out.trans (hb.mono HB.out.size))
        clear hb
        go_roundw
        case rel => exact ⟨lo, (lo + hi) / 2, rfl, by rw [show ((lo : Int) + (hi : Int)) / 2 = (((lo + hi) / 2 : Nat) : Int) by omega], by omega, by omega, HB2, HI2⟩
        case measure => simp [intOf]; omega
    · obtain rfl : hi = lo := by omega
      go_wp2
      go_ret
      exact ⟨HB.out, hi, hin, HI.out.1, HI.out.2, rfl⟩
set_option maxRecDepth 100000 in
set_option maxHeartbeats 4000000 in
theorem vLatestF_any (a A B : Option Addr) (t : Tbl) (l : List St) (o : List Int) (b : Int) (cap c d g0 g1 g2 : Nat) (w : World) (h : TabAt w a t) (hs : StsAt w A l) (hi : Ints w B o) (ht : Ways t) (hl : StsOk l t.length) (ho : StopsOk o t.length) (hb : 0 ≤ b ∧ b ≤ 10000) (hol : o.length ≤ 100)
    (c0 : w.cell? ⟨g0, 0, none⟩ = some (.slice a t.length cap)) (c1 : w.cell? ⟨g1, 0, none⟩ = some (.slice A l.length c)) (c2 : w.cell? ⟨g2, 0, none⟩ = some (.slice B o.length d)) :
    Calls Try.prog 87 #[.int .i64 b, .pointer (some ⟨g0, 0, none⟩), .pointer (some ⟨g1, 0, none⟩), .pointer (some ⟨g2, 0, none⟩)] w (fun e w' => e = .returned (.bool (!inTB t l o b)) ∧ Below w.heap.size w w') := by
  have HD := hid (vDrive_any a A B t l o b cap c d w h hs hi ht hl ho hb hol)
  have hl7 := ht.len
  have HF := hid (fun (W : World) (V : Option Addr) (e base : Nat) (hb2 : Below w.heap.size w W) hV => vFirstLate_any A V t l o b c e base W (hs.below hb2) hV hl hl7 ho hol)
  have HK := hid (fun (W : World) (hb : Below w.heap.size w W) => (hb.cell (cell_lt c1)).trans c1)
  clear h hs hi ht hl ho hb
  go_enter Try.func87, Try.ntmps87
  go_wp2_with fail
  refine HD.out.mono ?_
  rintro e w2 ⟨hb2, V, e2, rfl, hV⟩
  have HB2 := hid hb2
  have HC2 := hid (HF.out w2 V e2 _ HB2.out hV)
  have c1' := HK.out w2 hb2
  clear hb2 hV c0 c1 c2 HD HF
  go_wp2_with fail
  refine HC2.out.mono ?_
  rintro e w3 ⟨hb3, m, rfl, hm⟩
  have HB3 := hid (HB2.out.trans (hb3.mono HB2.out.size))
  have hml := hm.le
  have HE := hid hm.inT
  clear hb3 hm HC2
  by_cases hlt : m < o.length
  · rw [decide_eq_false (show ¬ m = o.length by omega)] at HE
    have hlt' : (m : Int) < (o.length : Int) := by omega
    go_wp2
    go_ret
    exact ⟨by rw [HE.out]; first | rfl | (apply ret_bool; simp; omega), HB3.out⟩
  · rw [decide_eq_true (show m = o.length by omega)] at HE
    have hlt' : ¬ (m : Int) < (o.length : Int) := by omega
    go_wp2
    go_ret
    exact ⟨by rw [HE.out]; first | rfl | (apply ret_bool; simp; omega), HB3.out⟩
end Go.Proofs.Ytbffdpcogfmomaa
