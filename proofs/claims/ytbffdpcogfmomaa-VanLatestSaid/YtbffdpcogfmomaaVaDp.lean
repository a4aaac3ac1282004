/- The program's Drive: package van. -/
import Derived.Test.YtbffdpcogfmomaaVaFl
set_option linter.unusedVariables false
namespace Go.Proofs.Ytbffdpcogfmomaa
open Go.RowKit

theorem row_lower {w : World} {b c : Nat} {e : TypeId} {size : Nat} {v : Value} {n : Nat} {xs : List Value} (h : w.ownsRow b e size v n xs) (hb : c ≤ b) : w.ownsRow c e size v n xs := by
  obtain ⟨h1, h2⟩ := h
  refine ⟨h1, ?_⟩
  rcases h2 with h2 | ⟨g, cap, cur, hv, hg, hr⟩
  · exact .inl h2
  · exact .inr ⟨g, cap, cur, hv, by omega, hr⟩
/-- What Drive answers. -/
def DriveP (t : Tbl) (l : List St) (o : List Int) (b : Int) (w : World) (en : Ending) (w' : World) : Prop :=
  Below w.heap.size w w' ∧ ((drvE t l o b ≠ 0 ∧ en = .returned (.tuple #[.slice none 0 0, .int .i64 0, .int .i64 (drvE t l o b)])) ∨
    (drvE t l o b = 0 ∧ ∃ V e, en = .returned (.tuple #[.slice V o.length e, .int .i64 (backD t l o b), .int .i64 0]) ∧ w'.ownsRow w.heap.size 59 3 (.slice V o.length e) o.length (visC t l o b o.length)))
set_option maxRecDepth 100000 in
set_option maxHeartbeats 4000000 in
theorem vDriveP_any (a A B : Option Addr) (t : Tbl) (l : List St) (o : List Int) (b : Int) (cap c d : Nat) (w : World) (h : TabAt w a t) (hs : StsAt w A l) (hi : Ints w B o) (hol : o.length ≤ 100) :
  Calls Try.prog 42 #[.slice a t.length cap, .slice A l.length c, .slice B o.length d, .int .i64 b] w (DriveP t l o b w) := by
  have HV := hid (vCheckDrive_any a A B t l o b cap c d w h hs hi)
  by_cases hv : drvE t l o b = 0
  · obtain ⟨ht, hl, ho, _, hb⟩ := drvE_ok hv
    rw [hv] at HV
    have HD := hid (fun (W : World) (hb2 : Below w.heap.size w W) => vDrive_any a A B t l o b cap c d W (h.below hb2) (hs.below hb2) (hi.below hb2) ht hl ho hb hol)
    have HE := hid hv
    clear h hs hi hv ht hl ho hb
    go_enter Try.func42, Try.ntmps42
    go_wp2_with fail
    refine HV.out.mono ?_
    rintro e w1 ⟨hb1, rfl⟩
    have HB1 := hid hb1
    have HC := hid (HD.out w1 hb1)
    have hws := hb1.size
    clear hb1
    go_wp2_with fail
    refine HC.out.mono ?_
    rintro e w2 ⟨hb2, V, e2, rfl, hV⟩
    have HB2 := hid (HB1.out.trans (hb2.mono HB1.out.size))
    have HVV := hid (row_lower hV hws)
    clear hb2 hV HC
    go_wp2
    go_ret3
    exact ⟨HB2.out, .inr ⟨HE.out, V, e2, rfl, HVV.out⟩⟩
  · have HE := hid hv
    have HEq := hid (show ∃ e0, drvE t l o b = e0 from ⟨_, rfl⟩)
    obtain ⟨e0, he0⟩ := HEq.out
    have HQ := hid he0
    rw [he0] at HV hv
    have hne : (e0 == 0) = false := by simp; exact hv
    clear h hs hi he0 HEq
    go_enter Try.func42, Try.ntmps42
    go_wp2_with fail
    refine HV.out.mono ?_
    rintro e w1 ⟨hb1, rfl⟩
    have HB1 := hid hb1
    clear hb1
    go_wp2
    go_ret3
    exact ⟨HB1.out, .inl ⟨HE.out, by rw [HQ.out]; rfl⟩⟩
end Go.Proofs.Ytbffdpcogfmomaa
