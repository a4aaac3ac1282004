/- The document's own comparison of two terms. -/
import Derived.Test.YtilolaednbcaoaaSame
import Derived.Test.YtilolaednbcaoaaValid
set_option linter.unusedVariables false
namespace Go.Proofs.Ytilolaednbcaoaa
open Go.RowKit

def sameT (L : Int) (rs cs : List Int) (L' : Int) (rs' cs' : List Int) : Bool := decide (L = L') && sameB rs rs' && sameB cs cs'

set_option maxRecDepth 100000 in
set_option maxHeartbeats 2000000 in
theorem rsame_any (L : Int) (ra : Option Addr) (rs : List Int) (rc : Nat) (ca : Option Addr) (cs : List Int) (cc : Nat) (L' : Int) (ra' : Option Addr) (rs' : List Int) (rc' : Nat) (ca' : Option Addr) (cs' : List Int) (cc' : Nat) (w : World)
  (h : TermAt w L ra rs ca cs) (h' : TermAt w L' ra' rs' ca' cs') :
  Calls Try.prog 32 #[.agg #[.int .i64 L, .slice ra rs.length rc, .slice ca cs.length cc], .agg #[.int .i64 L', .slice ra' rs'.length rc', .slice ca' cs'.length cc']] w (BoolR w (sameT L rs cs L' rs' cs')) := by
  have hB := ((Below.refl w.heap.size w).alloc (Nat.le_refl _) (.cells #[.int .i64 L, .slice ra rs.length rc, .slice ca cs.length cc] 24)).alloc (by simp) (.cells #[.int .i64 L', .slice ra' rs'.length rc', .slice ca' cs'.length cc'] 24)
  have hA := h.below hB
  have hA' := h'.below hB
  have H1 := hid (same_any ra ra' rs rs' rc rc' _ hA.rest hA'.rest)
  have H2 := hid (fun n => same_any ca ca' cs cs' cc cc' _ (hA.closed.drewN n) (hA'.closed.drewN n))
  cases hl : (L == L') with
  | false =>
    have HR := hid (show sameT L rs cs L' rs' cs' = false by simp at hl; simp [sameT, hl])
    go_enter Try.func32, Try.ntmps32
    go_wp2
    go_ret
    exact ⟨hB, ret_bool HR.out.symm⟩
  | true =>
    have HR := hid (show sameT L rs cs L' rs' cs' = (sameB rs rs' && sameB cs cs') by simp at hl; simp [sameT, hl])
    cases h1 : sameB rs rs' with
    | false =>
      go_enter Try.func32, Try.ntmps32
      go_wp2_with fail
      refine (H1.out).mono ?_
      rintro e w1 ⟨⟨n, rfl⟩, rfl⟩
      rw [h1]
      go_wp2
      go_ret
      exact ⟨below_drewN hB n, ret_bool (by rw [HR.out, h1]; rfl)⟩
    | true =>
      go_enter Try.func32, Try.ntmps32
      go_wp2_with fail
      refine (H1.out).mono ?_
      rintro e w1 ⟨⟨n, rfl⟩, rfl⟩
      rw [h1]
      go_wp2_with fail
      refine (H2.out n).mono ?_
      rintro e w1 ⟨⟨n2, rfl⟩, rfl⟩
      go_wp2
      go_ret
      exact ⟨below_drewN hB _, ret_bool (by rw [HR.out, h1]; simp)⟩

end Go.Proofs.Ytilolaednbcaoaa
