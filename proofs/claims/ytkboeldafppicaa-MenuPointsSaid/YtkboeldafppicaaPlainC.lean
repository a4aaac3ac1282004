/- What the machine of kinds answers at a letter: the closure of plain, at each type of states. -/
import Derived.Test.YtkboeldafppicaaMaP
import Derived.Deep.RegionHeld3
set_option linter.unusedVariables false
set_option linter.unusedSimpArgs false
namespace Go.Proofs.Ytkboeldafppicaa
open Go.RowKit

theorem pcS_keep {w0 w w' : World} {pK pM b0 oj : Nat} {K : Option Addr} {L rn c : Nat} {Na : Option Addr} {nc : Nat} {Aa : Option Addr} {ac : Nat} {x : Int} (h : w.cell? ⟨pK, 0, none⟩ = some (.slice K rn c) ∧ w.cell? ⟨pM, 0, none⟩ = some (.int .i64 (L : Int)) ∧ w.cell? ⟨pM, 1, none⟩ = some (.slice Na rn nc) ∧ w.cell? ⟨pM, 2, none⟩ = some (.slice Aa rn ac) ∧ w.cell? ⟨b0, oj, none⟩ = some (.int .i64 x) ∧ Below w0.heap.size w0 w) (hb : Below w.heap.size w w') : w'.cell? ⟨pK, 0, none⟩ = some (.slice K rn c) ∧ w'.cell? ⟨pM, 0, none⟩ = some (.int .i64 (L : Int)) ∧ w'.cell? ⟨pM, 1, none⟩ = some (.slice Na rn nc) ∧ w'.cell? ⟨pM, 2, none⟩ = some (.slice Aa rn ac) ∧ w'.cell? ⟨b0, oj, none⟩ = some (.int .i64 x) ∧ Below w0.heap.size w0 w' := by
  obtain ⟨h1, h2, h3, h4, h5, h6⟩ := h
  exact ⟨(hb.cell (cell_lt h1)).trans h1, (hb.cell (cell_lt h2)).trans h2, (hb.cell (cell_lt h3)).trans h3, (hb.cell (cell_lt h4)).trans h4, (hb.cell (cell_lt h5)).trans h5, h6.trans (hb.mono h6.size)⟩

set_option maxRecDepth 100000 in
set_option maxHeartbeats 4000000 in
theorem plainCR_any (L s c nc ac cK pK pM : Nat) (Na Aa K : Option Addr) (rows : List (List Int)) (accs : List Bool) (al : List Int) (w : World) (h : MachAt w Na rows Aa accs) (hg : GoodM L rows accs) (hs : s < rows.length) (hc : c < L) (hK : Ints w K al) (hal : al.length = rows.length)
    (k0 : w.cell? ⟨pK, 0, none⟩ = some (.slice K rows.length cK)) (m0 : w.cell? ⟨pM, 0, none⟩ = some (.int .i64 (L : Int))) (m1 : w.cell? ⟨pM, 1, none⟩ = some (.slice Na rows.length nc)) (m2 : w.cell? ⟨pM, 2, none⟩ = some (.slice Aa rows.length ac)) :
    Calls Try.prog 129 #[.int .i64 s, .int .i64 c, .pointer (some ⟨pK, 0, none⟩), .pointer (some ⟨pM, 0, none⟩)] w fun e w' => Below w.heap.size w w' ∧ e = .returned (.int .i64 (al[mN rows s c]?.getD 0)) := by
  have hn := h.nlen
  obtain ⟨he1, he2⟩ := hg.ent s c hs hc
  have hrow := hg.row s hs
  obtain ⟨b0, o0, rfl, hKc⟩ : ∃ b o, K = some ⟨b, o, none⟩ ∧ ∀ i, i < al.length → w.cell? ⟨b, o + i, none⟩ = some (.int .i64 (al[i]?.getD 0)) := by
    rcases hK.at_ with e | hh
    · rw [e] at hal; simp at hal; omega
    · exact hh
  have kc := hKc (mN rows s c) (by rw [hal]; exact he1)
  have HNx := hid (show ∀ wx, Below w.heap.size w wx → Calls Try.prog 71 #[machV L Na rows.length nc Aa rows.length ac, .int .i64 s, .int .i64 c] wx fun e w' => Below wx.heap.size wx w' ∧ e = .returned (.int .i64 (mN rows s c : Int)) from fun wx hb => by
    have := next_any L s c nc ac rows.length Na Aa rows accs wx (h.below hb) hs (by rw [hrow]; exact hc)
    rw [he2] at this
    exact this.mono (by rintro e w' ⟨rfl, rfl⟩; exact ⟨(Below.refl _ _).alloc (Nat.le_refl _) _, rfl⟩))
  have S0 := hid (show w.cell? ⟨pK, 0, none⟩ = some (.slice (some ⟨b0, o0, none⟩) rows.length cK) ∧ w.cell? ⟨pM, 0, none⟩ = some (.int .i64 (L : Int)) ∧ w.cell? ⟨pM, 1, none⟩ = some (.slice Na rows.length nc) ∧ w.cell? ⟨pM, 2, none⟩ = some (.slice Aa rows.length ac) ∧ w.cell? ⟨b0, o0 + mN rows s c, none⟩ = some (.int .i64 (al[mN rows s c]?.getD 0)) ∧ Below w.heap.size w w from ⟨k0, m0, m1, m2, kc, Below.refl _ _⟩)
  clear h hg hK hal hKc hrow kc he2 k0 m0 m1 m2
  generalize mN rows s c = j at *
  generalize al[j]?.getD 0 = x at *
  go_enter Try.func129, Try.ntmps129
  go_wp2_with fail
  go_region_held3 (fun w' => w'.cell? ⟨pK, 0, none⟩ = some (.slice (some ⟨b0, o0, none⟩) rows.length cK) ∧ w'.cell? ⟨pM, 0, none⟩ = some (.int .i64 (L : Int)) ∧ w'.cell? ⟨pM, 1, none⟩ = some (.slice Na rows.length nc) ∧ w'.cell? ⟨pM, 2, none⟩ = some (.slice Aa rows.length ac) ∧ w'.cell? ⟨b0, o0 + j, none⟩ = some (.int .i64 x) ∧ Below w.heap.size w w') (first | exact pcS_keep S0.out (Below.refl _ _).drew | exact S0.out | exact pcS_keep (by assumption) (by assumption)) ((go_at_call 71; refine (HNx.out _ ?_).mono ?_; (exact (And.right (And.right (And.right (And.right (And.right (by assumption))))))); rintro e w5 ⟨hb5, rfl⟩))
  rename _ ∧ _ => hHeld
  have hBz := hHeld.2.2.2.2.2
  clear hb5 hHeld S0 HNx
  go_wp2
  go_ret
  exact ⟨hBz, rfl⟩
set_option maxRecDepth 100000 in
set_option maxHeartbeats 4000000 in
theorem plainCI_any (L s c nc ac cK pK pM : Nat) (Na Aa K : Option Addr) (rows : List (List Int)) (accs : List Bool) (al : List Int) (w : World) (h : MachAt w Na rows Aa accs) (hg : GoodM L rows accs) (hs : s < rows.length) (hc : c < L) (hK : Ints w K al) (hal : al.length = rows.length)
    (k0 : w.cell? ⟨pK, 0, none⟩ = some (.slice K rows.length cK)) (m0 : w.cell? ⟨pM, 0, none⟩ = some (.int .i64 (L : Int))) (m1 : w.cell? ⟨pM, 1, none⟩ = some (.slice Na rows.length nc)) (m2 : w.cell? ⟨pM, 2, none⟩ = some (.slice Aa rows.length ac)) :
    Calls Try.prog 123 #[.int .i64 s, .int .i64 c, .pointer (some ⟨pK, 0, none⟩), .pointer (some ⟨pM, 0, none⟩)] w fun e w' => Below w.heap.size w w' ∧ e = .returned (.int .i64 (al[mN rows s c]?.getD 0)) := by
  have hn := h.nlen
  obtain ⟨he1, he2⟩ := hg.ent s c hs hc
  have hrow := hg.row s hs
  obtain ⟨b0, o0, rfl, hKc⟩ : ∃ b o, K = some ⟨b, o, none⟩ ∧ ∀ i, i < al.length → w.cell? ⟨b, o + i, none⟩ = some (.int .i64 (al[i]?.getD 0)) := by
    rcases hK.at_ with e | hh
    · rw [e] at hal; simp at hal; omega
    · exact hh
  have kc := hKc (mN rows s c) (by rw [hal]; exact he1)
  have HNx := hid (show ∀ wx, Below w.heap.size w wx → Calls Try.prog 71 #[machV L Na rows.length nc Aa rows.length ac, .int .i64 s, .int .i64 c] wx fun e w' => Below wx.heap.size wx w' ∧ e = .returned (.int .i64 (mN rows s c : Int)) from fun wx hb => by
    have := next_any L s c nc ac rows.length Na Aa rows accs wx (h.below hb) hs (by rw [hrow]; exact hc)
    rw [he2] at this
    exact this.mono (by rintro e w' ⟨rfl, rfl⟩; exact ⟨(Below.refl _ _).alloc (Nat.le_refl _) _, rfl⟩))
  have S0 := hid (show w.cell? ⟨pK, 0, none⟩ = some (.slice (some ⟨b0, o0, none⟩) rows.length cK) ∧ w.cell? ⟨pM, 0, none⟩ = some (.int .i64 (L : Int)) ∧ w.cell? ⟨pM, 1, none⟩ = some (.slice Na rows.length nc) ∧ w.cell? ⟨pM, 2, none⟩ = some (.slice Aa rows.length ac) ∧ w.cell? ⟨b0, o0 + mN rows s c, none⟩ = some (.int .i64 (al[mN rows s c]?.getD 0)) ∧ Below w.heap.size w w from ⟨k0, m0, m1, m2, kc, Below.refl _ _⟩)
  clear h hg hK hal hKc hrow kc he2 k0 m0 m1 m2
  generalize mN rows s c = j at *
  generalize al[j]?.getD 0 = x at *
  go_enter Try.func123, Try.ntmps123
  go_wp2_with fail
  go_region_held3 (fun w' => w'.cell? ⟨pK, 0, none⟩ = some (.slice (some ⟨b0, o0, none⟩) rows.length cK) ∧ w'.cell? ⟨pM, 0, none⟩ = some (.int .i64 (L : Int)) ∧ w'.cell? ⟨pM, 1, none⟩ = some (.slice Na rows.length nc) ∧ w'.cell? ⟨pM, 2, none⟩ = some (.slice Aa rows.length ac) ∧ w'.cell? ⟨b0, o0 + j, none⟩ = some (.int .i64 x) ∧ Below w.heap.size w w') (first | exact pcS_keep S0.out (Below.refl _ _).drew | exact S0.out | exact pcS_keep (by assumption) (by assumption)) ((go_at_call 71; refine (HNx.out _ ?_).mono ?_; (exact (And.right (And.right (And.right (And.right (And.right (by assumption))))))); rintro e w5 ⟨hb5, rfl⟩))
  rename _ ∧ _ => hHeld
  have hBz := hHeld.2.2.2.2.2
  clear hb5 hHeld S0 HNx
  go_wp2
  go_ret
  exact ⟨hBz, rfl⟩
set_option maxRecDepth 100000 in
set_option maxHeartbeats 4000000 in
theorem plainCT_any (L s c nc ac cK pK pM : Nat) (Na Aa K : Option Addr) (rows : List (List Int)) (accs : List Bool) (al : List Int) (w : World) (h : MachAt w Na rows Aa accs) (hg : GoodM L rows accs) (hs : s < rows.length) (hc : c < L) (hK : Ints w K al) (hal : al.length = rows.length)
    (k0 : w.cell? ⟨pK, 0, none⟩ = some (.slice K rows.length cK)) (m0 : w.cell? ⟨pM, 0, none⟩ = some (.int .i64 (L : Int))) (m1 : w.cell? ⟨pM, 1, none⟩ = some (.slice Na rows.length nc)) (m2 : w.cell? ⟨pM, 2, none⟩ = some (.slice Aa rows.length ac)) :
    Calls Try.prog 126 #[.int .i64 s, .int .i64 c, .pointer (some ⟨pK, 0, none⟩), .pointer (some ⟨pM, 0, none⟩)] w fun e w' => Below w.heap.size w w' ∧ e = .returned (.int .i64 (al[mN rows s c]?.getD 0)) := by
  have hn := h.nlen
  obtain ⟨he1, he2⟩ := hg.ent s c hs hc
  have hrow := hg.row s hs
  obtain ⟨b0, o0, rfl, hKc⟩ : ∃ b o, K = some ⟨b, o, none⟩ ∧ ∀ i, i < al.length → w.cell? ⟨b, o + i, none⟩ = some (.int .i64 (al[i]?.getD 0)) := by
    rcases hK.at_ with e | hh
    · rw [e] at hal; simp at hal; omega
    · exact hh
  have kc := hKc (mN rows s c) (by rw [hal]; exact he1)
  have HNx := hid (show ∀ wx, Below w.heap.size w wx → Calls Try.prog 71 #[machV L Na rows.length nc Aa rows.length ac, .int .i64 s, .int .i64 c] wx fun e w' => Below wx.heap.size wx w' ∧ e = .returned (.int .i64 (mN rows s c : Int)) from fun wx hb => by
    have := next_any L s c nc ac rows.length Na Aa rows accs wx (h.below hb) hs (by rw [hrow]; exact hc)
    rw [he2] at this
    exact this.mono (by rintro e w' ⟨rfl, rfl⟩; exact ⟨(Below.refl _ _).alloc (Nat.le_refl _) _, rfl⟩))
  have S0 := hid (show w.cell? ⟨pK, 0, none⟩ = some (.slice (some ⟨b0, o0, none⟩) rows.length cK) ∧ w.cell? ⟨pM, 0, none⟩ = some (.int .i64 (L : Int)) ∧ w.cell? ⟨pM, 1, none⟩ = some (.slice Na rows.length nc) ∧ w.cell? ⟨pM, 2, none⟩ = some (.slice Aa rows.length ac) ∧ w.cell? ⟨b0, o0 + mN rows s c, none⟩ = some (.int .i64 (al[mN rows s c]?.getD 0)) ∧ Below w.heap.size w w from ⟨k0, m0, m1, m2, kc, Below.refl _ _⟩)
  clear h hg hK hal hKc hrow kc he2 k0 m0 m1 m2
  generalize mN rows s c = j at *
  generalize al[j]?.getD 0 = x at *
  go_enter Try.func126, Try.ntmps126
  go_wp2_with fail
  go_region_held3 (fun w' => w'.cell? ⟨pK, 0, none⟩ = some (.slice (some ⟨b0, o0, none⟩) rows.length cK) ∧ w'.cell? ⟨pM, 0, none⟩ = some (.int .i64 (L : Int)) ∧ w'.cell? ⟨pM, 1, none⟩ = some (.slice Na rows.length nc) ∧ w'.cell? ⟨pM, 2, none⟩ = some (.slice Aa rows.length ac) ∧ w'.cell? ⟨b0, o0 + j, none⟩ = some (.int .i64 x) ∧ Below w.heap.size w w') (first | exact pcS_keep S0.out (Below.refl _ _).drew | exact S0.out | exact pcS_keep (by assumption) (by assumption)) ((go_at_call 71; refine (HNx.out _ ?_).mono ?_; (exact (And.right (And.right (And.right (And.right (And.right (by assumption))))))); rintro e w5 ⟨hb5, rfl⟩))
  rename _ ∧ _ => hHeld
  have hBz := hHeld.2.2.2.2.2
  clear hb5 hHeld S0 HNx
  go_wp2
  go_ret
  exact ⟨hBz, rfl⟩
set_option maxRecDepth 100000 in
set_option maxHeartbeats 4000000 in
theorem plainCS_any (L s c nc ac cK pK pM : Nat) (Na Aa K : Option Addr) (rows : List (List Int)) (accs : List Bool) (al : List Int) (w : World) (h : MachAt w Na rows Aa accs) (hg : GoodM L rows accs) (hs : s < rows.length) (hc : c < L) (hK : Ints w K al) (hal : al.length = rows.length)
    (k0 : w.cell? ⟨pK, 0, none⟩ = some (.slice K rows.length cK)) (m0 : w.cell? ⟨pM, 0, none⟩ = some (.int .i64 (L : Int))) (m1 : w.cell? ⟨pM, 1, none⟩ = some (.slice Na rows.length nc)) (m2 : w.cell? ⟨pM, 2, none⟩ = some (.slice Aa rows.length ac)) :
    Calls Try.prog 133 #[.int .i64 s, .int .i64 c, .pointer (some ⟨pK, 0, none⟩), .pointer (some ⟨pM, 0, none⟩)] w fun e w' => Below w.heap.size w w' ∧ e = .returned (.int .i64 (al[mN rows s c]?.getD 0)) := by
  have hn := h.nlen
  obtain ⟨he1, he2⟩ := hg.ent s c hs hc
  have hrow := hg.row s hs
  obtain ⟨b0, o0, rfl, hKc⟩ : ∃ b o, K = some ⟨b, o, none⟩ ∧ ∀ i, i < al.length → w.cell? ⟨b, o + i, none⟩ = some (.int .i64 (al[i]?.getD 0)) := by
    rcases hK.at_ with e | hh
    · rw [e] at hal; simp at hal; omega
    · exact hh
  have kc := hKc (mN rows s c) (by rw [hal]; exact he1)
  have HNx := hid (show ∀ wx, Below w.heap.size w wx → Calls Try.prog 71 #[machV L Na rows.length nc Aa rows.length ac, .int .i64 s, .int .i64 c] wx fun e w' => Below wx.heap.size wx w' ∧ e = .returned (.int .i64 (mN rows s c : Int)) from fun wx hb => by
    have := next_any L s c nc ac rows.length Na Aa rows accs wx (h.below hb) hs (by rw [hrow]; exact hc)
    rw [he2] at this
    exact this.mono (by rintro e w' ⟨rfl, rfl⟩; exact ⟨(Below.refl _ _).alloc (Nat.le_refl _) _, rfl⟩))
  have S0 := hid (show w.cell? ⟨pK, 0, none⟩ = some (.slice (some ⟨b0, o0, none⟩) rows.length cK) ∧ w.cell? ⟨pM, 0, none⟩ = some (.int .i64 (L : Int)) ∧ w.cell? ⟨pM, 1, none⟩ = some (.slice Na rows.length nc) ∧ w.cell? ⟨pM, 2, none⟩ = some (.slice Aa rows.length ac) ∧ w.cell? ⟨b0, o0 + mN rows s c, none⟩ = some (.int .i64 (al[mN rows s c]?.getD 0)) ∧ Below w.heap.size w w from ⟨k0, m0, m1, m2, kc, Below.refl _ _⟩)
  clear h hg hK hal hKc hrow kc he2 k0 m0 m1 m2
  generalize mN rows s c = j at *
  generalize al[j]?.getD 0 = x at *
  go_enter Try.func133, Try.ntmps133
  go_wp2_with fail
  go_region_held3 (fun w' => w'.cell? ⟨pK, 0, none⟩ = some (.slice (some ⟨b0, o0, none⟩) rows.length cK) ∧ w'.cell? ⟨pM, 0, none⟩ = some (.int .i64 (L : Int)) ∧ w'.cell? ⟨pM, 1, none⟩ = some (.slice Na rows.length nc) ∧ w'.cell? ⟨pM, 2, none⟩ = some (.slice Aa rows.length ac) ∧ w'.cell? ⟨b0, o0 + j, none⟩ = some (.int .i64 x) ∧ Below w.heap.size w w') (first | exact pcS_keep S0.out (Below.refl _ _).drew | exact S0.out | exact pcS_keep (by assumption) (by assumption)) ((go_at_call 71; refine (HNx.out _ ?_).mono ?_; (exact (And.right (And.right (And.right (And.right (And.right (by assumption))))))); rintro e w5 ⟨hb5, rfl⟩))
  rename _ ∧ _ => hHeld
  have hBz := hHeld.2.2.2.2.2
  clear hb5 hHeld S0 HNx
  go_wp2
  go_ret
  exact ⟨hBz, rfl⟩
end Go.Proofs.Ytkboeldafppicaa
