/- The library's Clone and Delete at lists of rules, on rows of rules of the call's own. -/
import Derived.Test.YtdgleicpcjfnoaaBkO
import Derived.Test.YtdgleicpcjfnoaaAppend
import Derived.Test.YtdgleicpcjfnoaaRCopyR
import Derived.Deep.AppendLies
import Derived.Deep.RegionLaw
set_option linter.unusedVariables false
namespace Go.Proofs.Ytdgleicpcjfnoaa
open Go.RowKit

theorem RowO.form {w : World} {base : Nat} {e : TypeId} {cs : List (List Int ⊕ Int)} {n : Nat} {v : Value} (h : RowO w base e cs n v) : ∃ A c, v = .slice A n c := by
  obtain ⟨cl, h1, _⟩ := h
  rcases h1.2 with ⟨hv, hn⟩ | ⟨g, c, cur, hv, _⟩
  · exact ⟨none, 0, by rw [hv, hn]⟩
  · exact ⟨_, c, hv⟩
theorem CelO.one {w : World} {base : Nat} {x : Value} {y : List Int ⊕ Int} (h : CelO w base x y) : x.oneCell' = true := by
  cases y with
  | inl xs =>
    rcases h.2 with ⟨hv, _⟩ | ⟨g, c, cur, hv, _⟩
    · rw [hv]; rfl
    · rw [hv]; rfl
  | inr t => rw [show x = .int .i64 t from h]; rfl
set_option maxRecDepth 100000 in
set_option maxHeartbeats 2000000 in
theorem cloneR_any (base : Nat) (cs : List (List Int ⊕ Int)) (n : Nat) (A : Option Addr) (c : Nat) (w : World) (h : RowO w base 55 cs n (.slice A n c)) (hn : n ≤ 1000) (hb : base ≤ w.heap.size) :
  Calls Try.prog 82 #[.slice A n c] w fun e w' => Below w.heap.size w w' ∧ ∃ B d, e = .returned (.slice B n d) ∧ RowO w' base 55 cs n (.slice B n d) ∧ ∀ q, (Value.slice B n d).ownBlock = some q → w.heap.size ≤ q := by
  obtain ⟨i0, hinf, hz0, hz1, hz2⟩ := info_parts rule_info
  obtain ⟨cl, h1, h2, h3⟩ := h
  cases A with
  | none =>
    obtain ⟨rfl, rfl⟩ : n = 0 ∧ c = 0 := by
      rcases h1.2 with ⟨hv, hn⟩ | ⟨g, c', cur, hv, _⟩
      · simp only [Value.slice.injEq] at hv; exact ⟨hn, hv.2.2⟩
      · simp at hv
    have he : ∀ w : World, (Go.binOp .eql 23 (.slice none 0 0) (.slice none 0 0)).run Try.prog w = .ok (.bool true) w := fun w => by kernel_rfl
    have HH := hid (And.intro h1 (And.intro h2 h3))
    clear h1 h2 h3
    go_enter Try.func82, Try.ntmps82
    go_wp2
    go_ret
    exact ⟨Below.refl _ _, _, _, rfl, ⟨cl, HH.out⟩, fun q hq => by simp [Value.ownBlock] at hq⟩
  | some a =>
    obtain ⟨g, rfl, hbg⟩ : ∃ g, a = ⟨g, 0, none⟩ ∧ base ≤ g := by
      rcases h1.2 with ⟨hv, hn⟩ | ⟨g, c', cur, hv, hg, _⟩
      · simp at hv
      · simp only [Value.slice.injEq, Option.some.injEq] at hv; exact ⟨g, hv.1, hg⟩
    have hA : Below w.heap.size w (w.alloc (.cells #[] 55)) := (Below.refl _ _).alloc (Nat.le_refl _) _
    have hE : (w.alloc (.cells #[] 55)).ownsRow w.heap.size 55 2 (.slice (some ⟨w.heap.size, 0, none⟩) 0 0) 0 [] := by simpa using (World.ownsRow_lit (base := w.heap.size) (e := 55) (size := 2) w #[] 0 (Nat.le_refl _) (by decide) (by simp))
    have hSr : n = 0 ∨ ∃ ad, (some (⟨g, 0, none⟩ : Addr)) = some ad ∧ ∀ (j : Nat) (u : Value), cl[j]? = some u → (w.alloc (.cells #[] 55)).cell? (ad.add j) = some u :=
      .inr ⟨_, rfl, fun j u hu => by
        have := row_cells (own_below h1 hA) j u hu
        rw [Addr.add_lit, Nat.zero_add]; exact this⟩
    have hlen := h1.1
    have h1c : ∀ u ∈ cl, u.oneCell' = true := fun u hu => by obtain ⟨y, hy⟩ := h2.cel hu; exact hy.one
    have HA := hid hA
    have HL := hid h2
    have H3 := hid h3
    have he : ∀ w : World, (Go.binOp .eql 23 (.slice (some ⟨g, 0, none⟩) n c) (.slice none 0 0)).run Try.prog w = .ok (.bool false) w := fun w => by kernel_rfl
    clear h1 h2 h3 hA
    go_enter Try.func82, Try.ntmps82
    go_wp2_with (at_builtin; refine wpList_append_src rfl _ _ 23 rfl w.heap.size 55 i0 (.agg #[.slice none 0 0, .int .i64 0]) 2 32 Try.underlying23 hinf hz0 hz1 hz2 rfl (by decide) (.slice (some ⟨w.heap.size, 0, none⟩) 0 0) 0 [] rfl hE (some ⟨g, 0, none⟩) n c cl rfl hlen hSr h1c (by unfold maxLen; omega) (by omega) (by simp) ?_)
    intro v9 w9 hown9 hgr9
    have HB9 := hid (HA.out.grown hgr9 (by simp) (fun q hq => by simp [Value.ownBlock] at hq; omega))
    have HO9 := hid (show w9.ownsRow w.heap.size 55 2 v9 n cl by simpa using hown9)
    clear hown9 hgr9 hE hSr
    go_wp2
    go_ret
    have hr : RowO w9 base 55 cs n v9 := ⟨cl, own_weak HO9.out hb, HL.out.below HB9.out, H3.out⟩
    obtain ⟨B, d, rfl⟩ := hr.form
    exact ⟨HB9.out, B, d, rfl, hr, fun q hq => (HO9.out.lt q hq).1⟩
end Go.Proofs.Ytdgleicpcjfnoaa
