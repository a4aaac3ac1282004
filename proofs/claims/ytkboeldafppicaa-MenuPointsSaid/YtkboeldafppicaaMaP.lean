/- A machine's methods: next, accepts, refuses. -/
import Derived.Test.YtkboeldafppicaaMachA
set_option linter.unusedVariables false
namespace Go.Proofs.Ytkboeldafppicaa
open Go.RowKit

/-- The state behind a letter, and whether a state accepts. -/
def mN (rows : List (List Int)) (s c : Nat) : Nat := ((rows[s]?.getD [])[c]?.getD 0).toNat
def mA (accs : List Bool) (s : Nat) : Bool := accs[s]?.getD false
/-- A machine that is right. -/
structure GoodM (L : Nat) (rows : List (List Int)) (accs : List Bool) : Prop where
  lo : 1 ≤ L
  hi : L ≤ 6
  pos : 0 < rows.length
  acc : accs.length = rows.length
  row : ∀ s, s < rows.length → (rows[s]?.getD []).length = L
  ent : ∀ s c, s < rows.length → c < L → mN rows s c < rows.length ∧ (rows[s]?.getD [])[c]?.getD 0 = (mN rows s c : Int)
theorem MachAt.row {w : World} {Na Aa : Option Addr} {rows : List (List Int)} {accs : List Bool} (h : MachAt w Na rows Aa accs) (s c : Nat) (hs : s < rows.length) (hc : c < (rows[s]?.getD []).length) :
    ∃ b off g o k, Na = some ⟨b, off, none⟩ ∧ w.cell? ⟨b, off + s, none⟩ = some (.slice (some ⟨g, o, none⟩) (rows[s]?.getD []).length k) ∧ w.cell? ⟨g, o + c, none⟩ = some (.int .i64 ((rows[s]?.getD [])[c]?.getD 0)) ∧ (rows[s]?.getD []).length ≤ 140737488355328 := by
  rcases h.nat_ with e | ⟨b, off, ha, hcc⟩
  · rw [e] at hs; simp at hs
  obtain ⟨A, k, h1, h2⟩ := hcc s hs
  rcases h2.at_ with e | ⟨g, o, rfl, h3⟩
  · rw [e] at hc; simp at hc
  exact ⟨b, off, g, o, k, ha, h1, h3 c hc, h2.len⟩
abbrev machO (L : Nat) (Na : Option Addr) (rn nc : Nat) (Aa : Option Addr) (an ac : Nat) : Obj := .cells #[.int .i64 (L : Int), .slice Na rn nc, .slice Aa an ac] 73

set_option maxRecDepth 100000 in
theorem next_any (L s c nc ac an : Nat) (Na Aa : Option Addr) (rows : List (List Int)) (accs : List Bool) (w : World) (h : MachAt w Na rows Aa accs) (hs : s < rows.length) (hc : c < (rows[s]?.getD []).length) :
    Calls Try.prog 71 #[machV L Na rows.length nc Aa an ac, .int .i64 s, .int .i64 c] w fun e w' => w' = w.alloc (machO L Na rows.length nc Aa an ac) ∧ e = .returned (.int .i64 ((rows[s]?.getD [])[c]?.getD 0)) := by
  obtain ⟨b, off, g, o, k, rfl, h1, h2, h3⟩ := h.row s c hs hc
  have hn := h.nlen
  have l1 := cell_lt h1
  have l2 := cell_lt h2
  unfold machV
  clear h
  generalize rows[s]?.getD [] = r at *
  generalize r[c]?.getD 0 = x at *
  go_enter Try.func71, Try.ntmps71
  go_wp2
  go_ret
  exact ⟨rfl, rfl⟩
set_option maxRecDepth 100000 in
theorem accepts_any (L s nc ac rn an : Nat) (Na Aa : Option Addr) (rows : List (List Int)) (accs : List Bool) (w : World) (h : MachAt w Na rows Aa accs) (hs : s < accs.length) (han : an = accs.length) :
    Calls Try.prog 72 #[machV L Na rn nc Aa an ac, .int .i64 s] w fun e w' => w' = w.alloc (machO L Na rn nc Aa an ac) ∧ e = .returned (.bool (mA accs s)) := by
  subst han
  rcases h.aat with e | ⟨b, off, rfl, hc⟩
  · rw [e] at hs; simp at hs
  have h1 := hc s hs
  have hn := h.alen
  have l1 := cell_lt h1
  unfold machV mA
  clear h hc
  generalize accs[s]?.getD false = x at *
  go_enter Try.func72, Try.ntmps72
  go_wp2
  go_ret
  exact ⟨rfl, rfl⟩
set_option maxRecDepth 100000 in
theorem refuses_any (L s nc ac rn an : Nat) (Na Aa : Option Addr) (rows : List (List Int)) (accs : List Bool) (w : World) (h : MachAt w Na rows Aa accs) (hs : s < accs.length) (han : an = accs.length) :
    Calls Try.prog 91 #[machV L Na rn nc Aa an ac, .int .i64 s] w fun e w' => w' = w.alloc (machO L Na rn nc Aa an ac) ∧ e = .returned (.bool (!mA accs s)) := by
  subst han
  rcases h.aat with e | ⟨b, off, rfl, hc⟩
  · rw [e] at hs; simp at hs
  have h1 := hc s hs
  have hn := h.alen
  have l1 := cell_lt h1
  unfold machV mA
  clear h hc
  generalize accs[s]?.getD false = x at *
  go_enter Try.func91, Try.ntmps91
  go_wp2
  go_ret
  exact ⟨rfl, rfl⟩
end Go.Proofs.Ytkboeldafppicaa
