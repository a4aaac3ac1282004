/- A shortest tour, the walk: package van. -/
import Derived.Test.YtbffdpcogfmomaaVaTour
import Derived.Test.YtbffdpcogfmomaaTakeD
set_option linter.unusedVariables false
namespace Go.Proofs.Ytbffdpcogfmomaa
open Go.RowKit

/-- A post that is given by itself at a panic. -/
def onPanic (Pp : List PanicEntry → Act → World → Prop) (Q : Exit → Act → World → Prop) : Exit → Act → World → Prop
  | .panic ch, a, w => Pp ch a w
  | e, a, w => Q e a w
theorem wp_onPanic {P : Program} {c : Code} {a : Act} {w : World} {Q : Exit → Act → World → Prop} (Pp : List PanicEntry → Act → World → Prop) (h1 : ∀ ch a w, Pp ch a w → Q (.panic ch) a w) (h2 : c.wp P (onPanic Pp Q) a w) : c.wp P Q a w :=
  Code.wp_mono (fun e a w h => by
    cases e with
    | panic ch => exact h1 ch a w h
    | normal => exact h
    | exit id => exact h
    | goto l => exact h
    | ret => exact h
    | outgrown => exact h) h2
/-- The deferred call and the result's variable are at hand. -/
def PanA (tb : Nat) (a : Act) : Prop := a.defers = [{ target := Target.fn (Fn.func 61) #[.pointer (some ⟨tb, 0, none⟩)], args := #[] }] ∧ a.tmps[2]? = some (.pointer (some ⟨tb, 0, none⟩)) ∧ a.tmps[3]? = some (.int .i64 0)
theorem PanA.unput {tb d : Nat} {v : Value} {a : Act} (h2 : d ≠ 2) (h3 : d ≠ 3) (h : PanA tb (a.put (some d) v)) : PanA tb a := by
  obtain ⟨e1, e2, e3⟩ := h
  refine ⟨e1, ?_, ?_⟩
  · simpa [Act.put, Array.getElem?_setIfInBounds, h2] using e2
  · simpa [Act.put, Array.getElem?_setIfInBounds, h3] using e3
theorem unput {tb d : Nat} {v : Value} {a : Act} {X : Prop} (h2 : d ≠ 2) (h3 : d ≠ 3) (h : PanA tb (a.put (some d) v) ∧ X) : PanA tb a ∧ X := ⟨h.1.unput h2 h3, h.2⟩
def GoodT (t : Tbl) (w : World) (F : Option Addr) (f : List Int) : Prop := Ints w F f ∧ IsTour f t.length ∧ ∀ q, IsTour q t.length → tourL t f ≤ tourL t q
/-- What a panic of the search hands on. -/
def PanX (t : Tbl) (w2 : World) (tb : Nat) (ch : List PanicEntry) (w' : World) : Prop := ∃ F c f, ch = [{ v := .iface 79 (.agg #[.slice F f.length c, .int .i64 (tourL t f)]), recovered := false }] ∧ Below w2.heap.size w2 w' ∧ GoodT t w' F f
set_option maxRecDepth 100000 in
theorem searchT {t : Tbl} (ht : Ways t) {a : Option Addr} {cap wb : Nat} {w2 : World} (hT : TabAt w2 a t) (hb : w2.cell? ⟨wb, 0, none⟩ = some (.slice a t.length cap)) (W : World) (en : Int) (hW : Below w2.heap.size w2 W) (hen : -50000 ≤ en ∧ en ≤ 50000) (hmin : ∀ o, IsTour o t.length → en ≤ tourL t o) :
    Calls Try.prog 62 #[.int .i64 (t.length : Int), .int .i64 en, .func (.func 64) #[] #[.pointer (some ⟨wb, 0, none⟩)]] W (fun e W' =>
      (∃ F c f, e = .returned (.tuple #[.agg #[.slice F f.length c, .int .i64 (tourL t f)], .bool true]) ∧ Below W.heap.size W W' ∧ GoodT t W' F f ∧ ∀ ad, F = some ad → W.heap.size ≤ ad.block) ∨
      ∃ F c f, e = .panicked [{ v := .iface 79 (.agg #[.slice F f.length c, .int .i64 (tourL t f)]), recovered := false }] ∧ Below W.heap.size W W' ∧ GoodT t W' F f) := by
  refine (search_any t.length ht.len ht.pos (tourL t) (fun _ => true) (by omega) W (tourCost (hT.below hW) ht ((hW.cell (cell_lt hb)).trans hb)) (fun args w => by kernel_rfl)).mono ?_
  rintro e W' (⟨s, u, v, rfl, hb1, hF⟩ | ⟨F, c, f, rfl, hb1, hI, hp, _, hc⟩)
  · obtain ⟨m, rfl, hm⟩ := hF.low (stopsL t.length) (List.Perm.refl _) rfl
    obtain ⟨F, c, f, rfl, rfl, hI, hfar, hp, _, rfl⟩ := hF.yes m rfl
    refine .inl ⟨F, c, f, rfl, hb1, ⟨hI, hp, fun q hq => ?_⟩, hfar⟩
    obtain ⟨m', e', hm'⟩ := hF.low q hq rfl
    cases e'
    exact hm'
  · exact .inr ⟨F, c, f, rfl, hb1, hI, hp, fun q hq => Int.le_trans hc (hmin q hq)⟩
/-- A variable that holds a slice is no array of int. -/
theorem ints_var {w : World} {F : Option Addr} {f : List Int} {tb : Nat} {x : Option Addr} {y z : Nat} {T : TypeId} (h : Ints w F f) (hb : w.heap[tb]? = some (.cells #[.slice x y z] T (0, 0))) (u : Value) : Ints (w.setCell ⟨tb, 0, none⟩ u) F f := by
  refine ⟨h.len, ?_, h.bd⟩
  rcases h.at_ with e | ⟨b, off, rfl, hc⟩
  · exact .inl e
  · by_cases h0 : f.length = 0
    · exact .inl (List.eq_nil_of_length_eq_zero h0)
    · refine .inr ⟨b, off, rfl, fun i hi => ?_⟩
      have hne : b ≠ tb := by
        rintro rfl
        have := hc 0 (by omega)
        unfold World.cell? at this
        simp only [hb] at this
        cases hk : off + 0 with
        | zero => rw [hk] at this; simp at this
        | succ k => rw [hk] at this; simp at this
      rw [World.cell?_setCell_far _ _ _ _ (fun e => hne e.symm)]
      exact hc i hi
theorem results_c1 {P : Program} {fn : Func} {p q : Tmp} {ty : TypeId} (h : fn.results = #[.cell p ty, .tmp q]) (tmps : Array Value) (w : World) (A : Addr) (v : Value) (hp : tmps.getD p undef = .pointer (some A)) (hl : (loadVar ty A).run P w = .ok v w) :
    (results fn tmps).run P w = .ok (.tuple #[v, tmps.getD q undef]) w := by
  have hp' : tmps[p]?.getD undef = .pointer (some A) := by simpa using hp
  rw [results_cell_tmp h]
  simp [hp', asAddr, hl, Result.andThen]
theorem load_var (w : World) (A : Addr) (x : Option Addr) (y z : Nat) (hc : w.cell? A = some (.slice x y z)) : (loadVar 23 A).run Try.prog w = .ok (.slice x y z) w := by
  simp [go_sem, hc]
end Go.Proofs.Ytbffdpcogfmomaa
