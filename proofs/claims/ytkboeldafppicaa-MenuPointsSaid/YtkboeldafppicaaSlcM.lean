/- Beginnings and ends of slices; slices of int that came in, with their capacity. -/
import Derived.Test.YtkboeldafppicaaRowsI
import Derived.Test.YtkboeldafppicaaOpenI
set_option linter.unusedVariables false
namespace Go.Proofs.Ytkboeldafppicaa
open Go.ChangeShapes Go.WideShapes Go.ChangeAt Go.RowKit Go.Joins

set_option maxRecDepth 100000 in
theorem open_intsC3_at {H : Type} {enc : TypeId × Value → H} {W : World} {n : Nat} {v : Value} {y : DataW H × List MemPlace}
    (h : DataW.trod enc Try.prog W 0 (fun _ => true) true n 26 [v] = some y) :
    ∃ (a : Option Addr) (xs : List Int) (cap : Nat), v = .slice a xs.length cap ∧ xs.length ≤ 9223372036854775807 ∧ (xs.length ≤ 140737488355328 → Ints W a xs) ∧ xs.length ≤ cap := by
  rcases open_ints Try.underlying26 Try.underlying3 (by kernel_rfl) h with ⟨hcs, _⟩ | ⟨a, len, cap, zs, hcs, _, hl, hm, hz, _, hcell, hwz⟩
  · simp at hcs
    exact ⟨none, [], 0, hcs, by simp, fun _ => ⟨by simp, .inl rfl, by simp⟩, by simp⟩
  · simp at hcs hz
    have hlen : (zs.take len).length = len := by simp; omega
    unfold maxLen at hm
    refine ⟨some a, zs.take len, cap, by rw [hlen, hcs], by omega, fun hb => ⟨hb, ?_, ?_⟩, by omega⟩
    · by_cases h0 : len = 0
      · left; subst h0; simp
      · right
        obtain ⟨b, off, spot⟩ := a
        have hc := hcell 0 (by omega)
        have hspot : spot = none := by simpa [Addr.add] using World.cell?_spot hc
        subst hspot
        refine ⟨b, off, rfl, fun i hi => ?_⟩
        have e : (⟨b, off, none⟩ : Addr).add i = ⟨b, off + i, none⟩ := by
          unfold Addr.add; split
          · simp_all
          · rfl
        have := hcell i (by omega)
        rw [e] at this
        rw [this, List.getElem?_take_of_lt (by omega)]
        simp
    · intro x hx
      exact wf_i64 (hwz x (List.mem_of_mem_take hx))
set_option maxRecDepth 100000 in
theorem open_intsC3 {H : Type} {enc : TypeId × Value → H} {W : World} {r : Go.Reach} {b0 : Nat} {v : Value} {d : DataW H} {p : List MemPlace} (hv : Value.okWide Try.prog W r b0 26 v)
    (h : DataW.Trod enc Try.prog W 0 (fun _ => true) true 26 v d p) :
    ∃ (a : Option Addr) (xs : List Int) (cap : Nat), v = .slice a xs.length cap ∧ xs.length ≤ 9223372036854775807 ∧ (xs.length ≤ 140737488355328 → Ints W a xs) ∧ xs.length ≤ cap := by
  obtain ⟨a0, len0, cap0, rfl⟩ := okWide_slice Try.underlying26 hv
  obtain ⟨fuel, hf⟩ := h
  simp only [Value.cells] at hf
  exact open_intsC3_at hf
set_option maxRecDepth 100000 in
theorem run_toM (A : Option Addr) (n c a : Nat) (ha : a ≤ n) (hn : n ≤ c) : ∃ A1 c1, (A1 = A ∨ ∃ g, A = some g ∧ A1 = some (g.add 0)) ∧ ∀ W : World, (Instr.sliceAt 26 (.slice A n c) none (some (.int .i64 (a : Int))) none).run Try.prog W = .ok (.slice A1 a c1) W := by
  obtain ⟨i0, hinf, hz0, hz1, hz2⟩ := info_parts int_info
  refine ⟨if c = 0 then A else A.map (·.add (0 * i0.size)), c - 0, ?_, fun W => ?_⟩
  · by_cases h : c = 0
    · rw [if_pos h]; exact .inl rfl
    · rw [if_neg h]
      cases A with
      | none => exact .inl rfl
      | some g => exact .inr ⟨g, rfl, by simp⟩
  · have hb := run_sliceBound (P := Try.prog) (w := W) .i64 (a : Int) c .sliceAcap (by omega) (by omega)
    simp [Instr.sliceAt, Instr.slice, Instr.sliceBounds, run_underlying Try.underlying26, hb, sizeOf, typeInfo, hinf, go_sem]
set_option maxRecDepth 100000 in
theorem run_fromM (A : Option Addr) (n c a : Nat) (ha : a ≤ n) (hn : n ≤ c) : ∃ A1 c1, (a = n ∨ A1 = A.map (·.add a)) ∧ ∀ W : World, (Instr.sliceAt 26 (.slice A n c) (some (.int .i64 (a : Int))) none none).run Try.prog W = .ok (.slice A1 (n - a) c1) W := by
  obtain ⟨i0, hinf, hz0, hz1, hz2⟩ := info_parts int_info
  refine ⟨if c = a then A else A.map (·.add (a * i0.size)), c - a, ?_, fun W => ?_⟩
  · by_cases h : c = a
    · exact .inl (by omega)
    · rw [if_neg h, hz1, Nat.mul_one]
      exact .inr rfl
  · have hb := run_sliceBound (P := Try.prog) (w := W) .i64 (a : Int) n .sliceB (by omega) (by omega)
    simp [Instr.sliceAt, Instr.slice, Instr.sliceBounds, run_underlying Try.underlying26, hb, sizeOf, typeInfo, hinf, go_sem]
/-- A row cut in two: what both cuts answer, and where their elements lie. -/
theorem cut_toM {w : World} {A : Option Addr} {l : List Int} {cap : Nat} (h : Ints w A l) (hc : l.length ≤ cap) (a : Nat) (ha : a ≤ l.length) :
    ∃ A1 c1, (∀ W : World, (Instr.sliceAt 26 (.slice A l.length cap) none (some (.int .i64 (a : Int))) none).run Try.prog W = .ok (.slice A1 a c1) W) ∧ ∀ w' : World, Ints w' A l → Ints w' A1 (l.take a) := by
  obtain ⟨A1, c1, h1, r1⟩ := run_toM A l.length cap a ha hc
  refine ⟨A1, c1, r1, fun w' hI => ⟨by have := hI.len; simp; omega, ?_, fun x hx => hI.bd x (List.mem_of_mem_take hx)⟩⟩
  rcases hI.at_ with e | ⟨b, off, hA, hcc⟩
  · exact .inl (by rw [e]; simp)
  · refine .inr ⟨b, off, ?_, fun i hi => ?_⟩
    · rcases h1 with e | ⟨g, e1, e2⟩
      · rw [e]; exact hA
      · rw [hA] at e1
        obtain rfl := Option.some.inj e1
        rw [e2]
        unfold Addr.add; simp
    · rw [List.length_take] at hi
      rw [List.getElem?_take_of_lt (by omega)]
      exact hcc i (by omega)
theorem cut_fromM {w : World} {A : Option Addr} {l : List Int} {cap : Nat} (h : Ints w A l) (hc : l.length ≤ cap) (a : Nat) (ha : a ≤ l.length) :
    ∃ A1 c1, (∀ W : World, (Instr.sliceAt 26 (.slice A l.length cap) (some (.int .i64 (a : Int))) none none).run Try.prog W = .ok (.slice A1 (l.length - a) c1) W) ∧ ∀ w' : World, Ints w' A l → Ints w' A1 (l.drop a) := by
  obtain ⟨A1, c1, h1, r1⟩ := run_fromM A l.length cap a ha hc
  refine ⟨A1, c1, r1, fun w' hI => ⟨by have := hI.len; simp; omega, ?_, fun x hx => hI.bd x (List.mem_of_mem_drop hx)⟩⟩
  rcases hI.at_ with e | ⟨b, off, hA, hcc⟩
  · exact .inl (by rw [e]; simp)
  · by_cases e : a = l.length
    · exact .inl (by rw [e]; simp)
    · refine .inr ⟨b, off + a, ?_, fun i hi => ?_⟩
      · rcases h1 with e1 | e1
        · exact absurd e1 e
        · rw [e1, hA]
          unfold Addr.add
          simp
      · rw [List.length_drop] at hi
        rw [List.getElem?_drop, Nat.add_assoc]
        exact hcc (a + i) (by omega)
end Go.Proofs.Ytkboeldafppicaa
