/- The fewest points of words: package menu. -/
import Derived.Test.YtkboeldafppicaaMPtC
import Derived.Test.YtkboeldafppicaaMChpM
import Derived.Test.YtkboeldafppicaaMUnrank
set_option linter.unusedVariables false
set_option linter.unusedSimpArgs false
namespace Go.Proofs.Ytkboeldafppicaa
open Go.RowKit

/-- The points of a letter. -/
def pN (ps : List Int) (c : Nat) : Int := ps[c]?.getD 0
/-- The fewest points of a word of k letters that is accepted from a state. -/
def chT (N : Int) (L : Nat) (rows : List (List Int)) (accs : List Bool) (ps : List Int) : Nat → Nat → Int := cT L (mN rows) (mA accs) (pN ps) N
theorem pN_ok {ps : List Int} {L : Nat} (h : allB ps 21 = true) (hl : ps.length = L) : ∀ c, c < L → 0 ≤ pN ps c ∧ pN ps c ≤ 20 := fun c hc => by
  unfold pN
  have := allB_iff.1 h (ps[c]?.getD 0) (by rw [List.getElem?_eq_getElem (by omega)]; exact List.getElem_mem _)
  omega
theorem chT_bd {N : Int} (hN : 0 ≤ N) {L : Nat} {rows : List (List Int)} {accs : List Bool} {ps : List Int} (h : allB ps 21 = true) (hl : ps.length = L) (k s : Nat) : 0 ≤ chT N L rows accs ps k s ∧ chT N L rows accs ps k s ≤ N :=
  cT_le L (mN rows) (mA accs) (pN ps) N hN (fun c hc => (pN_ok h hl c hc).1) k s
set_option maxRecDepth 100000 in
set_option maxHeartbeats 4000000 in
theorem fewestC_any (L s k nc ac cK cP pM pP : Nat) (Na Aa K P : Option Addr) (rows : List (List Int)) (accs : List Bool) (ps : List Int) (w : World) (h : MachAt w Na rows Aa accs) (hg : GoodM L rows accs) (hs : s < rows.length) (hn5 : rows.length ≤ 5000) (hK : Ints w K ((List.range rows.length).map (chT 401 L rows accs ps k))) (hP : Ints w P ps) (hps : allB ps 21 = true) (hpl : ps.length = L)
    (m1 : w.cell? ⟨pM, 1, none⟩ = some (.slice Na rows.length nc)) (p1 : w.cell? ⟨pP, 0, none⟩ = some (.slice P ps.length cP)) :
    Calls Try.prog 137 #[.int .i64 s, .slice K rows.length cK, .pointer (some ⟨pM, 0, none⟩), .pointer (some ⟨pP, 0, none⟩)] w fun e w' => Below w.heap.size w w' ∧ e = .returned (.int .i64 (chT 401 L rows accs ps (k + 1) s)) := by
  have hn := h.nlen
  have hrow := hg.row s hs
  have HG := hid hg
  have HE := hid (fun c (hc : c < L) => hg.ent s c hs hc)
  have HKc : Hid (∀ j, j < rows.length → ∃ b o, K = some ⟨b, o, none⟩ ∧ w.cell? ⟨b, o + j, none⟩ = some (.int .i64 (chT 401 L rows accs ps k j))) := hid (fun j hj => by
    rcases hK.at_ with e | ⟨b, o, hA, hc⟩
    · have := congrArg List.length e; simp at this; rw [this] at hj; simp at hj
    · have := hc j (by simpa using hj)
      exact ⟨b, o, hA, by simpa [hj] using this⟩)
  have hL1 := hg.lo
  have hL6 := hg.hi
  obtain ⟨bP, oP, rfl, hPc⟩ : ∃ bP oP, P = some ⟨bP, oP, none⟩ ∧ ∀ c, c < L → w.cell? ⟨bP, oP + c, none⟩ = some (.int .i64 (pN ps c)) := by
    rcases hP.at_ with e | ⟨b, o, hA, hc⟩
    · rw [e] at hpl; simp at hpl; omega
    · exact ⟨b, o, hA, fun c hc2 => hc c (by omega)⟩
  have HPc := hid hPc
  have HPb := hid (pN_ok hps hpl)
  have HFb := hid (fun j => chT_bd (N := 401) (by omega) (rows := rows) (accs := accs) hps hpl k j)
  have HSt := hid (show chT 401 L rows accs ps (k + 1) s = minN 401 (fun c => pN ps c + chT 401 L rows accs ps k (mN rows s c)) L from rfl)
  have HSb := hid (fun c (hc : c ≤ L) => (show 0 ≤ minN 401 (fun c => pN ps c + chT 401 L rows accs ps k (mN rows s c)) c ∧ minN 401 (fun c => pN ps c + chT 401 L rows accs ps k (mN rows s c)) c ≤ 401 from by
    refine ⟨?_, (minN_le _ _ _).1⟩
    rcases minN_at 401 (fun c => pN ps c + chT 401 L rows accs ps k (mN rows s c)) c with e | ⟨d, hd, e⟩
    · omega
    · have h1 := HPb.out d (by omega)
      have h2 := HFb.out (mN rows s d)
      omega))
  obtain ⟨b, off, g, o, kk, rfl, g1, g2, g3⟩ := h.row s 0 hs (by rw [hrow]; omega)
  have HRw : Hid (∀ c, c < L → w.cell? ⟨g, o + c, none⟩ = some (.int .i64 (mN rows s c : Int))) := hid (fun c hc => by
    obtain ⟨b', off', g', o', k', e1, e2, e3, _⟩ := h.row s c hs (by rw [hrow]; exact hc)
    simp only [Option.some.injEq, Addr.mk.injEq, and_true] at e1
    obtain ⟨rfl, rfl⟩ := e1
    rw [g1] at e2
    simp only [Option.some.injEq, Value.slice.injEq, Addr.mk.injEq, and_true, true_and] at e2
    obtain ⟨⟨rfl, rfl⟩, _⟩ := e2
    rw [e3, (HE.out c hc).2])
  rw [hrow] at g1
  rw [hpl] at p1
  clear h hg hrow hK hP hPc g2 g3 hps hpl
  have HP1 := hid p1
  clear p1
  go_enter Try.func137, Try.ntmps137
  go_wp2
  go_loopw [7, 16] (fun q i wr => ∃ (c : Nat), c ≤ L ∧ i = .int .i64 c ∧ q = .int .i64 (minN 401 (fun c => pN ps c + chT 401 L rows accs ps k (mN rows s c)) c) ∧ Hid (∃ n, wr = w.drewN n)) (fun _ i _ => L - (intOf i).toNat)
  case atStart => exact ⟨0, Nat.zero_le _, rfl, rfl, 0, rfl⟩
  case round =>
    obtain ⟨c, hc, rfl, rfl, HW⟩ := hrel
    obtain ⟨nq, rfl⟩ := HW.out
    clear HW
    by_cases hlt : c < L
    · have d0 : w.cell? ⟨g, o + c, none⟩ = _ := HRw.out c hlt
      have he := (HE.out c hlt).1
      obtain ⟨bk, ok, hKa, d1⟩ := HKc.out _ he
      have d2 := HPc.out c hlt
      have d3 := HP1.out
      have hz := HSb.out c hc
      have hx := HPb.out c hlt
      have hy := HFb.out (mN rows s c)
      have HSs := hid (show minN 401 (fun c => pN ps c + chT 401 L rows accs ps k (mN rows s c)) (c + 1) = min (minN 401 (fun c => pN ps c + chT 401 L rows accs ps k (mN rows s c)) c) (pN ps c + chT 401 L rows accs ps k (mN rows s c)) from rfl)
      subst hKa
      generalize minN 401 (fun c => pN ps c + chT 401 L rows accs ps k (mN rows s c)) c = z at *
      generalize chT 401 L rows accs ps k (mN rows s c) = y at *
      generalize pN ps c = x at *
      generalize mN rows s c = j at *
      have hc0 : (0 : Int) ≤ (c : Int) := by omega
      have hc1 : (c : Int) < (L : Int) := by omega
      have hj0 : (0 : Int) ≤ (j : Int) := by omega
      have hj1 : (j : Int) < (rows.length : Int) := by omega
      have hw1 : IntKind.i64.wrap (x + y) = x + y := by rw [IntKind.wrap_i64]; omega
      have hw2 : wrap64 (x + y) = x + y := by unfold wrap64; omega
      by_cases hm : x + y < z
      · have e2 : ¬ z ≤ x + y := by omega
        have e3 : ¬ z < x + y := by omega
        have e4 : x + y ≤ z := by omega
        have HSv := hid (show min z (x + y) = x + y by omega)
        go_wp2_with fail
        go_region
        go_wp2
        go_roundw
        case rel => exact ⟨c + 1, by omega, by go_num, by rw [HSs.out, HSv.out], ⟨_, rfl⟩⟩
        case measure => simp [intOf]; omega
      · have e2 : z ≤ x + y := by omega
        have HSv := hid (show min z (x + y) = z by omega)
        by_cases hme : z = x + y
        · subst hme
          have e3 : ¬ x + y < x + y := by omega
          have e4 : x + y ≤ x + y := by omega
          go_wp2_with fail
          go_region
          go_wp2
          go_roundw
          case rel => exact ⟨c + 1, by omega, by go_num, by rw [HSs.out, HSv.out], ⟨_, rfl⟩⟩
          case measure => simp [intOf]; omega
        · have e3 : z < x + y := by omega
          have e4 : ¬ x + y ≤ z := by omega
          go_wp2_with fail
          go_region
          go_wp2
          go_roundw
          case rel => exact ⟨c + 1, by omega, by go_num, by rw [HSs.out, HSv.out], ⟨_, rfl⟩⟩
          case measure => simp [intOf]; omega
    · obtain rfl : c = L := by omega
      go_wp2
      go_ret
      exact ⟨below_drewN (Below.refl _ _) _, by rw [HSt.out]; rfl⟩
end Go.Proofs.Ytkboeldafppicaa
