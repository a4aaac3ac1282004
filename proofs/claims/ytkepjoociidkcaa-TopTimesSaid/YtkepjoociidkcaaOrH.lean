/- What is known of one child: recordOf. -/
import Derived.Test.YtkepjoociidkcaaOrG
import Derived.Test.YtkepjoociidkcaaRowsI
import Derived.Deep.AppendLies
set_option linter.unusedVariables false
namespace Go.Proofs.Ytkepjoociidkcaa
open Go.RowKit

theorem kn_info : (Try.prog.info? 81).map (fun i => (i.zero, i.size, i.bytes)) = some (some (.agg #[.int .i64 0, .int .i64 0, .int .i64 0, .int .i64 0, .int .i64 0, .int .i64 0]), 6, 48) := by kernel_rfl
def knCells (r : List Kn) : List Value := r.flatMap (fun k => [Value.int .i64 k.1.a, Value.int .i64 k.1.c, Value.int .i64 k.1.f, Value.int .i64 k.1.t, Value.int .i64 k.1.m, Value.int .i64 k.2])
theorem knCells_len (r : List Kn) : (knCells r).length = r.length * 6 := by
  induction r with
  | nil => rfl
  | cons x t ih => simp [knCells] at ih ⊢; omega
theorem knCells_snoc (r : List Kn) (k : Kn) : knCells (r ++ [k]) = knCells r ++ [.int .i64 k.1.a, .int .i64 k.1.c, .int .i64 k.1.f, .int .i64 k.1.t, .int .i64 k.1.m, .int .i64 k.2] := by simp [knCells]
theorem knCells_at (r : List Kn) (i : Nat) (h : i < r.length) : (knCells r)[i * 6]? = some (.int .i64 (kAt r i).1.a) ∧ (knCells r)[i * 6 + 1]? = some (.int .i64 (kAt r i).1.c) ∧ (knCells r)[i * 6 + 2]? = some (.int .i64 (kAt r i).1.f) ∧ (knCells r)[i * 6 + 3]? = some (.int .i64 (kAt r i).1.t) ∧ (knCells r)[i * 6 + 4]? = some (.int .i64 (kAt r i).1.m) ∧ (knCells r)[i * 6 + 5]? = some (.int .i64 (kAt r i).2) := by
  unfold kAt
  induction r generalizing i with
  | nil => simp at h
  | cons x t ih =>
    cases i with
    | zero => simp [knCells]
    | succ i =>
      have := ih i (by simpa using h)
      have e1 : (i + 1) * 6 = i * 6 + 1 + 1 + 1 + 1 + 1 + 1 := by omega
      rw [e1]
      simpa [knCells] using this
/-- One that is known, at a place of memory. -/
def KnAt (w : World) (b o : Nat) (k : Kn) : Prop := FctAt w b o k.1 ∧ w.cell? ⟨b, o + 5, none⟩ = some (.int .i64 k.2)
structure KnsAt (w : World) (a : Option Addr) (r : List Kn) : Prop where
  len : r.length ≤ 140737488355328
  at_ : r = [] ∨ ∃ b off, a = some ⟨b, off, none⟩ ∧ ∀ i, i < r.length → KnAt w b (off + i * 6) (kAt r i)
theorem KnsAt.below {w w' : World} {a : Option Addr} {r : List Kn} (h : KnsAt w a r) (hb : Below w.heap.size w w') : KnsAt w' a r := by
  refine ⟨h.len, ?_⟩
  rcases h.at_ with e | ⟨b, off, ha, hc⟩
  · exact .inl e
  · exact .inr ⟨b, off, ha, fun i hi => ⟨(hc i hi).1.below hb, by rw [hb.cell (cell_lt (hc i hi).2)]; exact (hc i hi).2⟩⟩
def OwnK (w : World) (base : Nat) (v : Value) (r : List Kn) : Prop := w.ownsRow base 81 6 v r.length (knCells r)
theorem OwnK.sl {w : World} {base : Nat} {v : Value} {r : List Kn} (h : OwnK w base v r) : ∃ A c, v = .slice A r.length c := by
  rcases h.2 with ⟨hv, hn⟩ | ⟨g, c, cur, hv, _⟩
  · exact ⟨none, 0, by rw [hv, hn]⟩
  · exact ⟨_, _, hv⟩
theorem OwnK.at_ {w : World} {base : Nat} {A : Option Addr} {c : Nat} {r : List Kn} (h : OwnK w base (.slice A r.length c) r) (hl : r.length ≤ 140737488355328) : KnsAt w A r := by
  refine ⟨hl, ?_⟩
  have h2 := h.2
  rcases h2 with ⟨_, hn⟩ | ⟨g, cap, cur, hv, _⟩
  · exact .inl (List.eq_nil_of_length_eq_zero hn)
  · simp only [Value.slice.injEq] at hv
    obtain ⟨rfl, _, rfl⟩ := hv
    refine .inr ⟨g, 0, rfl, fun i hi => ?_⟩
    obtain ⟨h0, h1, h2, h3, h4, h5⟩ := knCells_at r i hi
    unfold OwnK at h
    rw [Nat.zero_add]
    refine ⟨⟨?_, ?_, ?_, ?_, ?_⟩, ?_⟩
    all_goals rw [h.cellAt _ (by omega)]; assumption
def KnsR (w : World) (r : List Kn) (en : Ending) (w' : World) : Prop := Below w.heap.size w w' ∧ ∃ A c, en = .returned (.slice A r.length c) ∧ KnsAt w' A r

set_option maxRecDepth 100000 in
set_option maxHeartbeats 2000000 in
theorem recordOf_any (a : Option Addr) (l : List Fct) (n cap : Nat) (c : Int) (w : World) (hl : FactsAt w a l) (hn : n ≤ l.length) (h60 : n ≤ 1000) :
  Calls Try.prog 54 #[.slice a n cap, .int .i64 c] w (KnsR w (recTo l c n)) := by
  obtain ⟨i0, hinf, hz0, hz1, hz2⟩ := info_parts kn_info
  have hlen := hl.len
  have HL := hid hl
  clear hl
  go_enter Try.func54, Try.ntmps54
  go_wp2
  go_loopw [5, 10] (fun o i wr => ∃ k : Nat, k ≤ n ∧ i = .int .i64 k ∧ Hid (OwnK wr w.heap.size o (recTo l c k)) ∧ Below w.heap.size w wr) (fun _ i _ => n - (intOf i).toNat)
  case atStart => exact ⟨0, Nat.zero_le _, rfl, ⟨rfl, .inl ⟨rfl, rfl⟩⟩, Below.refl _ _⟩
  case round =>
    obtain ⟨k, hk, rfl, HO, hB⟩ := hrel
    by_cases hlt : k < n
    · rcases HL.out.at_ with e | ⟨b, off, rfl, hc⟩
      · rw [e] at hn; simp at hn; omega
      obtain ⟨c0, c1, c2, c3, c4⟩ := hc k (by omega)
      have hbl : b < w.heap.size := cell_lt c0
      obtain ⟨hb1, hb2⟩ := bcell hB
      have hkl : k < l.length := by omega
      clear hc
      have hrl := recTo_len l c k
      by_cases he : (fAt l k).c = c
      · have HR := hid (show recTo l c (k + 1) = recTo l c k ++ [(fAt l k, k)] by show (if _ then _ else _) = _; rw [if_pos he])
        have he' : ((fAt l k).c == c) = true := by simp [he]
        clear he
        generalize fAt l k = x at *
        generalize recTo l c k = r at *
        have hS0 := HO.out
        unfold OwnK at hS0
        have hsz := hB.size
        clear HO
        go_wp2_with (at_builtin; refine wpList_append_own _ rfl _ _ 74 rfl w.heap.size 81 i0 (.agg #[.int .i64 0, .int .i64 0, .int .i64 0, .int .i64 0, .int .i64 0, .int .i64 0]) 6 48 Try.underlying74 hinf hz0 hz1 hz2 rfl (by decide) _ _ _ rfl ((hS0.alloc _).alloc _) ⟨wr.heap.size + 1, 0, none⟩ 1 1 [.int .i64 x.a, .int .i64 x.c, .int .i64 x.f, .int .i64 x.t, .int .i64 x.m, .int .i64 k] rfl rfl ?c1 ?c2 ?c3 ?c4 ?c5 ?_)
        case c1 =>
          have := World.news_of_block (cs := #[.int .i64 x.a, .int .i64 x.c, .int .i64 x.f, .int .i64 x.t, .int .i64 x.m, .int .i64 k]) (t := 81) (fr := (0, 0)) (heap_alloc_new (wr.alloc (.cells #[.int .i64 x.a, .int .i64 x.c, .int .i64 x.f, .int .i64 x.t, .int .i64 x.m] 24)) (.cells #[.int .i64 x.a, .int .i64 x.c, .int .i64 x.f, .int .i64 x.t, .int .i64 x.m, .int .i64 k] 81))
          simpa using this
        case c2 => simp [Value.oneCell']
        case c3 => unfold maxLen; omega
        case c4 => omega
        case c5 => simp; omega
        intro v' w6 hown2 hgrow _
        have hnb : ∀ q, some q = u5.ownBlock → w.heap.size ≤ q ∧ q < wr.heap.size := fun q hq => hS0.lt q hq.symm
        have p6 := ((hB.alloc hB.size _).alloc (by simp; omega) _).grown hgrow (by simp; omega) (fun q hq => (hnb q hq.symm).1)
        go_wp2
        go_roundw
        case rel => exact ⟨k + 1, by omega, by go_num, by unfold Hid OwnK; rw [HR.out, knCells_snoc]; simpa using hown2, p6⟩
        case measure => simp [intOf]; omega
      · have HR := hid (show recTo l c (k + 1) = recTo l c k by show (if _ then _ else _) = _; rw [if_neg he])
        have he' : ((fAt l k).c == c) = false := by simp [he]
        clear he
        generalize fAt l k = x at *
        go_wp2
        go_roundw
        case rel => exact ⟨k + 1, by omega, by go_num, by unfold Hid; rw [HR.out]; exact own_below HO.out ((Below.refl _ _).alloc (Nat.le_refl _) _), hB.alloc hB.size _⟩
        case measure => simp [intOf]; omega
    · obtain rfl : k = n := by omega
      have hrl := recTo_len l c k
      have HO2 := HO.out
      obtain ⟨A, cc, rfl⟩ := HO2.sl
      go_wp2
      go_ret
      exact ⟨hB, A, cc, rfl, HO2.at_ (by omega)⟩
end Go.Proofs.Ytkepjoociidkcaa
