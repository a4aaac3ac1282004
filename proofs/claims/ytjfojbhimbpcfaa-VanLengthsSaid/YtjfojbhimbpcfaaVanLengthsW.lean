/- The walk of the law VanLengths. -/
import Derived.Test.YtjfojbhimbpcfaaVaLg
import Derived.Test.YtjfojbhimbpcfaaVaRL
set_option linter.unusedVariables false
namespace Go.Proofs.Ytjfojbhimbpcfaa
open Go.RowKit

theorem path_snoc (t : Tbl) (l : List Int) (a b : Int) : wtL t (pathE (l ++ [a, b])) = wtL t (pathE (l ++ [a])) + tA t a b := by
  induction l with
  | nil => simp [pathE, wtL, wtE]
  | cons x r ih2 =>
    cases r with
    | nil => simp [pathE, wtL, wtE]
    | cons y s =>
      simp only [List.cons_append] at ih2 ⊢
      rw [pathE_two, pathE_two, wtL, wtL, ih2]
      omega
theorem path_rev {t : Tbl} : ∀ o : List Int, (∀ a ∈ o, ∀ b ∈ o, tA t a b = tA t b a) → wtL t (pathE o.reverse) = wtL t (pathE o) := by
  intro o
  induction o with
  | nil => intro _; rfl
  | cons x r ih =>
    intro hs
    cases r with
    | nil => rfl
    | cons y s =>
      have h1 := ih (fun a ha b hb => hs a (List.mem_cons_of_mem _ ha) b (List.mem_cons_of_mem _ hb))
      have e : (x :: y :: s).reverse = s.reverse ++ [y, x] := by simp
      have e2 : (y :: s).reverse = s.reverse ++ [y] := by simp
      rw [e, path_snoc, ← e2, h1, pathE_two, wtL, hs y (by simp) x (by simp)]
      simp only [wtE]
      omega
theorem vAt_rev (o : List Int) (k : Nat) (h : k < o.length) : vAt o.reverse k = vAt o (o.length - 1 - k) := by
  unfold vAt
  rw [List.getElem?_reverse h]
theorem tourL_rev {t : Tbl} {o : List Int} (ht : Ways t) (ho : StopsOk o t.length) : tourL t o.reverse = tourL t o := by
  by_cases h0 : 0 < o.length
  · have hs : ∀ a ∈ o, ∀ b ∈ o, tA t a b = tA t b a := fun a ha b hb => by
      have h1 := ho a ha
      have h2 := ho b hb
      exact ht.sq.symI a b (by omega) (by omega)
    rw [tourL_path (by simpa using h0), tourL_path h0, path_rev o hs, List.length_reverse, vAt_rev o 0 h0, vAt_rev o (o.length - 1) (by omega)]
    rw [show o.length - 1 - 0 = o.length - 1 by omega, show o.length - 1 - (o.length - 1) = 0 by omega]
    have h1 := ho _ (vAt_mem (o := o) (k := 0) h0)
    have h2 := ho _ (vAt_mem (o := o) (k := o.length - 1) (by omega))
    have hp := ht.pos
    rw [ht.sq.symI (vAt o 0) 0 (by omega) (by omega), ht.sq.symI (vAt o (o.length - 1)) 0 (by omega) (by omega)]
    omega
  · have : o = [] := List.eq_nil_of_length_eq_zero (by omega)
    subst this; rfl
theorem lenE_rev (t : Tbl) (o : List Int) : lenE t o.reverse = lenE t o := by
  have h1 : stopsB o.reverse t.length = stopsB o t.length := by simp [stopsB]
  have h2 : tourE o.reverse t.length = tourE o t.length := by
    unfold tourE
    rw [h1]
    have h3 : o.reverse.Nodup ↔ o.Nodup := (List.reverse_perm o).nodup_iff
    by_cases hn : o.Nodup
    · rw [if_pos hn, if_pos (h3.2 hn)]
    · rw [if_neg hn, if_neg (fun e => hn (h3.1 e))]
  unfold lenE
  rw [h2]
theorem lenV8_rev (t : Tbl) (o : List Int) : lenV8 t o.reverse = lenV8 t o := by
  unfold lenV8
  rw [lenE_rev]
  split
  · rename_i h
    obtain ⟨h1, h2, _⟩ := lenE_ok h
    exact tourL_rev h1 h2
  · rfl
theorem rev_take (o : List Int) (k : Nat) (h : k < o.length) : o.reverse.take (k + 1) = o.reverse.take k ++ [vAt o (o.length - 1 - k)] := by
  rw [take_v o.reverse k (by simpa using h), vAt_rev o k h]
set_option maxRecDepth 100000 in
set_option maxHeartbeats 8000000 in
theorem vanLengths_walk (a A : Option Addr) (t : Tbl) (o : List Int) (cap c : Nat) (w : World) (h0 : t.length ≤ 9223372036854775807) (h : TabRaw w a t) (g0 : o.length ≤ 9223372036854775807) (g : o.length ≤ 140737488355328 → Ints w A o) :
  Calls Try.prog 3 #[.slice a t.length cap, .slice A o.length c] w (BoolR w true) := by
  obtain ⟨i0, hinf, hz0, hz1, hz2⟩ := info_parts int_info
  have HLa := hid (large_any a t cap w h0 h)
  have HLo := hid (long8_any A o.length c w g0)
  cases hlg : largeB t with
  | true =>
    rw [hlg] at HLa
    clear h g hlg
    go_enter Try.func3, Try.ntmps3
    go_wp2_with fail
    refine HLa.out.mono ?_
    rintro e w1 ⟨rfl, rfl⟩
    go_wp2_with fail
    refine (known8_any _).mono ?_
    rintro e w9 ⟨hb, rfl⟩
    go_wp2
    go_ret
    exact ⟨hb, rfl⟩
  | false =>
    rw [hlg] at HLa
    by_cases hlo : 60 < o.length
    · rw [decide_eq_true hlo] at HLo
      clear h g hlg
      go_enter Try.func3, Try.ntmps3
      go_wp2_with fail
      refine HLa.out.mono ?_
      rintro e w1 ⟨rfl, rfl⟩
      go_wp2_with fail
      refine HLo.out.mono ?_
      rintro e w1 ⟨rfl, rfl⟩
      go_wp2_with fail
      refine (known8_any _).mono ?_
      rintro e w9 ⟨hb, rfl⟩
      go_wp2
      go_ret
      exact ⟨hb, rfl⟩
    · rw [decide_eq_false hlo] at HLo
      have hT := h.tab hlg
      have hI := g (by omega)
      have hol : o.length ≤ 60 := by omega
      have H1 := hid (vLengthP_any a A t o cap c w hT hI (by omega))
      have H2 := hid (fun (W : World) (hb : Below w.heap.size w W) => rLengthP_any a A t o cap c W (hT.below hb) (hI.below hb) (by omega))
      have H3 := hid (fun (W : World) (hb : Below w.heap.size w W) => vValidate_any a t cap W (hT.below hb))
      have H4 := hid (fun (W : World) (hb : Below w.heap.size w W) => rValidate_any a t cap W (hT.below hb))
      have H5 := hid (fun (W : World) (hb : Below w.heap.size w W) (B : Option Addr) (d : Nat) (hi : Ints W B o.reverse) => by
        have := vLengthP_any a B t o.reverse cap d W (hT.below hb) hi (by simp; omega)
        rw [lenE_rev, lenV8_rev, List.length_reverse] at this
        exact this)
      have HI := hid (fun (W : World) (hb : Below w.heap.size w W) => hI.below hb)
      have HRt := hid (rev_take o)
      clear h g hlg hT hI hlo
      generalize lenE t o = e1 at *
      generalize lenV8 t o = v1 at *
      generalize vaV t = e2 at *
      go_enter Try.func3, Try.ntmps3
      go_wp2_with fail
      refine HLa.out.mono ?_
      rintro e w1 ⟨rfl, rfl⟩
      go_wp2_with fail
      refine HLo.out.mono ?_
      rintro e w1 ⟨rfl, rfl⟩
      go_wp2_with fail
      refine H1.out.mono ?_
      rintro e w2 ⟨hb2, rfl⟩
      have HB2 := hid hb2
      have HC2 := hid (H2.out w2 hb2)
      clear hb2
      go_wp2_with fail
      refine HC2.out.mono ?_
      rintro e w3 ⟨hb3, rfl⟩
      have HB3 := hid (HB2.out.trans (hb3.mono HB2.out.size))
      have HC3 := hid (H3.out w3 HB3.out)
      clear hb3
      go_wp2_with fail
      refine HC3.out.mono ?_
      rintro e w4 ⟨hb4, rfl⟩
      have HB4 := hid (HB3.out.trans (hb4.mono HB3.out.size))
      have HC4 := hid (H4.out w4 HB4.out)
      clear hb4
      go_wp2_with fail
      refine HC4.out.mono ?_
      rintro e w5 ⟨hb5, rfl⟩
      have HB5 := hid (HB4.out.trans (hb5.mono HB4.out.size))
      clear hb5 HC2 HC3 HC4
      go_wp2_with fail
      go_loopw [9, 10] (fun v i wr => ∃ (k j : Nat), k + j = o.length ∧ i = .int .i64 ((j : Int) - 1) ∧ Hid (Own wr w5.heap.size v (o.reverse.take k)) ∧ Hid (Below w5.heap.size w5 wr)) (fun _ i _ => (intOf i + 1).toNat)
      case atStart => exact ⟨0, o.length, by omega, by go_num, Own.nil _ _, Below.refl _ _⟩
      case round =>
        obtain ⟨k, j, hkj, rfl, HO, HB⟩ := hrel
        have HBw := hid (HB5.out.trans (HB.out.mono HB5.out.size))
        have hbs := HB.out.size
        cases j with
        | zero =>
          have hk : k = o.length := by omega
          have hown := HO.out
          rw [hk, List.take_of_length_le (by simp)] at hown
          have hbd := (HI.out wr HBw.out).bd
          obtain ⟨B, d, hv, hIr⟩ := own_intsV hown (by simp; omega) (fun x hx => hbd x (by simpa using hx))
          rw [List.length_reverse] at hv
          subst hv
          have HC := hid (H5.out wr HBw.out B d hIr)
          clear hown hIr HO hk hbd hkj
          go_wp2_with fail
          refine HC.out.mono ?_
          rintro e w7 ⟨hb7, rfl⟩
          have HB7 := hid (HBw.out.trans (hb7.mono HBw.out.size))
          clear hb7 HC
          go_wp2_with fail
          refine (known8_any _).mono ?_
          rintro e w9 ⟨hb9, rfl⟩
          have HB9 := hid (HB7.out.trans (hb9.mono HB7.out.size))
          clear hb9
          go_wp2
          go_ret
          exact ⟨HB9.out, rfl⟩
        | succ j =>
          have hk : k < o.length := by omega
          obtain ⟨b, off, rfl, hc⟩ := (HI.out wr HBw.out).at' (by omega)
          have c0 := hc j (by omega)
          rw [show o[j]?.getD 0 = vAt o j from rfl] at c0
          have HT := hid (HRt.out k hk)
          rw [show o.length - 1 - k = j by omega] at HT
          have hown := HO.out
          have hpl : (o.reverse.take k).length = k := by simp; omega
          have q1 : (j : Int) < (o.length : Int) := by omega
          have q2 : (((j + 1 : Nat) : Int) - 1) = (j : Int) := by omega
          clear hc HO
          generalize hpre : o.reverse.take k = pre at *
          clear hpre
          generalize vAt o j = x at *
          rw [q2]
          go_wp2_with (at_builtin; refine wpList_append_own _ rfl _ _ 23 rfl w5.heap.size 3 i0 (.int .i64 0) 1 8 Try.underlying23 hinf hz0 hz1 hz2 rfl (by decide) _ _ _ rfl (hown.alloc _) ⟨wr.heap.size, 0, none⟩ 1 1 [.int .i64 x] rfl rfl ?c1 ?c2 ?c3 ?c4 ?c5 ?_)
          case c1 => exact cell_one_new _ _ _
          case c2 => simp [Value.oneCell']
          case c3 => unfold maxLen; omega
          case c4 => omega
          case c5 => simp; omega
          intro v' w4' hown2 hgrow _
          have p4 := hid ((HB.out.alloc hbs _).grown hgrow (by simp; omega) (fun q hq => by have := (hown.lt q hq).1; omega))
          have O4 := hid (show Own w4' w5.heap.size v' (o.reverse.take (k + 1)) by rw [HT.out]; unfold Own; rw [List.length_append, List.map_append, hpl]; simpa using hown2)
          clear hgrow hown hown2
          go_wp2
          go_roundw
          case rel => exact ⟨k + 1, j, by omega, by go_num, O4, p4⟩
          case measure => simp [intOf]
end Go.Proofs.Ytjfojbhimbpcfaa
