/- The walk of the law VanRounds. -/
import Derived.Test.YtbffdpcogfmomaaVaRr
import Derived.Test.YtbffdpcogfmomaaVaTo
import Derived.Test.YtbffdpcogfmomaaVaShort
import Derived.Test.YtbffdpcogfmomaaVaLg
set_option linter.unusedVariables false
namespace Go.Proofs.Ytbffdpcogfmomaa
open Go.RowKit

/-- A list without repetition of numbers below n has no more than n. -/
theorem pigeonR (n : Nat) : ∀ o : List Int, o.Nodup → (∀ x ∈ o, 0 ≤ x ∧ x < n) → o.length ≤ n ∧ (o.length = n → o.Perm (ioz n)) := by
  induction n with
  | zero =>
    intro o _ h
    cases o with
    | nil => exact ⟨Nat.le_refl _, fun _ => List.Perm.refl _⟩
    | cons x t => have := h x (by simp); omega
  | succ n ih =>
    intro o hn h
    by_cases hm : (n : Int) ∈ o
    · obtain ⟨a, b, rfl⟩ := List.append_of_mem hm
      have hp : (a ++ (n : Int) :: b).Perm ((n : Int) :: (a ++ b)) := List.perm_middle
      have hn2 := hp.nodup_iff.1 hn
      rw [List.nodup_cons] at hn2
      obtain ⟨i1, i2⟩ := ih (a ++ b) hn2.2 (fun x hx => by
        have h1 := h x (hp.mem_iff.2 (by simp only [List.mem_cons]; exact .inr hx))
        have h2 : x ≠ (n : Int) := fun e => hn2.1 (e ▸ hx)
        omega)
      have hl : (a ++ (n : Int) :: b).length = (a ++ b).length + 1 := by simp; omega
      refine ⟨by omega, fun e => ?_⟩
      rw [ioz_succ]
      exact hp.trans (((i2 (by omega)).cons _).trans (List.perm_append_singleton _ _).symm)
    · obtain ⟨i1, i2⟩ := ih o hn (fun x hx => by
        have h1 := h x hx
        have h2 : x ≠ (n : Int) := fun e => hm (e ▸ hx)
        omega)
      exact ⟨by omega, fun e => by omega⟩
theorem tour_ofR {o : List Int} {n : Nat} (hn : o.Nodup) (hs : StopsOk o n) (hl : o.length = n - 1) : IsTour o n := by
  have h1 : (o.map (· - 1)).Nodup := by
    rw [List.nodup_iff_pairwise_ne, List.pairwise_map]
    rw [List.nodup_iff_pairwise_ne] at hn
    exact hn.imp (fun {a b} h e => h (by omega))
  have h2 := (pigeonR (n - 1) (o.map (· - 1)) h1 (fun x hx => by
    obtain ⟨y, hy, rfl⟩ := List.mem_map.1 hx
    have := hs y hy
    omega)).2 (by rw [List.length_map]; exact hl)
  have h3 := h2.map (· + 1)
  unfold IsTour
  rw [stops_inc]
  unfold incR
  simpa [Function.comp_def] using h3
theorem numR_bad {P : Int → Prop} {w w' : World} {e : Int} {en : Ending} (he : e ≠ 0) (h : NumE w P e en w') : Below w.heap.size w w' ∧ en = .returned (.tuple #[.int .i64 0, .int .i64 e]) := by
  refine ⟨h.1, ?_⟩
  rcases h.2 with ⟨_, h⟩ | ⟨h, _⟩
  · exact h
  · exact absurd h he
theorem numR_good {P : Int → Prop} {w w' : World} {e : Int} {en : Ending} (he : e = 0) (h : NumE w P e en w') : Below w.heap.size w w' ∧ ∃ v, en = .returned (.tuple #[.int .i64 v, .int .i64 0]) ∧ P v := by
  refine ⟨h.1, ?_⟩
  rcases h.2 with ⟨h, _⟩ | ⟨_, h⟩
  · exact absurd he h
  · exact h
theorem lenR_tour {t : Tbl} {o : List Int} (hv : vaV t = 0) (h : IsTour o t.length) : lenE t o = 0 ∧ lenV8 t o = tourL t o := by
  have h1 : lenE t o = 0 := by
    unfold lenE
    rw [if_pos hv]
    exact (tourE_iff o t.length).2 ⟨h.stops, h.nodup⟩
  exact ⟨h1, by unfold lenV8; rw [if_pos h1]⟩
set_option maxRecDepth 100000 in
set_option maxHeartbeats 1000000 in
theorem sameInts8_self (a b : Option Addr) (l : List Int) (ca cb : Nat) (w : World) (ha : Ints w a l) (hb : Ints w b l) : Calls Try.prog 29 #[.slice a l.length ca, .slice b l.length cb] w (fun en w' => (∃ n, w' = w.drewN n) ∧ en = .returned (.bool true)) := by
  have hlen := ha.len
  have HA := hid ha
  have HB := hid hb
  clear ha hb
  go_enter Try.func29, Try.ntmps29
  go_wp2
  go_loopw [5] (fun i wr => ∃ (k : Nat), k ≤ l.length ∧ i = .int .i64 k ∧ Hid (∃ n, wr = w.drewN n)) (fun i _ => l.length - (intOf i).toNat)
  case atStart => exact ⟨0, Nat.zero_le _, rfl, ⟨0, rfl⟩⟩
  case round =>
    obtain ⟨k, hk, rfl, HW⟩ := hrel
    by_cases hlt : k < l.length
    · obtain ⟨n9, hn9⟩ := HW.out
      rcases HA.out.at_ with e | ⟨b1, o1, rfl, hc1⟩
      · rw [e] at hlt; simp at hlt
      rcases HB.out.at_ with e | ⟨b2, o2, rfl, hc2⟩
      · rw [e] at hlt; simp at hlt
      have c1 : wr.cell? ⟨b1, o1 + k, none⟩ = some (.int .i64 (vAt l k)) := by rw [hn9]; exact hc1 k hlt
      have c2 : wr.cell? ⟨b2, o2 + k, none⟩ = some (.int .i64 (vAt l k)) := by rw [hn9]; exact hc2 k hlt
      have i0 : (0 : Int) ≤ (k : Int) := by omega
      have i1 : (k : Int) < (l.length : Int) := by omega
      have hd : decide (k < l.length) = true := decide_eq_true hlt
      clear hc1 hc2 hn9 n9
      generalize vAt l k = p at *
      go_wp2_with fail
      go_quiet (fail)
      go_wp2
      go_roundw
      case rel => exact ⟨k + 1, by omega, by go_num, by obtain ⟨n, e⟩ := HW.out; exact ⟨_, by rw [e, World.drewN_drewN]⟩⟩
      case measure => simp [intOf]; omega
    · obtain rfl : k = l.length := by omega
      have hd : decide (l.length < l.length) = false := decide_eq_false (Nat.lt_irrefl _)
      go_wp2
      go_ret
      exact ⟨HW.out, rfl⟩
theorem rnd_bad {t : Tbl} {x : Int} {w w' : World} {en : Ending} (he : rndE t x ≠ 0) (h : RndR t x w en w') : Below w.heap.size w w' ∧ en = .returned (.tuple #[.slice none 0 0, .int .i64 (rndE t x)]) := by
  refine ⟨h.1, ?_⟩
  rcases h.2 with ⟨_, h⟩ | ⟨h, _⟩
  · exact h
  · exact absurd h he
theorem rnd_good {t : Tbl} {x : Int} {w w' : World} {en : Ending} (he : rndE t x = 0) (h : RndR t x w en w') : Below w.heap.size w w' ∧ ∃ T A c, RoundTo t t.length x T ∧ T.length = t.length - 1 ∧ Ints w' A T ∧ en = .returned (.tuple #[.slice A T.length c, .int .i64 0]) := by
  refine ⟨h.1, ?_⟩
  rcases h.2 with ⟨h, _⟩ | ⟨_, h⟩
  · exact absurd he h
  · exact h
theorem rnd_va {t : Tbl} {x : Int} (h : rndE t x = 0) : vaV t = 0 := by
  unfold rndE at h
  split at h
  · assumption
  · exact h
set_option maxRecDepth 100000 in
set_option maxHeartbeats 8000000 in
theorem vanRounds_walk (a : Option Addr) (t : Tbl) (cap : Nat) (x : Int) (w : World) (h0 : t.length ≤ 9223372036854775807) (h : TabRaw w a t) :
  Calls Try.prog 5 #[.slice a t.length cap, .int .i64 x] w (BoolR w true) := by
  have HLa := hid (large_any a t cap w h0 h)
  have HKw := hid (fun (W : World) (hb : Below w.heap.size w W) => (known8_any W).mono (fun en W2 (hp : BoolR W true en W2) => (show BoolR w true en W2 from ⟨hb.trans (hp.1.mono hb.size), hp.2⟩)))
  cases hlg : largeB t with
  | true =>
    rw [hlg] at HLa
    clear h hlg
    as_aux_lemma =>
      go_enter Try.func5, Try.ntmps5
      go_wp2_with fail
      refine HLa.out.mono ?_
      rintro e w1 ⟨rfl, rfl⟩
      go_wp2_with fail
      refine (HKw.out _ (Below.refl _ _)).mono ?_
      rintro e w9 ⟨hb, rfl⟩
      go_wp2
      go_ret
      exact ⟨hb, rfl⟩
  | false =>
    rw [hlg] at HLa
    have hT := h.tab hlg
    have HT := hid hT
    clear h hlg hT
    by_cases hv : rndE t x = 0
    · have hva := rnd_va hv
      have hws := (ways_iff t).1 hva
      have hl7 := hws.len
      have hpos := hws.pos
      have HV := hid hv
      have HVa := hid hva
      have H1 := hid (fun (W : World) (hb : Below w.heap.size w W) => (vRound_any a t x cap W (HT.out.below hb)).mono (fun en W2 hp => rnd_good HV.out hp))
      have H2 := hid (fun (W : World) (hb : Below w.heap.size w W) => (rRound_any a t x cap W (HT.out.below hb)).mono (fun en W2 hp => rnd_good HV.out hp))
      have H3 := hid (fun (W : World) (hb : Below w.heap.size w W) => (vShortest_any a t cap W (HT.out.below hb)).mono (fun en W2 hp => numR_good HVa.out hp))
      have H4 := hid (fun (A : Option Addr) (o : List Int) (c : Nat) (W : World) (hb : Below w.heap.size w W) (hI : Ints W A o) (ho : IsTour o t.length) => vLengthP_any a A t o cap c W (HT.out.below hb) hI (by rw [ho.len]; omega))
      clear hws hv hva
      go_enter Try.func5, Try.ntmps5
      go_wp2_with fail
      refine HLa.out.mono ?_
      rintro e w1 ⟨rfl, rfl⟩
      go_wp2_with fail
      refine (H1.out _ (Below.refl _ _)).mono ?_
      rintro e w2 ⟨hb2, T, A, c, hr, hl, hI, rfl⟩
      have HB2 := hid hb2
      have HR := hid hr
      have HL := hid hl
      have HI := hid hI
      clear hb2 hr hl hI
      go_wp2_with fail
      refine (H2.out _ HB2.out).mono ?_
      rintro e w3 ⟨hb3, U, A2, c2, hr, hl, hI, rfl⟩
      obtain rfl := HR.out.eq hr (by rw [HL.out, hl])
      have HB3 := hid (HB2.out.trans (hb3.mono HB2.out.size))
      have HI2 := hid hI
      have HI1 := hid (HI.out.below hb3)
      have HS := hid (sameInts8_self A A2 T c c2 w3 HI1.out HI2.out)
      have hf : IsTour T t.length := tour_ofR HR.out.nd HR.out.ok HL.out
      have HF := hid hf
      have H5 := hid (fun (W : World) (hb : Below w.heap.size w W) (hI : Ints W A T) => H4.out A T c W hb hI HF.out)
      obtain ⟨e1, e2⟩ := lenR_tour HVa.out hf
      rw [e1, e2] at H5
      clear hb3 hr hl hI HI2 hf e1 e2 H4
      as_aux_lemma =>
        go_wp2_with fail
        refine HS.out.mono ?_
        rintro e w4 ⟨⟨n9, hn9⟩, rfl⟩
        have HB4 := hid (show Below w.heap.size w w4 by rw [hn9]; exact below_drewN HB3.out n9)
        have HI4 := hid (show Ints w4 A T by rw [hn9]; exact HI1.out.below (below_drewN (Below.refl _ _) n9))
        have HC := hid (H5.out w4 HB4.out HI4.out)
        clear hn9
        go_wp2_with fail
        refine HC.out.mono ?_
        rintro e w5 ⟨hb5, rfl⟩
        have HB5 := hid (HB4.out.trans (hb5.mono HB4.out.size))
        clear hb5
        go_wp2_with fail
        refine (H3.out _ HB5.out).mono ?_
        rintro e w6 ⟨hb6, m, rfl, hm⟩
        have HB6 := hid (HB5.out.trans (hb6.mono HB5.out.size))
        have hle := hm.2 T HF.out
        clear hb6 hm
        have hge : decide (m ≤ tourL t T) = true := decide_eq_true hle
        go_wp2_with fail
        refine (HKw.out _ HB6.out).mono ?_
        rintro e w9 ⟨hb, rfl⟩
        go_wp2
        go_ret
        exact ⟨hb, rfl⟩
    · have HV := hid hv
      have H1 := hid (fun (W : World) (hb : Below w.heap.size w W) => (vRound_any a t x cap W (HT.out.below hb)).mono (fun en W2 hp => rnd_bad HV.out hp))
      have H2 := hid (fun (W : World) (hb : Below w.heap.size w W) => (rRound_any a t x cap W (HT.out.below hb)).mono (fun en W2 hp => rnd_bad HV.out hp))
      have HS := hid (fun (W : World) => sameInts8_self none none [] 0 0 W ⟨by simp, .inl rfl, by simp⟩ ⟨by simp, .inl rfl, by simp⟩)
      obtain ⟨e0, he0⟩ : ∃ e0, rndE t x = e0 := ⟨_, rfl⟩
      rw [he0] at H1 H2 hv
      have hne : (e0 == 0) = false := by simp; exact hv
      have hnn : (e0 != 0) = true := by simp; exact hv
      clear he0 hv
      go_enter Try.func5, Try.ntmps5
      go_wp2_with fail
      refine HLa.out.mono ?_
      rintro e w1 ⟨rfl, rfl⟩
      go_wp2_with fail
      refine (H1.out _ (Below.refl _ _)).mono ?_
      rintro e w2 ⟨hb2, rfl⟩
      have HB2 := hid hb2
      clear hb2
      go_wp2_with fail
      refine (H2.out _ HB2.out).mono ?_
      rintro e w3 ⟨hb3, rfl⟩
      have HB3 := hid (HB2.out.trans (hb3.mono HB2.out.size))
      clear hb3
      as_aux_lemma =>
        go_wp2_with fail
        refine (HS.out w3).mono ?_
        rintro e w4 ⟨⟨n9, hn9⟩, rfl⟩
        have HB4 := hid (show Below w.heap.size w w4 by rw [hn9]; exact below_drewN HB3.out n9)
        clear hn9
        go_wp2_with fail
        refine (HKw.out _ HB4.out).mono ?_
        rintro e w9 ⟨hb, rfl⟩
        go_wp2
        go_ret
        exact ⟨hb, rfl⟩
end Go.Proofs.Ytbffdpcogfmomaa
