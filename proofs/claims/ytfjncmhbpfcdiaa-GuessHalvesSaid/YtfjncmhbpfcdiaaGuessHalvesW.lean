/- The walk of the law GuessHalves. -/
import Derived.Test.YtfjncmhbpfcdiaaGuRH
import Derived.Test.YtfjncmhbpfcdiaaGuLg
import Derived.Test.YtfjncmhbpfcdiaaSame
import Derived.Deep.RegionHeld3
set_option linter.unusedVariables false
namespace Go.Proofs.Ytfjncmhbpfcdiaa
open Go.RowKit

theorem same_selfH (xs : List Int) : sameB xs xs = true := by simp [sameB]
theorem halfV_cases (g : List Rnd) : (∃ rs e, halfV g = (rs, 0, false, e)) ∨ (GameOk g ∧ 0 < g.length ∧ ∃ n : Nat, halfV g = (rightTo g (advs g), (n : Int), true, 0) ∧ 2 ^ n ≤ advs g) := by
  unfold halfV
  by_cases h : gameN g = 0
  · rw [if_pos h]
    obtain ⟨h0, hp⟩ := gameN_ok h
    have hg := gameE_ok h0
    by_cases hz : (rightTo g (advs g)).length = 0
    · rw [if_pos hz]; exact .inl ⟨[], 0, rfl⟩
    · rw [if_neg hz]
      refine .inr ⟨hg, hp, _, rfl, ?_⟩
      obtain ⟨x, hx⟩ : ∃ x, x ∈ rightTo g (advs g) := by
        cases hr : rightTo g (advs g) with
        | nil => rw [hr] at hz; exact absurd rfl hz
        | cons y t => exact ⟨y, by simp⟩
      obtain ⟨n, _, h2, h3⟩ := rightTo_mem g (advs g) x hx
      exact half_errs g hg n h2 h3
  · rw [if_neg h]; exact .inl ⟨[], _, rfl⟩
theorem take_d {P : Program} {ops : Array Oper} {Q : Exit → Act → World → Prop} {md : Region.Mode} {S : World → Prop} {i : Nat} {oi : Oper} {d : Option Nat} {v : Value} {fuel : Nat} {listed : Array Bool} {a : Act} {w : World} (hi : ops[i]? = some oi) (hd : oi.dst = d)
    (hs : Region.noSelect ops = true) (hf : Region.free md ops listed i = true) (hr : (Region.ready md ops listed).contains i = true)
    (hQ : ∀ c a w, Q (.panic c) (a.put d v) w → Q (.panic c) a w) (hy : YieldsIf P ops S oi v a) (hS : S w)
    (h : wpAnyH P md ops Q S fuel (listed.setIfInBounds i true) (a.put d v) w) : wpAnyH P md ops Q S (fuel + 1) listed a w := by
  subst hd
  exact wpAnyH_take hi hs hf hr hQ hy hS h
theorem halfR_out {w : World} {rs : List Int} {n : Int} {b : Bool} {e : Int} {en : Ending} {w' : World} (h : HalfR w (rs, n, b, e) en w') : Below w.heap.size w w' ∧ ∃ A c, en = .returned (.tuple #[.slice A rs.length c, .int .i64 n, .bool b, .int .i64 e]) ∧ Ints w' A rs := h
set_option maxRecDepth 100000 in
set_option maxHeartbeats 2000000 in
theorem guessHalves_walk (a : Option Addr) (g : List Rnd) (cap : Nat) (w : World) (h : GameRaw w a g) (hcap : g.length ≤ cap) :
  Calls Try.prog 8 #[.slice a g.length cap] w (BoolR w true) := by
  have hlen := h.1
  have HL := hid (long6_any a g cap w h)
  cases hl : longG g with
  | true =>
    rw [hl] at HL
    clear h hl
    go_enter Try.func8, Try.ntmps8
    go_wp2_with fail
    refine HL.out.mono ?_
    rintro e w1 ⟨rfl, rfl⟩
    go_wp2_with fail
    refine (known6_any _).mono ?_
    rintro e w2 ⟨hb, rfl⟩
    go_wp2
    go_ret
    exact ⟨hb, rfl⟩
  | false =>
    rw [hl] at HL
    have hG := h.game hl
    have H1 := hid (gHalving_any a g cap w hG)
    have H2 := hid (fun W (hb : Below w.heap.size w W) => grHalving_any a g cap W (hG.below hb) hcap)
    rcases halfV_cases g with ⟨rs, ee, hv⟩ | ⟨hok, hpos, n, hv, hn⟩
    · rw [hv] at H1 H2
      have H1 := hid (H1.out.mono fun _ _ hh => halfR_out hh)
      have H2 := hid (fun W hb => (H2.out W hb).mono fun _ _ hh => halfR_out hh)
      clear h hl hG hv
      go_enter Try.func8, Try.ntmps8
      go_wp2_with fail
      refine HL.out.mono ?_
      rintro e w1 ⟨rfl, rfl⟩
      go_wp2_with fail
      refine H1.out.mono ?_
      rintro e w1 ⟨q1, A1, c1, rfl, i1⟩
      have P1 := hid q1
      have I1 := hid i1
      have hrl := i1.len
      clear q1 i1
      go_wp2_with fail
      refine (H2.out _ P1.out).mono ?_
      rintro e w2 ⟨q2, A2, c2, rfl, i2⟩
      have P2 := hid (P1.out.trans (q2.mono P1.out.size))
      have HSm := hid (same_any A1 A2 rs rs c1 c2 w2 (I1.out.below q2) i2)
      rw [same_selfH] at HSm
      clear q2 i2
      go_wp2_with fail
      refine HSm.out.mono ?_
      rintro e w3 ⟨⟨n3, rfl⟩, rfl⟩
      have P3 := hid (below_drewN P2.out n3)
      generalize hwd : w2.drewN n3 = wd at *
      clear hwd
      have KEEP6 := hid (fun (W V : World) (h : Below wd.heap.size wd W) (h2 : Below W.heap.size W V) => h.trans (h2.mono h.size))
      go_wp2
      refine wp_region_held_drew (S := (fun w' => Below wd.heap.size wd w')) (by kernel_rfl) (Below.refl _ _).drew (fun hHeld => ?_)
      refine take_d (i := 0) (d := some 47) (v := ?_) rfl rfl (by kernel_rfl) (by kernel_rfl) (by kernel_rfl) (fun _ _ _ h => h) (Or.inl ⟨by first | rfl | (simp [*, Region.wanted, yielded]), ?hy0⟩) (by assumption) ?rest0
      case hy0 => (intro w hSw; (try dsimp only at hSw); go_simp <;> with_reducible rfl)
      try simp only [Act.put, List.setIfInBounds_toArray, List.set_cons_zero, List.set_cons_succ]
      refine take_d (i := 1) (d := some 48) (v := ?_) rfl rfl (by kernel_rfl) (by kernel_rfl) (by kernel_rfl) (fun _ _ _ h => h) (Or.inl ⟨by first | rfl | (simp [*, Region.wanted, yielded]), ?hy1⟩) (by assumption) ?rest1
      case hy1 => (intro w hSw; (try dsimp only at hSw); go_simp <;> with_reducible rfl)
      try simp only [Act.put, List.setIfInBounds_toArray, List.set_cons_zero, List.set_cons_succ]
      refine take_d (i := 2) (d := some 49) (v := ?_) rfl rfl (by kernel_rfl) (by kernel_rfl) (by kernel_rfl) (fun _ _ _ h => h) (Or.inl ⟨by first | rfl | (simp [*, Region.wanted, yielded]), ?hy2⟩) (by assumption) ?rest2
      case hy2 => (intro w hSw; (try dsimp only at hSw); go_simp <;> with_reducible rfl)
      try simp only [Act.put, List.setIfInBounds_toArray, List.set_cons_zero, List.set_cons_succ]
      refine take_d (i := 3) (d := some 50) (v := undef) rfl rfl (by kernel_rfl) (by kernel_rfl) (by kernel_rfl) (fun _ _ _ h => h) (Or.inr ⟨by first | rfl | (simp [*, Region.wanted, yielded]), rfl⟩) (by assumption) ?rest3
      try simp only [Act.put, List.setIfInBounds_toArray, List.set_cons_zero, List.set_cons_succ]
      refine take_d (i := 4) (d := some 51) (v := undef) rfl rfl (by kernel_rfl) (by kernel_rfl) (by kernel_rfl) (fun _ _ _ h => h) (Or.inr ⟨by first | rfl | (simp [*, Region.wanted, yielded]), rfl⟩) (by assumption) ?rest4
      try simp only [Act.put, List.setIfInBounds_toArray, List.set_cons_zero, List.set_cons_succ]
      refine take_d (i := 5) (d := some 52) (v := undef) rfl rfl (by kernel_rfl) (by kernel_rfl) (by kernel_rfl) (fun _ _ _ h => h) (Or.inr ⟨by first | rfl | (simp [*, Region.wanted, yielded]), rfl⟩) (by assumption) ?rest5
      try simp only [Act.put, List.setIfInBounds_toArray, List.set_cons_zero, List.set_cons_succ]
      refine take_d (i := 6) (d := some 53) (v := undef) rfl rfl (by kernel_rfl) (by kernel_rfl) (by kernel_rfl) (fun _ _ _ h => h) (Or.inr ⟨by first | rfl | (simp [*, Region.wanted, yielded]), rfl⟩) (by assumption) ?rest6
      try simp only [Act.put, List.setIfInBounds_toArray, List.set_cons_zero, List.set_cons_succ]
      refine take_d (i := 7) (d := some 54) (v := undef) rfl rfl (by kernel_rfl) (by kernel_rfl) (by kernel_rfl) (fun _ _ _ h => h) (Or.inr ⟨by first | rfl | (simp [*, Region.wanted, yielded]), rfl⟩) (by assumption) ?rest7
      try simp only [Act.put, List.setIfInBounds_toArray, List.set_cons_zero, List.set_cons_succ]
      refine take_d (i := 8) (d := some 55) (v := undef) rfl rfl (by kernel_rfl) (by kernel_rfl) (by kernel_rfl) (fun _ _ _ h => h) (Or.inr ⟨by first | rfl | (simp [*, Region.wanted, yielded]), rfl⟩) (by assumption) ?rest8
      try simp only [Act.put, List.setIfInBounds_toArray, List.set_cons_zero, List.set_cons_succ]
      refine take_d (i := 9) (d := some 56) (v := undef) rfl rfl (by kernel_rfl) (by kernel_rfl) (by kernel_rfl) (fun _ _ _ h => h) (Or.inr ⟨by first | rfl | (simp [*, Region.wanted, yielded]), rfl⟩) (by assumption) ?rest9
      try simp only [Act.put, List.setIfInBounds_toArray, List.set_cons_zero, List.set_cons_succ]
      refine take_d (i := 10) (d := some 57) (v := undef) rfl rfl (by kernel_rfl) (by kernel_rfl) (by kernel_rfl) (fun _ _ _ h => h) (Or.inr ⟨by first | rfl | (simp [*, Region.wanted, yielded]), rfl⟩) (by assumption) ?rest10
      try simp only [Act.put, List.setIfInBounds_toArray, List.set_cons_zero, List.set_cons_succ]
      refine take_d (i := 11) (d := some 58) (v := undef) rfl rfl (by kernel_rfl) (by kernel_rfl) (by kernel_rfl) (fun _ _ _ h => h) (Or.inr ⟨by first | rfl | (simp [*, Region.wanted, yielded]), rfl⟩) (by assumption) ?rest11
      try simp only [Act.put, List.setIfInBounds_toArray, List.set_cons_zero, List.set_cons_succ]
      refine take_d (i := 12) (d := some 59) (v := undef) rfl rfl (by kernel_rfl) (by kernel_rfl) (by kernel_rfl) (fun _ _ _ h => h) (Or.inr ⟨by first | rfl | (simp [*, Region.wanted, yielded]), rfl⟩) (by assumption) ?rest12
      try simp only [Act.put, List.setIfInBounds_toArray, List.set_cons_zero, List.set_cons_succ]
      refine take_d (i := 13) (d := some 60) (v := undef) rfl rfl (by kernel_rfl) (by kernel_rfl) (by kernel_rfl) (fun _ _ _ h => h) (Or.inr ⟨by first | rfl | (simp [*, Region.wanted, yielded]), rfl⟩) (by assumption) ?rest13
      try simp only [Act.put, List.setIfInBounds_toArray, List.set_cons_zero, List.set_cons_succ]
      refine take_d (i := 14) (d := some 61) (v := undef) rfl rfl (by kernel_rfl) (by kernel_rfl) (by kernel_rfl) (fun _ _ _ h => h) (Or.inr ⟨by first | rfl | (simp [*, Region.wanted, yielded]), rfl⟩) (by assumption) ?rest14
      try simp only [Act.put, List.setIfInBounds_toArray, List.set_cons_zero, List.set_cons_succ]
      refine take_d (i := 15) (d := some 62) (v := undef) rfl rfl (by kernel_rfl) (by kernel_rfl) (by kernel_rfl) (fun _ _ _ h => h) (Or.inr ⟨by first | rfl | (simp [*, Region.wanted, yielded]), rfl⟩) (by assumption) ?rest15
      try simp only [Act.put, List.setIfInBounds_toArray, List.set_cons_zero, List.set_cons_succ]
      refine take_d (i := 16) (d := some 63) (v := undef) rfl rfl (by kernel_rfl) (by kernel_rfl) (by kernel_rfl) (fun _ _ _ h => h) (Or.inr ⟨by first | rfl | (simp [*, Region.wanted, yielded]), rfl⟩) (by assumption) ?rest16
      try simp only [Act.put, List.setIfInBounds_toArray, List.set_cons_zero, List.set_cons_succ]
      refine take_d (i := 17) (d := some 64) (v := undef) rfl rfl (by kernel_rfl) (by kernel_rfl) (by kernel_rfl) (fun _ _ _ h => h) (Or.inr ⟨by first | rfl | (simp [*, Region.wanted, yielded]), rfl⟩) (by assumption) ?rest17
      try simp only [Act.put, List.setIfInBounds_toArray, List.set_cons_zero, List.set_cons_succ]
      refine take_d (i := 18) (d := some 65) (v := undef) rfl rfl (by kernel_rfl) (by kernel_rfl) (by kernel_rfl) (fun _ _ _ h => h) (Or.inr ⟨by first | rfl | (simp [*, Region.wanted, yielded]), rfl⟩) (by assumption) ?rest18
      try simp only [Act.put, List.setIfInBounds_toArray, List.set_cons_zero, List.set_cons_succ]
      refine take_d (i := 19) (d := some 66) (v := ?_) rfl rfl (by kernel_rfl) (by kernel_rfl) (by kernel_rfl) (fun _ _ _ h => h) (Or.inl ⟨by first | rfl | (simp [*, Region.wanted, yielded]), ?hy19⟩) (by assumption) ?rest19
      case hy19 => (intro w hSw; (try dsimp only at hSw); go_simp <;> with_reducible rfl)
      try simp only [Act.put, List.setIfInBounds_toArray, List.set_cons_zero, List.set_cons_succ]
      refine take_d (i := 20) (d := some 67) (v := ?_) rfl rfl (by kernel_rfl) (by kernel_rfl) (by kernel_rfl) (fun _ _ _ h => h) (Or.inl ⟨by first | rfl | (simp [*, Region.wanted, yielded]), ?hy20⟩) (by assumption) ?rest20
      case hy20 => (intro w hSw; (try dsimp only at hSw); go_simp <;> with_reducible rfl)
      try simp only [Act.put, List.setIfInBounds_toArray, List.set_cons_zero, List.set_cons_succ]
      refine wpAnyH_ready (rs := [21]) (by kernel_rfl) (by simp) ?_
      refine AllReadyH.cons (o := _) rfl (fun K hK => ?_) AllReadyH.nil
      go_simp
      refine (known6_any _).mono ?_
      rintro en x1 ⟨hb1, rfl⟩
      go_wp2_with fail
      refine hK.out _ _ (KEEP6.out _ _ (by assumption) hb1) (fun hHeld => ?_)
      clear hK K
      try simp only [Act.put, List.setIfInBounds_toArray, List.set_cons_zero, List.set_cons_succ]
      refine take_d (i := 22) (d := some 69) (v := ?_) rfl rfl (by kernel_rfl) (by kernel_rfl) (by kernel_rfl) (fun _ _ _ h => h) (Or.inl ⟨by first | rfl | (simp [*, Region.wanted, yielded]), ?hy22⟩) (by assumption) ?rest22
      case hy22 => (intro w hSw; (try dsimp only at hSw); go_simp <;> with_reducible rfl)
      try simp only [Act.put, List.setIfInBounds_toArray, List.set_cons_zero, List.set_cons_succ]
      refine take_d (i := 23) (d := some 2) (v := ?_) rfl rfl (by kernel_rfl) (by kernel_rfl) (by kernel_rfl) (fun _ _ _ h => h) (Or.inl ⟨by first | rfl | (simp [*, Region.wanted, yielded]), ?hy23⟩) (by assumption) ?rest23
      case hy23 => (intro w hSw; (try dsimp only at hSw); go_simp <;> with_reducible rfl)
      try simp only [Act.put, List.setIfInBounds_toArray, List.set_cons_zero, List.set_cons_succ]
      refine wpAnyH_done (by kernel_rfl) ?_ _
      go_simp
      rename Below wd.heap.size wd _ => hH9
      go_wp2
      go_ret
      exact ⟨P3.out.trans (hH9.mono P3.out.size), rfl⟩
    · rw [hv] at H1 H2
      have H1 := hid (H1.out.mono fun _ _ hh => halfR_out hh)
      have H2 := hid (fun W hb => (H2.out W hb).mono fun _ _ hh => halfR_out hh)
      have hn10 : n < 10 := by
        rcases Nat.lt_or_ge n 10 with hh | hh
        · exact hh
        · have := Nat.pow_le_pow_right (show 0 < 2 by omega) hh
          have := (hok.adv 0 hpos).2.2; omega
      rcases hG.at_ with e | ⟨b, off, rfl, hc⟩
      · rw [e] at hpos; simp at hpos
      obtain ⟨A, c, c0, _, s0⟩ := hc 0 hpos
      rw [Nat.zero_mul, Nat.add_zero, (hok.adv 0 hpos).1] at c0
      have ha8 : advs g ≤ 8 := (hok.adv 0 hpos).2.2
      have HC0 := hid c0
      have hbl := cell_lt c0
      dsimp only at hbl
      have g0' : (0 : Int) < (g.length : Int) := by omega
      have hle : (2 : Int) ^ n ≤ (advs g : Int) := by
        have := Int.ofNat_le.2 hn
        rw [pow_cast'] at this; exact this
      have hp1 : 0 ≤ (2 : Int) ^ n := by rw [← pow_cast']; exact Int.natCast_nonneg _
      have hn10' : (n : Int) < 10 := by omega
      have hn0' : (0 : Int) ≤ (n : Int) := by omega
      generalize advs g = d at *
      generalize rightTo g d = rs at *
      have hwr : IntKind.i64.wrap ((2 : Int) ^ n) = (2 : Int) ^ n := IntWalk.i64_in _ ⟨by omega, by omega⟩
      clear h hl hG hv hn hc s0 c0 hok
      go_enter Try.func8, Try.ntmps8
      go_wp2_with fail
      refine HL.out.mono ?_
      rintro e w1 ⟨rfl, rfl⟩
      go_wp2_with fail
      refine H1.out.mono ?_
      rintro e w1 ⟨q1, A1, c1, rfl, i1⟩
      have P1 := hid q1
      have I1 := hid i1
      have hrl := i1.len
      clear q1 i1
      go_wp2_with fail
      refine (H2.out _ P1.out).mono ?_
      rintro e w2 ⟨q2, A2, c2, rfl, i2⟩
      have P2 := hid (P1.out.trans (q2.mono P1.out.size))
      have HSm := hid (same_any A1 A2 rs rs c1 c2 w2 (I1.out.below q2) i2)
      rw [same_selfH] at HSm
      clear q2 i2
      go_wp2_with fail
      refine HSm.out.mono ?_
      rintro e w3 ⟨⟨n3, rfl⟩, rfl⟩
      have P3 := hid (below_drewN P2.out n3)
      have c9 : w2.cell? ⟨b, off, none⟩ = some (.slice A d c) := by rw [P2.out.cell (p := ⟨b, off, none⟩) hbl]; exact HC0.out
      have c9 : (w2.drewN n3).cell? ⟨b, off, none⟩ = some (.slice A d c) := c9
      generalize hwd : w2.drewN n3 = wd at *
      clear hwd
      have KEEP6 := hid (fun (W V : World) (h : W.cell? ⟨b, off, none⟩ = some (.slice A d c) ∧ Below wd.heap.size wd W) (h2 : Below W.heap.size W V) => (show V.cell? ⟨b, off, none⟩ = some (.slice A d c) ∧ Below wd.heap.size wd V from ⟨by rw [h2.cell (cell_lt h.1)]; exact h.1, h.2.trans (h2.mono h.2.size)⟩))
      go_wp2
      refine wp_region_held_drew (S := (fun w' => w'.cell? ⟨b, off, none⟩ = some (.slice A d c) ∧ Below wd.heap.size wd w')) (by kernel_rfl) ⟨c9, (Below.refl _ _).drew⟩ (fun hHeld => ?_)
      refine take_d (i := 0) (d := some 47) (v := ?_) rfl rfl (by kernel_rfl) (by kernel_rfl) (by kernel_rfl) (fun _ _ _ h => h) (Or.inl ⟨by first | rfl | (simp [*, Region.wanted, yielded]), ?hyT0⟩) (by assumption) ?restT0
      case hyT0 => (intro w hSw; (try dsimp only at hSw); go_simp <;> with_reducible rfl)
      try simp only [Act.put, List.setIfInBounds_toArray, List.set_cons_zero, List.set_cons_succ]
      refine take_d (i := 1) (d := some 48) (v := ?_) rfl rfl (by kernel_rfl) (by kernel_rfl) (by kernel_rfl) (fun _ _ _ h => h) (Or.inl ⟨by first | rfl | (simp [*, Region.wanted, yielded]), ?hyT1⟩) (by assumption) ?restT1
      case hyT1 => (intro w hSw; (try dsimp only at hSw); go_simp <;> with_reducible rfl)
      try simp only [Act.put, List.setIfInBounds_toArray, List.set_cons_zero, List.set_cons_succ]
      refine take_d (i := 2) (d := some 49) (v := ?_) rfl rfl (by kernel_rfl) (by kernel_rfl) (by kernel_rfl) (fun _ _ _ h => h) (Or.inl ⟨by first | rfl | (simp [*, Region.wanted, yielded]), ?hyT2⟩) (by assumption) ?restT2
      case hyT2 => (intro w hSw; (try dsimp only at hSw); go_simp <;> with_reducible rfl)
      try simp only [Act.put, List.setIfInBounds_toArray, List.set_cons_zero, List.set_cons_succ]
      refine take_d (i := 3) (d := some 50) (v := ?_) rfl rfl (by kernel_rfl) (by kernel_rfl) (by kernel_rfl) (fun _ _ _ h => h) (Or.inl ⟨by first | rfl | (simp [*, Region.wanted, yielded]), ?hyT3⟩) (by assumption) ?restT3
      case hyT3 => (intro w hSw; (try dsimp only at hSw); go_simp <;> with_reducible rfl)
      try simp only [Act.put, List.setIfInBounds_toArray, List.set_cons_zero, List.set_cons_succ]
      refine take_d (i := 4) (d := some 51) (v := ?_) rfl rfl (by kernel_rfl) (by kernel_rfl) (by kernel_rfl) (fun _ _ _ h => h) (Or.inl ⟨by first | rfl | (simp [*, Region.wanted, yielded]), ?hyT4⟩) (by assumption) ?restT4
      case hyT4 => (intro w hSw; (try dsimp only at hSw); go_simp <;> with_reducible rfl)
      try simp only [Act.put, List.setIfInBounds_toArray, List.set_cons_zero, List.set_cons_succ]
      refine take_d (i := 5) (d := some 52) (v := ?_) rfl rfl (by kernel_rfl) (by kernel_rfl) (by kernel_rfl) (fun _ _ _ h => h) (Or.inl ⟨by first | rfl | (simp [*, Region.wanted, yielded]), ?hyT5⟩) (by assumption) ?restT5
      case hyT5 => (intro w hSw; (try dsimp only at hSw); go_simp <;> with_reducible rfl)
      try simp only [Act.put, List.setIfInBounds_toArray, List.set_cons_zero, List.set_cons_succ]
      refine take_d (i := 6) (d := some 53) (v := ?_) rfl rfl (by kernel_rfl) (by kernel_rfl) (by kernel_rfl) (fun _ _ _ h => h) (Or.inl ⟨by first | rfl | (simp [*, Region.wanted, yielded]), ?hyT6⟩) (by assumption) ?restT6
      case hyT6 => (intro w hSw; (try dsimp only at hSw); go_simp <;> with_reducible rfl)
      try simp only [Act.put, List.setIfInBounds_toArray, List.set_cons_zero, List.set_cons_succ]
      refine take_d (i := 7) (d := some 54) (v := ?_) rfl rfl (by kernel_rfl) (by kernel_rfl) (by kernel_rfl) (fun _ _ _ h => h) (Or.inl ⟨by first | rfl | (simp [*, Region.wanted, yielded]), ?hyT7⟩) (by assumption) ?restT7
      case hyT7 => (intro w hSw; (try dsimp only at hSw); go_simp <;> with_reducible rfl)
      try simp only [Act.put, List.setIfInBounds_toArray, List.set_cons_zero, List.set_cons_succ]
      refine take_d (i := 8) (d := some 55) (v := ?_) rfl rfl (by kernel_rfl) (by kernel_rfl) (by kernel_rfl) (fun _ _ _ h => h) (Or.inl ⟨by first | rfl | (simp [*, Region.wanted, yielded]), ?hyT8⟩) (by assumption) ?restT8
      case hyT8 => (intro w hSw; (try dsimp only at hSw); go_simp <;> with_reducible rfl)
      try simp only [Act.put, List.setIfInBounds_toArray, List.set_cons_zero, List.set_cons_succ]
      refine take_d (i := 9) (d := some 56) (v := ?_) rfl rfl (by kernel_rfl) (by kernel_rfl) (by kernel_rfl) (fun _ _ _ h => h) (Or.inl ⟨by first | rfl | (simp [*, Region.wanted, yielded]), ?hyT9⟩) (by assumption) ?restT9
      case hyT9 => (intro w hSw; (try dsimp only at hSw); go_simp <;> with_reducible rfl)
      try simp only [Act.put, List.setIfInBounds_toArray, List.set_cons_zero, List.set_cons_succ]
      refine take_d (i := 10) (d := some 57) (v := ?_) rfl rfl (by kernel_rfl) (by kernel_rfl) (by kernel_rfl) (fun _ _ _ h => h) (Or.inl ⟨by first | rfl | (simp [*, Region.wanted, yielded]), ?hyT10⟩) (by assumption) ?restT10
      case hyT10 => (intro w hSw; (try dsimp only at hSw); go_simp <;> with_reducible rfl)
      try simp only [Act.put, List.setIfInBounds_toArray, List.set_cons_zero, List.set_cons_succ]
      refine take_d (i := 11) (d := some 58) (v := ?_) rfl rfl (by kernel_rfl) (by kernel_rfl) (by kernel_rfl) (fun _ _ _ h => h) (Or.inl ⟨by first | rfl | (simp [*, Region.wanted, yielded]), ?hyT11⟩) (by assumption) ?restT11
      case hyT11 => (intro w hSw; (try dsimp only at hSw); go_simp <;> with_reducible rfl)
      try simp only [Act.put, List.setIfInBounds_toArray, List.set_cons_zero, List.set_cons_succ]
      refine take_d (i := 12) (d := some 59) (v := ?_) rfl rfl (by kernel_rfl) (by kernel_rfl) (by kernel_rfl) (fun _ _ _ h => h) (Or.inl ⟨by first | rfl | (simp [*, Region.wanted, yielded]), ?hyT12⟩) (by assumption) ?restT12
      case hyT12 => (intro w hSw; (try dsimp only at hSw); go_simp <;> with_reducible rfl)
      try simp only [Act.put, List.setIfInBounds_toArray, List.set_cons_zero, List.set_cons_succ]
      refine take_d (i := 13) (d := some 60) (v := ?_) rfl rfl (by kernel_rfl) (by kernel_rfl) (by kernel_rfl) (fun _ _ _ h => h) (Or.inl ⟨by first | rfl | (simp [*, Region.wanted, yielded]), ?hyT13⟩) (by assumption) ?restT13
      case hyT13 => (intro w hSw; (try dsimp only at hSw); go_simp <;> with_reducible rfl)
      try simp only [Act.put, List.setIfInBounds_toArray, List.set_cons_zero, List.set_cons_succ]
      refine take_d (i := 14) (d := some 61) (v := ?_) rfl rfl (by kernel_rfl) (by kernel_rfl) (by kernel_rfl) (fun _ _ _ h => h) (Or.inl ⟨by first | rfl | (simp [*, Region.wanted, yielded]), ?hyT14⟩) (by assumption) ?restT14
      case hyT14 => (intro w hSw; (try dsimp only at hSw); go_simp <;> with_reducible rfl)
      try simp only [Act.put, List.setIfInBounds_toArray, List.set_cons_zero, List.set_cons_succ]
      refine take_d (i := 15) (d := some 62) (v := ?_) rfl rfl (by kernel_rfl) (by kernel_rfl) (by kernel_rfl) (fun _ _ _ h => h) (Or.inl ⟨by first | rfl | (simp [*, Region.wanted, yielded]), ?hyT15⟩) (by assumption) ?restT15
      case hyT15 => (intro w hSw; (try dsimp only at hSw); go_simp <;> with_reducible rfl)
      try simp only [Act.put, List.setIfInBounds_toArray, List.set_cons_zero, List.set_cons_succ]
      refine take_d (i := 16) (d := some 63) (v := ?_) rfl rfl (by kernel_rfl) (by kernel_rfl) (by kernel_rfl) (fun _ _ _ h => h) (Or.inl ⟨by first | rfl | (simp [*, Region.wanted, yielded]), ?hyT16⟩) (by assumption) ?restT16
      case hyT16 => (intro w hSw; (try dsimp only at hSw); go_simp <;> with_reducible rfl)
      try simp only [Act.put, List.setIfInBounds_toArray, List.set_cons_zero, List.set_cons_succ]
      refine take_d (i := 17) (d := some 64) (v := ?_) rfl rfl (by kernel_rfl) (by kernel_rfl) (by kernel_rfl) (fun _ _ _ h => h) (Or.inl ⟨by first | rfl | (simp [*, Region.wanted, yielded]), ?hyT17⟩) (by assumption) ?restT17
      case hyT17 => (intro w hSw; (try dsimp only at hSw); go_simp <;> with_reducible rfl)
      try simp only [Act.put, List.setIfInBounds_toArray, List.set_cons_zero, List.set_cons_succ]
      refine take_d (i := 18) (d := some 65) (v := ?_) rfl rfl (by kernel_rfl) (by kernel_rfl) (by kernel_rfl) (fun _ _ _ h => h) (Or.inl ⟨by first | rfl | (simp [*, Region.wanted, yielded]), ?hyT18⟩) (by assumption) ?restT18
      case hyT18 => (intro w hSw; (try dsimp only at hSw); go_simp <;> with_reducible rfl)
      try simp only [Act.put, List.setIfInBounds_toArray, List.set_cons_zero, List.set_cons_succ]
      refine take_d (i := 19) (d := some 66) (v := ?_) rfl rfl (by kernel_rfl) (by kernel_rfl) (by kernel_rfl) (fun _ _ _ h => h) (Or.inl ⟨by first | rfl | (simp [*, Region.wanted, yielded]), ?hyT19⟩) (by assumption) ?restT19
      case hyT19 => (intro w hSw; (try dsimp only at hSw); go_simp <;> with_reducible rfl)
      try simp only [Act.put, List.setIfInBounds_toArray, List.set_cons_zero, List.set_cons_succ]
      refine take_d (i := 20) (d := some 67) (v := ?_) rfl rfl (by kernel_rfl) (by kernel_rfl) (by kernel_rfl) (fun _ _ _ h => h) (Or.inl ⟨by first | rfl | (simp [*, Region.wanted, yielded]), ?hyT20⟩) (by assumption) ?restT20
      case hyT20 => (intro w hSw; (try dsimp only at hSw); go_simp <;> with_reducible rfl)
      try simp only [Act.put, List.setIfInBounds_toArray, List.set_cons_zero, List.set_cons_succ]
      refine wpAnyH_ready (rs := [21]) (by kernel_rfl) (by simp) ?_
      refine AllReadyH.cons (o := _) rfl (fun K hK => ?_) AllReadyH.nil
      go_simp
      refine (known6_any _).mono ?_
      rintro en x1 ⟨hb1, rfl⟩
      go_wp2_with fail
      refine hK.out _ _ (KEEP6.out _ _ (by assumption) hb1) (fun hHeld => ?_)
      clear hK K
      try simp only [Act.put, List.setIfInBounds_toArray, List.set_cons_zero, List.set_cons_succ]
      refine take_d (i := 22) (d := some 69) (v := ?_) rfl rfl (by kernel_rfl) (by kernel_rfl) (by kernel_rfl) (fun _ _ _ h => h) (Or.inl ⟨by first | rfl | (simp [*, Region.wanted, yielded]), ?hyT22⟩) (by assumption) ?restT22
      case hyT22 => (intro w hSw; (try dsimp only at hSw); go_simp <;> with_reducible rfl)
      try simp only [Act.put, List.setIfInBounds_toArray, List.set_cons_zero, List.set_cons_succ]
      refine take_d (i := 23) (d := some 2) (v := ?_) rfl rfl (by kernel_rfl) (by kernel_rfl) (by kernel_rfl) (fun _ _ _ h => h) (Or.inl ⟨by first | rfl | (simp [*, Region.wanted, yielded]), ?hyT23⟩) (by assumption) ?restT23
      case hyT23 => (intro w hSw; (try dsimp only at hSw); go_simp <;> with_reducible rfl)
      try simp only [Act.put, List.setIfInBounds_toArray, List.set_cons_zero, List.set_cons_succ]
      refine wpAnyH_done (by kernel_rfl) ?_ _
      go_simp
      rename _ ∧ Below wd.heap.size wd _ => hH9
      obtain ⟨_, hH9⟩ := hH9
      go_wp2
      go_ret
      exact ⟨P3.out.trans (hH9.mono P3.out.size), rfl⟩
end Go.Proofs.Ytfjncmhbpfcdiaa
