/- The walk of the law VanLeaves. -/
import Derived.Test.YtbffdpcogfmomaaVaDir
import Derived.Test.YtbffdpcogfmomaaVaLvM
import Derived.Test.YtbffdpcogfmomaaOrdW
import Derived.Test.YtbffdpcogfmomaaVaLg
set_option linter.unusedVariables false
namespace Go.Proofs.Ytbffdpcogfmomaa
open Go.RowKit
section
open Go.ChangeShapes Go.WideShapes Go.ChangeAt Go.RowKit Go.Joins
theorem open_intsC8_at {H : Type} {enc : TypeId × Value → H} {W : World} {n : Nat} {v : Value} {y : DataW H × List MemPlace}
    (h : DataW.trod enc Try.prog W 0 (fun _ => true) true n 23 [v] = some y) :
    ∃ (a : Option Addr) (xs : List Int) (cap : Nat), v = .slice a xs.length cap ∧ xs.length ≤ 9223372036854775807 ∧ (xs.length ≤ 140737488355328 → Ints W a xs) ∧ xs.length ≤ cap := by
  rcases open_ints Try.underlying23 Try.underlying3 (by kernel_rfl) h with ⟨hcs, _⟩ | ⟨a, len, cap, zs, hcs, _, hl, hm, hz, _, hcell, hwz⟩
  · simp at hcs
    exact ⟨none, [], 0, hcs, by simp, fun _ => ⟨by simp, .inl rfl, by simp⟩, by simp⟩
  · simp at hcs hz
    have hlen : (zs.take len).length = len := by simp; omega
    unfold maxLen at hm
    refine ⟨some a, zs.take len, cap, by rw [hlen, hcs], by omega, fun hb => ⟨hb, ?_, ?_⟩, by omega⟩
    · by_cases h0 : len = 0
      · left; subst h0; simp
      · right
        obtain ⟨b, off, spot⟩ := a
        have hc := hcell 0 (by omega)
        have hspot : spot = none := by simpa [Addr.add] using World.cell?_spot hc
        subst hspot
        refine ⟨b, off, rfl, fun i hi => ?_⟩
        have e : (⟨b, off, none⟩ : Addr).add i = ⟨b, off + i, none⟩ := by
          unfold Addr.add; split
          · simp_all
          · rfl
        have := hcell i (by omega)
        rw [e] at this
        rw [this, List.getElem?_take_of_lt (by omega)]
        simp
    · intro x hx
      exact wf_i64 (hwz x (List.mem_of_mem_take hx))
set_option maxRecDepth 100000 in
theorem open_intsC8 {H : Type} {enc : TypeId × Value → H} {W : World} {r : Go.Reach} {b0 : Nat} {v : Value} {d : DataW H} {p : List MemPlace} (hv : Value.okWide Try.prog W r b0 23 v)
    (h : DataW.Trod enc Try.prog W 0 (fun _ => true) true 23 v d p) :
    ∃ (a : Option Addr) (xs : List Int) (cap : Nat), v = .slice a xs.length cap ∧ xs.length ≤ 9223372036854775807 ∧ (xs.length ≤ 140737488355328 → Ints W a xs) ∧ xs.length ≤ cap := by
  obtain ⟨a0, len0, cap0, rfl⟩ := okWide_slice Try.underlying23 hv
  obtain ⟨fuel, hf⟩ := h
  simp only [Value.cells] at hf
  exact open_intsC8_at hf
end
theorem dirT_tri {t : Tbl} (ht : Ways t) : ∀ i v j : Int, 0 ≤ i ∧ i < (dirT t).length → 0 ≤ v ∧ v < (dirT t).length → 0 ≤ j ∧ j < (dirT t).length → tA (dirT t) i j ≤ tA (dirT t) i v + tA (dirT t) v j := by
  intro i v j hi hv hj
  rw [dirT_len] at hi hv hj
  obtain ⟨a, rfl⟩ := Int.eq_ofNat_of_zero_le hi.1
  obtain ⟨b, rfl⟩ := Int.eq_ofNat_of_zero_le hv.1
  obtain ⟨c, rfl⟩ := Int.eq_ofNat_of_zero_le hj.1
  rw [dirT_at t a c (by omega) (by omega), dirT_at t a b (by omega) (by omega), dirT_at t b c (by omega) (by omega)]
  exact fwM_tri ht t.length (Nat.le_refl _) b a c (by omega) (by omega) (by omega)
theorem at_idx (x : Int) (n : Nat) (hn : 0 < n) (hn2 : n ≤ 60) : ∃ k : Nat, k < n ∧ wrap64 ((IntKind.u64.wrap x).tmod (n : Int)) = (k : Int) := by
  have h0 : 0 ≤ IntKind.u64.wrap x := by rw [IntKind.wrap_u64]; omega
  rw [Int.tmod_eq_emod_of_nonneg h0]
  have h1 := Int.emod_nonneg (IntKind.u64.wrap x) (show (n : Int) ≠ 0 by omega)
  have h2 := Int.emod_lt_of_pos (IntKind.u64.wrap x) (show (0 : Int) < n by omega)
  refine ⟨(IntKind.u64.wrap x % (n : Int)).toNat, by omega, ?_⟩
  unfold wrap64
  omega
theorem src_cut {w : World} {A : Option Addr} {xs : List Int} (h : Ints w A xs) (c a : Nat) (hc : xs.length ≤ c) (ha : a < xs.length) :
    ∃ A1 c1 A2 c2, (∀ W : World, (Instr.sliceAt 23 (.slice A xs.length c) none (some (.int .i64 (a : Int))) none).run Try.prog W = .ok (.slice A1 a c1) W) ∧ (∀ W : World, (Instr.sliceAt 23 (.slice A xs.length c) (some (.int .i64 ((a : Int) + 1))) none none).run Try.prog W = .ok (.slice A2 (xs.length - (a + 1)) c2) W) ∧ SrcZ w A1 (xs.take a) ∧ SrcZ w A2 (xs.drop (a + 1)) := by
  obtain ⟨b, off, rfl, hcell⟩ := h.at' (by omega)
  obtain ⟨A1, c1, h1, r1⟩ := run_to (some ⟨b, off, none⟩) xs.length c a (by omega) hc
  obtain ⟨A2, c2, h2, r2⟩ := run_from (some ⟨b, off, none⟩) xs.length c (a + 1) (by omega) hc
  refine ⟨A1, c1, A2, c2, r1, r2, ?_, ?_⟩
  · refine .inr ⟨⟨b, off, none⟩, ?_, fun j u hu => ?_⟩
    · rcases h1 with rfl | ⟨g, e, rfl⟩
      · rfl
      · cases e; rw [zadd_none]; rfl
    · rw [zadd_none]
      rw [List.getElem?_map] at hu
      have hj : j < a := by
        rcases Nat.lt_or_ge j a with h | h
        · exact h
        · rw [List.getElem?_eq_none (by rw [List.length_take]; omega)] at hu; simp at hu
      rw [List.getElem?_take_of_lt hj] at hu
      have h3 := hcell j (by omega)
      rw [List.getElem?_eq_getElem (show j < xs.length by omega)] at hu h3
      simp at hu h3
      rw [h3, hu]
  · rcases h2 with e | rfl
    · exact .inl (by rw [List.length_drop]; omega)
    · refine .inr ⟨⟨b, off + (a + 1), none⟩, by simp [zadd_none], fun j u hu => ?_⟩
      rw [zadd_none]
      rw [List.getElem?_map, List.getElem?_drop] at hu
      have hj : a + 1 + j < xs.length := by
        rcases Nat.lt_or_ge (a + 1 + j) xs.length with h | h
        · exact h
        · rw [List.getElem?_eq_none h] at hu; simp at hu
      have h3 := hcell (a + 1 + j) hj
      rw [List.getElem?_eq_getElem hj] at hu h3
      simp at hu h3
      rw [show off + (a + 1) + j = off + (a + 1 + j) by omega, h3, hu]
theorem tab_nil (w : World) (a : Option Addr) : TabAt w a [] := ⟨by simp, .inl rfl⟩
set_option maxRecDepth 100000 in
set_option maxHeartbeats 8000000 in
theorem vanLeaves_walk (a A : Option Addr) (t : Tbl) (o : List Int) (x : Int) (cap c : Nat) (w : World) (h0 : t.length ≤ 9223372036854775807) (h : TabRaw w a t) (g0 : o.length ≤ 9223372036854775807) (g : o.length ≤ 140737488355328 → Ints w A o) (gc : o.length ≤ c) (bx : -9223372036854775808 ≤ x ∧ x ≤ 9223372036854775807) :
  Calls Try.prog 10 #[.slice a t.length cap, .slice A o.length c, .int .i64 x] w (BoolR w true) := by
  obtain ⟨i0, hinf, hz0, hz1, hz2⟩ := info_parts int_info
  have HLa := hid (large_any a t cap w h0 h)
  have HLo := hid (long8_any A o.length c w g0)
  have HKw := hid (fun (W : World) (hb : Below w.heap.size w W) => (known8_any W).mono (fun en W2 (hp : BoolR W true en W2) => (show BoolR w true en W2 from ⟨hb.trans (hp.1.mono hb.size), hp.2⟩)))
  cases hlg : largeB t with
  | true =>
    rw [hlg] at HLa
    clear h g hlg
    as_aux_lemma =>
      go_enter Try.func10, Try.ntmps10
      go_wp2_with fail
      refine HLa.out.mono ?_
      rintro e w1 ⟨rfl, rfl⟩
      go_wp2_with fail
      refine (HKw.out _ (Below.refl _ _)).mono ?_
      rintro e w9 ⟨hb, rfl⟩
      go_wp2
      go_ret
      exact ⟨hb, rfl⟩
  | false =>
    rw [hlg] at HLa
    by_cases hlo : 60 < o.length
    · rw [decide_eq_true hlo] at HLo
      clear h g hlg
      as_aux_lemma =>
        go_enter Try.func10, Try.ntmps10
        go_wp2_with fail
        refine HLa.out.mono ?_
        rintro e w1 ⟨rfl, rfl⟩
        go_wp2_with fail
        refine HLo.out.mono ?_
        rintro e w1 ⟨rfl, rfl⟩
        go_wp2_with fail
        refine (HKw.out _ (Below.refl _ _)).mono ?_
        rintro e w9 ⟨hb, rfl⟩
        go_wp2
        go_ret
        exact ⟨hb, rfl⟩
    · rw [decide_eq_false hlo] at HLo
      have hT := h.tab hlg
      have hI := g (by omega)
      have hol : o.length ≤ 60 := by omega
      clear h g hlg hlo
      by_cases hoz : o.length = 0
      · rw [hoz] at HLo ⊢
        clear hI hT
        as_aux_lemma =>
          go_enter Try.func10, Try.ntmps10
          go_wp2_with fail
          refine HLa.out.mono ?_
          rintro e w1 ⟨rfl, rfl⟩
          go_wp2_with fail
          refine HLo.out.mono ?_
          rintro e w1 ⟨rfl, rfl⟩
          go_wp2_with fail
          refine (HKw.out _ (Below.refl _ _)).mono ?_
          rintro e w9 ⟨hb, rfl⟩
          go_wp2
          go_ret
          exact ⟨hb, rfl⟩
      · have hd : ((o.length : Int) == 0) = false := by rw [beq_eq_false_iff_ne]; omega
        have HD := hid (vDirect_any a t cap w hT)
        have HT := hid hT
        have HI := hid hI
        clear hI hT
        as_aux_lemma =>
        go_enter Try.func10, Try.ntmps10
        go_wp2_with fail
        refine HLa.out.mono ?_
        rintro e w1 ⟨rfl, rfl⟩
        go_wp2_with fail
        refine HLo.out.mono ?_
        rintro e w1 ⟨rfl, rfl⟩
        by_cases hv : vaV t = 0
        · have HD2 := hid (HD.out.mono (fun en W (hp : DirR t w en W) => (show Below w.heap.size w W ∧ ∃ B d, en = .returned (.tuple #[.slice B t.length d, .int .i64 0]) ∧ TabAt W B (dirT t) from ⟨hp.1, by
            rcases hp.2 with ⟨hh, _⟩ | ⟨_, hh⟩
            · exact absurd hv hh
            · exact hh⟩)))
          have HW := hid ((ways_iff t).1 hv)
          have hl7 := HW.out.len
          clear HD hv
          go_wp2_with fail
          refine HD2.out.mono ?_
          rintro e w2 ⟨hb2, B, d, rfl, hTb⟩
          have HB2 := hid hb2
          have HTb := hid hTb
          have HL1 := hid (show Calls Try.prog 20 #[.slice B t.length d, .slice A o.length c] w2 _ from by
            have := vLengthP_any B A (dirT t) o d c w2 hTb (HI.out.below hb2) (by omega)
            rw [dirT_len] at this
            exact this)
          clear hb2 hTb HD2
          have HTri := hid (fun (k : Nat) (hk : k < o.length) (he : lenE (dirT t) o = 0) => leave_len hk he (dirT_tri HW.out))
          have HDl := hid (dirT_len t)
          generalize dirT t = D at *
          by_cases he : lenE D o = 0
          · rw [he] at HL1
            as_aux_lemma =>
              go_wp2_with fail
              refine HL1.out.mono ?_
              rintro e w3 ⟨hb3, rfl⟩
              have HB3 := hid (HB2.out.trans (hb3.mono HB2.out.size))
              have HTb3 := hid (HTb.out.below hb3)
              have HT3 := hid (fun (k : Nat) (hk : k < o.length) => HTri.out k hk he)
              clear hb3 HTb HL1 HTri
              go_wp2_with fail
              obtain ⟨k, hk, hke⟩ := at_idx x o.length (by omega) hol
              rw [hke]
              have hgx : (0 : Int) ≤ (k : Int) := by omega
              obtain ⟨A1, c1, A2, c2, hr1, hr2, hs1, hs2⟩ := src_cut HI.out c k gc hk
              obtain ⟨hl1, hl2⟩ := HT3.out k hk
              have HLv := hid (show o.take k ++ o.drop (k + 1) = lvL o k from rfl)
              have HLen := hid (fun (W : World) (hb : Below w3.heap.size w3 W) (A7 : Option Addr) (c7 : Nat) (hi : Ints W A7 (lvL o k)) => by
                have := vLengthP_any B A7 D (lvL o k) d c7 W (HTb3.out.below hb) hi (by rw [lvL_len o k hk]; omega)
                rw [hl1, HDl.out, lvL_len o k hk] at this
                exact this)
              have HNew := hid (fun (W : World) (v : Value) (ho : Own W w3.heap.size v (lvL o k)) => own_intsV ho (by rw [lvL_len o k hk]; omega) (fun z hz => HI.out.bd z (lvL_mem hk hz)))
              have HS1 := hid (fun (W : World) (hb : Below w3.heap.size w3 W) => hs1.below (HB3.out.trans (hb.mono HB3.out.size)))
              have HS2 := hid (fun (W : World) (hb : Below w3.heap.size w3 W) => hs2.below (HB3.out.trans (hb.mono HB3.out.size)))
              have HLt := hid (show (o.take k).length = k by rw [List.length_take]; omega)
              have HLd := hid (show (o.drop (k + 1)).length = o.length - (k + 1) by rw [List.length_drop])
              have HLl := hid (lvL_len o k hk)
              have hr : Below w3.heap.size w3 w3 := Below.refl _ _
              have q1 : (k : Int) ≤ (o.length : Int) := by omega
              have q2 : (k : Int) + 1 ≤ (o.length : Int) := by omega
              have s1 : IntKind.i64.wrap ((k : Int) + 1) = (k : Int) + 1 := IntWalk.i64_in _ (by omega)
              have HLe := hid hl2
              clear hs1 hs2 hl1 hl2 hke HT3 HT HLa HLo
              generalize lenV8 D (lvL o k) = m2 at *
              generalize lenV8 D o = m1 at *
              go_region_held3 (fun w' => Below w3.heap.size w3 w')
                (repeat (first | (with_reducible exact hr) | (with_reducible exact p6) | (with_reducible exact p7) | (with_reducible exact p8) | apply Below.drew | (refine Below.alloc ?_ (by first | exact Below.size (by assumption) | omega | (simp; done) | (simp; omega)) _)))
                (first
                  | (go_at_call 20; refine (HLen.out _ (by repeat (first | (with_reducible exact hr) | (with_reducible exact p7) | apply Below.drew | (refine Below.alloc ?_ (by first | exact Below.size (by assumption) | omega | (simp; done) | (simp; omega)) _))) A7 c7 (hi7.below (by repeat (first | (with_reducible exact (Below.refl _ _)) | apply Below.drew | (refine Below.alloc ?_ (by first | exact Below.size (by assumption) | omega | (simp; done) | (simp; omega)) _))))).mono ?_; rintro e w8 ⟨hb8, rfl⟩; have p8 : Below w3.heap.size w3 w8 := Below.trans (by repeat (first | (with_reducible exact hr) | (with_reducible exact p7) | apply Below.drew | (refine Below.alloc ?_ (by first | exact Below.size (by assumption) | omega | (simp; done) | (simp; omega)) _))) (Below.mono hb8 (Below.size (by repeat (first | (with_reducible exact hr) | (with_reducible exact p7) | apply Below.drew | (refine Below.alloc ?_ (by first | exact Below.size (by assumption) | omega | (simp; done) | (simp; omega)) _))))))
                  | (refine step_append_srcZ (by rfl) _ _ 23 (by rfl) w3.heap.size i0 Try.underlying23 hinf hz0 hz1 hz2 v6 (o.take k) (by rfl) (by repeat (first | (with_reducible exact hown6) | (with_reducible refine zown_alloc ?_ _) | (with_reducible refine zown_drew ?_))) A2 (o.length - (k + 1)) c2 (o.drop (k + 1)) (by rfl) HLd.out (HS2.out _ (by repeat (first | (with_reducible exact hr) | (with_reducible exact p6) | apply Below.drew | (refine Below.alloc ?_ (by first | exact Below.size (by assumption) | omega | (simp; done) | (simp; omega)) _)))) (by have := HLt.out; omega) (by first | omega | (simp; done) | (simp; omega)) ?_; intro v7 w7 hown7 hgrow7; have p7 : Below w3.heap.size w3 w7 := Below.grown (by repeat (first | (with_reducible exact hr) | (with_reducible exact p6) | apply Below.drew | (refine Below.alloc ?_ (by first | exact Below.size (by assumption) | omega | (simp; done) | (simp; omega)) _))) hgrow7 (by first | omega | (simp; done) | (simp; omega)) (zown_ge hown6); rw [HLv.out] at hown7; obtain ⟨A7, c7, hv7, hi7⟩ := HNew.out _ _ hown7; rw [HLl.out] at hv7; subst hv7; have z7 := p7.size)
                  | (refine step_append_srcZ (by rfl) _ _ 23 (by rfl) w3.heap.size i0 Try.underlying23 hinf hz0 hz1 hz2 _ [] (by rfl) (zown_empty (by repeat (first | (with_reducible exact zblk_new _ _ _ (by first | rfl | (simp; done))) | (with_reducible refine zblk_alloc _ ?_) | (with_reducible refine zblk_drew ?_))) (by first | omega | (simp; done) | (simp; omega))) A1 k c1 (o.take k) (by rfl) HLt.out (HS1.out _ (by repeat (first | (with_reducible exact hr) | apply Below.drew | (refine Below.alloc ?_ (by first | exact Below.size (by assumption) | omega | (simp; done) | (simp; omega)) _)))) (by simp; omega) (by first | omega | (simp; done) | (simp; omega)) ?_; intro v6 w6 hown6 hgrow6; have p6 : Below w3.heap.size w3 w6 := Below.grown (by repeat (first | (with_reducible exact hr) | apply Below.drew | (refine Below.alloc ?_ (by first | exact Below.size (by assumption) | omega | (simp; done) | (simp; omega)) _))) hgrow6 (by first | omega | (simp; done) | (simp; omega)) (zemp_ge (by first | omega | (simp; done) | (simp; omega))); simp only [List.nil_append] at hown6; have z6 := p6.size; have y6 := hgrow6.size))
              all_goals
                have P8 := hid (HB3.out.trans (p8.mono HB3.out.size))
                have hle := decide_eq_true HLe.out
                clear hown6 hgrow6 hown7 hgrow7 p6 p7 p8 hb8 hi7 z6 y6 z7 hr
                as_aux_lemma =>
                  go_wp2_with fail
                  refine (HKw.out _ P8.out).mono ?_
                  rintro e w9 ⟨hb, rfl⟩
                  go_wp2
                  go_ret
                  exact ⟨hb, rfl⟩
          · have hne : (lenE D o == 0) = false := by simp; exact he
            have hnn : (lenE D o != 0) = true := by simp; exact he
            generalize lenE D o = e1 at *
            generalize lenV8 D o = v1 at *
            as_aux_lemma =>
              go_wp2_with fail
              refine HL1.out.mono ?_
              rintro e w3 ⟨hb3, rfl⟩
              have HB3 := hid (HB2.out.trans (hb3.mono HB2.out.size))
              clear hb3 HTb HL1 HTri he
              go_wp2_with fail
              refine (HKw.out _ HB3.out).mono ?_
              rintro e w9 ⟨hb, rfl⟩
              go_wp2
              go_ret
              exact ⟨hb, rfl⟩
        · have HD2 := hid (HD.out.mono (fun en W (hp : DirR t w en W) => (show Below w.heap.size w W ∧ en = .returned (.tuple #[.slice none 0 0, .int .i64 (vaV t)]) from ⟨hp.1, by
            rcases hp.2 with ⟨_, hh⟩ | ⟨hh, _⟩
            · exact hh
            · exact absurd hh hv⟩)))
          have hne : (vaV t == 0) = false := by simp; exact hv
          have hnn : (vaV t != 0) = true := by simp; exact hv
          generalize vaV t = e0 at *
          have HL1 := hid (fun (W : World) (hb : Below w.heap.size w W) => vLengthP_any none A [] o 0 c W (tab_nil W none) (HI.out.below hb) (by omega))
          clear HD hv
          as_aux_lemma =>
            go_wp2_with fail
            refine HD2.out.mono ?_
            rintro e w2 ⟨hb2, rfl⟩
            have HB2 := hid hb2
            clear hb2
            go_wp2_with fail
            refine (HL1.out _ HB2.out).mono ?_
            rintro e w3 ⟨hb3, rfl⟩
            have HB3 := hid (HB2.out.trans (hb3.mono HB2.out.size))
            clear hb3
            go_wp2_with fail
            refine (HKw.out _ HB3.out).mono ?_
            rintro e w9 ⟨hb, rfl⟩
            go_wp2
            go_ret
            exact ⟨hb, rfl⟩
end Go.Proofs.Ytbffdpcogfmomaa
