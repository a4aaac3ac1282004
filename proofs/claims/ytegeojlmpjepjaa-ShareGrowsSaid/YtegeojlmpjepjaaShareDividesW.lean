/- The law ShareDivides: its walk. -/
import Derived.Test.YtegeojlmpjepjaaShS
import Derived.Test.YtegeojlmpjepjaaShSumM
set_option linter.unusedVariables false
namespace Go.Proofs.Ytegeojlmpjepjaa
open Go.RowKit

/-- An operation of a drawn region is taken, its slot named. -/
theorem take_d {P : Program} {ops : Array Oper} {Q : Exit → Act → World → Prop} {md : Region.Mode} {S : World → Prop} {i : Nat} {oi : Oper} {d : Option Nat} {v : Value} {fuel : Nat} {listed : Array Bool} {a : Act} {w : World} (hi : ops[i]? = some oi) (hd : oi.dst = d)
    (hs : Region.noSelect ops = true) (hf : Region.free md ops listed i = true) (hr : (Region.ready md ops listed).contains i = true)
    (hQ : ∀ c a w, Q (.panic c) (a.put d v) w → Q (.panic c) a w) (hy : YieldsIf P ops S oi v a) (hS : S w)
    (h : wpAnyH P md ops Q S fuel (listed.setIfInBounds i true) (a.put d v) w) : wpAnyH P md ops Q S (fuel + 1) listed a w := by
  subst hd
  exact wpAnyH_take hi hs hf hr hQ hy hS h
theorem below_same (w : World) : Below w.heap.size w w := Below.refl _ _
theorem small_i64 {lo hi : Int} {l : List Int} (h : ∀ x ∈ l, lo ≤ x ∧ x ≤ hi) (h1 : -9223372036854775808 ≤ lo) (h2 : hi ≤ 9223372036854775807) : ∀ x ∈ l, -9223372036854775808 ≤ x ∧ x ≤ 9223372036854775807 := fun x hx => by have := h x hx; omega
def OneS (w0 : World) (g : Nat) (o : Nat) (v : Value) (w : World) : Prop := w.cell? ⟨g, o, none⟩ = some v ∧ Below w0.heap.size w0 w
theorem OneS.keep {w0 : World} {g o : Nat} {v : Value} {w w2 : World} (h : OneS w0 g o v w) (hb : Below w.heap.size w w2) : OneS w0 g o v w2 := ⟨by rw [hb.cell (cell_lt h.1)]; exact h.1, h.2.trans (hb.mono h.2.size)⟩
theorem OneS.drew {w0 : World} {g o : Nat} {v : Value} {w : World} (h : OneS w0 g o v w) : OneS w0 g o v w.drew := h.keep (Below.refl _ _).drew
theorem OneS.below {w0 : World} {g o : Nat} {v : Value} {w : World} (h : OneS w0 g o v w) : Below w0.heap.size w0 w := h.2
theorem same_self (a b : Option Addr) (xs : List Int) (ca cb : Nat) (w : World) (hx : Ints w a xs) (hy : Ints w b xs) :
  Calls Try.prog 23 #[.slice a xs.length ca, .slice b xs.length cb] w (BoolR w true) := by
  refine (same_any a b xs xs ca cb w hx hy).mono ?_
  rintro e w' ⟨⟨n, rfl⟩, rfl⟩
  exact ⟨below_dn (Below.refl _ _) _, by simp [sameB]⟩

set_option maxRecDepth 100000 in
set_option maxHeartbeats 8000000 in
theorem shareDivides_walk (oa : Option Addr) (os : List Int) (oc : Nat) (N K : Int) (w : World) (h1 : os.length ≤ 9223372036854775807) (hT : os.length ≤ 140737488355328 → Ints w oa os) :
  Calls Try.prog 3 #[.slice oa os.length oc, .agg #[.int .i64 N, .int .i64 K]] w (BoolR w true) := by
  have hB0 := (Below.refl w.heap.size w).alloc (Nat.le_refl _) (.cells #[.int .i64 N, .int .i64 K] 24)
  have HL := hid (fun w => long4_any oa os oc w h1)
  cases hl : longI os with
  | true =>
    rw [hl] at HL
    clear hl hT
    go_enter Try.func3, Try.ntmps3
    go_wp2_with fail
    refine (HL.out _).mono ?_
    rintro e w' ⟨rfl, rfl⟩
    go_wp2_with fail
    refine (known4_any _).mono ?_
    rintro e w2 ⟨q2, rfl⟩
    go_wp2
    go_ret
    exact ⟨hB0.trans (q2.mono (by simp)), rfl⟩
  | false =>
    have hl60 : os.length ≤ 60 := by simpa [longI] using hl
    have ho := hT (by omega)
    rw [hl] at HL
    obtain ⟨dv, dl⟩ := divL_vals os N K
    obtain ⟨ev, el⟩ := ordL_vals os N K
    have HS := hid (fun h => divL_sum (os := os) (n := N) (kind := K) h)
    have HO := hid (fun (w' : World) (hb : Below w.heap.size w w') => ho.below hb)
    have HD := hid (fun (w' : World) (hb : Below w.heap.size w w') => divide_any oa os oc N K w' (ho.below hb))
    have HDr := hid (fun (w' : World) (hb : Below w.heap.size w w') => rdivide_any oa os oc N K w' (ho.below hb))
    have HE := hid (fun (w' : World) (hb : Below w.heap.size w w') => order_any oa os oc N K w' (ho.below hb))
    have HEr := hid (fun (w' : World) (hb : Below w.heap.size w w') => rorder_any oa os oc N K w' (ho.below hb))
    have HV := hid (fun (w' : World) (hb : Below w.heap.size w w') => validateO_any oa os oc w' (ho.below hb))
    have HVr := hid (fun (w' : World) (hb : Below w.heap.size w w') => rvalidateO_any oa os oc w' (ho.below hb))
    have HDv := hid dv
    have HEv := hid ev
    clear hl hT ho dv ev
    generalize divL os N K = ds at *
    generalize ordL os N K = es at *
    generalize divE os N K = ok at *
    generalize okO os = vo at *
    have c0 : (w.alloc (.cells #[.int .i64 N, .int .i64 K] 24)).cell? ⟨w.heap.size, 0, none⟩ = some (.int .i64 N) := by go_simp
    have c1 : (w.alloc (.cells #[.int .i64 N, .int .i64 K] 24)).cell? ⟨w.heap.size, 1, none⟩ = some (.int .i64 K) := by go_simp
    go_enter Try.func3, Try.ntmps3
    go_wp2_with fail
    refine (HL.out _).mono ?_
    rintro e w' ⟨rfl, rfl⟩
    go_wp2_with fail
    refine (HD.out _ hB0).mono ?_
    rintro e w1 ⟨q1, A1, a1, rfl, o1⟩
    have p1 := hB0.trans (q1.mono (by simp))
    rw [← q1.cell (by simp)] at c0 c1
    obtain ⟨_, _, hv, i1⟩ := o1.ints (by omega) (small_i64 HDv.out (by omega) (by omega))
    cases hv
    clear o1 q1
    go_wp2_with fail
    refine (HDr.out _ p1).mono ?_
    rintro e w2 ⟨q2, A2, a2, rfl, o2⟩
    have p2 := p1.trans (q2.mono p1.size)
    rw [← q2.cell (cell_lt c0)] at c0
    rw [← q2.cell (cell_lt c1)] at c1
    have i1 := i1.below q2
    obtain ⟨_, _, hv, i2⟩ := o2.ints (by omega) (small_i64 HDv.out (by omega) (by omega))
    cases hv
    clear o2 q2
    go_wp2_with fail
    refine (HE.out _ p2).mono ?_
    rintro e w3 ⟨q3, A3, a3, rfl, o3⟩
    have p3 := p2.trans (q3.mono p2.size)
    rw [← q3.cell (cell_lt c0)] at c0
    rw [← q3.cell (cell_lt c1)] at c1
    have i1 := i1.below q3
    have i2 := i2.below q3
    obtain ⟨_, _, hv, i3⟩ := o3.ints (by omega) (small_i64 HEv.out (by omega) (by omega))
    cases hv
    clear o3 q3
    go_wp2_with fail
    refine (HEr.out _ p3).mono ?_
    rintro e w4 ⟨q4, A4, a4, rfl, o4⟩
    have p4 := p3.trans (q4.mono p3.size)
    rw [← q4.cell (cell_lt c0)] at c0
    have i1 := i1.below q4
    have i2 := i2.below q4
    have i3 := i3.below q4
    obtain ⟨_, _, hv, i4⟩ := o4.ints (by omega) (small_i64 HEv.out (by omega) (by omega))
    cases hv
    clear o4 q4 p1 p2 p3 HD HDr HE HEr
    have HV := hid (fun (w' : World) (hb : Below w4.heap.size w4 w') => HV.out w' (p4.trans (hb.mono p4.size)))
    have HVr := hid (fun (w' : World) (hb : Below w4.heap.size w4 w') => HVr.out w' (p4.trans (hb.mono p4.size)))
    have HS1 := hid (fun (w' : World) (hb : Below w4.heap.size w4 w') => same_self A1 A2 ds a1 a2 w' (i1.below hb) (i2.below hb))
    have HS2 := hid (fun (w' : World) (hb : Below w4.heap.size w4 w') => same_self A3 A4 es a3 a4 w' (i3.below hb) (i4.below hb))
    have HTo := hid (fun (w' : World) (hb : Below w4.heap.size w4 w') => total_any A1 ds a1 w' (i1.below hb) (fun x hx => by have := HDv.out x hx; omega) (by omega))
    have HKn := hid (fun (w' : World) => known4_any w')
    have S0 := hid (show OneS w4 w.heap.size 0 (.int .i64 N) w4 from ⟨c0, Below.refl _ _⟩)
    have hvo : (err vo == err vo) = true := by simp
    have hok : (err ok == err ok) = true := by simp
    clear i1 i2 i3 i4 c1
    rcases Bool.eq_false_or_eq_true ok with hk | hk
    · obtain ⟨s1, s2⟩ := HS.out hk
      rw [hk] at hok ⊢
      rw [show err true = 0 from rfl] at hok ⊢
      rw [s1] at HTo
      have hN : (N == N) = true := by simp
      have HS2' := hid s2
      have hN2 : ((es.length : Int) == N) = true := by simp [s2]
      clear s1 s2 hk
      go_wp2_with fail
      go_region_held3 (fun w' => w'.cell? ⟨w.heap.size, 0, none⟩ = some (.int .i64 N) ∧ Below w4.heap.size w4 w') (first | assumption | exact S0.out.drew | exact S0.out | exact OneS.keep (by assumption) (by assumption))
        (first | (go_at_call 21; refine (HV.out _ ?_).mono ?_; (first | exact OneS.below (by assumption) | exact S0.out.drew.below); rintro en x1 ⟨rfl, rfl⟩) | (go_at_call 22; refine (HVr.out _ ?_).mono ?_; (first | exact OneS.below (by assumption) | exact S0.out.drew.below); rintro en x2 ⟨rfl, rfl⟩) | (go_at_call_of 23 (Value.slice A1 ds.length a1); refine (HS1.out _ ?_).mono ?_; (first | exact OneS.below (by assumption) | exact S0.out.drew.below); rintro en x3 ⟨y3, rfl⟩) | (go_at_call_of 23 (Value.slice A3 es.length a3); refine (HS2.out _ ?_).mono ?_; (first | exact OneS.below (by assumption) | exact S0.out.drew.below); rintro en x4 ⟨y4, rfl⟩) | (go_at_call 24; refine (HTo.out _ ?_).mono ?_; (first | exact OneS.below (by assumption) | exact S0.out.drew.below); rintro en x5 ⟨rfl, rfl⟩) | (go_at_call 16; refine (HKn.out _).mono ?_; rintro en x6 ⟨y6, rfl⟩))
      have hHeld : OneS w4 w.heap.size 0 (.int .i64 N) x6 := by assumption
      have hBl := hHeld.below
      clear hHeld S0 HV HVr HS1 HS2 HTo HKn y6
      go_wp2
      go_ret
      exact ⟨p4.trans (hBl.mono p4.size), rfl⟩
    · have hne : (err ok != 0) = true := by rw [hk]; rfl
      generalize err ok = er at *
      clear hk HS HTo
      go_wp2_with fail
      refine wp_region_held_drew (S := (fun w' => w'.cell? ⟨w.heap.size, 0, none⟩ = some (.int .i64 N) ∧ Below w4.heap.size w4 w')) (by kernel_rfl) (S0.out.drew) (fun hHeld => ?_)
      refine take_d (i := 0) (d := some 52) (v := ?_) rfl rfl (by kernel_rfl) (by kernel_rfl) (by kernel_rfl) (fun _ _ _ h => h) (Or.inl ⟨by first | rfl | (simp [*, Region.wanted, yielded]), ?hy0⟩) (by assumption) ?rest0
      case hy0 => (intro w hSw; (try dsimp only at hSw); go_simp <;> with_reducible rfl)
      try simp only [Act.put, List.setIfInBounds_toArray, List.set_cons_zero, List.set_cons_succ]
      refine take_d (i := 2) (d := some 54) (v := ?_) rfl rfl (by kernel_rfl) (by kernel_rfl) (by kernel_rfl) (fun _ _ _ h => h) (Or.inl ⟨by first | rfl | (simp [*, Region.wanted, yielded]), ?hy2⟩) (by assumption) ?rest2
      case hy2 => (intro w hSw; (try dsimp only at hSw); go_simp <;> with_reducible rfl)
      try simp only [Act.put, List.setIfInBounds_toArray, List.set_cons_zero, List.set_cons_succ]
      refine wpAnyH_ready (rs := [1]) (by kernel_rfl) (by simp) ?_
      refine AllReadyH.cons (o := _) rfl (fun K hK => ?_) AllReadyH.nil
      go_simp
      refine (HV.out _ ?_).mono ?_
      · exact OneS.below (by assumption)
      rintro en x1 ⟨rfl, rfl⟩
      go_wp2_with fail
      refine hK.out _ _ (by assumption) (fun hHeld => ?_)
      clear hK K
      try simp only [Act.put, List.setIfInBounds_toArray, List.set_cons_zero, List.set_cons_succ]
      refine wpAnyH_ready (rs := [3]) (by kernel_rfl) (by simp) ?_
      refine AllReadyH.cons (o := _) rfl (fun K hK => ?_) AllReadyH.nil
      go_simp
      refine (HVr.out _ ?_).mono ?_
      · exact OneS.below (by assumption)
      rintro en x2 ⟨rfl, rfl⟩
      go_wp2_with fail
      refine hK.out _ _ (by assumption) (fun hHeld => ?_)
      clear hK K
      try simp only [Act.put, List.setIfInBounds_toArray, List.set_cons_zero, List.set_cons_succ]
      refine take_d (i := 4) (d := some 56) (v := ?_) rfl rfl (by kernel_rfl) (by kernel_rfl) (by kernel_rfl) (fun _ _ _ h => h) (Or.inl ⟨by first | rfl | (simp [*, Region.wanted, yielded]), ?hy4⟩) (by assumption) ?rest4
      case hy4 => (intro w hSw; (try dsimp only at hSw); go_simp <;> with_reducible rfl)
      try simp only [Act.put, List.setIfInBounds_toArray, List.set_cons_zero, List.set_cons_succ]
      refine take_d (i := 5) (d := some 57) (v := ?_) rfl rfl (by kernel_rfl) (by kernel_rfl) (by kernel_rfl) (fun _ _ _ h => h) (Or.inl ⟨by first | rfl | (simp [*, Region.wanted, yielded]), ?hy5⟩) (by assumption) ?rest5
      case hy5 => (intro w hSw; (try dsimp only at hSw); go_simp <;> with_reducible rfl)
      try simp only [Act.put, List.setIfInBounds_toArray, List.set_cons_zero, List.set_cons_succ]
      refine take_d (i := 6) (d := some 58) (v := ?_) rfl rfl (by kernel_rfl) (by kernel_rfl) (by kernel_rfl) (fun _ _ _ h => h) (Or.inl ⟨by first | rfl | (simp [*, Region.wanted, yielded]), ?hy6⟩) (by assumption) ?rest6
      case hy6 => (intro w hSw; (try dsimp only at hSw); go_simp <;> with_reducible rfl)
      try simp only [Act.put, List.setIfInBounds_toArray, List.set_cons_zero, List.set_cons_succ]
      refine take_d (i := 7) (d := some 59) (v := ?_) rfl rfl (by kernel_rfl) (by kernel_rfl) (by kernel_rfl) (fun _ _ _ h => h) (Or.inl ⟨by first | rfl | (simp [*, Region.wanted, yielded]), ?hy7⟩) (by assumption) ?rest7
      case hy7 => (intro w hSw; (try dsimp only at hSw); go_simp <;> with_reducible rfl)
      try simp only [Act.put, List.setIfInBounds_toArray, List.set_cons_zero, List.set_cons_succ]
      refine wpAnyH_ready (rs := [8]) (by kernel_rfl) (by simp) ?_
      refine AllReadyH.cons (o := _) rfl (fun K hK => ?_) AllReadyH.nil
      go_simp
      refine (HS1.out _ ?_).mono ?_
      · exact OneS.below (by assumption)
      rintro en x3 ⟨y3, rfl⟩
      go_wp2_with fail
      refine hK.out _ _ (OneS.keep (by assumption) y3) (fun hHeld => ?_)
      clear hK K
      try simp only [Act.put, List.setIfInBounds_toArray, List.set_cons_zero, List.set_cons_succ]
      refine take_d (i := 9) (d := some 61) (v := ?_) rfl rfl (by kernel_rfl) (by kernel_rfl) (by kernel_rfl) (fun _ _ _ h => h) (Or.inl ⟨by first | rfl | (simp [*, Region.wanted, yielded]), ?hy9⟩) (by assumption) ?rest9
      case hy9 => (intro w hSw; (try dsimp only at hSw); go_simp <;> with_reducible rfl)
      try simp only [Act.put, List.setIfInBounds_toArray, List.set_cons_zero, List.set_cons_succ]
      refine take_d (i := 10) (d := some 62) (v := ?_) rfl rfl (by kernel_rfl) (by kernel_rfl) (by kernel_rfl) (fun _ _ _ h => h) (Or.inl ⟨by first | rfl | (simp [*, Region.wanted, yielded]), ?hy10⟩) (by assumption) ?rest10
      case hy10 => (intro w hSw; (try dsimp only at hSw); go_simp <;> with_reducible rfl)
      try simp only [Act.put, List.setIfInBounds_toArray, List.set_cons_zero, List.set_cons_succ]
      refine take_d (i := 11) (d := some 63) (v := ?_) rfl rfl (by kernel_rfl) (by kernel_rfl) (by kernel_rfl) (fun _ _ _ h => h) (Or.inl ⟨by first | rfl | (simp [*, Region.wanted, yielded]), ?hy11⟩) (by assumption) ?rest11
      case hy11 => (intro w hSw; (try dsimp only at hSw); go_simp <;> with_reducible rfl)
      try simp only [Act.put, List.setIfInBounds_toArray, List.set_cons_zero, List.set_cons_succ]
      refine take_d (i := 12) (d := some 64) (v := ?_) rfl rfl (by kernel_rfl) (by kernel_rfl) (by kernel_rfl) (fun _ _ _ h => h) (Or.inl ⟨by first | rfl | (simp [*, Region.wanted, yielded]), ?hy12⟩) (by assumption) ?rest12
      case hy12 => (intro w hSw; (try dsimp only at hSw); go_simp <;> with_reducible rfl)
      try simp only [Act.put, List.setIfInBounds_toArray, List.set_cons_zero, List.set_cons_succ]
      refine take_d (i := 13) (d := some 65) (v := ?_) rfl rfl (by kernel_rfl) (by kernel_rfl) (by kernel_rfl) (fun _ _ _ h => h) (Or.inl ⟨by first | rfl | (simp [*, Region.wanted, yielded]), ?hy13⟩) (by assumption) ?rest13
      case hy13 => (intro w hSw; (try dsimp only at hSw); go_simp <;> with_reducible rfl)
      try simp only [Act.put, List.setIfInBounds_toArray, List.set_cons_zero, List.set_cons_succ]
      refine take_d (i := 14) (d := some 66) (v := ?_) rfl rfl (by kernel_rfl) (by kernel_rfl) (by kernel_rfl) (fun _ _ _ h => h) (Or.inl ⟨by first | rfl | (simp [*, Region.wanted, yielded]), ?hy14⟩) (by assumption) ?rest14
      case hy14 => (intro w hSw; (try dsimp only at hSw); go_simp <;> with_reducible rfl)
      try simp only [Act.put, List.setIfInBounds_toArray, List.set_cons_zero, List.set_cons_succ]
      refine take_d (i := 15) (d := some 67) (v := ?_) rfl rfl (by kernel_rfl) (by kernel_rfl) (by kernel_rfl) (fun _ _ _ h => h) (Or.inl ⟨by first | rfl | (simp [*, Region.wanted, yielded]), ?hy15⟩) (by assumption) ?rest15
      case hy15 => (intro w hSw; (try dsimp only at hSw); go_simp <;> with_reducible rfl)
      try simp only [Act.put, List.setIfInBounds_toArray, List.set_cons_zero, List.set_cons_succ]
      refine take_d (i := 16) (d := some 68) (v := ?_) rfl rfl (by kernel_rfl) (by kernel_rfl) (by kernel_rfl) (fun _ _ _ h => h) (Or.inl ⟨by first | rfl | (simp [*, Region.wanted, yielded]), ?hy16⟩) (by assumption) ?rest16
      case hy16 => (intro w hSw; (try dsimp only at hSw); go_simp <;> with_reducible rfl)
      try simp only [Act.put, List.setIfInBounds_toArray, List.set_cons_zero, List.set_cons_succ]
      refine take_d (i := 17) (d := some 69) (v := ?_) rfl rfl (by kernel_rfl) (by kernel_rfl) (by kernel_rfl) (fun _ _ _ h => h) (Or.inl ⟨by first | rfl | (simp [*, Region.wanted, yielded]), ?hy17⟩) (by assumption) ?rest17
      case hy17 => (intro w hSw; (try dsimp only at hSw); go_simp <;> with_reducible rfl)
      try simp only [Act.put, List.setIfInBounds_toArray, List.set_cons_zero, List.set_cons_succ]
      refine wpAnyH_ready (rs := [18]) (by kernel_rfl) (by simp) ?_
      refine AllReadyH.cons (o := _) rfl (fun K hK => ?_) AllReadyH.nil
      go_simp
      refine (HS2.out _ ?_).mono ?_
      · exact OneS.below (by assumption)
      rintro en x4 ⟨y4, rfl⟩
      go_wp2_with fail
      refine hK.out _ _ (OneS.keep (by assumption) y4) (fun hHeld => ?_)
      clear hK K
      try simp only [Act.put, List.setIfInBounds_toArray, List.set_cons_zero, List.set_cons_succ]
      refine take_d (i := 19) (d := some 71) (v := ?_) rfl rfl (by kernel_rfl) (by kernel_rfl) (by kernel_rfl) (fun _ _ _ h => h) (Or.inl ⟨by first | rfl | (simp [*, Region.wanted, yielded]), ?hy19⟩) (by assumption) ?rest19
      case hy19 => (intro w hSw; (try dsimp only at hSw); go_simp <;> with_reducible rfl)
      try simp only [Act.put, List.setIfInBounds_toArray, List.set_cons_zero, List.set_cons_succ]
      refine take_d (i := 20) (d := some 72) (v := ?_) rfl rfl (by kernel_rfl) (by kernel_rfl) (by kernel_rfl) (fun _ _ _ h => h) (Or.inl ⟨by first | rfl | (simp [*, Region.wanted, yielded]), ?hy20⟩) (by assumption) ?rest20
      case hy20 => (intro w hSw; (try dsimp only at hSw); go_simp <;> with_reducible rfl)
      try simp only [Act.put, List.setIfInBounds_toArray, List.set_cons_zero, List.set_cons_succ]
      refine take_d (i := 21) (d := some 73) (v := ?_) rfl rfl (by kernel_rfl) (by kernel_rfl) (by kernel_rfl) (fun _ _ _ h => h) (Or.inl ⟨by first | rfl | (simp [*, Region.wanted, yielded]), ?hy21⟩) (by assumption) ?rest21
      case hy21 => (intro w hSw; (try dsimp only at hSw); go_simp <;> with_reducible rfl)
      try simp only [Act.put, List.setIfInBounds_toArray, List.set_cons_zero, List.set_cons_succ]
      refine take_d (i := 22) (d := some 74) (v := ?_) rfl rfl (by kernel_rfl) (by kernel_rfl) (by kernel_rfl) (fun _ _ _ h => h) (Or.inl ⟨by first | rfl | (simp [*, Region.wanted, yielded]), ?hy22⟩) (by assumption) ?rest22
      case hy22 => (intro w hSw; (try dsimp only at hSw); go_simp <;> with_reducible rfl)
      try simp only [Act.put, List.setIfInBounds_toArray, List.set_cons_zero, List.set_cons_succ]
      refine take_d (i := 23) (d := some 75) (v := ?_) rfl rfl (by kernel_rfl) (by kernel_rfl) (by kernel_rfl) (fun _ _ _ h => h) (Or.inl ⟨by first | rfl | (simp [*, Region.wanted, yielded]), ?hy23⟩) (by assumption) ?rest23
      case hy23 => (intro w hSw; (try dsimp only at hSw); go_simp <;> with_reducible rfl)
      try simp only [Act.put, List.setIfInBounds_toArray, List.set_cons_zero, List.set_cons_succ]
      refine take_d (i := 24) (d := some 76) (v := ?_) rfl rfl (by kernel_rfl) (by kernel_rfl) (by kernel_rfl) (fun _ _ _ h => h) (Or.inl ⟨by first | rfl | (simp [*, Region.wanted, yielded]), ?hy24⟩) (by assumption) ?rest24
      case hy24 => (intro w hSw; (try dsimp only at hSw); go_simp <;> with_reducible rfl)
      try simp only [Act.put, List.setIfInBounds_toArray, List.set_cons_zero, List.set_cons_succ]
      refine take_d (i := 25) (d := some 77) (v := ?_) rfl rfl (by kernel_rfl) (by kernel_rfl) (by kernel_rfl) (fun _ _ _ h => h) (Or.inl ⟨by first | rfl | (simp [*, Region.wanted, yielded]), ?hy25⟩) (by assumption) ?rest25
      case hy25 => (intro w hSw; (try dsimp only at hSw); go_simp <;> with_reducible rfl)
      try simp only [Act.put, List.setIfInBounds_toArray, List.set_cons_zero, List.set_cons_succ]
      refine take_d (i := 26) (d := some 78) (v := ?_) rfl rfl (by kernel_rfl) (by kernel_rfl) (by kernel_rfl) (fun _ _ _ h => h) (Or.inl ⟨by first | rfl | (simp [*, Region.wanted, yielded]), ?hy26⟩) (by assumption) ?rest26
      case hy26 => (intro w hSw; (try dsimp only at hSw); go_simp <;> with_reducible rfl)
      try simp only [Act.put, List.setIfInBounds_toArray, List.set_cons_zero, List.set_cons_succ]
      refine take_d (i := 27) (d := some 79) (v := ?_) rfl rfl (by kernel_rfl) (by kernel_rfl) (by kernel_rfl) (fun _ _ _ h => h) (Or.inl ⟨by first | rfl | (simp [*, Region.wanted, yielded]), ?hy27⟩) (by assumption) ?rest27
      case hy27 => (intro w hSw; (try dsimp only at hSw); go_simp <;> with_reducible rfl)
      try simp only [Act.put, List.setIfInBounds_toArray, List.set_cons_zero, List.set_cons_succ]
      refine take_d (i := 28) (d := some 80) (v := ?_) rfl rfl (by kernel_rfl) (by kernel_rfl) (by kernel_rfl) (fun _ _ _ h => h) (Or.inl ⟨by first | rfl | (simp [*, Region.wanted, yielded]), ?hy28⟩) (by assumption) ?rest28
      case hy28 => (intro w hSw; (try dsimp only at hSw); go_simp <;> with_reducible rfl)
      try simp only [Act.put, List.setIfInBounds_toArray, List.set_cons_zero, List.set_cons_succ]
      refine take_d (i := 29) (d := some 81) (v := undef) rfl rfl (by kernel_rfl) (by kernel_rfl) (by kernel_rfl) (fun _ _ _ h => h) (Or.inr ⟨by first | rfl | (simp [*, Region.wanted, yielded]), rfl⟩) (by assumption) ?rest29
      try simp only [Act.put, List.setIfInBounds_toArray, List.set_cons_zero, List.set_cons_succ]
      refine take_d (i := 30) (d := some 82) (v := undef) rfl rfl (by kernel_rfl) (by kernel_rfl) (by kernel_rfl) (fun _ _ _ h => h) (Or.inr ⟨by first | rfl | (simp [*, Region.wanted, yielded]), rfl⟩) (by assumption) ?rest30
      try simp only [Act.put, List.setIfInBounds_toArray, List.set_cons_zero, List.set_cons_succ]
      refine take_d (i := 31) (d := some 83) (v := undef) rfl rfl (by kernel_rfl) (by kernel_rfl) (by kernel_rfl) (fun _ _ _ h => h) (Or.inr ⟨by first | rfl | (simp [*, Region.wanted, yielded]), rfl⟩) (by assumption) ?rest31
      try simp only [Act.put, List.setIfInBounds_toArray, List.set_cons_zero, List.set_cons_succ]
      refine take_d (i := 32) (d := some 84) (v := undef) rfl rfl (by kernel_rfl) (by kernel_rfl) (by kernel_rfl) (fun _ _ _ h => h) (Or.inr ⟨by first | rfl | (simp [*, Region.wanted, yielded]), rfl⟩) (by assumption) ?rest32
      try simp only [Act.put, List.setIfInBounds_toArray, List.set_cons_zero, List.set_cons_succ]
      refine take_d (i := 33) (d := some 85) (v := undef) rfl rfl (by kernel_rfl) (by kernel_rfl) (by kernel_rfl) (fun _ _ _ h => h) (Or.inr ⟨by first | rfl | (simp [*, Region.wanted, yielded]), rfl⟩) (by assumption) ?rest33
      try simp only [Act.put, List.setIfInBounds_toArray, List.set_cons_zero, List.set_cons_succ]
      refine take_d (i := 34) (d := some 86) (v := undef) rfl rfl (by kernel_rfl) (by kernel_rfl) (by kernel_rfl) (fun _ _ _ h => h) (Or.inr ⟨by first | rfl | (simp [*, Region.wanted, yielded]), rfl⟩) (by assumption) ?rest34
      try simp only [Act.put, List.setIfInBounds_toArray, List.set_cons_zero, List.set_cons_succ]
      refine take_d (i := 35) (d := some 87) (v := undef) rfl rfl (by kernel_rfl) (by kernel_rfl) (by kernel_rfl) (fun _ _ _ h => h) (Or.inr ⟨by first | rfl | (simp [*, Region.wanted, yielded]), rfl⟩) (by assumption) ?rest35
      try simp only [Act.put, List.setIfInBounds_toArray, List.set_cons_zero, List.set_cons_succ]
      refine take_d (i := 36) (d := some 88) (v := undef) rfl rfl (by kernel_rfl) (by kernel_rfl) (by kernel_rfl) (fun _ _ _ h => h) (Or.inr ⟨by first | rfl | (simp [*, Region.wanted, yielded]), rfl⟩) (by assumption) ?rest36
      try simp only [Act.put, List.setIfInBounds_toArray, List.set_cons_zero, List.set_cons_succ]
      refine take_d (i := 37) (d := some 89) (v := undef) rfl rfl (by kernel_rfl) (by kernel_rfl) (by kernel_rfl) (fun _ _ _ h => h) (Or.inr ⟨by first | rfl | (simp [*, Region.wanted, yielded]), rfl⟩) (by assumption) ?rest37
      try simp only [Act.put, List.setIfInBounds_toArray, List.set_cons_zero, List.set_cons_succ]
      refine take_d (i := 38) (d := some 90) (v := undef) rfl rfl (by kernel_rfl) (by kernel_rfl) (by kernel_rfl) (fun _ _ _ h => h) (Or.inr ⟨by first | rfl | (simp [*, Region.wanted, yielded]), rfl⟩) (by assumption) ?rest38
      try simp only [Act.put, List.setIfInBounds_toArray, List.set_cons_zero, List.set_cons_succ]
      refine take_d (i := 39) (d := some 91) (v := undef) rfl rfl (by kernel_rfl) (by kernel_rfl) (by kernel_rfl) (fun _ _ _ h => h) (Or.inr ⟨by first | rfl | (simp [*, Region.wanted, yielded]), rfl⟩) (by assumption) ?rest39
      try simp only [Act.put, List.setIfInBounds_toArray, List.set_cons_zero, List.set_cons_succ]
      refine take_d (i := 40) (d := some 92) (v := undef) rfl rfl (by kernel_rfl) (by kernel_rfl) (by kernel_rfl) (fun _ _ _ h => h) (Or.inr ⟨by first | rfl | (simp [*, Region.wanted, yielded]), rfl⟩) (by assumption) ?rest40
      try simp only [Act.put, List.setIfInBounds_toArray, List.set_cons_zero, List.set_cons_succ]
      refine take_d (i := 41) (d := some 93) (v := ?_) rfl rfl (by kernel_rfl) (by kernel_rfl) (by kernel_rfl) (fun _ _ _ h => h) (Or.inl ⟨by first | rfl | (simp [*, Region.wanted, yielded]), ?hy41⟩) (by assumption) ?rest41
      case hy41 => (intro w hSw; (try dsimp only at hSw); go_simp <;> with_reducible rfl)
      try simp only [Act.put, List.setIfInBounds_toArray, List.set_cons_zero, List.set_cons_succ]
      refine take_d (i := 42) (d := some 94) (v := ?_) rfl rfl (by kernel_rfl) (by kernel_rfl) (by kernel_rfl) (fun _ _ _ h => h) (Or.inl ⟨by first | rfl | (simp [*, Region.wanted, yielded]), ?hy42⟩) (by assumption) ?rest42
      case hy42 => (intro w hSw; (try dsimp only at hSw); go_simp <;> with_reducible rfl)
      try simp only [Act.put, List.setIfInBounds_toArray, List.set_cons_zero, List.set_cons_succ]
      refine take_d (i := 43) (d := some 95) (v := ?_) rfl rfl (by kernel_rfl) (by kernel_rfl) (by kernel_rfl) (fun _ _ _ h => h) (Or.inl ⟨by first | rfl | (simp [*, Region.wanted, yielded]), ?hy43⟩) (by assumption) ?rest43
      case hy43 => (intro w hSw; (try dsimp only at hSw); go_simp <;> with_reducible rfl)
      try simp only [Act.put, List.setIfInBounds_toArray, List.set_cons_zero, List.set_cons_succ]
      refine wpAnyH_ready (rs := [44]) (by kernel_rfl) (by simp) ?_
      refine AllReadyH.cons (o := _) rfl (fun K hK => ?_) AllReadyH.nil
      go_simp
      refine (HKn.out _).mono ?_
      rintro en x6 ⟨y6, rfl⟩
      go_wp2_with fail
      refine hK.out _ _ (OneS.keep (by assumption) y6) (fun hHeld => ?_)
      clear hK K
      try simp only [Act.put, List.setIfInBounds_toArray, List.set_cons_zero, List.set_cons_succ]
      refine take_d (i := 45) (d := some 97) (v := ?_) rfl rfl (by kernel_rfl) (by kernel_rfl) (by kernel_rfl) (fun _ _ _ h => h) (Or.inl ⟨by first | rfl | (simp [*, Region.wanted, yielded]), ?hy45⟩) (by assumption) ?rest45
      case hy45 => (intro w hSw; (try dsimp only at hSw); go_simp <;> with_reducible rfl)
      try simp only [Act.put, List.setIfInBounds_toArray, List.set_cons_zero, List.set_cons_succ]
      refine take_d (i := 46) (d := some 4) (v := ?_) rfl rfl (by kernel_rfl) (by kernel_rfl) (by kernel_rfl) (fun _ _ _ h => h) (Or.inl ⟨by first | rfl | (simp [*, Region.wanted, yielded]), ?hy46⟩) (by assumption) ?rest46
      case hy46 => (intro w hSw; (try dsimp only at hSw); go_simp <;> with_reducible rfl)
      try simp only [Act.put, List.setIfInBounds_toArray, List.set_cons_zero, List.set_cons_succ]
      refine wpAnyH_done (by kernel_rfl) ?_ _
      go_simp
      have hHeld : OneS w4 w.heap.size 0 (.int .i64 N) x6 := by assumption
      have hBl := hHeld.below
      clear hHeld S0 HV HVr HS1 HS2 HKn y6
      go_wp2
      go_ret
      exact ⟨p4.trans (hBl.mono p4.size), rfl⟩
end Go.Proofs.Ytegeojlmpjepjaa
