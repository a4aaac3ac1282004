/- The document's own Check of chapter 4. -/
import Derived.Test.YtnjaacmcdkiilaaShX
import Derived.Test.YtnjaacmcdkiilaaShW
set_option linter.unusedVariables false
namespace Go.Proofs.Ytnjaacmcdkiilaa
open Go.RowKit

theorem rdivides_any (kind : Int) (oa ma : Option Addr) (os ms : List Int) (oc mc : Nat) (p q : Int) (w : World) (ho : Ints w oa os) (hm : Ints w ma ms) (g1 : okO os = true) (g2 : okMs os ms = true) (g3 : okK kind = true) (p1 : 1 ≤ p) (p2 : p ≤ 1000000000) (q1 : 1 ≤ q) (q2 : q ≤ 1000000000) :
  Calls Try.prog 61 #[.slice oa os.length oc, .slice ma ms.length mc, .int .i64 kind, .agg #[.int .i64 p, .int .i64 q]] w (BoolR w (provM kind os ms p q)) := by
  by_cases h : kind = 1
  · exact rdivides_half kind oa ma os ms oc mc p q w ho hm g1 g2 g3 p1 p2 q1 q2 h
  · exact rdivides_other kind oa ma os ms oc mc p q w ho hm g1 g2 g3 p1 p2 q1 q2 h

set_option maxRecDepth 100000 in
set_option maxHeartbeats 8000000 in
theorem rcheck4_any (oa ma : Option Addr) (os ms : List Int) (oc mc : Nat) (kind p q : Int) (w : World) (ho : Ints w oa os) (hm : Ints w ma ms) :
  Calls Try.prog 28 #[.slice oa os.length oc, .slice ma ms.length mc, .int .i64 kind, .agg #[.int .i64 p, .int .i64 q]] w (IntR w (checkE os ms kind p q)) := by
  have hB0 := (Below.refl w.heap.size w).alloc (Nat.le_refl _) (.cells #[.int .i64 p, .int .i64 q] 39)
  have hc0 : (w.alloc (.cells #[.int .i64 p, .int .i64 q] 39)).cell? ⟨w.heap.size, 0, none⟩ = some (.int .i64 p) := by go_simp
  have hc1 : (w.alloc (.cells #[.int .i64 p, .int .i64 q] 39)).cell? ⟨w.heap.size, 1, none⟩ = some (.int .i64 q) := by go_simp
  have HV := hid (fun (w' : World) (hb : Below w.heap.size w w') => have_any oa ma os ms oc mc kind w' (ho.below hb) (hm.below hb))
  rw [show (okO os && okMs os ms && okK kind) = goodV os ms kind from rfl] at HV
  cases hd : goodV os ms kind with
  | false =>
    have HD := hid (show checkE os ms kind p q = 1 by rw [checkE, if_pos hd])
    rw [hd] at HV
    clear hd ho hm hc0 hc1
    go_enter Try.func28, Try.ntmps28
    go_wp2_with fail
    refine (HV.out _ hB0).mono ?_
    rintro e w' ⟨rfl, rfl⟩
    rw [show err false = 1 from rfl]
    go_wp2
    go_ret
    exact ⟨hB0, by rw [HD.out]; rfl⟩
  | true =>
    obtain ⟨g1, g2, g3⟩ := goodV_ok hd
    have HE := hid (show checkE os ms kind p q = if formB p q = false then 1 else if provM kind os ms p q = false then 8 else 0 by rw [checkE, if_neg (by rw [hd]; simp)])
    rw [hd] at HV
    have HDv := hid (fun (w' : World) (hb : Below w.heap.size w w') (p1 : 1 ≤ p) (p2 : p ≤ 1000000000) (q1 : 1 ≤ q) (q2 : q ≤ 1000000000) => rdivides_any kind oa ma os ms oc mc p q w' (ho.below hb) (hm.below hb) g1 g2 g3 p1 p2 q1 q2)
    clear hd ho hm g1 g2 g3
    by_cases p1 : p < 1
    · have HD := hid (show checkE os ms kind p q = 1 by rw [HE.out, if_pos (by rw [formB, show inW p 1 1000000000 = false by simp [inW]; omega]; rfl)])
      clear HDv HE
      go_enter Try.func28, Try.ntmps28
      go_wp2_with fail
      refine (HV.out _ hB0).mono ?_
      rintro e w' ⟨rfl, rfl⟩
      rw [show err true = 0 from rfl]
      go_wp2
      go_ret
      exact ⟨hB0, by rw [HD.out]; rfl⟩
    · by_cases p2 : 1000000000 < p
      · have HD := hid (show checkE os ms kind p q = 1 by rw [HE.out, if_pos (by rw [formB, show inW p 1 1000000000 = false by simp [inW]; omega]; rfl)])
        have p1' : 1 ≤ p := by omega
        clear HDv HE p1
        go_enter Try.func28, Try.ntmps28
        go_wp2_with fail
        refine (HV.out _ hB0).mono ?_
        rintro e w' ⟨rfl, rfl⟩
        rw [show err true = 0 from rfl]
        go_wp2
        go_ret
        exact ⟨hB0, by rw [HD.out]; rfl⟩
      · by_cases q1 : q < 1
        · have HD := hid (show checkE os ms kind p q = 1 by rw [HE.out, if_pos (by rw [formB, show inW q 1 1000000000 = false by simp [inW]; omega]; simp)])
          have p1' : 1 ≤ p := by omega
          have p2' : p ≤ 1000000000 := by omega
          clear HDv HE p1 p2
          go_enter Try.func28, Try.ntmps28
          go_wp2_with fail
          refine (HV.out _ hB0).mono ?_
          rintro e w' ⟨rfl, rfl⟩
          rw [show err true = 0 from rfl]
          go_wp2
          go_ret
          exact ⟨hB0, by rw [HD.out]; rfl⟩
        · by_cases q2 : 1000000000 < q
          · have HD := hid (show checkE os ms kind p q = 1 by rw [HE.out, if_pos (by rw [formB, show inW q 1 1000000000 = false by simp [inW]; omega]; simp)])
            have p1' : 1 ≤ p := by omega
            have p2' : p ≤ 1000000000 := by omega
            have q1' : 1 ≤ q := by omega
            clear HDv HE p1 p2 q1
            go_enter Try.func28, Try.ntmps28
            go_wp2_with fail
            refine (HV.out _ hB0).mono ?_
            rintro e w' ⟨rfl, rfl⟩
            rw [show err true = 0 from rfl]
            go_wp2
            go_ret
            exact ⟨hB0, by rw [HD.out]; rfl⟩
          · have p1' : 1 ≤ p := by omega
            have p2' : p ≤ 1000000000 := by omega
            have q1' : 1 ≤ q := by omega
            have q2' : q ≤ 1000000000 := by omega
            have HPr := hid (fun (w' : World) (hb : Below w.heap.size w w') => HDv.out w' hb p1' p2' q1' q2')
            obtain ⟨P, rfl⟩ := Int.eq_ofNat_of_zero_le (by omega : 0 ≤ p)
            obtain ⟨Q, rfl⟩ := Int.eq_ofNat_of_zero_le (by omega : 0 ≤ q)
            have HG := hid (fun w => rgcd_any P Q w (by omega) (by omega))
            have hF : formB (P : Int) (Q : Int) = decide (((Nat.gcd P Q : Nat) : Int) = 1) := by
              rw [formB, show inW (P : Int) 1 1000000000 = true by simp [inW]; omega, show inW (Q : Int) 1 1000000000 = true by simp [inW]; omega, Int.toNat_natCast, Int.toNat_natCast, Bool.and_self, Bool.true_and, decide_eq_decide]; omega
            rw [hF] at HE
            clear HDv hF p1 p2 q1 q2
            generalize ((Nat.gcd P Q : Nat) : Int) = g at *
            generalize provM kind os ms (P : Int) (Q : Int) = pr at *
            by_cases hg : g = 1
            · have HE2 := hid (show checkE os ms kind (P : Int) (Q : Int) = if pr = false then 8 else 0 by rw [HE.out, if_neg (by simp [hg])])
              subst hg
              clear HE
              cases hpr : pr
              · have HX := hid (show checkE os ms kind (P : Int) (Q : Int) = 8 by rw [HE2.out, if_pos hpr])
                rw [hpr] at HPr
                clear hpr HE2
                go_enter Try.func28, Try.ntmps28
                go_wp2_with fail
                refine (HV.out _ hB0).mono ?_
                rintro e w' ⟨rfl, rfl⟩
                rw [show err true = 0 from rfl]
                go_wp2_with fail
                refine (HG.out _).mono ?_
                rintro e w' ⟨rfl, rfl⟩
                go_wp2_with fail
                refine (HPr.out _ hB0).mono ?_
                rintro e w1 ⟨z1, rfl⟩
                go_wp2
                go_ret
                exact ⟨hB0.trans (z1.mono (by simp)), by rw [HX.out]; rfl⟩
              · have HX := hid (show checkE os ms kind (P : Int) (Q : Int) = 0 by rw [HE2.out, if_neg (by simp [hpr])])
                rw [hpr] at HPr
                clear hpr HE2
                go_enter Try.func28, Try.ntmps28
                go_wp2_with fail
                refine (HV.out _ hB0).mono ?_
                rintro e w' ⟨rfl, rfl⟩
                rw [show err true = 0 from rfl]
                go_wp2_with fail
                refine (HG.out _).mono ?_
                rintro e w' ⟨rfl, rfl⟩
                go_wp2_with fail
                refine (HPr.out _ hB0).mono ?_
                rintro e w1 ⟨z1, rfl⟩
                go_wp2
                go_ret
                exact ⟨hB0.trans (z1.mono (by simp)), by rw [HX.out]; rfl⟩
            · have HX := hid (show checkE os ms kind (P : Int) (Q : Int) = 1 by rw [HE.out, if_pos (by simp [hg])])
              have hg' : (g != 1) = true := by simp [hg]
              clear HE hg HPr
              go_enter Try.func28, Try.ntmps28
              go_wp2_with fail
              refine (HV.out _ hB0).mono ?_
              rintro e w' ⟨rfl, rfl⟩
              rw [show err true = 0 from rfl]
              go_wp2_with fail
              refine (HG.out _).mono ?_
              rintro e w' ⟨rfl, rfl⟩
              go_wp2
              go_ret
              exact ⟨hB0, by rw [HX.out]; rfl⟩
end Go.Proofs.Ytnjaacmcdkiilaa
