/- Quotas: package share's and the document's own. -/
import Derived.Test.YtnjaacmcdkiilaaShQ
import Derived.Test.YtnjaacmcdkiilaaShSmall
set_option linter.unusedVariables false
namespace Go.Proofs.Ytnjaacmcdkiilaa
open Go.RowKit

/-- What a cell holds, whatever it is. -/
def rv (w : World) (p : Addr) : Value := match w.cell? p with | some v => v | none => .bool false
theorem rv_some {w : World} {p : Addr} {v : Value} (h : w.cell? p = some v) : w.cell? p = some (rv w p) := by
  unfold rv; rw [h]
theorem rv_below {w w' : World} {p : Addr} {v : Value} (h : w.cell? p = some v) (hb : Below w.heap.size w w') : w'.cell? p = some (rv w' p) := rv_some (by rw [hb.cell (cell_lt h)]; exact h)
theorem rv_store {w : World} {p q : Addr} {v u : Value} (h : w.cell? q = some u) : (w.setCell p v).cell? q = some (rv (w.setCell p v) q) := by
  obtain ⟨v', hv⟩ := cell?_setCell_some (p := p) (x := v) h
  exact rv_some hv
theorem unset_some {w : World} {p q : Addr} {v u : Value} (h : (w.setCell p v).cell? q = some u) : w.cell? q = some (rv w q) := by
  cases hc : w.cell? q with
  | some x => exact hc ▸ rv_some hc
  | none =>
    exfalso
    by_cases e : p = q
    · subst e
      unfold World.cell? at h hc
      unfold World.setCell at h
      simp only [Array.getElem?_modify, if_pos] at h
      cases hb : w.heap[p.block]? with
      | none => rw [hb] at h; simp at h
      | some o =>
        rw [hb] at h hc
        cases o <;> simp at h hc
        split at h <;> simp_all
    · rw [World.cell?_setCell_other _ _ _ _ e, hc] at h; cases h

def QuoS (w0 : World) (g b o : Nat) (x : Int) (w : World) : Prop := w.cell? ⟨b, o, none⟩ = some (.int .i64 x) ∧ w.cell? ⟨g, 0, none⟩ = some (rv w ⟨g, 0, none⟩) ∧ w.cell? ⟨g, 1, none⟩ = some (rv w ⟨g, 1, none⟩) ∧ w.frozen? ⟨g, 0, none⟩ = false ∧ w.frozen? ⟨g, 1, none⟩ = false ∧ Below w0.heap.size w0 w
theorem QuoS.keep {w0 : World} {g b o : Nat} {x : Int} {w w2 : World} (h : QuoS w0 g b o x w) (hb : Below w.heap.size w w2) : QuoS w0 g b o x w2 := by
  obtain ⟨a0, b0, b1, c0, c1, p⟩ := h
  exact ⟨by rw [hb.cell (cell_lt a0)]; exact a0, rv_below b0 hb, rv_below b1 hb, by rw [hb.frozen (cell_lt b0)]; exact c0, by rw [hb.frozen (cell_lt b1)]; exact c1, p.trans (hb.mono p.size)⟩
theorem QuoS.drew {w0 : World} {g b o : Nat} {x : Int} {w : World} (h : QuoS w0 g b o x w) : QuoS w0 g b o x w.drew := h.keep (Below.refl _ _).drew
theorem QuoS.below {w0 : World} {g b o : Nat} {x : Int} {w : World} (h : QuoS w0 g b o x w) : Below w0.heap.size w0 w := h.2.2.2.2.2
theorem QuoS.store {w0 : World} {g b o : Nat} {x : Int} {w : World} (h : QuoS w0 g b o x w) (hg : w0.heap.size ≤ g) (hb : b < g) (i : Nat) (v : Value) : QuoS w0 g b o x (w.setCell ⟨g, i, none⟩ v) := by
  obtain ⟨a0, b0, b1, c0, c1, p⟩ := h
  exact ⟨by rw [World.cell?_setCell_far _ _ _ _ (by simp; omega)]; exact a0, rv_store b0, rv_store b1, by rw [World.frozen?_setCell]; exact c0, by rw [World.frozen?_setCell]; exact c1, p.setCell (by simp; omega) _⟩

def quoE (os : List Int) (n s : Int) : Int := if (okO os && inW n 0 1000) = false then 1 else if inW s 0 ((os.length : Int) - 1) = false then 5 else 0
def quoL (os : List Int) (n s : Int) : Int × Int := if quoE os n s = 0 then fracL (n * at0 os s.toNat).toNat (sumL os).toNat else (0, 0)
def RatE (w : World) (p : Int × Int) (e : Int) (en : Ending) (w' : World) : Prop := Below w.heap.size w w' ∧ en = .returned (.tuple #[.agg #[.int .i64 p.1, .int .i64 p.2], .int .i64 e])
theorem okO_vals {os : List Int} (h : okO os = true) : (∀ x ∈ os, 1 ≤ x ∧ x ≤ 1000000) ∧ 1 ≤ sumL os ∧ sumL os ≤ 8000000 := by
  obtain ⟨h1, h2, h3⟩ := okO_len h
  have hv : ∀ x ∈ os, 1 ≤ x ∧ x ≤ 1000000 := fun x hx => by have := List.all_eq_true.1 h3 x hx; simpa [inW] using this
  have := sumL_bd hv
  exact ⟨hv, by omega, by omega⟩
theorem quoE_ok {os : List Int} {n s : Int} (h : quoE os n s = 0) : okO os = true ∧ ∃ m k : Nat, n = (m : Int) ∧ m ≤ 1000 ∧ s = (k : Int) ∧ k < os.length := by
  unfold quoE at h
  split at h
  · omega
  · split at h
    · omega
    · rename_i h1 h2
      simp only [Bool.not_eq_false, Bool.and_eq_true] at h1 h2
      have h3 : 0 ≤ n ∧ n ≤ 1000 := by simpa [inW] using h1.2
      have h4 : 0 ≤ s ∧ s ≤ (os.length : Int) - 1 := by simpa [inW] using h2
      exact ⟨h1.1, n.toNat, s.toNat, by omega, by omega, by omega, by omega⟩

set_option maxRecDepth 100000 in
set_option maxHeartbeats 4000000 in
theorem quota_ok (a : Option Addr) (os : List Int) (cap m k : Nat) (w : World) (h : Ints w a os) (ho : okO os = true) (hm : m ≤ 1000) (hk : k < os.length) :
  Calls Try.prog 32 #[.slice a os.length cap, .int .i64 (m : Int), .int .i64 (k : Int)] w (RatE w (fracL ((m : Int) * at0 os k).toNat (sumL os).toNat) 0) := by
  have HV := hid (fun (w' : World) (hb : Below w.heap.size w w') => checkNumber_any a os cap (m : Int) w' (h.below hb))
  rw [ho, show inW (m : Int) 0 1000 = true by simp [inW]; omega] at HV
  have HI := hid (fun w => isWithin_any (k : Int) 0 ((os.length : Int) - 1) w)
  rw [show inW (k : Int) 0 ((os.length : Int) - 1) = true by simp [inW]; omega] at HI
  obtain ⟨v1, s1, s2⟩ := okO_vals ho
  obtain ⟨h1, h2, h3⟩ := okO_len ho
  have hx := allIn_at h3 k hk
  rcases h.at_ with e | ⟨b, off, rfl, hc⟩
  · rw [e] at hk; simp at hk
  have c0 := hc k hk
  have hbl : b < w.heap.size := cell_lt c0
  have HSu := hid (fun (w' : World) (hb : Below w.heap.size w w') => sum_any (some ⟨b, off, none⟩) os cap w' (h.below hb) (fun x hx => by have := v1 x hx; omega) (by omega))
  unfold at0
  generalize os[k]?.getD 0 = x at *
  have hp1 : 0 ≤ (m : Int) * x := Int.mul_nonneg (by omega) (by omega)
  have hp2 : (m : Int) * x ≤ 1000000000 := by
    have := Int.mul_le_mul (show (m : Int) ≤ 1000 by omega) hx.2 (by omega) (by omega : (0 : Int) ≤ 1000)
    omega
  generalize hpn : (m : Int) * x = pr at *
  obtain ⟨P, rfl⟩ := Int.eq_ofNat_of_zero_le hp1
  generalize sumL os = S at *
  obtain ⟨T, rfl⟩ := Int.eq_ofNat_of_zero_le (by omega : 0 ≤ S)
  have HLo := hid (fun w => lowest_any P T w (by omega) (by omega) (by omega))
  rw [Int.toNat_natCast, Int.toNat_natCast]
  generalize hfr : fracL P T = fr at *
  have HPn := hid hpn
  have S0 := hid (show QuoS w w.heap.size b (off + k) x (w.alloc (.cells #[.int .i64 0, .int .i64 0] 39)) from
    ⟨by rw [((Below.refl w.heap.size w).alloc (Nat.le_refl _) _).cell hbl]; exact c0, rv_some (v := .int .i64 0) (by go_simp), rv_some (v := .int .i64 0) (by go_simp), by go_simp, by go_simp, (Below.refl _ _).alloc (Nat.le_refl _) _⟩)
  have hk0 : (0 : Int) ≤ (k : Int) := Int.natCast_nonneg _
  have hk1 : (k : Int) < (os.length : Int) := by omega
  have hwr : IntKind.i64.wrap ((m : Int) * x) = (P : Int) := by rw [hpn]; exact IntWalk.i64_in _ (by omega)
  clear c0 hc h hpn hfr v1 h3 ho hp1 hp2
  go_enter Try.func32, Try.ntmps32
  go_wp2_with fail
  refine (HV.out _ S0.out.below).mono ?_
  rintro e w' ⟨rfl, rfl⟩
  rw [show err (true && true) = 0 from rfl]
  go_wp2_with fail
  refine (HI.out _).mono ?_
  rintro e w' ⟨rfl, rfl⟩
  go_wp2_with fail
  go_region_held3 (fun w' => w'.cell? ⟨b, off + k, none⟩ = some (.int .i64 x) ∧ w'.cell? ⟨w.heap.size, 0, none⟩ = some (rv w' ⟨w.heap.size, 0, none⟩) ∧ w'.cell? ⟨w.heap.size, 1, none⟩ = some (rv w' ⟨w.heap.size, 1, none⟩) ∧ w'.frozen? ⟨w.heap.size, 0, none⟩ = false ∧ w'.frozen? ⟨w.heap.size, 1, none⟩ = false ∧ Below w.heap.size w w') (first | assumption | exact S0.out.drew | exact S0.out | exact QuoS.keep (by assumption) (by assumption) | exact QuoS.store (QuoS.store (by assumption) (Nat.le_refl _) hbl _ _) (Nat.le_refl _) hbl _ _)
    (first | (go_at_call 71; refine (HSu.out _ ?_).mono ?_; (first | exact QuoS.below (by assumption) | exact S0.out.drew.below); rintro en x1 ⟨rfl, rfl⟩) | (go_at_call 66; refine (HLo.out _).mono ?_; rintro en w5 ⟨hb5, rfl⟩))
  have hHeld : QuoS w w.heap.size b (off + k) x ((w5.setCell ⟨w.heap.size, 0, none⟩ (.int .i64 fr.1)).setCell ⟨w.heap.size, 1, none⟩ (.int .i64 fr.2)) := by assumption
  obtain ⟨_, b0, b1, _, _, p⟩ := hHeld
  have d0 := unset_some (unset_some b0)
  have d1 := unset_some (unset_some b1)
  obtain ⟨t0, t1⟩ := set2_cells w5 w.heap.size (.int .i64 fr.1) (.int .i64 fr.2) _ _ d0 d1
  clear b0 b1
  go_wp2
  exact bodyPost_ret (v := .tuple #[.agg #[.int .i64 fr.1, .int .i64 fr.2], .int .i64 0]) (by simp [results, Try.results32, go_sem, t0, t1]) rfl ⟨p, rfl⟩

set_option maxRecDepth 100000 in
set_option maxHeartbeats 4000000 in
theorem rquota_ok (a : Option Addr) (os : List Int) (cap m k : Nat) (w : World) (h : Ints w a os) (ho : okO os = true) (hm : m ≤ 1000) (hk : k < os.length) :
  Calls Try.prog 33 #[.slice a os.length cap, .int .i64 (m : Int), .int .i64 (k : Int)] w (RatE w (fracL ((m : Int) * at0 os k).toNat (sumL os).toNat) 0) := by
  have HV := hid (fun (w' : World) (hb : Below w.heap.size w w') => rvalidateO_any a os cap w' (h.below hb))
  rw [ho] at HV
  have HI := hid (fun w => countOK_any (m : Int) w)
  rw [show inW (m : Int) 0 1000 = true by simp [inW]; omega] at HI
  obtain ⟨v1, s1, s2⟩ := okO_vals ho
  obtain ⟨h1, h2, h3⟩ := okO_len ho
  have hx := allIn_at h3 k hk
  rcases h.at_ with e | ⟨b, off, rfl, hc⟩
  · rw [e] at hk; simp at hk
  have c0 := hc k hk
  have hbl : b < w.heap.size := cell_lt c0
  have HSu := hid (fun (w' : World) (hb : Below w.heap.size w w') => rsum_any (some ⟨b, off, none⟩) os cap w' (h.below hb) (fun x hx => by have := v1 x hx; omega) (by omega))
  unfold at0
  generalize os[k]?.getD 0 = x at *
  have hp1 : 0 ≤ (m : Int) * x := Int.mul_nonneg (by omega) (by omega)
  have hp2 : (m : Int) * x ≤ 1000000000 := by
    have := Int.mul_le_mul (show (m : Int) ≤ 1000 by omega) hx.2 (by omega) (by omega : (0 : Int) ≤ 1000)
    omega
  generalize hpn : (m : Int) * x = pr at *
  obtain ⟨P, rfl⟩ := Int.eq_ofNat_of_zero_le hp1
  generalize sumL os = S at *
  obtain ⟨T, rfl⟩ := Int.eq_ofNat_of_zero_le (by omega : 0 ≤ S)
  have HLo := hid (fun w => fraction_any P T w (by omega) (by omega) (by omega))
  rw [Int.toNat_natCast, Int.toNat_natCast]
  generalize hfr : fracL P T = fr at *
  have HPn := hid hpn
  have S0 := hid (show QuoS w w.heap.size b (off + k) x (w.alloc (.cells #[.int .i64 0, .int .i64 0] 39)) from
    ⟨by rw [((Below.refl w.heap.size w).alloc (Nat.le_refl _) _).cell hbl]; exact c0, rv_some (v := .int .i64 0) (by go_simp), rv_some (v := .int .i64 0) (by go_simp), by go_simp, by go_simp, (Below.refl _ _).alloc (Nat.le_refl _) _⟩)
  have hk0 : (0 : Int) ≤ (k : Int) := Int.natCast_nonneg _
  have hk1 : (k : Int) < (os.length : Int) := by omega
  have hwr : IntKind.i64.wrap ((m : Int) * x) = (P : Int) := by rw [hpn]; exact IntWalk.i64_in _ (by omega)
  clear c0 hc h hpn hfr v1 h3 ho hp1 hp2
  go_enter Try.func33, Try.ntmps33
  have hkd : decide ((k : Int) < 0) = false := by simp <;> omega
  go_wp2_with fail
  refine (HV.out _ S0.out.below).mono ?_
  rintro e w' ⟨rfl, rfl⟩
  rw [show err true = 0 from rfl]
  go_wp2_with fail
  refine (HI.out _).mono ?_
  rintro e w' ⟨rfl, rfl⟩
  go_wp2_with fail
  go_region_held3 (fun w' => w'.cell? ⟨b, off + k, none⟩ = some (.int .i64 x) ∧ w'.cell? ⟨w.heap.size, 0, none⟩ = some (rv w' ⟨w.heap.size, 0, none⟩) ∧ w'.cell? ⟨w.heap.size, 1, none⟩ = some (rv w' ⟨w.heap.size, 1, none⟩) ∧ w'.frozen? ⟨w.heap.size, 0, none⟩ = false ∧ w'.frozen? ⟨w.heap.size, 1, none⟩ = false ∧ Below w.heap.size w w') (first | assumption | exact S0.out.drew | exact S0.out | exact QuoS.keep (by assumption) (by assumption) | exact QuoS.store (QuoS.store (by assumption) (Nat.le_refl _) hbl _ _) (Nat.le_refl _) hbl _ _)
    (first | (go_at_call 73; refine (HSu.out _ ?_).mono ?_; (first | exact QuoS.below (by assumption) | exact S0.out.drew.below); rintro en x1 ⟨rfl, rfl⟩) | (go_at_call 68; refine (HLo.out _).mono ?_; rintro en w5 ⟨hb5, rfl⟩))
  have hHeld : QuoS w w.heap.size b (off + k) x ((w5.setCell ⟨w.heap.size, 0, none⟩ (.int .i64 fr.1)).setCell ⟨w.heap.size, 1, none⟩ (.int .i64 fr.2)) := by assumption
  obtain ⟨_, b0, b1, _, _, p⟩ := hHeld
  have d0 := unset_some (unset_some b0)
  have d1 := unset_some (unset_some b1)
  obtain ⟨t0, t1⟩ := set2_cells w5 w.heap.size (.int .i64 fr.1) (.int .i64 fr.2) _ _ d0 d1
  clear b0 b1
  go_wp2
  exact bodyPost_ret (v := .tuple #[.agg #[.int .i64 fr.1, .int .i64 fr.2], .int .i64 0]) (by simp [results, Try.results33, go_sem, t0, t1]) rfl ⟨p, rfl⟩

theorem zero_rat (w : World) : Var2 (w.alloc (.cells #[.int .i64 0, .int .i64 0] 39)) w.heap.size (0, 0) := Var2.made w

set_option maxRecDepth 100000 in
set_option maxHeartbeats 4000000 in
theorem quota_any (a : Option Addr) (os : List Int) (cap : Nat) (n s : Int) (w : World) (h : Ints w a os) :
  Calls Try.prog 32 #[.slice a os.length cap, .int .i64 n, .int .i64 s] w (RatE w (quoL os n s) (quoE os n s)) := by
  by_cases h0 : quoE os n s = 0
  · obtain ⟨ho, m, k, rfl, hm, rfl, hk⟩ := quoE_ok h0
    rw [quoL, if_pos h0, h0]
    exact quota_ok a os cap m k w h ho hm hk
  · rw [quoL, if_neg h0]
    have hlen := h.len
    have HV := hid (fun (w' : World) (hb : Below w.heap.size w w') => checkNumber_any a os cap n w' (h.below hb))
    have HB := hid ((((Below.refl w.heap.size w).alloc (Nat.le_refl _) (.cells #[.int .i64 0, .int .i64 0] 39)).setCell (p := ⟨w.heap.size, 0, none⟩) (Nat.le_refl _) (.int .i64 0)).setCell (p := ⟨w.heap.size, 1, none⟩) (Nat.le_refl _) (.int .i64 0))
    have HB0 := hid ((Below.refl w.heap.size w).alloc (Nat.le_refl _) (.cells #[.int .i64 0, .int .i64 0] 39))
    obtain ⟨z0, z1, y0, y1⟩ := Var2.made w
    obtain ⟨t0, t1⟩ := set2_cells (w.alloc (.cells #[.int .i64 0, .int .i64 0] 39)) w.heap.size (.int .i64 0) (.int .i64 0) _ _ z0 z1
    cases hd : (okO os && inW n 0 1000) with
    | false =>
      have HE := hid (show quoE os n s = 1 by rw [quoE, if_pos hd])
      rw [hd] at HV
      clear hd h0 h
      go_enter Try.func32, Try.ntmps32
      go_wp2_with fail
      refine (HV.out _ HB0.out).mono ?_
      rintro e w' ⟨rfl, rfl⟩
      rw [show err false = 1 from rfl]
      go_wp2
      exact bodyPost_ret (v := .tuple #[.agg #[.int .i64 0, .int .i64 0], .int .i64 1]) (by simp [results, Try.results32, go_sem]) rfl ⟨by repeat (first | exact HB.out | exact HB0.out | exact Below.refl _ _ | refine Below.alloc ?_ (by simp <;> omega) _ | refine Below.setCell ?_ (by simp <;> omega) _), by rw [HE.out]⟩
    | true =>
      have hs : inW s 0 ((os.length : Int) - 1) = false := by
        rw [quoE, if_neg (by rw [hd]; simp)] at h0
        by_cases hs : inW s 0 ((os.length : Int) - 1) = false
        · exact hs
        · rw [if_neg hs] at h0; exact absurd rfl h0
      have HE := hid (show quoE os n s = 5 by rw [quoE, if_neg (by rw [hd]; simp), if_pos hs])
      have HI := hid (fun w => isWithin_any s 0 ((os.length : Int) - 1) w)
      have h8 : 1 ≤ os.length ∧ os.length ≤ 8 := by
        simp only [Bool.and_eq_true] at hd
        have := okO_len hd.1
        omega
      rw [hs] at HI
      rw [hd] at HV
      clear hd h0 hs h
      go_enter Try.func32, Try.ntmps32
      go_wp2_with fail
      refine (HV.out _ HB0.out).mono ?_
      rintro e w' ⟨rfl, rfl⟩
      rw [show err true = 0 from rfl]
      go_wp2_with fail
      refine (HI.out _).mono ?_
      rintro e w' ⟨rfl, rfl⟩
      go_wp2
      exact bodyPost_ret (v := .tuple #[.agg #[.int .i64 0, .int .i64 0], .int .i64 5]) (by simp [results, Try.results32, go_sem]) rfl ⟨by repeat (first | exact HB.out | exact HB0.out | exact Below.refl _ _ | refine Below.alloc ?_ (by simp <;> omega) _ | refine Below.setCell ?_ (by simp <;> omega) _), by rw [HE.out]⟩

set_option maxRecDepth 100000 in
set_option maxHeartbeats 4000000 in
theorem rquota_any (a : Option Addr) (os : List Int) (cap : Nat) (n s : Int) (w : World) (h : Ints w a os) :
  Calls Try.prog 33 #[.slice a os.length cap, .int .i64 n, .int .i64 s] w (RatE w (quoL os n s) (quoE os n s)) := by
  by_cases h0 : quoE os n s = 0
  · obtain ⟨ho, m, k, rfl, hm, rfl, hk⟩ := quoE_ok h0
    rw [quoL, if_pos h0, h0]
    exact rquota_ok a os cap m k w h ho hm hk
  · rw [quoL, if_neg h0]
    have hlen := h.len
    have HV := hid (fun (w' : World) (hb : Below w.heap.size w w') => rvalidateO_any a os cap w' (h.below hb))
    have HI := hid (fun w => countOK_any n w)
    have HB := hid ((((Below.refl w.heap.size w).alloc (Nat.le_refl _) (.cells #[.int .i64 0, .int .i64 0] 39)).setCell (p := ⟨w.heap.size, 0, none⟩) (Nat.le_refl _) (.int .i64 0)).setCell (p := ⟨w.heap.size, 1, none⟩) (Nat.le_refl _) (.int .i64 0))
    have HB0 := hid ((Below.refl w.heap.size w).alloc (Nat.le_refl _) (.cells #[.int .i64 0, .int .i64 0] 39))
    cases hd : okO os with
    | false =>
      have HE := hid (show quoE os n s = 1 by rw [quoE, if_pos (by rw [hd]; rfl)])
      rw [hd] at HV
      clear hd h0 h
      go_enter Try.func33, Try.ntmps33
      go_wp2_with fail
      refine (HV.out _ HB0.out).mono ?_
      rintro e w' ⟨rfl, rfl⟩
      rw [show err false = 1 from rfl]
      go_wp2
      exact bodyPost_ret (v := .tuple #[.agg #[.int .i64 0, .int .i64 0], .int .i64 1]) (by simp [results, Try.results33, go_sem]) rfl ⟨by repeat (first | exact HB.out | exact HB0.out | exact Below.refl _ _ | refine Below.alloc ?_ (by simp <;> omega) _ | refine Below.setCell ?_ (by simp <;> omega) _), by rw [HE.out]⟩
    | true =>
      cases hn : inW n 0 1000 with
      | false =>
        have HE := hid (show quoE os n s = 1 by rw [quoE, if_pos (by rw [hd, hn]; rfl)])
        rw [hd] at HV
        rw [hn] at HI
        clear hd hn h0 h
        go_enter Try.func33, Try.ntmps33
        go_wp2_with fail
        refine (HV.out _ HB0.out).mono ?_
        rintro e w' ⟨rfl, rfl⟩
        rw [show err true = 0 from rfl]
        go_wp2_with fail
        refine (HI.out _).mono ?_
        rintro e w' ⟨rfl, rfl⟩
        go_wp2
        exact bodyPost_ret (v := .tuple #[.agg #[.int .i64 0, .int .i64 0], .int .i64 1]) (by simp [results, Try.results33, go_sem]) rfl ⟨by repeat (first | exact HB.out | exact HB0.out | exact Below.refl _ _ | refine Below.alloc ?_ (by simp <;> omega) _ | refine Below.setCell ?_ (by simp <;> omega) _), by rw [HE.out]⟩
      | true =>
        have hdn : (okO os && inW n 0 1000) = true := by rw [hd, hn]; rfl
        have hs : inW s 0 ((os.length : Int) - 1) = false := by
          rw [quoE, if_neg (by rw [hdn]; simp)] at h0
          by_cases hs : inW s 0 ((os.length : Int) - 1) = false
          · exact hs
          · rw [if_neg hs] at h0; exact absurd rfl h0
        have HE := hid (show quoE os n s = 5 by rw [quoE, if_neg (by rw [hdn]; simp), if_pos hs])
        have h8 := okO_len hd
        have h1 := h8.1
        have h2 := h8.2.1
        rw [hd] at HV
        rw [hn] at HI
        by_cases hs0 : s < 0
        · clear hd hn h0 h hdn h8 hs
          go_enter Try.func33, Try.ntmps33
          go_wp2_with fail
          refine (HV.out _ HB0.out).mono ?_
          rintro e w' ⟨rfl, rfl⟩
          rw [show err true = 0 from rfl]
          go_wp2_with fail
          refine (HI.out _).mono ?_
          rintro e w' ⟨rfl, rfl⟩
          go_wp2
          exact bodyPost_ret (v := .tuple #[.agg #[.int .i64 0, .int .i64 0], .int .i64 5]) (by simp [results, Try.results33, go_sem]) rfl ⟨by repeat (first | exact HB.out | exact HB0.out | exact Below.refl _ _ | refine Below.alloc ?_ (by simp <;> omega) _ | refine Below.setCell ?_ (by simp <;> omega) _), by rw [HE.out]⟩
        · have hs1 : (os.length : Int) ≤ s := by
            by_cases hq : (os.length : Int) ≤ s
            · exact hq
            · rw [show inW s 0 ((os.length : Int) - 1) = true by simp [inW]; omega] at hs; cases hs
          have hs0' : 0 ≤ s := by omega
          clear hd hn h0 h hdn h8 hs hs0
          go_enter Try.func33, Try.ntmps33
          go_wp2_with fail
          refine (HV.out _ HB0.out).mono ?_
          rintro e w' ⟨rfl, rfl⟩
          rw [show err true = 0 from rfl]
          go_wp2_with fail
          refine (HI.out _).mono ?_
          rintro e w' ⟨rfl, rfl⟩
          go_wp2
          exact bodyPost_ret (v := .tuple #[.agg #[.int .i64 0, .int .i64 0], .int .i64 5]) (by simp [results, Try.results33, go_sem]) rfl ⟨by repeat (first | exact HB.out | exact HB0.out | exact Below.refl _ _ | refine Below.alloc ?_ (by simp <;> omega) _ | refine Below.setCell ?_ (by simp <;> omega) _), by rw [HE.out]⟩
end Go.Proofs.Ytnjaacmcdkiilaa
