/- The walk of the law MenuMeans. -/
import Derived.Test.YtkboeldafppicaaMeanX
import Derived.Test.YtkboeldafppicaaKn3
import Derived.Test.YtkboeldafppicaaMLg
import Derived.Deep.CutRange
import Derived.Deep.DeepCutAuto
set_option linter.unusedVariables false
set_option linter.unusedSimpArgs false
namespace Go.Proofs.Ytkboeldafppicaa
open Go.RowKit

def BrN (a b : Int) (l : List Int) (k : Nat) (br : Bool) : Prop := br = true ↔ Brk a b l k
theorem brN_old {a b : Int} {l : List Int} {k : Nat} {br : Bool} (h : BrN a b l k br) (hq : br = true ∨ ¬ (0 < k ∧ ltr l (k - 1) = a ∧ ltr l k = b)) : BrN a b l (k + 1) br := by
  unfold BrN at *
  rw [h, brk_succ]
  constructor
  · exact .inl
  · rintro (e | e)
    · exact e
    · rcases hq with q | q
      · exact h.1 q
      · exact absurd e q
theorem brN_new {a b : Int} {l : List Int} {k : Nat} (hq : 0 < k ∧ ltr l (k - 1) = a ∧ ltr l k = b) : BrN a b l (k + 1) true := by
  unfold BrN
  rw [brk_succ]
  exact ⟨fun _ => .inr hq, fun _ => rfl⟩
def OkN (d : Int) (l : List Int) (k : Nat) (ok : Bool) : Prop := ok = true ↔ ¬ Near d l k
theorem near_bool {d : Int} {l : List Int} {k : Nat} {ok : Bool} (h : ok = true ↔ ¬ Near d l k) (h2 : ok = true ↔ (¬ Near d l k ∧ ∀ j : Nat, (k : Int) - d + 1 ≤ j → j < k → ltr l k ≠ ltr l j)) : ok = true ↔ ¬ Near d l (k + 1) := by
  rw [h2, near_succ]
  constructor
  · rintro ⟨a, c⟩ (e | ⟨j, h1, h3, h4⟩)
    · exact a e
    · exact c j h3 h1 h4
  · intro e
    exact ⟨fun a => e (.inl a), fun j h1 h3 h4 => e (.inr ⟨j, h3, h1, h4⟩)⟩
/-- What the inner loop keeps. -/
def InB (d : Int) (l : List Int) (k : Nat) (c : Int) (ok : Bool) : Prop := ok = true ↔ (¬ Near d l k ∧ ∀ j : Nat, (k : Int) - d + 1 ≤ j → (j : Int) < c → ltr l k ≠ ltr l j)
theorem inB_step {d : Int} {l : List Int} {k j : Nat} {ok : Bool} (h : InB d l k j ok) (hj : (k : Int) - d + 1 ≤ j) : InB d l k (j + 1 : Int) (ok && (ltr l k != ltr l j)) := by
  unfold InB at *
  rw [Bool.and_eq_true, h]
  constructor
  · rintro ⟨⟨a, c⟩, e⟩
    refine ⟨a, fun i h1 h2 => ?_⟩
    by_cases hi : i = j
    · subst hi; simpa using e
    · exact c i h1 (by omega)
  · rintro ⟨a, c⟩
    exact ⟨⟨a, fun i h1 h2 => c i h1 (by omega)⟩, by simpa using c j hj (by omega)⟩
theorem inB_start {d : Int} {l : List Int} {k : Nat} {ok : Bool} (h : ok = true ↔ ¬ Near d l k) : InB d l k (max 0 ((k : Int) - d + 1)) ok := by
  unfold InB
  rw [h]
  exact ⟨fun a => ⟨a, fun j h1 h2 => by omega⟩, fun a => a.1⟩
theorem inB_end {d : Int} {l : List Int} {k : Nat} {c : Int} {ok : Bool} (h : InB d l k c ok) (hc : (k : Int) ≤ c) (hc2 : c ≤ k ∨ c ≤ (k : Int) - d + 1) : OkN d l (k + 1) ok := by
  unfold InB at h
  unfold OkN
  rw [h, near_succ]
  constructor
  · rintro ⟨a, e⟩ (q | ⟨j, h1, h3, h4⟩)
    · exact a q
    · exact e j h3 (by omega) h4
  · intro e
    exact ⟨fun a => e (.inl a), fun j h1 h3 h4 => e (.inr ⟨j, by omega, h1, h4⟩)⟩
set_option maxRecDepth 100000 in
set_option maxHeartbeats 8000000 in
theorem menuMeans_walk (n d b : Int) (A : Option Addr) (l : List Int) (cap : Nat) (w : World) (hI : (-9223372036854775808 ≤ n ∧ n ≤ 9223372036854775807) ∧ (-9223372036854775808 ≤ d ∧ d ≤ 9223372036854775807) ∧ (-9223372036854775808 ≤ b ∧ b ≤ 9223372036854775807)) (hl : l.length ≤ 9223372036854775807) (hw : l.length ≤ 140737488355328 → Ints w A l) :
    Calls Try.prog 9 #[.agg #[.int .i64 n, .int .i64 d, .int .i64 b], .slice A l.length cap] w fun e w' => Below w.heap.size w w' ∧ e = .returned (.bool true) := by
  have hA : Below w.heap.size w (w.alloc (.cells #[.int .i64 n, .int .i64 d, .int .i64 b] 45)) := (Below.refl _ _).alloc (Nat.le_refl _) _
  have c0 : (w.alloc (.cells #[.int .i64 n, .int .i64 d, .int .i64 b] 45)).cell? ⟨w.heap.size, 0, none⟩ = some (.int .i64 n) := by go_simp
  have c1 : (w.alloc (.cells #[.int .i64 n, .int .i64 d, .int .i64 b] 45)).cell? ⟨w.heap.size, 1, none⟩ = some (.int .i64 d) := by go_simp
  have c2 : (w.alloc (.cells #[.int .i64 n, .int .i64 d, .int .i64 b] 45)).cell? ⟨w.heap.size, 2, none⟩ = some (.int .i64 b) := by go_simp
  have HB0 := hid hA
  have HC0 := hid (And.intro c0 (And.intro c1 c2))
  clear hA c0 c1 c2
  go_enter Try.func9, Try.ntmps9
  go_wp2_with fail
  refine (llong_any A l.length cap _ hl).mono ?_
  rintro e w1 ⟨rfl, rfl⟩
  cases hlg : decide (200 < l.length) with
  | true =>
    clear hlg hl hw hI
    go_wp2_with fail
    refine (known3_any _).mono ?_
    rintro e w2 ⟨hb, rfl⟩
    have HBz := hid (HB0.out.trans (hb.mono HB0.out.size))
    go_wp2
    go_ret
    exact ⟨HBz.out, rfl⟩
  | false =>
    have hl2 : l.length ≤ 200 := by simpa using hlg
    have HW0 := hid ((hw (by omega)).below HB0.out)
    obtain ⟨c0, c1, c2⟩ := HC0.out
    clear hlg hl hw
    generalize w.alloc (.cells #[.int .i64 n, .int .i64 d, .int .i64 b] 45) = w0 at *
    go_wp2_with fail
    refine (apart_any n d _).mono ?_
    rintro e w1 ⟨hb1, hans⟩
    obtain ⟨M, t, bs, v, Na, nc, Aa, ac, hD, rfl, hM⟩ := rl_out hans
    have HD := hid hD
    have HAp := hid (fun (e : v = 0) => ap_acc (n := n) (d := d) (M := M) (t := t) (bs := bs) (by rw [e] at hD; exact hD) l)
    have HM := hid hM.mach
    have HW1 := hid (HW0.out.below hb1)
    have HB1 := hid (HB0.out.trans (hb1.mono HB0.out.size))
    have e0 := (hb1.cell (cell_lt c0)).trans c0
    have e1 := (hb1.cell (cell_lt c1)).trans c1
    have e2 := (hb1.cell (cell_lt c2)).trans c2
    clear hb1 hans hD hM c0 c1 c2 HC0 HW0 HB0
    unfold machV
    go_upto_if 39 with fail
    have hAl : Below w1.heap.size w1 (w1.alloc (.cells #[.int .i64 M, .slice Na t.length nc, .slice Aa bs.length ac] 25)) := (Below.refl _ _).alloc (Nat.le_refl _) _
    have HX1 := hid (BoxM.made w1 M Na t.length nc Aa bs.length ac)
    have HM1 := hid (HM.out.below hAl)
    have HW2 := hid (HW1.out.below hAl)
    have HB2 := hid (HB1.out.trans (hAl.mono HB1.out.size))
    have f0 := (hAl.cell (cell_lt e0)).trans e0
    have f1 := (hAl.cell (cell_lt e1)).trans e1
    have f2 := (hAl.cell (cell_lt e2)).trans e2
    have HC2 := hid (And.intro f0 (And.intro f1 f2))
    clear e0 e1 e2 HM HW1 HB1 hAl
    generalize hw2 : w1.alloc (.cells #[.int .i64 M, .slice Na t.length nc, .slice Aa bs.length ac] 25) = w2 at *
    clear hw2
    go_cut [7, 8, 9, 10, 11] from 40 (fun s7 s8 s9 s10 s11 wx => Hid (Below w2.heap.size w2 wx))
    case first =>
      obtain ⟨x0, x1, x2⟩ := HX1.out
      obtain ⟨f0, f1, f2⟩ := HC2.out
      have hrf : Below w2.heap.size w2 w2 := Below.refl _ _
      have HDr := hid (fun (n : Nat) => show Below w2.heap.size w2 (w2.drewN n) from ⟨hrf.os, hrf.tape, hrf.output, hrf.size, hrf.block⟩)
      by_cases hv : v = 0
      · subst hv
        obtain ⟨hok, hwE, hacc⟩ := HAp.out rfl
        have hd : 0 ≤ d ∧ d ≤ 3 := by unfold apOk at hok; omega
        have HAc := hid hacc
        have HWl := hid (fun (k : Nat) (hk : k < l.length) => show ∃ b o, A = some ⟨b, o, none⟩ ∧ w2.cell? ⟨b, o + k, none⟩ = some (.int .i64 (ltr l k)) from by
          rcases HW2.out.at_ with e | ⟨b, o, e, hc⟩
          · rw [e] at hk; simp at hk
          · exact ⟨b, o, e, hc k hk⟩)
        clear hok hwE hacc HAp x0 x1 x2
        have hv' : ((0 : Int) == 0) = true := rfl
        go_wp2_with fail
        go_loopw [7, 8, 9] (fun s7 s8 s9 wr => ∃ (k : Nat) (ok : Bool), k ≤ l.length ∧ s8 = .int .i64 k ∧ s7 = .bool ok ∧ Hid (OkN d l k ok) ∧ Hid (∃ m, wr = w2.drewN m)) (fun _ i _ _ => l.length - (intOf i).toNat)
        case atStart => exact ⟨0, true, Nat.zero_le _, rfl, rfl, ⟨fun _ => near_zero d l, fun _ => rfl⟩, 0, rfl⟩
        case round =>
          obtain ⟨k, ok, hk, rfl, rfl, HN, HWr⟩ := hrel
          obtain ⟨m0, hm0⟩ := HWr.out
          by_cases hlt : k < l.length
          · have hlt1 : (k : Int) < (l.length : Int) := by omega
            have g1 : wr.cell? ⟨w.heap.size, 1, none⟩ = some (.int .i64 d) := by rw [hm0]; exact f1
            have HIn := hid (inB_start (d := d) HN.out)
            clear HWr
            subst hm0
            by_cases hst : 0 < (k : Int) - d + 1
            · have HIn := hid (show InB d l k ((k : Int) - d + 1) ok by have := HIn.out; rwa [show max 0 ((k : Int) - d + 1) = (k : Int) - d + 1 by omega] at this)
              go_wp2_with fail
              go_loopw [7, 9] (fun s7 s9 wq => ∃ (c : Int) (ok : Bool), 0 ≤ c ∧ (k : Int) - d + 1 ≤ c ∧ (c ≤ k ∨ c ≤ (k : Int) - d + 1) ∧ s9 = .int .i64 c ∧ s7 = .bool ok ∧ Hid (InB d l k c ok) ∧ Hid (∃ m, wq = w2.drewN m)) (fun _ i _ => k - (intOf i).toNat)
              case atStart => exact ⟨(k : Int) - d + 1, ok, by omega, by omega, by omega, rfl, rfl, HIn, m0, rfl⟩
              case round =>
                clear HIn HN g1 hst
                obtain ⟨c, ok, hc0, hc1, hc2, rfl, rfl, HIn, HWr⟩ := hrel
                obtain ⟨m1, hm1⟩ := HWr.out
                by_cases hck : c < (k : Int)
                · obtain ⟨j, rfl⟩ : ∃ j : Nat, c = j := ⟨c.toNat, by omega⟩
                  have hjk : j < k := by omega
                  have hj1 : (j : Int) < (l.length : Int) := by omega
                  have hk0 : (0 : Int) ≤ (k : Int) := by omega
                  obtain ⟨bA, oA, hAe, y1⟩ := HWl.out k hlt
                  obtain ⟨bA', oA', hAe', y2⟩ := HWl.out j (by omega)
                  have hAA : bA' = bA ∧ oA' = oA := by
                    rw [hAe] at hAe'
                    injection hAe' with q
                    injection q with q1 q2
                    exact ⟨q1.symm, q2.symm⟩
                  obtain ⟨rfl, rfl⟩ := hAA
                  have z1 : wr.cell? ⟨bA', oA' + k, none⟩ = some (.int .i64 (ltr l k)) := by rw [hm1]; exact y1
                  have z2 : wr.cell? ⟨bA', oA' + j, none⟩ = some (.int .i64 (ltr l j)) := by rw [hm1]; exact y2
                  have HS := hid (inB_step HIn.out hc1)
                  have HMm := hid (fun (q : Nat) => show ∃ m, wr.drewN q = w2.drewN m from ⟨_, by rw [hm1, World.drewN_drewN]⟩)
                  clear y1 y2 hAe' HIn hm1
                  subst hAe
                  generalize ltr l k = x at *
                  generalize ltr l j = y at *
                  cases ok with
                  | false =>
                    go_wp2_with fail
                    go_quiet (fail)
                    go_wp2
                    go_roundw
                    case rel => exact ⟨(j : Int) + 1, false, by omega, by omega, by omega, rfl, rfl, HS, HMm.out _⟩
                    case measure => simp [intOf]; omega
                  | true =>
                    cases hq : (x != y) with
                    | true =>
                      rw [hq] at HS
                      go_wp2_with fail
                      go_quiet (fail)
                      go_wp2
                      go_roundw
                      case rel => exact ⟨(j : Int) + 1, true, by omega, by omega, by omega, rfl, rfl, HS, HMm.out _⟩
                      case measure => simp [intOf]; omega
                    | false =>
                      rw [hq] at HS
                      go_wp2_with fail
                      go_quiet (fail)
                      go_wp2
                      go_roundw
                      case rel => exact ⟨(j : Int) + 1, false, by omega, by omega, by omega, rfl, rfl, HS, HMm.out _⟩
                      case measure => simp [intOf]; omega
                · have HE := hid (inB_end HIn.out (by omega) hc2)
                  clear HIn hc1 hc2
                  go_wp2
                  go_roundw
                  case rel => first | exact ⟨k + 1, ok, by omega, by go_num, rfl, HE, m1, by first | exact hm1 | rfl⟩ | (refine ⟨k + 1, by omega, by go_num, ?_⟩; cases ok; exact .inl ⟨rfl, HE, m1, rfl⟩; exact .inr ⟨rfl, HE, m1, rfl⟩)
                  case measure => simp [intOf]; omega
            · have HIn := hid (show InB d l k 0 ok by have := HIn.out; rwa [show max 0 ((k : Int) - d + 1) = 0 by omega] at this)
              go_wp2_with fail
              go_loopw [7, 9] (fun s7 s9 wq => ∃ (c : Int) (ok : Bool), 0 ≤ c ∧ (k : Int) - d + 1 ≤ c ∧ (c ≤ k ∨ c ≤ (k : Int) - d + 1) ∧ s9 = .int .i64 c ∧ s7 = .bool ok ∧ Hid (InB d l k c ok) ∧ Hid (∃ m, wq = w2.drewN m)) (fun _ i _ => k - (intOf i).toNat)
              case atStart => exact ⟨0, ok, by omega, by omega, by omega, rfl, rfl, HIn, m0, rfl⟩
              case round =>
                clear HIn HN g1 hst
                obtain ⟨c, ok, hc0, hc1, hc2, rfl, rfl, HIn, HWr⟩ := hrel
                obtain ⟨m1, hm1⟩ := HWr.out
                by_cases hck : c < (k : Int)
                · obtain ⟨j, rfl⟩ : ∃ j : Nat, c = j := ⟨c.toNat, by omega⟩
                  have hjk : j < k := by omega
                  have hj1 : (j : Int) < (l.length : Int) := by omega
                  have hk0 : (0 : Int) ≤ (k : Int) := by omega
                  obtain ⟨bA, oA, hAe, y1⟩ := HWl.out k hlt
                  obtain ⟨bA', oA', hAe', y2⟩ := HWl.out j (by omega)
                  have hAA : bA' = bA ∧ oA' = oA := by
                    rw [hAe] at hAe'
                    injection hAe' with q
                    injection q with q1 q2
                    exact ⟨q1.symm, q2.symm⟩
                  obtain ⟨rfl, rfl⟩ := hAA
                  have z1 : wr.cell? ⟨bA', oA' + k, none⟩ = some (.int .i64 (ltr l k)) := by rw [hm1]; exact y1
                  have z2 : wr.cell? ⟨bA', oA' + j, none⟩ = some (.int .i64 (ltr l j)) := by rw [hm1]; exact y2
                  have HS := hid (inB_step HIn.out hc1)
                  have HMm := hid (fun (q : Nat) => show ∃ m, wr.drewN q = w2.drewN m from ⟨_, by rw [hm1, World.drewN_drewN]⟩)
                  clear y1 y2 hAe' HIn hm1
                  subst hAe
                  generalize ltr l k = x at *
                  generalize ltr l j = y at *
                  cases ok with
                  | false =>
                    go_wp2_with fail
                    go_quiet (fail)
                    go_wp2
                    go_roundw
                    case rel => exact ⟨(j : Int) + 1, false, by omega, by omega, by omega, rfl, rfl, HS, HMm.out _⟩
                    case measure => simp [intOf]; omega
                  | true =>
                    cases hq : (x != y) with
                    | true =>
                      rw [hq] at HS
                      go_wp2_with fail
                      go_quiet (fail)
                      go_wp2
                      go_roundw
                      case rel => exact ⟨(j : Int) + 1, true, by omega, by omega, by omega, rfl, rfl, HS, HMm.out _⟩
                      case measure => simp [intOf]; omega
                    | false =>
                      rw [hq] at HS
                      go_wp2_with fail
                      go_quiet (fail)
                      go_wp2
                      go_roundw
                      case rel => exact ⟨(j : Int) + 1, false, by omega, by omega, by omega, rfl, rfl, HS, HMm.out _⟩
                      case measure => simp [intOf]; omega
                · have HE := hid (inB_end HIn.out (by omega) hc2)
                  clear HIn hc1 hc2
                  go_wp2
                  go_roundw
                  case rel => first | exact ⟨k + 1, ok, by omega, by go_num, rfl, HE, m1, by first | exact hm1 | rfl⟩ | (refine ⟨k + 1, by omega, by go_num, ?_⟩; cases ok; exact .inl ⟨rfl, HE, m1, rfl⟩; exact .inr ⟨rfl, HE, m1, rfl⟩)
                  case measure => simp [intOf]; omega
          · have hke : k = l.length := by omega
            have HOk := hid (show OkN d l l.length ok from hke ▸ HN.out)
            have HBr := hid (show Below w2.heap.size w2 wr from by rw [hm0]; exact HDr.out m0)
            have hnl : ¬ (k : Int) < (l.length : Int) := by omega
            clear hke HN HWr
            obtain ⟨x0, x1, x2⟩ := HX1.out
            have x0 := (HBr.out.cell (cell_lt x0)).trans x0
            have x1 := (HBr.out.cell (cell_lt x1)).trans x1
            have x2 := (HBr.out.cell (cell_lt x2)).trans x2
            have HQ := hid (mAccepts_any M nc ac Na Aa t bs A l cap wr (HM1.out.below HBr.out) (HW2.out.below HBr.out))
            clear hm0
            unfold machV at HQ
            go_wp2_with fail
            refine HQ.out.mono ?_
            rintro e w3 ⟨hb3, rfl⟩
            have HB3 := hid (HBr.out.trans (hb3.mono HBr.out.size))
            clear hb3 HQ x0 x1 x2
            by_cases hf : wordE M t bs l = 0
            · have hao : accB M t bs l = ok := by
                have h1 := HAc.out hf
                have h2 : ok = true ↔ ¬ Near d l l.length := HOk.out
                rw [← h2] at h1
                cases ok <;> cases haa : accB M t bs l <;> simp [haa] at h1 ⊢
              rw [hao, hf]
              have hoo : (ok != ok) = false := by simp
              have hoo2 : (!(ok == ok)) = false := by simp
              clear hf hao HAc HOk HD
              go_wp2_with fail
              go_meet
              case rel => exact HB3
            · have hf2 : (wordE M t bs l == 0) = false := by simp [hf]
              clear hf HAc HOk HD
              generalize wordE M t bs l = f at *
              generalize accB M t bs l = a at *
              go_wp2_with fail
              go_meet
              case rel => exact HB3
      · have hv' : (v == 0) = false := by simp [hv]
        clear HAp hv
        go_wp2_with fail
        go_meet
        case rel => exact hid (Below.refl _ _)
    case rest =>
      have HBC := hid (HB2.out.trans (hcut.out.mono HB2.out.size))
      have HWC := hid (HW2.out.below hcut.out)
      obtain ⟨f0, f1, f2⟩ := HC2.out
      have f0 := (hcut.out.cell (cell_lt f0)).trans f0
      have f1 := (hcut.out.cell (cell_lt f1)).trans f1
      have f2 := (hcut.out.cell (cell_lt f2)).trans f2
      clear hcut HX1 HM1 HAp HD HC2 HB2 HW2
      go_wp2_with fail
      refine (least_any n d b _).mono ?_
      rintro e wa ⟨hba, hans⟩
      obtain ⟨M2, t2, bs2, v2, Na2, nc2, Aa2, ac2, hD, rfl, hM⟩ := rl_out hans
      have HA2 := hid (fun (e : v2 = 0) => le_acc (n := n) (a := d) (b := b) (M := M2) (t := t2) (bs := bs2) (by rw [e] at hD; exact hD) l)
      have HM2 := hid hM.mach
      have HBa := hid (HBC.out.trans (hba.mono HBC.out.size))
      have HWa := hid (HWC.out.below hba)
      have f0 := (hba.cell (cell_lt f0)).trans f0
      have f1 := (hba.cell (cell_lt f1)).trans f1
      have f2 := (hba.cell (cell_lt f2)).trans f2
      clear hba hans hD hM HBC HWC
      unfold machV
      go_upto_region 17 with fail
      have hAl : Below wa.heap.size wa (wa.alloc (.cells #[.int .i64 M2, .slice Na2 t2.length nc2, .slice Aa2 bs2.length ac2] 25)) := (Below.refl _ _).alloc (Nat.le_refl _) _
      have HX2 := hid (BoxM.made wa M2 Na2 t2.length nc2 Aa2 bs2.length ac2)
      have HM2 := hid (HM2.out.below hAl)
      have HWC := hid (HWa.out.below hAl)
      have HBC := hid (HBa.out.trans (hAl.mono HBa.out.size))
      have f0 := (hAl.cell (cell_lt f0)).trans f0
      have f1 := (hAl.cell (cell_lt f1)).trans f1
      have f2 := (hAl.cell (cell_lt f2)).trans f2
      have HC := hid (And.intro f0 (And.intro f1 f2))
      clear f0 f1 f2
      obtain ⟨f0, f1, f2⟩ := HC.out
      clear HWa HBa hAl
      generalize hww : wa.alloc (.cells #[.int .i64 M2, .slice Na2 t2.length nc2, .slice Aa2 bs2.length ac2] 25) = wc2 at *
      obtain ⟨p2, hp2⟩ : ∃ p, p = wa.heap.size := ⟨_, rfl⟩
      rw [← hp2] at HX2 ⊢
      clear hww hp2
      go_wp2_with fail
      refine (most_any n d b _).mono ?_
      rintro e wa ⟨hba, hans⟩
      obtain ⟨M3, t3, bs3, v3, Na3, nc3, Aa3, ac3, hD, rfl, hM⟩ := rl_out hans
      have HA3 := hid (fun (e : v3 = 0) => mo_acc (n := n) (a := d) (b := b) (M := M3) (t := t3) (bs := bs3) (by rw [e] at hD; exact hD) l)
      have HM3 := hid hM.mach
      have HBa := hid (HBC.out.trans (hba.mono HBC.out.size))
      have HWa := hid (HWC.out.below hba)
      have f0 := (hba.cell (cell_lt f0)).trans f0
      have f1 := (hba.cell (cell_lt f1)).trans f1
      have f2 := (hba.cell (cell_lt f2)).trans f2
      have HX2 := hid (HX2.out.below hba)
      have HM2 := hid (HM2.out.below hba)
      clear hba hans hD hM HBC HWC
      unfold machV
      go_upto_region 18 with fail
      have hAl : Below wa.heap.size wa (wa.alloc (.cells #[.int .i64 M3, .slice Na3 t3.length nc3, .slice Aa3 bs3.length ac3] 25)) := (Below.refl _ _).alloc (Nat.le_refl _) _
      have HX3 := hid (BoxM.made wa M3 Na3 t3.length nc3 Aa3 bs3.length ac3)
      have HM3 := hid (HM3.out.below hAl)
      have HWC := hid (HWa.out.below hAl)
      have HBC := hid (HBa.out.trans (hAl.mono HBa.out.size))
      have f0 := (hAl.cell (cell_lt f0)).trans f0
      have f1 := (hAl.cell (cell_lt f1)).trans f1
      have f2 := (hAl.cell (cell_lt f2)).trans f2
      have HX2 := hid (HX2.out.below hAl)
      have HM2 := hid (HM2.out.below hAl)
      have HC := hid (And.intro f0 (And.intro f1 f2))
      clear f0 f1 f2
      obtain ⟨f0, f1, f2⟩ := HC.out
      clear HWa HBa hAl
      generalize hww : wa.alloc (.cells #[.int .i64 M3, .slice Na3 t3.length nc3, .slice Aa3 bs3.length ac3] 25) = wc3 at *
      obtain ⟨p3, hp3⟩ : ∃ p, p = wa.heap.size := ⟨_, rfl⟩
      rw [← hp3] at HX3 ⊢
      clear hww hp3
      go_wp2_with fail
      refine (never_any n d b _).mono ?_
      rintro e wa ⟨hba, hans⟩
      obtain ⟨M4, t4, bs4, v4, Na4, nc4, Aa4, ac4, hD, rfl, hM⟩ := rl_out hans
      have HA4 := hid (fun (e : v4 = 0) => nv_acc (n := n) (a := d) (b := b) (M := M4) (t := t4) (bs := bs4) (by rw [e] at hD; exact hD) l)
      have HM4 := hid hM.mach
      have HBa := hid (HBC.out.trans (hba.mono HBC.out.size))
      have HWa := hid (HWC.out.below hba)
      have f0 := (hba.cell (cell_lt f0)).trans f0
      have f1 := (hba.cell (cell_lt f1)).trans f1
      have f2 := (hba.cell (cell_lt f2)).trans f2
      have HX2 := hid (HX2.out.below hba)
      have HM2 := hid (HM2.out.below hba)
      have HX3 := hid (HX3.out.below hba)
      have HM3 := hid (HM3.out.below hba)
      clear hba hans hD hM HBC HWC
      unfold machV
      go_upto_region 19 with fail
      have hAl : Below wa.heap.size wa (wa.alloc (.cells #[.int .i64 M4, .slice Na4 t4.length nc4, .slice Aa4 bs4.length ac4] 25)) := (Below.refl _ _).alloc (Nat.le_refl _) _
      have HX4 := hid (BoxM.made wa M4 Na4 t4.length nc4 Aa4 bs4.length ac4)
      have HM4 := hid (HM4.out.below hAl)
      have HWC := hid (HWa.out.below hAl)
      have HBC := hid (HBa.out.trans (hAl.mono HBa.out.size))
      have f0 := (hAl.cell (cell_lt f0)).trans f0
      have f1 := (hAl.cell (cell_lt f1)).trans f1
      have f2 := (hAl.cell (cell_lt f2)).trans f2
      have HX2 := hid (HX2.out.below hAl)
      have HM2 := hid (HM2.out.below hAl)
      have HX3 := hid (HX3.out.below hAl)
      have HM3 := hid (HM3.out.below hAl)
      have HC := hid (And.intro f0 (And.intro f1 f2))
      clear f0 f1 f2
      obtain ⟨f0, f1, f2⟩ := HC.out
      clear HWa HBa hAl
      generalize hww : wa.alloc (.cells #[.int .i64 M4, .slice Na4 t4.length nc4, .slice Aa4 bs4.length ac4] 25) = wc4 at *
      obtain ⟨p4, hp4⟩ : ∃ p, p = wa.heap.size := ⟨_, rfl⟩
      rw [← hp4] at HX4 ⊢
      clear hww hp4
      obtain ⟨f0, f1, f2⟩ := HC.out
      have HDr := hid (fun (n : Nat) => show Below wc4.heap.size wc4 (wc4.drewN n) from ⟨(Below.refl wc4.heap.size wc4).os, (Below.refl wc4.heap.size wc4).tape, (Below.refl wc4.heap.size wc4).output, (Below.refl wc4.heap.size wc4).size, (Below.refl wc4.heap.size wc4).block⟩)
      have HWl := hid (fun (k : Nat) (hk : k < l.length) => show ∃ b o, A = some ⟨b, o, none⟩ ∧ wc4.cell? ⟨b, o + k, none⟩ = some (.int .i64 (ltr l k)) from by
        rcases HWC.out.at_ with e | ⟨b, o, e, hc⟩
        · rw [e] at hk; simp at hk
        · exact ⟨b, o, e, hc k hk⟩)
      go_wp2_with fail
      go_loopw [18, 19, 20] (fun s18 s19 s20 wr => ∃ (k : Nat) (br : Bool), k ≤ l.length ∧ s20 = .int .i64 k ∧ s18 = .int .i64 (tms d l k) ∧ s19 = .bool br ∧ Hid (BrN d b l k br) ∧ Hid (∃ m, wr = wc4.drewN m)) (fun _ _ i _ => l.length - (intOf i).toNat)
      case atStart => exact ⟨0, false, Nat.zero_le _, rfl, rfl, rfl, ⟨fun h => by (cases h), fun h => absurd h (brk_zero d b l)⟩, 0, rfl⟩
      case round =>
        clear f0 f1 f2
        obtain ⟨k, br, hk, rfl, rfl, rfl, HN, HWr⟩ := hrel
        obtain ⟨m0, hm0⟩ := HWr.out
        obtain ⟨f0, f1, f2⟩ := HC.out
        by_cases hlt : k < l.length
        · have hlt1 : (k : Int) < (l.length : Int) := by omega
          have hk0 : (0 : Int) ≤ (k : Int) := by omega
          have g1 : wr.cell? ⟨w.heap.size, 1, none⟩ = some (.int .i64 d) := by rw [hm0]; exact f1
          have g2 : wr.cell? ⟨w.heap.size, 2, none⟩ = some (.int .i64 b) := by rw [hm0]; exact f2
          obtain ⟨bA, oA, hAe, y1⟩ := HWl.out k hlt
          have z1 : wr.cell? ⟨bA, oA + k, none⟩ = some (.int .i64 (ltr l k)) := by rw [hm0]; exact y1
          have HT1 := hid (show tms d l (k + 1) = if ltr l k = d then tms d l k + 1 else tms d l k from rfl)
          obtain ⟨ht0, ht1⟩ := tms_nn d l k
          have HMm := hid (fun (q : Nat) => show ∃ m, wr.drewN q = wc4.drewN m from ⟨_, by rw [hm0, World.drewN_drewN]⟩)
          have HMm2 := hid (fun (q r : Nat) => show ∃ m, (wr.drewN q).drewN r = wc4.drewN m from ⟨_, by rw [hm0, World.drewN_drewN, World.drewN_drewN]⟩)
          have HZp := hid (fun (hp : 0 < k) => show wr.cell? ⟨bA, oA + (k - 1), none⟩ = some (.int .i64 (ltr l (k - 1))) from by
            obtain ⟨bB, oB, hBe, y2⟩ := HWl.out (k - 1) (by omega)
            rw [hAe] at hBe
            injection hBe with q
            injection q with q1 q2
            subst q1 q2
            rw [hm0]; exact y2)
          clear y1 hm0 f0 f1 f2
          subst hAe
          have HBo := hid (fun hq => brN_old HN.out hq)
          have HBn := hid (fun hq => brN_new (a := d) (b := b) (l := l) (k := k) hq)
          clear HN
          generalize tms d l k = tk at *
          generalize ltr l k = x at *
          by_cases hxd : x = d
          · have hq0 : (x == d) = true := by simp [hxd]
            have HT := hid (HT1.out.trans (if_pos hxd))
            clear HT1 hxd
            cases br with
            | true =>
              have HB := hid (HBo.out (.inl rfl))
              clear HBo HBn HZp
              go_wp2_with fail
              go_quiet (fail)
              go_wp2_with fail
              go_quiet (fail)
              go_wp2
              go_roundw
              case rel => exact ⟨k + 1, true, by omega, by go_num, by rw [HT.out], rfl, HB.out, by first | exact HMm.out _ | exact HMm2.out _ _⟩
              case measure => simp [intOf]; omega
            | false =>
              by_cases hkp : 0 < k
              · obtain ⟨j, rfl⟩ : ∃ j, k = j + 1 := ⟨k - 1, by omega⟩
                have z2 := HZp.out hkp
                have hjs : j + 1 - 1 = j := by omega
                rw [hjs] at z2 HBo HBn
                have hkk : decide (((j + 1 : Nat) : Int) > 0) = true := by first | (simp; done) | (simp; omega)
                have hj1 : ((j + 1 : Nat) : Int) - 1 = (j : Int) := by omega
                generalize ltr l j = y at *
                by_cases hy : y = d
                · have hq1 : (y == d) = true := by simp [hy]
                  by_cases hxb : x = b
                  · have hq2 : (x == b) = true := by simp [hxb]
                    have HB := hid (HBn.out ⟨hkp, hy, hxb⟩)
                    clear HBo HBn HZp hy hxb
                    go_wp2_with fail
                    go_quiet (fail)
                    go_wp2_with fail
                    go_quiet (fail)
                    go_wp2
                    go_roundw
                    case rel => exact ⟨j + 1 + 1, true, by omega, by go_num, by rw [HT.out], rfl, HB.out, by first | exact HMm.out _ | exact HMm2.out _ _⟩
                    case measure => simp [intOf]; omega
                  · have hq2 : (x == b) = false := by simp [hxb]
                    have HB := hid (HBo.out (.inr (fun hh => hxb hh.2.2)))
                    clear HBo HBn HZp hy hxb
                    go_wp2_with fail
                    go_quiet (fail)
                    go_wp2_with fail
                    go_quiet (fail)
                    go_wp2
                    go_roundw
                    case rel => exact ⟨j + 1 + 1, false, by omega, by go_num, by rw [HT.out], rfl, HB.out, by first | exact HMm.out _ | exact HMm2.out _ _⟩
                    case measure => simp [intOf]; omega
                · have hq1 : (y == d) = false := by simp [hy]
                  have HB := hid (HBo.out (.inr (fun hh => hy hh.2.1)))
                  clear HBo HBn HZp hy
                  go_wp2_with fail
                  go_quiet (fail)
                  go_wp2_with fail
                  go_quiet (fail)
                  go_wp2
                  go_roundw
                  case rel => exact ⟨j + 1 + 1, false, by omega, by go_num, by rw [HT.out], rfl, HB.out, by first | exact HMm.out _ | exact HMm2.out _ _⟩
                  case measure => simp [intOf]; omega
              · have hkk : decide ((k : Int) > 0) = false := by first | (simp; done) | (simp; omega)
                have hkn : ¬ (k : Int) > 0 := by omega
                have HB := hid (HBo.out (.inr (fun hh => hkp hh.1)))
                clear HBo HBn HZp
                go_wp2_with fail
                go_quiet (fail)
                go_wp2_with fail
                go_quiet (fail)
                go_wp2
                go_roundw
                case rel => exact ⟨k + 1, false, by omega, by go_num, by rw [HT.out], rfl, HB.out, by first | exact HMm.out _ | exact HMm2.out _ _⟩
                case measure => simp [intOf]; omega
          · have hq0 : (x == d) = false := by simp [hxd]
            have HT := hid (HT1.out.trans (if_neg hxd))
            clear HT1 hxd
            cases br with
            | true =>
              have HB := hid (HBo.out (.inl rfl))
              clear HBo HBn HZp
              go_wp2_with fail
              go_quiet (fail)
              go_wp2_with fail
              go_quiet (fail)
              go_wp2
              go_roundw
              case rel => exact ⟨k + 1, true, by omega, by go_num, by rw [HT.out], rfl, HB.out, by first | exact HMm.out _ | exact HMm2.out _ _⟩
              case measure => simp [intOf]; omega
            | false =>
              by_cases hkp : 0 < k
              · obtain ⟨j, rfl⟩ : ∃ j, k = j + 1 := ⟨k - 1, by omega⟩
                have z2 := HZp.out hkp
                have hjs : j + 1 - 1 = j := by omega
                rw [hjs] at z2 HBo HBn
                have hkk : decide (((j + 1 : Nat) : Int) > 0) = true := by first | (simp; done) | (simp; omega)
                have hj1 : ((j + 1 : Nat) : Int) - 1 = (j : Int) := by omega
                generalize ltr l j = y at *
                by_cases hy : y = d
                · have hq1 : (y == d) = true := by simp [hy]
                  by_cases hxb : x = b
                  · have hq2 : (x == b) = true := by simp [hxb]
                    have HB := hid (HBn.out ⟨hkp, hy, hxb⟩)
                    clear HBo HBn HZp hy hxb
                    go_wp2_with fail
                    go_quiet (fail)
                    go_wp2_with fail
                    go_quiet (fail)
                    go_wp2
                    go_roundw
                    case rel => exact ⟨j + 1 + 1, true, by omega, by go_num, by rw [HT.out], rfl, HB.out, by first | exact HMm.out _ | exact HMm2.out _ _⟩
                    case measure => simp [intOf]; omega
                  · have hq2 : (x == b) = false := by simp [hxb]
                    have HB := hid (HBo.out (.inr (fun hh => hxb hh.2.2)))
                    clear HBo HBn HZp hy hxb
                    go_wp2_with fail
                    go_quiet (fail)
                    go_wp2_with fail
                    go_quiet (fail)
                    go_wp2
                    go_roundw
                    case rel => exact ⟨j + 1 + 1, false, by omega, by go_num, by rw [HT.out], rfl, HB.out, by first | exact HMm.out _ | exact HMm2.out _ _⟩
                    case measure => simp [intOf]; omega
                · have hq1 : (y == d) = false := by simp [hy]
                  have HB := hid (HBo.out (.inr (fun hh => hy hh.2.1)))
                  clear HBo HBn HZp hy
                  go_wp2_with fail
                  go_quiet (fail)
                  go_wp2_with fail
                  go_quiet (fail)
                  go_wp2
                  go_roundw
                  case rel => exact ⟨j + 1 + 1, false, by omega, by go_num, by rw [HT.out], rfl, HB.out, by first | exact HMm.out _ | exact HMm2.out _ _⟩
                  case measure => simp [intOf]; omega
              · have hkk : decide ((k : Int) > 0) = false := by first | (simp; done) | (simp; omega)
                have hkn : ¬ (k : Int) > 0 := by omega
                have HB := hid (HBo.out (.inr (fun hh => hkp hh.1)))
                clear HBo HBn HZp
                go_wp2_with fail
                go_quiet (fail)
                go_wp2_with fail
                go_quiet (fail)
                go_wp2
                go_roundw
                case rel => exact ⟨k + 1, false, by omega, by go_num, by rw [HT.out], rfl, HB.out, by first | exact HMm.out _ | exact HMm2.out _ _⟩
                case measure => simp [intOf]; omega
        · have hke : k = l.length := by omega
          have HBk := hid (show BrN d b l l.length br from hke ▸ HN.out)
          have HBr := hid (show Below wc4.heap.size wc4 wr from by rw [hm0]; exact HDr.out m0)
          have hnl : ¬ (k : Int) < (l.length : Int) := by omega
          have hke2 : tms d l k = tms d l l.length := by rw [hke]
          rw [hke2]
          have hts := tms_nn d l l.length
          generalize hTT : tms d l l.length = T at *
          have HTT := hid hTT
          clear hTT hke HN HWr hke2 hm0
          obtain ⟨f0, f1, f2⟩ := HC.out
          have f2 := (HBr.out.cell (cell_lt f2)).trans f2
          have HX2 := hid (HX2.out.below HBr.out)
          have HX3 := hid (HX3.out.below HBr.out)
          have HX4 := hid (HX4.out.below HBr.out)
          have HM2 := hid (HM2.out.below HBr.out)
          have HM3 := hid (HM3.out.below HBr.out)
          have HM4 := hid (HM4.out.below HBr.out)
          have HWC := hid (HWC.out.below HBr.out)
          have HBC := hid (HBC.out.trans (HBr.out.mono HBC.out.size))
          clear f0 f1 HBr HDr HWl m0 HC
          have hrefl : Below wr.heap.size wr wr := Below.refl _ _
          obtain ⟨g, hg⟩ : ∃ g, g = (decide (v2 = 0) && decide (v3 = 0)) := ⟨_, rfl⟩
          have HG := hid hg
          go_upto_region 26 with fail
          go_cut [156] from 151 to 156 (fun s156 wx => s156 = .bool g ∧ wr = wx)
          case first =>
            by_cases hv2 : v2 = 0
            · have hv2' : (v2 == 0) = true := by simp [hv2]
              by_cases hv3 : v3 = 0
              · have hv3' : (v3 == 0) = true := by simp [hv3]
                have HG2 := hid (show g = true by rw [hg]; simp [hv2, hv3])
                clear hg hv2 hv3
                go_wp2_with fail
                go_meet
                case rel => exact ⟨by rw [HG2.out], rfl⟩
              · have hv3' : (v3 == 0) = false := by simp [hv3]
                have HG2 := hid (show g = false by rw [hg]; simp [hv3])
                clear hg hv2 hv3
                go_wp2_with fail
                go_meet
                case rel => exact ⟨by rw [HG2.out], rfl⟩
            · have hv2' : (v2 == 0) = false := by simp [hv2]
              have HG2 := hid (show g = false by rw [hg]; simp [hv2])
              clear hg hv2
              go_wp2_with fail
              go_meet
              case rel => exact ⟨by rw [HG2.out], rfl⟩
          case rest =>
          clear hg
          obtain ⟨rfl, rfl⟩ := hcut
          go_upto_if 156 with fail
          go_cut [21, 22, 23, 24] from 157 (fun s21 s22 s23 s24 wx => Hid (Below wr.heap.size wr wx))
          case first =>
            have hgg := HG.out
            cases g with
            | true =>
              · obtain ⟨hv2, hv3⟩ : v2 = 0 ∧ v3 = 0 := by simpa using hgg.symm
                clear hgg
                subst hv2 hv3
                obtain ⟨hok2, hwE2, hacc2⟩ := HA2.out rfl
                obtain ⟨hok3, hwE3, hacc3⟩ := HA3.out rfl
                have HQ2 := hid (mAccepts_any M2 nc2 ac2 Na2 Aa2 t2 bs2 A l cap wr HM2.out HWC.out)
                have HQ3 := hid (fun wx (hb : Below wr.heap.size wr wx) => mAccepts_any M3 nc3 ac3 Na3 Aa3 t3 bs3 A l cap wx (HM3.out.below hb) (HWC.out.below hb))
                rw [hwE2] at HQ2
                rw [hwE3] at HQ3
                obtain ⟨x0, x1, x2⟩ := HX2.out
                have hz0 : ((0 : Int) == 0) = true := rfl
                unfold machV at HQ2 HQ3
                by_cases hf : lE l n = 0
                · rw [hacc2 (hwE2.trans hf), hf] at HQ2
                  rw [hacc3 (hwE3.trans hf), hf] at HQ3
                  clear hok2 hok3 hwE2 hwE3 hacc2 hacc3 hf HA2 HA3
                  go_wp2_with fail
                  refine HQ2.out.mono ?_
                  rintro e wa ⟨hba, rfl⟩
                  obtain ⟨y0, y1, y2⟩ := HX3.out.below hba
                  have f2 := (hba.cell (cell_lt f2)).trans f2
                  have HBa := hid hba
                  clear hba x0 x1 x2
                  go_wp2_with fail
                  refine (HQ3.out wa HBa.out).mono ?_
                  rintro e wb ⟨hbb, rfl⟩
                  have f2 := (hbb.cell (cell_lt f2)).trans f2
                  have HBb := hid (HBa.out.trans (hbb.mono HBa.out.size))
                  clear hbb y0 y1 y2 HBa HQ2 HQ3
                  by_cases hp : b ≤ T
                  · have hp1 : decide (b ≤ T) = true := decide_eq_true hp
                    rw [hp1]
                    by_cases hp2 : T ≤ b
                    · have hp3 : decide (T ≤ b) = true := decide_eq_true hp2
                      rw [hp3]
                      go_wp2_with fail
                      go_meet
                      case rel => exact HBb
                    · have hp3 : decide (T ≤ b) = false := decide_eq_false hp2
                      rw [hp3]
                      go_wp2_with fail
                      go_meet
                      case rel => exact HBb
                  · have hp1 : decide (b ≤ T) = false := decide_eq_false hp
                    rw [hp1]
                    have hp2 : T ≤ b := by omega
                    have hp3 : decide (T ≤ b) = true := decide_eq_true hp2
                    rw [hp3]
                    go_wp2_with fail
                    go_meet
                    case rel => exact HBb
                · have hf1 : (lE l n == 0) = false := by simp [hf]
                  have hf2 : (lE l n != lE l n) = false := by simp
                  have hf3 : (!(lE l n == lE l n)) = false := by simp
                  clear hok2 hok3 hwE2 hwE3 hacc2 hacc3 hf HA2 HA3
                  generalize lE l n = f at *
                  generalize accB M2 t2 bs2 l = a2 at *
                  generalize accB M3 t3 bs3 l = a3 at *
                  go_wp2_with fail
                  refine HQ2.out.mono ?_
                  rintro e wa ⟨hba, rfl⟩
                  obtain ⟨y0, y1, y2⟩ := HX3.out.below hba
                  have f2 := (hba.cell (cell_lt f2)).trans f2
                  have HBa := hid hba
                  clear hba x0 x1 x2
                  go_wp2_with fail
                  refine (HQ3.out wa HBa.out).mono ?_
                  rintro e wb ⟨hbb, rfl⟩
                  have f2 := (hbb.cell (cell_lt f2)).trans f2
                  have HBb := hid (HBa.out.trans (hbb.mono HBa.out.size))
                  clear hbb y0 y1 y2 HBa HQ2 HQ3
                  go_wp2_with fail
                  go_meet
                  case rel => exact HBb
            | false =>
              clear HA2 HA3 hgg
              go_wp2_with fail
              go_meet
              case rel => exact hid hrefl
          case rest =>
            have HBC := hid (HBC.out.trans (hcut.out.mono HBC.out.size))
            have HX4 := hid (HX4.out.below hcut.out)
            have HM4 := hid (HM4.out.below hcut.out)
            have HWC := hid (HWC.out.below hcut.out)
            clear hcut HX2 HX3 HM2 HM3 HA2 HA3 hrefl f2
            by_cases hv4 : v4 = 0
            · subst hv4
              obtain ⟨hok4, hwE4, hacc4⟩ := HA4.out rfl
              have HQ4 := hid (mAccepts_any M4 nc4 ac4 Na4 Aa4 t4 bs4 A l cap wc HM4.out HWC.out)
              obtain ⟨x0, x1, x2⟩ := HX4.out
              have hz0 : ((0 : Int) == 0) = true := rfl
              unfold machV at HQ4
              by_cases hf : wordE M4 t4 bs4 l = 0
              · have hao : (accB M4 t4 bs4 l == br) = false := by
                  have h1 := hacc4 hf
                  have h2 : br = true ↔ Brk d b l l.length := HBk.out
                  rw [← h2] at h1
                  cases br <;> cases haa : accB M4 t4 bs4 l <;> simp [haa] at h1 ⊢
                rw [hf] at HQ4
                clear hok4 hwE4 hacc4 hf HA4 HBk
                generalize accB M4 t4 bs4 l = a4 at *
                go_wp2_with fail
                refine HQ4.out.mono ?_
                rintro e wa ⟨hba, rfl⟩
                have HBa := hid (HBC.out.trans (hba.mono HBC.out.size))
                clear hba x0 x1 x2 HQ4
                go_wp2_with fail
                refine (known3_any _).mono ?_
                rintro e wz ⟨hbz, rfl⟩
                have HBz := hid (HBa.out.trans (hbz.mono HBa.out.size))
                go_wp2
                go_ret
                exact ⟨HBz.out, rfl⟩
              · have hf1 : (wordE M4 t4 bs4 l == 0) = false := by simp [hf]
                clear hok4 hwE4 hacc4 hf HA4 HBk
                generalize accB M4 t4 bs4 l = a4 at *
                generalize wordE M4 t4 bs4 l = f at *
                go_wp2_with fail
                refine HQ4.out.mono ?_
                rintro e wa ⟨hba, rfl⟩
                have HBa := hid (HBC.out.trans (hba.mono HBC.out.size))
                clear hba x0 x1 x2 HQ4
                go_wp2_with fail
                refine (known3_any _).mono ?_
                rintro e wz ⟨hbz, rfl⟩
                have HBz := hid (HBa.out.trans (hbz.mono HBa.out.size))
                go_wp2
                go_ret
                exact ⟨HBz.out, rfl⟩
            · have hv4' : (v4 == 0) = false := by simp [hv4]
              clear HA4 hv4
              go_wp2_with fail
              refine (known3_any _).mono ?_
              rintro e wz ⟨hbz, rfl⟩
              have HBz := hid (HBC.out.trans (hbz.mono HBC.out.size))
              go_wp2
              go_ret
              exact ⟨HBz.out, rfl⟩
end Go.Proofs.Ytkboeldafppicaa
