/- The walk of the law KitchenMore. -/
import Derived.Test.YteolckphafblmaaKiLst
import Derived.Test.YteolckphafblmaaKiLg
import Derived.Test.YteolckphafblmaaKiMo
set_option linter.unusedVariables false
namespace Go.Proofs.Yteolckphafblmaa
open Go.RowKit

def LeastA (w : World) (l : List Bt) (en : Ending) (w' : World) : Prop := Below w.heap.size w w' ∧ ∃ m e, en = .returned (.tuple #[.int .i64 m, .int .i64 e]) ∧ ((e = 0 ∧ IsLeast l m ∧ BtsOk l) ∨ e ≠ 0)
theorem kLeast_all (a : Option Addr) (l : List Bt) (cap : Nat) (w : World) (h : Bts w a l) : Calls Try.prog 25 #[.slice a l.length cap] w (LeastA w l) := by
  by_cases h0 : valE l = 0
  · exact (kLeast_ok a l cap w h h0).mono (fun e w' ⟨hb, m, hm, he⟩ => ⟨hb, m, 0, he, .inl ⟨rfl, hm, valE_ok h0⟩⟩)
  · exact (kLeast_bad a l cap w h h0).mono (fun e w' hp => ⟨hp.1, 0, valE l, hp.2, .inr h0⟩)
theorem least_bd {l : List Bt} {m : Int} (hl : BtsOk l) (hm : IsLeast l m) : 0 ≤ m ∧ m ≤ 14000 := by
  obtain ⟨o, ho, rfl⟩ := hm.has
  have h7 := packTo_bd (seq_ok hl ho) o.length (by rw [seqO_len]; exact Nat.le_refl _)
  rw [timeO_to]
  have := ho.len
  have := hl.len
  omega

theorem blk_grown {X W : World} {r : Option Nat} {B : Nat} {u : Obj} (hg : X.grownBy W r) (hn : some B ≠ r) (h : X.heap[B]? = some u) : W.heap[B]? = some u := (hg.block B (lt_of_block h) hn).trans h
theorem blk_drew {X : World} {B : Nat} {u : Obj} (h : X.heap[B]? = some u) : X.drew.heap[B]? = some u := blk_below (Below.drew (Below.refl _ _)) h
theorem own_empty {X : World} {B base t : Nat} (h : X.heap[B]? = some (.cells #[] t (0, 0))) (hb : base ≤ B) : X.ownsRow base t 2 (.slice (some ⟨B, 0, none⟩) 0 0) 0 [] :=
  ⟨rfl, .inr ⟨B, 0, #[], rfl, hb, h, Nat.le_refl _, by decide, rfl, rfl⟩⟩
theorem own_row_ge {B base : Nat} (hb : base ≤ B) : ∀ q, (Value.slice (some ⟨B, 0, none⟩) 0 0).ownBlock = some q → base ≤ q := by
  intro q hq; simp [Value.ownBlock] at hq; omega
theorem own_row_ne {B B' : Nat} (hb : B ≠ B') : some B ≠ (Value.slice (some ⟨B', 0, none⟩) 0 0).ownBlock := by
  simp [Value.ownBlock]; omega
theorem cells_two {W : World} {B t : Nat} {c p : Int} (h : W.heap[B]? = some (.cells #[.int .i64 c, .int .i64 p] t (0, 0))) : ∀ j u, [Value.int .i64 c, Value.int .i64 p][j]? = some u → W.cell? ((⟨B, 0, none⟩ : Addr).add j) = some u := by
  intro j u hu
  have had : (⟨B, 0, none⟩ : Addr).add j = ⟨B, 0 + j, none⟩ := by
    unfold Addr.add; split
    · simp_all
    · rfl
  rw [had]
  match j, hu with
  | 0, hu => simp at hu; subst hu; simp [World.cell?, h]
  | 1, hu => simp at hu; subst hu; simp [World.cell?, h]
  | j + 2, hu => simp at hu

set_option maxRecDepth 100000 in
set_option maxHeartbeats 4000000 in
theorem kitchenMore_walk (a : Option Addr) (l : List Bt) (cap : Nat) (c p : Int) (w : World) (h0 : l.length ≤ 9223372036854775807) (h : l.length ≤ 140737488355328 → Bts w a l) (hcb : -9223372036854775808 ≤ c ∧ c ≤ 9223372036854775807) (hpb : -9223372036854775808 ≤ p ∧ p ≤ 9223372036854775807) :
  Calls Try.prog 11 #[.slice a l.length cap, .agg #[.int .i64 c, .int .i64 p]] w (BoolR w true) := by
  obtain ⟨i0, hinf, hz0, hz1, hz2⟩ := info_parts batch_info
  have P0 := hid ((Below.refl w.heap.size w).alloc (Nat.le_refl _) (.cells #[.int .i64 c, .int .i64 p] 40))
  have K0 := heap_alloc_new w (.cells #[.int .i64 c, .int .i64 p] 40)
  have HL := hid (long7_any a none l.length 0 cap 0 (w.alloc (.cells #[.int .i64 c, .int .i64 p] 40)) h0 (by omega))
  cases hlg : longB l.length 0 with
  | true =>
    rw [hlg] at HL
    clear h hlg hinf hz0 hz1 hz2 K0 hcb hpb
    go_enter Try.func11, Try.ntmps11
    go_wp2_with fail
    refine (HL.out).mono ?_
    rintro e w' ⟨rfl, rfl⟩
    go_wp2_with fail
    refine (known7_any _).mono ?_
    rintro e w99 ⟨hb, rfl⟩
    have P99 := hid (P0.out.trans (hb.mono P0.out.size))
    clear hb
    go_wp2
    go_ret
    exact ⟨P99.out, rfl⟩
  | false =>
    rw [hlg] at HL
    obtain ⟨hn, -⟩ := longB_no hlg
    have hB := h (by omega)
    have HBd := hid hB.bd
    have H1 := hid (kLeast_all a l cap _ (hB.below P0.out))
    have HB := hid hB
    have HCb := hid hcb
    have HPb := hid hpb
    clear h hlg hB hcb hpb
    go_enter Try.func11, Try.ntmps11
    go_wp2_with fail
    refine (HL.out).mono ?_
    rintro e w' ⟨rfl, rfl⟩
    go_wp2_with fail
    refine (H1.out).mono ?_
    rintro e w2 ⟨hb2, m, f, rfl, hm⟩
    have P2 := hid (P0.out.trans (hb2.mono P0.out.size))
    have K2 := blk_below hb2 K0
    have lt2 := lt_of_block K2
    have HM := hid hm
    have HB2 := hid (HB.out.below P2.out)
    clear hb2 K0 hm HL H1
    have c0 : w2.cell? ⟨w.heap.size, 0, none⟩ = some (.int .i64 c) := by simp [World.cell?, K2]
    have c1 : w2.cell? ⟨w.heap.size, 1, none⟩ = some (.int .i64 p) := by simp [World.cell?, K2]
    have hr : Below w2.heap.size w2 w2 := Below.refl _ _
    have HKp := hid (fun (w' : World) (hb : Below w2.heap.size w2 w') => (show w'.cell? ⟨w.heap.size, 0, none⟩ = some (.int .i64 c) ∧ w'.cell? ⟨w.heap.size, 1, none⟩ = some (.int .i64 p) ∧ Below w2.heap.size w2 w' from
      ⟨(hb.cell (p := ⟨w.heap.size, 0, none⟩) lt2).trans c0, (hb.cell (p := ⟨w.heap.size, 1, none⟩) lt2).trans c1, hb⟩))
    clear c0 c1
    go_wp2_with fail
    obtain ⟨l2, hl2⟩ : ∃ l2, l2 = l ++ [(c, p)] := ⟨_, rfl⟩
    have HL2 := hid hl2
    clear hl2
    go_cut [7] from 18 (fun s7 wx => ∃ A cf, s7 = .slice A l2.length cf ∧ Hid (Bts wx A l2) ∧ Hid (Below w2.heap.size w2 wx))
    case first =>
      have HFin := hid (fun (W : World) (v : Value) (hb : Below w2.heap.size w2 W) (ho : W.ownsRow w2.heap.size 40 2 v (l.length + 1) (btC l ++ [.int .i64 c, .int .i64 p])) => (show ∃ A cf, v = .slice A l2.length cf ∧ Hid (Bts W A l2) ∧ Hid (Below w2.heap.size w2 W) from by
        rw [HL2.out]
        have ho' : OwnB W w2.heap.size v (l ++ [(c, p)]) := by
          unfold OwnB; rw [btC_snoc, List.length_append]; exact ho
        obtain ⟨A, cf, e, hq⟩ := ho'.bts (by rw [List.length_append]; simp; omega) (fun x hx => by
          rcases List.mem_append.1 hx with hx | hx
          · exact HBd.out x hx
          · simp at hx; subst hx; exact ⟨HCb.out, HPb.out⟩)
        exact ⟨A, cf, e, hid hq, hid hb⟩))
      cases a with
      | none =>
        have e0 : l = [] := by
          rcases HB2.out.at_ with e | ⟨b, off, e, _⟩
          · exact e
          · cases e
        subst e0
        go_region_held3 (fun w' => w'.cell? ⟨w.heap.size, 0, none⟩ = some (.int .i64 c) ∧ w'.cell? ⟨w.heap.size, 1, none⟩ = some (.int .i64 p) ∧ Below w2.heap.size w2 w')
          ((refine HKp.out _ ?_; repeat (first | exact hr | assumption | apply Below.drew | (refine Below.alloc ?_ (by first | exact Below.size (by assumption) | omega | (simp; done) | (simp; omega)) _))))
          ((refine step_append_own (by rfl) _ _ 22 (by rfl) w2.heap.size 40 i0 (.agg #[.int .i64 0, .int .i64 0]) 2 16 Try.underlying22 hinf hz0 hz1 hz2 rfl (by decide) _ 0 [] (by rfl) (by refine own_empty ?_ (by first | omega | (simp; done) | (simp; omega)); repeat (first | (with_reducible exact blk_new (by first | rfl | (simp; done))) | (with_reducible refine blk_alloc ?_) | (with_reducible refine blk_drew ?_))) _ 1 1 [.int .i64 c, .int .i64 p] (by rfl) (by rfl) (cells_two (by repeat (first | (with_reducible exact blk_new (by first | rfl | (simp; done))) | (with_reducible refine blk_alloc ?_) | (with_reducible refine blk_drew ?_)))) (by simp [Value.oneCell']) (by unfold maxLen; omega) (by omega) (by first | omega | (simp; done) | (simp; omega)) ?_; intro v7 w7 hown7 hgrow7; have p7 : Below w2.heap.size w2 w7 := Below.grown (by repeat (first | exact hr | apply Below.drew | (refine Below.alloc ?_ (by first | omega | (simp; done) | (simp; omega)) _))) hgrow7 (by first | omega | (simp; done) | (simp; omega)) (own_row_ge (by first | omega | (simp; done) | (simp; omega)))))
        all_goals
          go_wp2_with fail
          go_meet
          case rel => exact HFin.out _ _ p7 hown7
      | some ad =>
        have HNw := hid (fun (W : World) (hb : Below w2.heap.size w2 W) => (show ∀ j u, (btC l)[j]? = some u → W.cell? (ad.add j) = some u from by
          rcases bts_news (HB2.out.below hb) with e | ⟨ad', e, hq⟩
          · have e1 := btC_len l
            rw [e] at e1
            intro j u hu
            have := (List.getElem?_eq_some_iff.1 hu).1
            omega
          · cases e; exact hq))
        have HLn := hid (btC_len l)
        have HOn := hid (btC_one l)
        go_region_held3 (fun w' => w'.cell? ⟨w.heap.size, 0, none⟩ = some (.int .i64 c) ∧ w'.cell? ⟨w.heap.size, 1, none⟩ = some (.int .i64 p) ∧ Below w2.heap.size w2 w')
          ((refine HKp.out _ ?_; repeat (first | exact hr | assumption | apply Below.drew | (refine Below.alloc ?_ (by first | exact Below.size (by assumption) | omega | (simp; done) | (simp; omega)) _))))
          (first
            | (refine step_append_own (by rfl) _ _ 22 (by rfl) w2.heap.size 40 i0 (.agg #[.int .i64 0, .int .i64 0]) 2 16 Try.underlying22 hinf hz0 hz1 hz2 rfl (by decide) _ 0 [] (by rfl) (by refine own_empty ?_ (by first | omega | (simp; done) | (simp; omega)); repeat (first | (with_reducible exact blk_new (by first | rfl | (simp; done))) | (with_reducible refine blk_alloc ?_) | (with_reducible refine blk_drew ?_))) ad l.length cap (btC l) (by rfl) HLn.out (HNw.out _ (by repeat (first | exact hr | assumption | apply Below.drew | (refine Below.alloc ?_ (by first | omega | (simp; done) | (simp; omega)) _)))) HOn.out (by unfold maxLen; omega) (by omega) (by first | omega | (simp; done) | (simp; omega)) ?_; intro v6 w6 hown6 hgrow6; have p6 : Below w2.heap.size w2 w6 := Below.grown (by repeat (first | exact hr | assumption | apply Below.drew | (refine Below.alloc ?_ (by first | omega | (simp; done) | (simp; omega)) _))) hgrow6 (by first | omega | (simp; done) | (simp; omega)) (own_row_ge (by first | omega | (simp; done) | (simp; omega))); have z6 := p6.size; have y6 := hgrow6.size; simp only [Nat.zero_add, List.nil_append] at hown6)
            | (refine step_append_own (by rfl) _ _ 22 (by rfl) w2.heap.size 40 i0 (.agg #[.int .i64 0, .int .i64 0]) 2 16 Try.underlying22 hinf hz0 hz1 hz2 rfl (by decide) _ l.length (btC l) (by rfl) (by first | exact hown6 | exact own_below hown6 (Below.drew (Below.refl _ _)) | exact own_below hown6 ((Below.refl _ _).alloc (Nat.le_refl _) _) | exact own_below hown6 (Below.drew ((Below.refl _ _).alloc (Nat.le_refl _) _)) | exact own_below hown6 (Below.drew (Below.alloc (Below.drew (Below.refl _ _)) (by first | exact Nat.le_refl _ | (simp; done)) _))) _ 1 1 [.int .i64 c, .int .i64 p] (by rfl) (by rfl) (cells_two (by repeat (first | (with_reducible exact blk_new (by first | rfl | (simp; done))) | (with_reducible refine blk_alloc ?_) | (with_reducible refine blk_drew ?_) | (with_reducible refine blk_grown hgrow6 ?_ ?_) | (exact own_row_ne (by first | omega | (simp; done) | (simp; omega)))))) (by simp [Value.oneCell']) (by unfold maxLen; omega) (by omega) (by first | omega | (simp; done) | (simp; omega)) ?_; intro v7 w7 hown7 hgrow7; have p7 : Below w2.heap.size w2 w7 := Below.grown (by repeat (first | exact p6 | apply Below.drew | (refine Below.alloc ?_ (by first | omega | (simp; done) | (simp; omega)) _))) hgrow7 (by first | omega | (simp; done) | (simp; omega)) (fun q hq => (hown6.lt q hq).1)))
        all_goals
          go_wp2_with fail
          go_meet
          case rel => exact HFin.out _ _ p7 hown7
    case rest =>
      obtain ⟨A, cf, rfl, HB3, HP3⟩ := hcut
      have P3 := hid (P2.out.trans (HP3.out.mono P2.out.size))
      have K3 := blk_below HP3.out K2
      have H4 := hid (kLeast_all A l2 cf _ HB3.out)
      clear hr HKp K2 lt2
      go_wp2_with fail
      refine (H4.out).mono ?_
      rintro e w4 ⟨hb4, m2, f2, rfl, hm2⟩
      have P4 := hid (P3.out.trans (hb4.mono P3.out.size))
      have K4 := blk_below hb4 K3
      clear hb4 K3 H4
      have hm := HM.out
      clear HM
      rcases hm with ⟨rfl, hm, hv⟩ | hm
      · rcases hm2 with ⟨rfl, hm2, hv2⟩ | hm2
        · rw [HL2.out] at hm2 hv2
          have hc := hv2.all (c, p) (by simp)
          have hbd := least_bd hv hm
          have hle := least_more (fun x hx => ⟨(hv.all x hx).1.1, (hv.all x hx).2.1⟩) (b := (c, p)) hc.1.1 hc.2.1 hm hm2
          dsimp only at hc hle
          have c0 : w4.cell? ⟨w.heap.size, 0, none⟩ = some (.int .i64 c) := by simp [World.cell?, K4]
          have c1 : w4.cell? ⟨w.heap.size, 1, none⟩ = some (.int .i64 p) := by simp [World.cell?, K4]
          have e1 : IntKind.i64.wrap (m + c) = m + c := IntWalk.i64_in _ (by omega)
          have e2 : IntKind.i64.wrap (m + c + p) = m + c + p := IntWalk.i64_in _ (by omega)
          have d1 : decide (m ≤ m2) = true := decide_eq_true hle.1
          have d2 : decide (m2 ≤ m + c + p) = true := decide_eq_true hle.2
          clear hm hm2 hv hv2 hc hbd hle K4
          go_wp2_with fail
          refine (known7_any _).mono ?_
          rintro e w99 ⟨hb, rfl⟩
          have P99 := hid (P4.out.trans (hb.mono P4.out.size))
          clear hb
          go_wp2
          go_ret
          exact ⟨P99.out, rfl⟩
        · have d1 : (f2 != 0) = true := by simp [hm2]
          clear hm2 hm hv K4
          go_wp2_with fail
          refine (known7_any _).mono ?_
          rintro e w99 ⟨hb, rfl⟩
          have P99 := hid (P4.out.trans (hb.mono P4.out.size))
          clear hb
          go_wp2
          go_ret
          exact ⟨P99.out, rfl⟩
      · have d1 : (f != 0) = true := by simp [hm]
        clear hm2 hm K4
        go_wp2_with fail
        refine (known7_any _).mono ?_
        rintro e w99 ⟨hb, rfl⟩
        have P99 := hid (P4.out.trans (hb.mono P4.out.size))
        clear hb
        go_wp2
        go_ret
        exact ⟨P99.out, rfl⟩
end Go.Proofs.Yteolckphafblmaa
