/- Better potentials; a length that no tour is below; Tree and Bound: package van. -/
import Derived.Test.YtbffdpcogfmomaaVaMove
set_option linter.unusedVariables false
namespace Go.Proofs.Ytbffdpcogfmomaa
open Go.RowKit

def RaiseV (t : Tbl) (p : List Int) (w : World) (en : Ending) (w' : World) : Prop :=
  Below w.heap.size w w' ∧ ∃ A c q B, en = .returned (.slice A t.length c) ∧ Ints w' A q ∧ Pots q t.length ∧ BoundIs t q B ∧ ∀ B0, BoundIs t p B0 → B0 ≤ B
theorem tdiv_two (s : Nat) : Int.tdiv (s : Int) 2 = ((s / 2 : Nat) : Int) := by
  rw [Int.tdiv_eq_ediv_of_nonneg (by omega)]; omega
theorem measR {B B' s s' : Int} (h : B ≤ 50000) (h' : B' ≤ 50000) (hs : 0 ≤ s ∧ s ≤ 1000) (hs' : 0 ≤ s' ∧ s' ≤ 1000) (hd : (B < B') ∨ (B = B' ∧ s' < s)) : (50000 - B').toNat * 1001 + s'.toNat < (50000 - B).toNat * 1001 + s.toNat := by
  rcases hd with hd | ⟨rfl, hd⟩
  · omega
  · omega
set_option maxRecDepth 100000 in
set_option maxHeartbeats 8000000 in
theorem vRaise_any (a A : Option Addr) (t : Tbl) (p : List Int) (cap c : Nat) (w : World) (h : TabAt w a t) (hi : Ints w A p) (ht : Ways t) (hp : Pots p t.length) (h3 : 3 ≤ t.length) :
  Calls Try.prog 74 #[.slice a t.length cap, .slice A t.length c] w (RaiseV t p w) := by
  have hl7 := ht.len
  have hpl := hp.len
  have HCl0 := kclone_any A p c w hi (by omega)
  rw [hpl] at HCl0
  have HCl := hid HCl0
  have HBo := hid (fun (w' : World) (hb : Below w.heap.size w w') (D : Option Addr) (q : List Int) (d : Nat) (hq : Ints w' D q) (hqp : Pots q t.length) => by
    have := vBoundOf_any a D t q cap d w' (h.below hb) hq ht hqp h3
    rw [hqp.len] at this
    exact this)
  have HT := hid ht
  have HP := hid hp
  clear h hi ht hp HCl0 hpl
  go_enter Try.func74, Try.ntmps74
  go_wp2_with fail
  refine HCl.out.mono ?_
  rintro e w1 ⟨hb1, A1, c1, he, hI1, _⟩
  rw [HP.out.len] at he
  subst he
  have HB1 := hid hb1
  have HI1 := hid hI1
  have HC2 := hid (HBo.out w1 hb1 A1 p c1 hI1 HP.out)
  clear hb1 hI1 HCl
  go_wp2_with fail
  refine HC2.out.mono ?_
  rintro e w2 ⟨hb2, B1, g2, ds, rfl, hBI, hg2, hdg, hdl, hdb⟩
  have HI2 := hid (HI1.out.below hb2)
  have HB2 := hid (HB1.out.trans (hb2.mono HB1.out.size))
  have HD2 := hid (arrV_ints hdg (by omega) (fun x hx => by have := hdb x hx; omega))
  have HBI := hid hBI
  have HDL := hid hdl
  have HDB := hid hdb
  clear hb2 hdg hdl hdb hBI HC2 HI1 HB1
  go_wp2_with fail
  go_loopw [5, 6, 7, 8] (fun vb vB vd vs wr => ∃ (q ds : List Int) (B s : Int) (A1 D : Option Addr) (c1 d : Nat), vb = .slice A1 t.length c1 ∧ vB = .int .i64 B ∧ vd = .slice D t.length d ∧ vs = .int .i64 s ∧ (0 ≤ s ∧ s ≤ 1000) ∧ Hid (Ints wr A1 q ∧ Pots q t.length ∧ BoundIs t q B ∧ B1 ≤ B) ∧ Hid (Ints wr D ds ∧ ds.length = t.length ∧ ∀ x ∈ ds, 0 ≤ x ∧ x ≤ 20) ∧ Hid (Below w.heap.size w wr)) (fun _ vB _ vs _ => (50000 - intOf vB).toNat * 1001 + (intOf vs).toNat)
  case atStart => exact ⟨p, ds, B1, 1000, A1, some ⟨g2, 0, none⟩, c1, t.length, rfl, rfl, rfl, rfl, by omega, ⟨HI2.out, HP.out, HBI.out, Int.le_refl _⟩, ⟨HD2.out, HDL.out, HDB.out⟩, HB2⟩
  case round =>
    obtain ⟨q, ds, B, s, A3, D3, c3, d3, rfl, rfl, rfl, rfl, hs, HQ, HD, HB⟩ := hrel
    clear HI2 HB2 HD2
    have hBb := HQ.out.2.2.1.bd HT.out HQ.out.2.1
    by_cases hs0 : 0 < s
    · have HMv := hid (vMoved_any A3 D3 q ds t.length c3 d3 s wr HQ.out.1 HD.out.1 HQ.out.2.1 HD.out.2.1 HD.out.2.2 hs hl7)
      go_wp2_with fail
      refine HMv.out.mono ?_
      rintro e w4 ⟨hb4, A4, c4, q4, rfl, hI4, hP4⟩
      have HB4 := hid (HB.out.trans (hb4.mono HB.out.size))
      have HI4 := hid hI4
      have HP4 := hid hP4
      have HQ4 := hid (show Ints w4 A3 q from HQ.out.1.below hb4)
      have HD4 := hid (show Ints w4 D3 ds from HD.out.1.below hb4)
      have HC4 := hid (HBo.out w4 HB4.out A4 q4 c4 hI4 hP4)
      clear hb4 hI4 hP4 HMv
      go_wp2_with fail
      refine HC4.out.mono ?_
      rintro e w5 ⟨hb5, B5, g5, ds5, rfl, hBI5, hg5, hdg5, hdl5, hdb5⟩
      have HB5 := hid (HB4.out.trans (hb5.mono HB4.out.size))
      have HD5 := hid (arrV_ints hdg5 (by omega) (fun x hx => by have := hdb5 x hx; omega))
      have HI5 := hid (HI4.out.below hb5)
      have HQ5 := hid (HQ4.out.below hb5)
      have HE5 := hid (HD4.out.below hb5)
      have HBI5 := hid hBI5
      have HDL5 := hid hdl5
      have HDB5 := hid hdb5
      have hB5 := hBI5.bd HT.out HP4.out
      clear hb5 hdg5 hdl5 hdb5 hBI5 HC4
      by_cases hc : B < B5
      · have hge := HQ.out.2.2.2
        go_wp2
        go_roundw
        case rel => exact ⟨q4, ds5, B5, s, A4, some ⟨g5, 0, none⟩, c4, t.length, rfl, rfl, rfl, rfl, hs, ⟨HI5.out, HP4.out, HBI5.out, by omega⟩, ⟨HD5.out, HDL5.out, HDB5.out⟩, HB5⟩
        case measure => exact measR hBb.2 hB5.2 hs hs (.inl hc)
      · have hc' : B5 ≤ B := by omega
        obtain ⟨sn, rfl⟩ := Int.eq_ofNat_of_zero_le hs.1
        have hq := tdiv_two sn
        have hdn : sn / 2 < sn := Nat.div_lt_self (by omega) (by omega)
        have hdn2 : ((sn / 2 : Nat) : Int) < (sn : Int) := by omega
        have HHs := hid (show 0 ≤ ((sn / 2 : Nat) : Int) ∧ ((sn / 2 : Nat) : Int) ≤ 1000 by omega)
        have HMe := hid (measR (B := B) (B' := B) (s := (sn : Int)) (s' := ((sn / 2 : Nat) : Int)) (by omega) (by omega) hs HHs.out (.inr ⟨rfl, hdn2⟩))
        have hb1 : -9223372036854775808 ≤ ((sn / 2 : Nat) : Int) ∧ ((sn / 2 : Nat) : Int) ≤ 9223372036854775807 := by omega
        have hw1 : IntKind.i64.wrap (((sn / 2 : Nat) : Int)) = ((sn / 2 : Nat) : Int) := IntWalk.i64_in _ (by omega)
        generalize sn / 2 = s2 at *
        clear hdn
        go_wp2
        go_roundw
        case rel => exact ⟨q, ds, B, (s2 : Int), A3, D3, c3, d3, rfl, rfl, rfl, by first | rfl | (rw [hq]) | go_num, HHs.out, ⟨HQ5.out, HQ.out.2⟩, ⟨HE5.out, HD.out.2⟩, HB5⟩
        case measure => first | exact HMe.out | (simp only [hq]; exact HMe.out)
    · have hs0' : s ≤ 0 := by omega
      go_wp2
      go_ret
      exact ⟨HB.out, A3, c3, q, B, rfl, HQ.out.1, HQ.out.2.1, HQ.out.2.2.1, fun B0 h0 => by rw [h0.eq HBI.out]; exact HQ.out.2.2.2⟩
theorem zeros_pots (n : Nat) : Pots (List.replicate n 0) n := ⟨by simp, fun x hx => by have := (List.mem_replicate.1 hx).2; omega⟩
/-- There is a bound. -/
def LeastV (t : Tbl) (w : World) (en : Ending) (w' : World) : Prop :=
  Below w.heap.size w w' ∧ ∃ v, en = .returned (.int .i64 v) ∧ (∀ o, IsTour o t.length → v ≤ tourL t o) ∧ -50000 ≤ v ∧ v ≤ 50000
set_option maxRecDepth 100000 in
set_option maxHeartbeats 4000000 in
theorem vLeast_any (a : Option Addr) (t : Tbl) (cap : Nat) (w : World) (h : TabAt w a t) (ht : Ways t) : Calls Try.prog 63 #[.slice a t.length cap] w (LeastV t w) := by
  have hl7 := ht.len
  have hpos := ht.pos
  by_cases h3 : t.length < 3
  · have HT := hid ht
    have h3' : (t.length : Int) < 3 := by omega
    clear h ht
    go_enter Try.func63, Try.ntmps63
    go_wp2
    go_ret
    exact ⟨Below.refl _ _, 0, rfl, fun o ho => (tourL_bd HT.out ho.stops).1, by omega, by omega⟩
  · have h3' : 3 ≤ t.length := by omega
    have hmk := make_ints t.length (by omega)
    have hx := (Below.refl w.heap.size w).alloc (Nat.le_refl _) (.cells (List.replicate t.length (Value.int .i64 0)).toArray 3)
    have HX := hid hx
    have hz : (w.alloc (.cells (List.replicate t.length (Value.int .i64 0)).toArray 3)).heap[w.heap.size]? = some (.cells (cellsV (List.replicate t.length 0)) 3 (0, 0)) := by rw [zerosV]; exact heap_alloc_new _ _
    have hI := arrV_ints hz (by simp; omega) (fun x hx => by have := (List.mem_replicate.1 hx).2; omega)
    have hT := h.below hx
    have HR := hid (by
      have := vRaise_any a (some ⟨w.heap.size, 0, none⟩) t (List.replicate t.length 0) cap t.length _ hT hI ht (zeros_pots _) h3'
      exact this)
    have HB := hid (fun (w' : World) (hb : Below w.heap.size w w') (D : Option Addr) (q : List Int) (d : Nat) (hq : Ints w' D q) (hqp : Pots q t.length) => by
      have := vBoundOf_any a D t q cap d w' (h.below hb) hq ht hqp h3'
      rw [hqp.len] at this
      exact this)
    have HT := hid ht
    have h3'' : (3 : Int) ≤ (t.length : Int) := by omega
    clear h ht hx hz hI hT h3
    go_enter Try.func63, Try.ntmps63
    go_wp2_with fail
    refine HR.out.mono ?_
    rintro e w1 ⟨hb1, A, c, q, B, rfl, hI1, hP1, hB1, _⟩
    have HB1 := hid (HX.out.trans (hb1.mono (by simp)))
    have HP1 := hid hP1
    have HC := hid (HB.out w1 HB1.out A q c hI1 hP1)
    clear hb1 hI1 hP1 hB1 HB HX
    go_wp2_with fail
    refine HC.out.mono ?_
    rintro e w2 ⟨hb2, B2, g2, ds, rfl, hBI, _, _, _, _⟩
    have HB2 := hid (HB1.out.trans (hb2.mono HB1.out.size))
    have HBI := hid hBI
    clear hb2 hBI
    go_wp2
    go_ret
    exact ⟨HB2.out, B2, rfl, fun o ho => HBI.out.le HT.out h3' HP1.out ho, (HBI.out.bd HT.out HP1.out).1, (HBI.out.bd HT.out HP1.out).2⟩
/-- What a call answers that gives a number or an error. -/
def NumE (w : World) (P : Int → Prop) (e : Int) (en : Ending) (w' : World) : Prop :=
  Below w.heap.size w w' ∧ ((e ≠ 0 ∧ en = .returned (.tuple #[.int .i64 0, .int .i64 e])) ∨ (e = 0 ∧ ∃ v, en = .returned (.tuple #[.int .i64 v, .int .i64 0]) ∧ P v))
set_option maxRecDepth 100000 in
set_option maxHeartbeats 4000000 in
theorem vTreeP_any (a : Option Addr) (t : Tbl) (cap : Nat) (w : World) (h : TabAt w a t) : Calls Try.prog 30 #[.slice a t.length cap] w (NumE w (fun m => Mst t ((0 : Int) :: stopsL t.length) 0 m) (vaV t)) := by
  have HV := hid (vValidate_any a t cap w h)
  by_cases hv : vaV t = 0
  · have ht := (ways_iff t).1 hv
    have hpos := ht.pos
    rw [hv] at HV
    have HTr := hid (fun (w' : World) (hb : Below w.heap.size w w') => vTree_any a t cap t.length 0 w' (h.below hb) ht.sq (by omega))
    have HE := hid hv
    clear h hv ht
    go_enter Try.func30, Try.ntmps30
    go_wp2_with fail
    refine HV.out.mono ?_
    rintro e w1 ⟨hb1, rfl⟩
    have HB1 := hid hb1
    have HC := hid (HTr.out w1 hb1)
    clear hb1
    go_wp2_with fail
    refine HC.out.mono ?_
    rintro e w2 ⟨hb2, m, ds, rfl, hM, _⟩
    rw [plL_zero] at hM
    have HM := hid hM
    have HB2 := hid (HB1.out.trans (hb2.mono HB1.out.size))
    clear hb2 hM HC
    go_wp2
    go_ret2
    exact ⟨HB2.out, .inr ⟨HE.out, m, rfl, HM.out⟩⟩
  · have HE := hid hv
    have hc := vaV_cases t
    generalize vaV t = e0 at *
    have hne : (e0 == 0) = false := by simp; exact hv
    clear h
    go_enter Try.func30, Try.ntmps30
    go_wp2_with fail
    refine HV.out.mono ?_
    rintro e w1 ⟨hb1, rfl⟩
    have HB1 := hid hb1
    clear hb1
    go_wp2
    go_ret2
    exact ⟨HB1.out, .inl ⟨HE.out, rfl⟩⟩
/-- The error of ways and potentials. -/
def potsB (p : List Int) : Bool := p.all fun x => zin x (-1000) 1000
def ptE (t : Tbl) (p : List Int) : Int := if vaV t = 0 then (if 3 ≤ t.length ∧ p.length = t.length ∧ potsB p = true then 0 else 1) else vaV t
theorem ptE_val {t : Tbl} {p : List Int} (h : vaV t ≠ 0) : ptE t p = vaV t := if_neg h
theorem ptE_one {t : Tbl} {p : List Int} (h : vaV t = 0) (h2 : ¬ (3 ≤ t.length ∧ p.length = t.length ∧ potsB p = true)) : ptE t p = 1 := by unfold ptE; rw [if_pos h, if_neg h2]
theorem ptE_ok {t : Tbl} {p : List Int} (h : vaV t = 0) (h2 : 3 ≤ t.length ∧ p.length = t.length ∧ potsB p = true) : ptE t p = 0 := by unfold ptE; rw [if_pos h, if_pos h2]
theorem ptE_iff (t : Tbl) (p : List Int) : ptE t p = 0 ↔ Ways t ∧ 3 ≤ t.length ∧ Pots p t.length := by
  constructor
  · intro h
    unfold ptE at h
    split at h
    · rename_i h1
      split at h
      · rename_i h2
        refine ⟨(ways_iff t).1 h1, h2.1, h2.2.1, fun x hx => ?_⟩
        have := List.all_eq_true.1 h2.2.2 x hx
        simpa [zin] using this
      · cases h
    · rename_i h1; exact absurd h h1
  · rintro ⟨h1, h2, h3⟩
    refine ptE_ok ((ways_iff t).2 h1) ⟨h2, h3.len, List.all_eq_true.2 fun x hx => ?_⟩
    have := h3.bd x hx
    simpa [zin] using this
theorem potsB_bad {p : List Int} {k : Nat} (hk : k < p.length) (h : zin (vAt p k) (-1000) 1000 = false) : potsB p = false := by
  rw [Bool.eq_false_iff]
  intro e
  have := List.all_eq_true.1 e _ (vAt_mem hk)
  simp [h] at this
set_option maxRecDepth 100000 in
set_option maxHeartbeats 4000000 in
theorem vCheckPots_any (a A : Option Addr) (t : Tbl) (p : List Int) (cap c : Nat) (w : World) (h : TabAt w a t) (hi : Ints w A p) : Calls Try.prog 72 #[.slice a t.length cap, .slice A p.length c] w (IntR w (ptE t p)) := by
  have HV := hid (vValidate_any a t cap w h)
  have htl := h.len
  have hpl := hi.len
  by_cases hv : vaV t = 0
  · rw [hv] at HV
    have HE := hid (fun h2 => ptE_one (t := t) (p := p) hv h2)
    have HO := hid (fun h2 => ptE_ok (t := t) (p := p) hv h2)
    have HI := hid hi
    clear h hi hv
    by_cases h3 : t.length < 3
    · have HN := hid (HE.out (fun h => by omega))
      have h3' : (t.length : Int) < 3 := by omega
      clear HE HO h3
      go_enter Try.func72, Try.ntmps72
      go_wp2_with fail
      refine HV.out.mono ?_
      rintro e w1 ⟨hb1, rfl⟩
      have HB1 := hid hb1
      clear hb1
      go_wp2
      go_ret
      exact ⟨HB1.out, ret_int (by rw [HN.out])⟩
    · have h3' : ¬ (t.length : Int) < 3 := by omega
      by_cases hpt : p.length = t.length
      · have hne : ((p.length : Int) == (t.length : Int)) = true := by simp; omega
        have HE2 := hid (fun (e : potsB p = false) => HE.out (fun h => by rw [e] at h; simp at h))
        have HO2 := hid (fun (e : potsB p = true) => HO.out ⟨by omega, hpt, e⟩)
        have hne2 : ((p.length : Int) != (t.length : Int)) = false := by simp; omega
        have hle1 : (p.length : Int) ≤ (t.length : Int) := by omega
        have hle2 : (t.length : Int) ≤ (p.length : Int) := by omega
        clear HE HO h3 hpt
        go_enter Try.func72, Try.ntmps72
        go_wp2_with fail
        refine HV.out.mono ?_
        rintro e w1 ⟨hb1, rfl⟩
        have HB1 := hid hb1
        clear hb1
        go_wp2_with fail
        go_loop [25] (fun i => ∃ (k : Nat), k ≤ p.length ∧ i = .int .i64 k ∧ Hid (∀ j, j < k → zin (vAt p j) (-1000) 1000 = true)) (fun i => p.length - (intOf i).toNat)
        case atStart => exact ⟨0, Nat.zero_le _, rfl, fun j hj => by omega⟩
        case round =>
          obtain ⟨k, hk, rfl, HG⟩ := hrel
          by_cases hlt : k < p.length
          · obtain ⟨b, off, rfl, hc⟩ := (HI.out.below HB1.out).at' (by omega)
            have c0 := hc k hlt
            rw [show p[k]?.getD 0 = vAt p k from rfl] at c0
            have HBad := hid (fun e => HE2.out (potsB_bad hlt e))
            have HGs := hid (fun (e : zin (vAt p k) (-1000) 1000 = true) => show ∀ j, j < k + 1 → zin (vAt p j) (-1000) 1000 = true from fun j hj => by
              rcases Nat.lt_or_ge j k with h | h
              · exact HG.out j h
              · rw [show j = k by omega]; exact e)
            clear hc
            generalize vAt p k = x at *
            have HA := hid (vWithin_any x (-1000) 1000)
            cases hz : zin x (-1000) 1000 with
            | false =>
              rw [hz] at HA
              have HN := hid (HBad.out hz)
              clear hz HBad HGs
              go_wp2_with fail
              refine (HA.out _).mono ?_
              rintro e w2 ⟨rfl, rfl⟩
              go_wp2
              go_ret
              exact ⟨HB1.out, ret_int (by rw [HN.out])⟩
            | true =>
              rw [hz] at HA
              have HN := hid (HGs.out hz)
              clear hz HBad HGs
              go_wp2_with fail
              refine (HA.out _).mono ?_
              rintro e w2 ⟨rfl, rfl⟩
              go_wp2
              go_round
              case rel => exact ⟨k + 1, by omega, by go_num, HN⟩
              case measure => simp [intOf]; omega
          · have HN := hid (HO2.out (List.all_eq_true.2 fun x hx => by obtain ⟨j, hj, rfl⟩ := mem_vAt hx; exact HG.out j (by omega)))
            go_wp2
            go_ret
            exact ⟨HB1.out, ret_int (by rw [HN.out])⟩
      · have hne : ((p.length : Int) == (t.length : Int)) = false := by simp; omega
        have hne2 : ((p.length : Int) != (t.length : Int)) = true := by simp; omega
        have h33 : 3 ≤ (t.length : Int) := by omega
        have hcj : ¬ (3 ≤ (t.length : Int) ∧ ((p.length : Int) != (t.length : Int)) = false) := fun h => by rw [hne2] at h; simp at h
        have HN := hid (HE.out (fun h => hpt h.2.1))
        clear HE HO h3 hpt
        go_enter Try.func72, Try.ntmps72
        go_wp2_with fail
        refine HV.out.mono ?_
        rintro e w1 ⟨hb1, rfl⟩
        have HB1 := hid hb1
        clear hb1
        go_wp2
        go_ret
        exact ⟨HB1.out, ret_int (by rw [HN.out])⟩
  · have HN := hid (ptE_val (p := p) hv)
    have hne : (vaV t == 0) = false := by simp; exact hv
    clear h hi
    generalize vaV t = e0 at *
    go_enter Try.func72, Try.ntmps72
    go_wp2_with fail
    refine HV.out.mono ?_
    rintro e w1 ⟨hb1, rfl⟩
    have HB1 := hid hb1
    clear hb1
    go_wp2
    go_ret
    exact ⟨HB1.out, ret_int (by rw [HN.out])⟩
set_option maxRecDepth 100000 in
set_option maxHeartbeats 4000000 in
theorem vBoundP_any (a A : Option Addr) (t : Tbl) (p : List Int) (cap c : Nat) (w : World) (h : TabAt w a t) (hi : Ints w A p) : Calls Try.prog 32 #[.slice a t.length cap, .slice A p.length c] w (NumE w (fun B => BoundIs t p B) (ptE t p)) := by
  have HV := hid (vCheckPots_any a A t p cap c w h hi)
  by_cases hv : ptE t p = 0
  · obtain ⟨ht, h3, hp⟩ := (ptE_iff t p).1 hv
    rw [hv] at HV
    have HTr := hid (fun (w' : World) (hb : Below w.heap.size w w') => vBoundOf_any a A t p cap c w' (h.below hb) (hi.below hb) ht hp h3)
    have HE := hid hv
    clear h hi hv ht hp
    go_enter Try.func32, Try.ntmps32
    go_wp2_with fail
    refine HV.out.mono ?_
    rintro e w1 ⟨hb1, rfl⟩
    have HB1 := hid hb1
    have HC := hid (HTr.out w1 hb1)
    clear hb1
    go_wp2_with fail
    refine HC.out.mono ?_
    rintro e w2 ⟨hb2, B, g, ds, rfl, hM, _⟩
    have HM := hid hM
    have HB2 := hid (HB1.out.trans (hb2.mono HB1.out.size))
    clear hb2 hM HC
    go_wp2
    go_ret2
    exact ⟨HB2.out, .inr ⟨HE.out, B, rfl, HM.out⟩⟩
  · have HE := hid hv
    generalize ptE t p = e0 at *
    have hne : (e0 == 0) = false := by simp; exact hv
    clear h hi
    go_enter Try.func32, Try.ntmps32
    go_wp2_with fail
    refine HV.out.mono ?_
    rintro e w1 ⟨hb1, rfl⟩
    have HB1 := hid hb1
    clear hb1
    go_wp2
    go_ret2
    exact ⟨HB1.out, .inl ⟨HE.out, rfl⟩⟩
end Go.Proofs.Ytbffdpcogfmomaa
