/- The document's Rank: chapter 3. -/
import Derived.Test.YtkboeldafppicaaMRefC
import Derived.Test.YtkboeldafppicaaSlcM
set_option linter.unusedVariables false
set_option linter.unusedSimpArgs false
namespace Go.Proofs.Ytkboeldafppicaa
open Go.RowKit

set_option maxRecDepth 100000 in
set_option maxHeartbeats 4000000 in
theorem rRank_any (L : Int) (nc ac : Nat) (Na Aa : Option Addr) (rows : List (List Int)) (accs : List Bool) (A : Option Addr) (l : List Int) (cap : Nat) (w : World) (h : MachAt w Na rows Aa accs) (hw : Ints w A l) (hcap : l.length ≤ cap) :
    Calls Try.prog 51 #[machV L Na rows.length nc Aa accs.length ac, .slice A l.length cap] w fun e w' => Below w.heap.size w w' ∧ e = .returned (.tuple #[.int .i64 (rnkA L rows accs l), .int .i64 (rnkE L rows accs l)]) := by
  have hn := h.nlen
  have hal := h.alen
  have hll := hw.len
  have hA : Below w.heap.size w (w.alloc (amachO L Na rows.length nc Aa accs.length ac)) := (Below.refl _ _).alloc (Nat.le_refl _) _
  have HA := hid hA
  have HH := hid h
  have HI := hid hw
  have HE := hid (show rnkE L rows accs l = if wordE L rows accs l ≠ 0 then wordE L rows accs l else if mA accs (runK rows 0 l l.length) = true then 0 else 9 from rfl)
  have HR := hid (show rnkA L rows accs l = if rnkE L rows accs l = 0 then rkK L.toNat rows accs l l.length else 0 from rfl)
  have HO := hid (wordE_ok (L := L) (rows := rows) (accs := accs) (l := l))
  have HC := hid (rBoth_any L nc ac Na Aa rows accs A l cap _ (h.below hA) (hw.below hA))
  clear h hw
  have c0 : (w.alloc (amachO L Na rows.length nc Aa accs.length ac)).cell? ⟨w.heap.size, 0, none⟩ = some (.int .i64 L) := by go_simp
  have c1 : (w.alloc (amachO L Na rows.length nc Aa accs.length ac)).cell? ⟨w.heap.size, 1, none⟩ = some (.slice Na rows.length nc) := by go_simp
  have c2 : (w.alloc (amachO L Na rows.length nc Aa accs.length ac)).cell? ⟨w.heap.size, 2, none⟩ = some (.slice Aa accs.length ac) := by go_simp
  unfold machV at *
  go_enter Try.func51, Try.ntmps51
  go_wp2_with fail
  refine HC.out.mono ?_
  rintro e w1 ⟨hb1, rfl⟩
  have d0 := (hb1.cell (cell_lt c0)).trans c0
  have d1 := (hb1.cell (cell_lt c1)).trans c1
  have d2 := (hb1.cell (cell_lt c2)).trans c2
  have HB1 := hid (HA.out.trans (hb1.mono HA.out.size))
  clear hb1 c0 c1 c2 hA HC HA
  generalize hv0 : wordE L rows accs l = v at *
  have HV0 := hid hv0
  clear hv0
  by_cases hv : v = 0
  · subst hv
    obtain ⟨hV, h20, hall, n, rfl⟩ := HO.out rfl
    obtain ⟨hg, h64⟩ := vE_ok hV
    have hacc := hg.acc
    have HG := hid hg
    have HAll := hid hall
    have HE := hid (HE.out.trans (if_neg (fun h => h rfl)))
    rw [hacc] at d2
    have HT := hid (fun wx (hb : Below w1.heap.size w1 wx) => rFrom_any n 0 nc ac cap Na Aa A rows accs l wx ((HH.out.below HB1.out).below hb) hg ((HI.out.below HB1.out).below hb) hall hg.pos)
    have hrl := runK_lt hg 0 l hg.pos hall l.length (Nat.le_refl _)
    rcases (HH.out.below HB1.out).aat with e | ⟨ba, oa, rfl, hca⟩
    · rw [e] at hacc; have h9 := hg.pos; rw [← hacc] at h9; simp at h9
    have d3 := hca (runK rows 0 l l.length) (by omega)
    have HMa := hid (show accs[runK rows 0 l l.length]?.getD false = mA accs (runK rows 0 l l.length) from rfl)
    rw [HMa.out] at d3
    unfold machV at HT
    clear hV hall hg hacc HO hca HMa
    generalize hbz : mA accs (runK rows 0 l l.length) = bz at *
    generalize runK rows 0 l l.length = q at *
    have hq0 : (0 : Int) ≤ (q : Int) := by omega
    have hq1 : (q : Int) < (rows.length : Int) := by omega
    have S0 := hid (show _ ∧ _ ∧ _ ∧ _ ∧ _ from ⟨d0, d1, d2, d3, Below.refl w1.heap.size w1⟩)
    clear d0 d1 d2 d3 hbz
    go_wp2_with fail
    go_region_held3 (fun w' => w'.cell? ⟨w.heap.size, 0, none⟩ = some (.int .i64 (n : Int)) ∧ w'.cell? ⟨w.heap.size, 1, none⟩ = some (.slice Na rows.length nc) ∧ w'.cell? ⟨w.heap.size, 2, none⟩ = some (.slice (some ⟨ba, oa, none⟩) rows.length ac) ∧ w'.cell? ⟨ba, oa + q, none⟩ = some (.bool bz) ∧ Below w1.heap.size w1 w') (first | exact racS_keep S0.out (Below.refl _ _).drew | exact S0.out | exact racS_keep (by assumption) (by assumption)) ((go_at_call 67; refine (HT.out _ ?_).mono ?_; (exact (And.right (And.right (And.right (And.right (by assumption)))))); rintro e w5 ⟨hb5, rfl⟩))
    rename _ ∧ _ => hHeld
    obtain ⟨b0, b1, b2, _, hbw⟩ := hHeld
    rename World => w2
    have HB2 := hid (HB1.out.trans (hbw.mono HB1.out.size))
    clear hb5 S0 HT hbw
    cases bz with
    | false =>
      have HE := hid (show rnkE n rows accs l = 9 from HE.out.trans rfl)
      have HR := hid (show rnkA n rows accs l = 0 from HR.out.trans (by rw [HE.out]; rfl))
      go_wp2
      go_ret2
      exact ⟨HB2.out, by rw [HE.out, HR.out]; rfl⟩
    | true =>
      have HE := hid (show rnkE n rows accs l = 0 from HE.out.trans rfl)
      have HR := hid (show rnkA n rows accs l = rkK n rows accs l l.length from HR.out.trans (by rw [HE.out, if_pos rfl, Int.toNat_natCast]))
      have HWd := hid (rTable_any n l.length nc ac Na (some ⟨ba, oa, none⟩) rows accs w2 (HH.out.below HB2.out) HG.out h20 (by omega))
      unfold machV at HWd
      go_wp2_with fail
      refine HWd.out.mono ?_
      rintro e w3 ⟨hb3, vT, G, rfl, hT⟩
      have b0 := (hb3.cell (cell_lt b0)).trans b0
      have b1 := (hb3.cell (cell_lt b1)).trans b1
      have b2 := (hb3.cell (cell_lt b2)).trans b2
      have HB3 := hid (HB2.out.trans (hb3.mono HB2.out.size))
      obtain ⟨gT, cT, hvT, hcT⟩ := hT.form (by omega)
      subst hvT
      have HT := hid hT
      have HcT := hid hcT
      clear hT hb3 HWd hcT
      have HBd := hid (fun i hi => rkK_bd HG.out HAll.out h20 i hi)
      go_wp2
      go_loopg [8, 9] l.length (fun gk z i wr => ∃ (k : Nat), k + gk = l.length ∧ i = .int .i64 (k : Int) ∧ z = .int .i64 (rkK n rows accs l k) ∧ Hid (Below w3.heap.size w3 wr))
      case atStart => exact ⟨0, by omega, rfl, rfl, Below.refl _ _⟩
      case round =>
        obtain ⟨k, hk, rfl, rfl, HB⟩ := hrel
        obtain ⟨wo, hwo⟩ : ∃ x, x = wr := ⟨_, rfl⟩
        subst hwo
        have c0 := (HB.out.cell (cell_lt b0)).trans b0
        have c1 := (HB.out.cell (cell_lt b1)).trans b1
        have c2 := (HB.out.cell (cell_lt b2)).trans b2
        by_cases hlt : k < l.length
        · obtain ⟨go', hgo⟩ : ∃ f, gk = f + 1 := ⟨gk - 1, by omega⟩
          subst hgo
          have hI := (HI.out.below HB3.out).below HB.out
          have HIo := hid hI
          obtain ⟨A1, cc1, hrun, hI1⟩ := cut_toM hI hcap k (Nat.le_of_lt hlt)
          have htl : (l.take k).length = k := by rw [List.length_take]; omega
          have htall : allB (l.take k) n = true := allB_iff.2 (fun x hx => allB_iff.1 HAll.out x (List.mem_of_mem_take hx))
          have HFr := hid (show ∀ wx, Below wo.heap.size wo wx → Calls Try.prog 67 #[machV n Na rows.length nc (some ⟨ba, oa, none⟩) rows.length ac, .int .i64 (0 : Nat), .slice A1 k cc1] wx fun e w' => Below wx.heap.size wx w' ∧ e = .returned (.int .i64 (runK rows 0 l k : Int)) from fun wx hb => by
            have := rFrom_any n 0 nc ac cc1 Na (some ⟨ba, oa, none⟩) A1 rows accs (l.take k) wx (((HH.out.below HB3.out).below HB.out).below hb) HG.out (hI1 wx (hI.below hb)) htall HG.out.pos
            rw [htl, runK_take rows 0 l k k (Nat.le_refl _) (Nat.le_of_lt hlt)] at this
            exact this)
          rcases hI.at_ with e | ⟨b, off, hAA, hc⟩
          · rw [e] at hlt; simp at hlt
          have HAA := hid hAA
          clear hAA
          have x0 := hc k hlt
          have hx := allB_iff.1 HAll.out _ (getD_mem l k hlt)
          have hr := runK_lt HG.out 0 l HG.out.pos HAll.out k (Nat.le_of_lt hlt)
          have hz := HBd.out k (Nat.le_of_lt hlt)
          have HRk := hid (show rkK n rows accs l (k + 1) = rkK n rows accs l k + sumN (fun a => wT n rows accs (l.length - k - 1) (mN rows (runK rows 0 l k) a)) (l[k]?.getD 0).toNat from rfl)
          clear hI hc hI1 htl htall
          generalize runK rows 0 l k = s at *
          generalize rkK n rows accs l k = z at *
          obtain ⟨x, hxx⟩ := Int.eq_ofNat_of_zero_le hx.1
          rw [hxx] at x0 hx HRk
          rw [Int.toNat_natCast] at HRk
          clear hxx
          have hxn : x < n := by omega
          have HSb := hid (fun c hc => sumN_bd (fun a => wT n rows accs (l.length - k - 1) (mN rows s a)) 3656158440062976 n (fun c hc => wT_small HG.out _ _ (by omega) (HG.out.ent _ c hr hc).1) c hc)
          have HSs := hid (fun c => show sumN (fun a => wT n rows accs (l.length - k - 1) (mN rows s a)) (c + 1) = sumN (fun a => wT n rows accs (l.length - k - 1) (mN rows s a)) c + wT n rows accs (l.length - k - 1) (mN rows s c) from rfl)
          have hlf : l.length - k - 1 < l.length + 1 := by omega
          have HLf := hid (show l.length - k - 1 ≤ 20 by omega)
          have hki : (k : Int) < (l.length : Int) := by omega
          have hki0 : (0 : Int) ≤ (k : Int) := by omega
          have S0 := hid (show _ ∧ _ ∧ _ ∧ _ from ⟨c0, c1, c2, Below.refl wo.heap.size wo⟩)
          unfold machV at HFr
          clear c0 c1 c2
          go_wp2_with fail
          go_region_held3 (fun w' => w'.cell? ⟨w.heap.size, 0, none⟩ = some (.int .i64 (n : Int)) ∧ w'.cell? ⟨w.heap.size, 1, none⟩ = some (.slice Na rows.length nc) ∧ w'.cell? ⟨w.heap.size, 2, none⟩ = some (.slice (some ⟨ba, oa, none⟩) rows.length ac) ∧ Below wo.heap.size wo w') (first | exact tkS_keep S0.out (Below.refl _ _).drew | exact S0.out | exact tkS_keep (by assumption) (by assumption)) ((go_at_call 67; refine (HFr.out _ ?_).mono ?_; (exact (And.right (And.right (And.right (by assumption))))); rintro e w5 ⟨hb5, rfl⟩))
          rename _ ∧ _ => hHeld
          obtain ⟨_, _, _, hbz⟩ := hHeld
          rename World => w5
          have HB5 := hid (HB.out.trans (hbz.mono HB.out.size))
          have x0 := (hbz.cell (cell_lt x0)).trans x0
          clear hb5 S0 HFr hrun hbz
          obtain rfl := HAA.out
          go_wp2
          go_loopg [8, 11] x (fun g2 q a wr => ∃ (c : Nat), c + g2 = x ∧ a = .int .i64 (c : Int) ∧ q = .int .i64 (z + sumN (fun a => wT n rows accs (l.length - k - 1) (mN rows s a)) c) ∧ Hid (Below w3.heap.size w3 wr) ∧ wr.cell? ⟨b, off + k, none⟩ = some (.int .i64 (x : Int)))
          case atStart => exact ⟨0, by omega, rfl, by simp [sumN], HB5.out, x0⟩
          case round =>
            clear x0
            obtain ⟨c, hc, rfl, rfl, HBr, x0⟩ := hrel
            have hb := HBr.out
            have c1 := (hb.cell (cell_lt b1)).trans b1
            have hT := HT.out.below hb
            have t1' := HcT.out (l.length - k - 1) hlf
            have t1 := (hb.cell (cell_lt t1')).trans t1'
            by_cases hcx : c < x
            · obtain ⟨g2', hg2⟩ : ∃ f, gk = f + 1 := ⟨gk - 1, by omega⟩
              subst hg2
              have hcn : c < n := by omega
              obtain ⟨he1, he2⟩ := HG.out.ent s c hr hcn
              have hrow := HG.out.row s hr
              have t2 := hT.get (l.length - k - 1) (mN rows s c) hlf he1
              have hy := wT_small HG.out (l.length - k - 1) (mN rows s c) HLf.out he1
              have hsb := HSb.out c (by omega)
              have HSc := hid (HSs.out c)
              obtain ⟨b2', o2, g2, o3, kk, hNa, g3, g4, _⟩ := ((HH.out.below HB3.out).below hb).row s c hr (by rw [hrow]; exact hcn)
              rw [he2] at g4
              rw [hrow] at g3
              clear hrow he2 t1' hT
              subst hNa
              generalize wT n rows accs (l.length - k - 1) (mN rows s c) = y at *
              generalize mN rows s c = j at *
              generalize sumN (fun a => wT n rows accs (l.length - k - 1) (mN rows s a)) c = u at *
              have hn6 := HG.out.hi
              have hcxi : (c : Int) < (x : Int) := by omega
              have hl1 : IntKind.i64.wrap ((l.length : Int) - (k : Int)) = (l.length : Int) - (k : Int) := by rw [IntKind.wrap_i64]; omega
              have hl2 : IntKind.i64.wrap ((l.length : Int) - (k : Int) - 1) = ((l.length - k - 1 : Nat) : Int) := by rw [IntKind.wrap_i64]; omega
              have hleft0 : (0 : Int) ≤ ((l.length - k - 1 : Nat) : Int) := by omega
              have hleft1 : ((l.length - k - 1 : Nat) : Int) < (l.length : Int) + 1 := by omega
              have hwz : wrap64 (z + u + y) = z + u + y := by unfold wrap64; omega
              have hwz2 : IntKind.i64.wrap (z + u + y) = z + u + y := by rw [IntKind.wrap_i64]; omega
              have hs0 : (0 : Int) ≤ (s : Int) := by omega
              have hs1 : (s : Int) < (rows.length : Int) := by omega
              have hc0 : (0 : Int) ≤ (c : Int) := by omega
              have hc1 : (c : Int) < (n : Int) := by omega
              have hj0 : (0 : Int) ≤ (j : Int) := by omega
              have hj1 : (j : Int) < (rows.length : Int) := by omega
              generalize hlf0 : l.length - k - 1 = lf at *
              clear hlf0
              go_wp2_with fail
              go_quiet (fail)
              go_wp2
              go_roundg g2'
              case rel => exact ⟨c + 1, by omega, by go_num, by rw [HSc.out, Int.add_assoc], below_drewN HBr.out _, x0⟩
              all_goals omega
            · obtain rfl : c = x := by omega
              go_wp2
              go_roundg go'
              case rel => exact ⟨k + 1, by omega, by go_num, by rw [HRk.out], HBr.out⟩
              all_goals omega
        · have hke : k = l.length := by omega
          have HR9 := hid (show rnkA n rows accs l = rkK n rows accs l k by rw [HR.out, hke])
          have HB9 := hid (HB3.out.trans (HB.out.mono HB3.out.size))
          have hkf : ¬ (k : Int) < (l.length : Int) := by omega
          clear hke
          go_wp2
          go_ret2
          exact ⟨HB9.out, by rw [HE.out, HR9.out]; rfl⟩
  · have HE := hid (show rnkE L rows accs l = v by rw [HE.out, if_pos hv])
    have HR := hid (show rnkA L rows accs l = 0 by rw [HR.out, HE.out, if_neg hv])
    have hv' : (v != 0) = true := by simpa using hv
    clear hv HO
    go_wp2
    go_ret2
    exact ⟨HB1.out, by rw [HE.out, HR.out]; rfl⟩
end Go.Proofs.Ytkboeldafppicaa
