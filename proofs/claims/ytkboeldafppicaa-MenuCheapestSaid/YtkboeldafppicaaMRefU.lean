/- The document's Unrank: chapter 3. -/
import Derived.Test.YtkboeldafppicaaMRefC
import Derived.Test.YtkboeldafppicaaMUnrank
import Derived.Test.YtkboeldafppicaaRowsI
import Derived.BigQuiet
set_option linter.unusedVariables false
set_option linter.unusedSimpArgs false
namespace Go.Proofs.Ytkboeldafppicaa
open Go.RowKit

set_option maxRecDepth 100000 in
set_option maxHeartbeats 4000000 in
theorem rUnrank_any (L : Int) (nc ac : Nat) (Na Aa : Option Addr) (rows : List (List Int)) (accs : List Bool) (n r : Int) (w : World) (h : MachAt w Na rows Aa accs) (hr : I64 r) :
    Calls Try.prog 53 #[machV L Na rows.length nc Aa accs.length ac, .int .i64 n, .int .i64 r] w fun e w' => Below w.heap.size w w' ∧ WordAns w' (ukL L rows accs n r) (ukE L rows accs n r) e := by
  have hn := h.nlen
  have hal := h.alen
  have hA : Below w.heap.size w (w.alloc (amachO L Na rows.length nc Aa accs.length ac)) := (Below.refl _ _).alloc (Nat.le_refl _) _
  have HA := hid hA
  have HH := hid h
  have HE := hid (show ukE L rows accs n r = if lenE L rows accs n ≠ 0 then lenE L rows accs n else if 0 ≤ r ∧ r < wT L.toNat rows accs n.toNat 0 then 0 else 5 from rfl)
  have HR := hid (show ukL L rows accs n r = if ukE L rows accs n r = 0 then urD L.toNat rows accs n.toNat 0 r else [] from rfl)
  have HO := hid (lenE_ok (L := L) (rows := rows) (accs := accs) (n := n))
  have HC := hid (rSized_any L nc ac Na Aa rows accs n _ (h.below hA))
  clear h
  have c0 : (w.alloc (amachO L Na rows.length nc Aa accs.length ac)).cell? ⟨w.heap.size, 0, none⟩ = some (.int .i64 L) := by go_simp
  have c1 : (w.alloc (amachO L Na rows.length nc Aa accs.length ac)).cell? ⟨w.heap.size, 1, none⟩ = some (.slice Na rows.length nc) := by go_simp
  have c2 : (w.alloc (amachO L Na rows.length nc Aa accs.length ac)).cell? ⟨w.heap.size, 2, none⟩ = some (.slice Aa accs.length ac) := by go_simp
  unfold machV at *
  go_enter Try.func53, Try.ntmps53
  go_wp2_with fail
  refine HC.out.mono ?_
  rintro e w1 ⟨hb1, rfl⟩
  have d0 := (hb1.cell (cell_lt c0)).trans c0
  have d1 := (hb1.cell (cell_lt c1)).trans c1
  have d2 := (hb1.cell (cell_lt c2)).trans c2
  have HB1 := hid (HA.out.trans (hb1.mono HA.out.size))
  clear hb1 c0 c1 c2 hA HC HA
  generalize hv0 : lenE L rows accs n = v at *
  have HV0 := hid hv0
  clear hv0
  by_cases hv : v = 0
  · subst hv
    obtain ⟨hV, ⟨m, rfl, hm⟩, l, rfl⟩ := HO.out rfl
    obtain ⟨hg, h64⟩ := vE_ok hV
    have hacc := hg.acc
    have HG := hid hg
    have HE := hid (show ukE l rows accs m r = if 0 ≤ r ∧ r < wT l rows accs m 0 then 0 else 5 from HE.out.trans (by simp))
    rw [hacc] at d2
    have HWd := hid (rTable_any l m nc ac Na Aa rows accs w1 (HH.out.below HB1.out) hg hm (by omega))
    unfold machV at HWd
    have hpos := hg.pos
    obtain ⟨i0, hinf, hz0', hz1', hz2'⟩ := info_parts int_info
    clear hV hg hacc HO
    go_wp2_with fail
    refine HWd.out.mono ?_
    rintro e w3 ⟨hb3, vT, G, rfl, hT⟩
    have b1 := (hb3.cell (cell_lt d1)).trans d1
    have HB3 := hid (HB1.out.trans (hb3.mono HB1.out.size))
    obtain ⟨gT, cT, hvT, hcT⟩ := hT.form (by omega)
    subst hvT
    have HT := hid hT
    have HcT := hid hcT
    have t1 := hcT m (by omega)
    have t2 := hT.get m 0 (by omega) hpos
    have hmi : (m : Int) < (m : Int) + 1 := by omega
    clear hT hb3 HWd hcT d0 d1 d2
    by_cases hr0 : r < 0
    · have HE := hid (HE.out.trans (if_neg (by omega)))
      have HR := hid (show ukL l rows accs m r = [] from HR.out.trans (by rw [HE.out]; rfl))
      go_wp2
      go_ret2
      exact ⟨HB3.out, none, 0, by rw [HE.out, HR.out]; rfl, by rw [HR.out]; exact ints_nil _ _⟩
    · by_cases hr1 : wT l rows accs m 0 ≤ r
      · have HE5 := hid (HE.out.trans (if_neg (by omega)))
        have HR5 := hid (show ukL l rows accs m r = [] from HR.out.trans (by rw [HE5.out]; rfl))
        generalize wT l rows accs m 0 = wz at *
        go_wp2
        go_ret2
        exact ⟨HB3.out, none, 0, by rw [HE5.out, HR5.out]; rfl, by rw [HR5.out]; exact ints_nil _ _⟩
      · have hrr : 0 ≤ r ∧ r < wT l rows accs m 0 := by omega
        have HE := hid (HE.out.trans (if_pos hrr))
        have HR := hid (show ukL l rows accs m r = urD l rows accs m 0 r from HR.out.trans (by rw [HE.out, if_pos rfl, Int.toNat_natCast, Int.toNat_natCast]))
        have HUs := hid (urD_spec HG.out m 0 r HG.out.pos hrr.1 hrr.2)
        have HRr := hid hrr
        have hbase := hid (cell_lt t1)
        generalize wT l rows accs m 0 = wz at hr1 t2
        go_wp2
        clear t1 t2 hr1 hrr
        go_loopg [2, 10, 11, 12] m (fun gk q v st i wr => ∃ (s : Nat) (z : Int) (D : List Int), i = .int .i64 (gk : Int) ∧ q = .int .i64 z ∧ st = .int .i64 (s : Int) ∧ D.length + gk = m ∧ s < rows.length ∧ 0 ≤ z ∧ z < wT l rows accs gk s ∧ Hid (urD l rows accs m 0 r = D ++ urD l rows accs gk s z) ∧ Hid (Own wr w3.heap.size v D) ∧ Hid (Below w3.heap.size w3 wr))
        case atStart => exact ⟨0, r, [], rfl, rfl, rfl, by simp, hpos, HRr.out.1, HRr.out.2, rfl, Own.nil _ _, Below.refl _ _⟩
        case round =>
          obtain ⟨s, z, D, rfl, rfl, rfl, hD, hs, hz0, hz1, HU, HOw, HB⟩ := hrel
          by_cases hlt : 0 < gk
          · obtain ⟨g', hg'⟩ : ∃ f, gk = f + 1 := ⟨gk - 1, by omega⟩
            subst hg'
            have hf : ∀ c, c < l → 0 ≤ (fun c => wT l rows accs g' (mN rows s c)) c := fun c hc => wT_nn HG.out _ _ (HG.out.ent s c hs hc).1
            obtain ⟨e1, e2, e3⟩ := dig_spec _ l hf z hz0 (by rw [wT] at hz1; exact hz1)
            have HUn := hid (show urD l rows accs (g' + 1) s z = (dig l (fun c => wT l rows accs g' (mN rows s c)) z : Int) :: urD l rows accs g' (mN rows s (dig l (fun c => wT l rows accs g' (mN rows s c)) z)) (z - sumN (fun c => wT l rows accs g' (mN rows s c)) (dig l (fun c => wT l rows accs g' (mN rows s c)) z)) from rfl)
            generalize dig l (fun c => wT l rows accs g' (mN rows s c)) z = d at *
            have HSm := hid (fun a b hab hb => sumN_mono _ l hf a b hab hb)
            have HSb := hid (fun c hc => sumN_bd (fun a => wT l rows accs g' (mN rows s a)) 3656158440062976 l (fun c hc => wT_small HG.out g' _ (by omega) (HG.out.ent s c hs hc).1) c hc)
            have HSs := hid (fun c => show sumN (fun a => wT l rows accs g' (mN rows s a)) (c + 1) = sumN (fun a => wT l rows accs g' (mN rows s a)) c + wT l rows accs g' (mN rows s c) from rfl)
            have hgi : (0 : Int) < (g' : Int) + 1 := by omega
            have hzs := wT_small HG.out (g' + 1) s (by omega) hs
            clear hf
            go_wp2
            go_loopg [2, 13] d (fun g2 q ai wr => ∃ (a : Nat), a + g2 = d ∧ ai = .int .i64 (a : Int) ∧ q = .int .i64 (z - sumN (fun a => wT l rows accs g' (mN rows s a)) a) ∧ Hid (Own wr w3.heap.size u10 D) ∧ Hid (Below w3.heap.size w3 wr))
            case atStart => exact ⟨0, by omega, rfl, by simp [sumN], HOw.out, HB.out⟩
            case round =>
              clear HOw
              obtain ⟨a, ha, rfl, rfl, HOw, HBr⟩ := hrel
              have hb := HBr.out
              have c1 := (hb.cell (cell_lt b1)).trans b1
              have hT := HT.out.below hb
              have t1' := HcT.out g' (by omega)
              have t1 := (hb.cell (cell_lt t1')).trans t1'
              have hal2 : a < l := by omega
              obtain ⟨he1, he2⟩ := HG.out.ent s a hs hal2
              have hrow := HG.out.row s hs
              have t2' := HT.out.get g' (mN rows s a) (by omega) he1
              have t2 := (hb.cell (cell_lt t2')).trans t2'
              have hy := wT_small HG.out g' (mN rows s a) (by omega) he1
              have hsb := HSb.out a (by omega)
              have HSa := hid (HSs.out a)
              have hmon := fun (hh : a < d) => HSm.out (a + 1) d (by omega) (by omega)
              have hlast := fun (hh : a = d) => (show z < sumN (fun a => wT l rows accs g' (mN rows s a)) (a + 1) by rw [hh]; exact e3)
              have had2 := fun (hh : a = d) => (show sumN (fun c => wT l rows accs g' (mN rows s c)) a ≤ z by rw [hh]; exact e2)
              have HUj := hid (fun (hh : a = d) => (show urD l rows accs (g' + 1) s z = (a : Int) :: urD l rows accs g' (mN rows s a) (z - sumN (fun a => wT l rows accs g' (mN rows s a)) a) by rw [hh]; exact HUn.out))
              obtain ⟨b2', o2, gB, o3, kk, hNa, g30, g40, _⟩ := (HH.out.below HB3.out).row s a hs (by rw [hrow]; exact hal2)
              rw [he2] at g40
              rw [hrow] at g30
              have g3 := (hb.cell (cell_lt g30)).trans g30
              have g4 := (hb.cell (cell_lt g40)).trans g40
              rw [HSa.out] at hmon hlast
              clear hT hrow he2
              subst hNa
              generalize hyy : wT l rows accs g' (mN rows s a) = y at *
              generalize hjj : mN rows s a = j at *
              generalize huu : sumN (fun a => wT l rows accs g' (mN rows s a)) a = u at *
              have HYY := hid hyy
              have hl6 := HG.out.hi
              have hg0 : (0 : Int) ≤ (g' : Int) := by omega
              have hg1 : (g' : Int) < (m : Int) + 1 := by omega
              have hj0 : (0 : Int) ≤ (j : Int) := by omega
              have hj1 : (j : Int) < (rows.length : Int) := by omega
              have hs0 : (0 : Int) ≤ (s : Int) := by omega
              have hs1 : (s : Int) < (rows.length : Int) := by omega
              have ha0 : (0 : Int) ≤ (a : Int) := by omega
              have ha1 : (a : Int) < (l : Int) := by omega
              have hgw : IntKind.i64.wrap ((g' : Int) + 1 - 1) = (g' : Int) := by rw [IntKind.wrap_i64]; omega
              have hgw2 : IntKind.i64.wrap (g' : Int) = (g' : Int) := by rw [IntKind.wrap_i64]; omega
              clear hyy hjj huu
              by_cases had : a < d
              · obtain ⟨g2', hg2⟩ : ∃ f, gk = f + 1 := ⟨gk - 1, by omega⟩
                subst hg2
                have hmm := hmon had
                have hge2 : y ≤ z - u := by omega
                have hw1 : IntKind.i64.wrap (z - u - y) = z - u - y := by rw [IntKind.wrap_i64]; omega
                have hw2 : wrap64 (z - u - y) = z - u - y := by unfold wrap64; omega
                clear hmon hlast HUj had2
                go_wp2_with fail
                go_quiet (fail)
                generalize hwd : wr.drewN nq = wd
                have HOd := hid (show Own wd w3.heap.size u10 D by rw [← hwd]; exact HOw.out.below (below_drewN (Below.refl _ _) nq))
                have HBd := hid (show Below w3.heap.size w3 wd by rw [← hwd]; exact below_drewN HBr.out nq)
                have x1 := (HBd.out.cell (cell_lt b1)).trans b1
                have x2 := (HBd.out.cell (cell_lt t1')).trans t1'
                have x3 := (HBd.out.cell (cell_lt t2')).trans t2'
                have x4 := (HBd.out.cell (cell_lt g30)).trans g30
                have x5 := (HBd.out.cell (cell_lt g40)).trans g40
                clear hwd c1 t1 t2 g3 g4
                go_wp2_with fail
                go_quiet (fail)
                go_wp2
                go_roundg g2'
                case rel => exact ⟨a + 1, by omega, by go_num, by rw [HSa.out]; simp; omega, HOd.out.below (below_drewN (Below.refl _ _) _), below_drewN HBd.out _⟩
                all_goals omega
              · have had' : a = d := by omega
                have hll := hlast had'
                have had3 := had2 had'
                have hUU := HUj.out had'
                have hge2 : ¬ y ≤ z - u := by omega
                have HU2 := hid (show urD l rows accs m 0 r = (D ++ [(a : Int)]) ++ urD l rows accs g' j (z - u) by rw [HU.out, hUU, List.append_assoc]; rfl)
                have hyl : z - u < wT l rows accs g' j := by have := HYY.out; omega
                clear hmon hlast HUj had' hUU had2
                go_wp2_with fail
                go_quiet (fail)
                generalize hwd : wr.drewN nq = wd
                have HOd := hid (show Own wd w3.heap.size u10 D by rw [← hwd]; exact HOw.out.below (below_drewN (Below.refl _ _) nq))
                have HBd := hid (show Below w3.heap.size w3 wd by rw [← hwd]; exact below_drewN HBr.out nq)
                have x1 := (HBd.out.cell (cell_lt b1)).trans b1
                have x4 := (HBd.out.cell (cell_lt g30)).trans g30
                have x5 := (HBd.out.cell (cell_lt g40)).trans g40
                clear hwd c1 t1 t2 g3 g4
                have hown := HOd.out
                unfold Own at hown
                have hbs : w3.heap.size ≤ wd.heap.size := HBd.out.size
                have hDl : D.length ≤ 20 := by omega
                clear x1 x4 x5
                go_wp2_with (at_builtin; refine wpList_append_own _ rfl _ _ 26 rfl w3.heap.size 3 i0 (.int .i64 0) 1 8 Try.underlying26 hinf hz0' hz1' hz2' rfl (by decide) u10 D.length (D.map (Value.int .i64)) rfl (hown.alloc _) ⟨wd.heap.size, 0, none⟩ 1 1 [.int .i64 (a : Int)] rfl rfl ?c1 ?c2 ?c3 ?c4 ?c5 ?_)
                case c1 => exact cell_one_new _ _ _
                case c2 => simp [Value.oneCell']
                case c3 => unfold maxLen; omega
                case c4 => omega
                case c5 => simp; omega
                intro v9 w9 hown9 hgr9 _
                have HO9 := hid (show Own w9 w3.heap.size v9 (D ++ [(a : Int)]) by
                  unfold Own; rw [List.length_append, List.map_append]; exact hown9)
                have hlo := hown.lt
                have HB9 := hid ((HBd.out.alloc hbs (.cells #[.int .i64 (a : Int)] 3)).grown hgr9 (by simp; omega) (fun q hq => (hlo q hq).1))
                have z1 := (HB9.out.cell (cell_lt b1)).trans b1
                have z4 := (HB9.out.cell (cell_lt g30)).trans g30
                have z5 := (HB9.out.cell (cell_lt g40)).trans g40
                clear hown hown9 hgr9 hlo hbs
                go_wp2
                go_roundg g'
                case rel => exact ⟨j, z - u, D ++ [(a : Int)], by go_num, rfl, rfl, by simp; omega, he1, by omega, hyl, HU2.out, HO9.out, HB9.out⟩
                all_goals omega
          · have hke : gk = 0 := by omega
            subst hke
            have HU9 := hid (show urD l rows accs m 0 r = D by rw [HU.out, urD, List.append_nil])
            have HB9 := hid (HB3.out.trans (HB.out.mono HB3.out.size))
            obtain ⟨A9, c9, hv9, hI9⟩ := HOw.out.ints (by omega) (fun x hx => by
              have hall := HUs.out.2.1
              rw [HU9.out] at hall
              have := allB_iff.1 hall x hx
              have := HG.out.hi
              omega)
            have HI9 := hid hI9
            clear hI9
            subst hv9
            go_wp2
            go_ret2
            exact ⟨HB9.out, A9, c9, by rw [HE.out, HR.out, HU9.out]; rfl, by rw [HR.out, HU9.out]; exact HI9.out⟩
  · have HE := hid (show ukE L rows accs n r = v by rw [HE.out, if_pos hv])
    have HR := hid (show ukL L rows accs n r = [] by rw [HR.out, HE.out, if_neg hv])
    have hv' : (v != 0) = true := by simpa using hv
    clear hv HO
    go_wp2
    go_ret2
    exact ⟨HB1.out, none, 0, by rw [HE.out, HR.out]; rfl, by rw [HR.out]; exact ints_nil _ _⟩
end Go.Proofs.Ytkboeldafppicaa
