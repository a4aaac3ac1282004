/- Unrank of package menu. -/
import Derived.Test.YtkboeldafppicaaMRkM
set_option linter.unusedVariables false
set_option linter.unusedSimpArgs false
namespace Go.Proofs.Ytkboeldafppicaa
open Go.RowKit

def ukE (L : Int) (rows : List (List Int)) (accs : List Bool) (n r : Int) : Int := if lenE L rows accs n ≠ 0 then lenE L rows accs n else if 0 ≤ r ∧ r < wT L.toNat rows accs n.toNat 0 then 0 else 5
def ukL (L : Int) (rows : List (List Int)) (accs : List Bool) (n r : Int) : List Int := if ukE L rows accs n r = 0 then urD L.toNat rows accs n.toNat 0 r else []
/-- What a function that returns a word and an error answers. -/
def WordAns (w' : World) (l : List Int) (v : Int) (e : Ending) : Prop := ∃ A cap, e = .returned (.tuple #[.slice A l.length cap, .int .i64 v]) ∧ Ints w' A l
theorem ints_nil (w : World) (A : Option Addr) : Ints w A [] := ⟨by simp, .inl rfl, by simp⟩
theorem ukS_keep {w0 w w' : World} {pM gT lf gl j gw i : Nat} {L rn : Nat} {Na : Option Addr} {nc : Nat} {Aa : Option Addr} {ac : Nat} {x y : Int} (h : w.cell? ⟨pM, 0, none⟩ = some (.int .i64 (L : Int)) ∧ w.cell? ⟨pM, 1, none⟩ = some (.slice Na rn nc) ∧ w.cell? ⟨pM, 2, none⟩ = some (.slice Aa rn ac) ∧ w.cell? ⟨gT, lf, none⟩ = some (.slice (some ⟨gl, 0, none⟩) rn rn) ∧ w.cell? ⟨gl, j, none⟩ = some (.int .i64 x) ∧ w.cell? ⟨gw, i, none⟩ = some (.int .i64 y) ∧ Below w0.heap.size w0 w) (hb : Below w.heap.size w w') : w'.cell? ⟨pM, 0, none⟩ = some (.int .i64 (L : Int)) ∧ w'.cell? ⟨pM, 1, none⟩ = some (.slice Na rn nc) ∧ w'.cell? ⟨pM, 2, none⟩ = some (.slice Aa rn ac) ∧ w'.cell? ⟨gT, lf, none⟩ = some (.slice (some ⟨gl, 0, none⟩) rn rn) ∧ w'.cell? ⟨gl, j, none⟩ = some (.int .i64 x) ∧ w'.cell? ⟨gw, i, none⟩ = some (.int .i64 y) ∧ Below w0.heap.size w0 w' := by
  obtain ⟨h2, h3, h4, h5, h7, h8, h6⟩ := h
  exact ⟨(hb.cell (cell_lt h2)).trans h2, (hb.cell (cell_lt h3)).trans h3, (hb.cell (cell_lt h4)).trans h4, (hb.cell (cell_lt h5)).trans h5, (hb.cell (cell_lt h7)).trans h7, (hb.cell (cell_lt h8)).trans h8, h6.trans (hb.mono h6.size)⟩
set_option maxRecDepth 100000 in
set_option maxHeartbeats 4000000 in
theorem mUnrank_any (L : Int) (nc ac : Nat) (Na Aa : Option Addr) (rows : List (List Int)) (accs : List Bool) (n r : Int) (w : World) (h : MachAt w Na rows Aa accs) (hr : I64 r) :
    Calls Try.prog 52 #[machV L Na rows.length nc Aa accs.length ac, .int .i64 n, .int .i64 r] w fun e w' => Below w.heap.size w w' ∧ WordAns w' (ukL L rows accs n r) (ukE L rows accs n r) e := by
  have hn := h.nlen
  have hal := h.alen
  have hA : Below w.heap.size w (w.alloc (amachO L Na rows.length nc Aa accs.length ac)) := (Below.refl _ _).alloc (Nat.le_refl _) _
  have HA := hid hA
  have HH := hid h
  have HE := hid (show ukE L rows accs n r = if lenE L rows accs n ≠ 0 then lenE L rows accs n else if 0 ≤ r ∧ r < wT L.toNat rows accs n.toNat 0 then 0 else 5 from rfl)
  have HR := hid (show ukL L rows accs n r = if ukE L rows accs n r = 0 then urD L.toNat rows accs n.toNat 0 r else [] from rfl)
  have HO := hid (lenE_ok (L := L) (rows := rows) (accs := accs) (n := n))
  have HC := hid (mCheckLength_any L nc ac Na Aa rows accs n _ (h.below hA))
  clear h
  have c0 : (w.alloc (amachO L Na rows.length nc Aa accs.length ac)).cell? ⟨w.heap.size, 0, none⟩ = some (.int .i64 L) := by go_simp
  have c1 : (w.alloc (amachO L Na rows.length nc Aa accs.length ac)).cell? ⟨w.heap.size, 1, none⟩ = some (.slice Na rows.length nc) := by go_simp
  have c2 : (w.alloc (amachO L Na rows.length nc Aa accs.length ac)).cell? ⟨w.heap.size, 2, none⟩ = some (.slice Aa accs.length ac) := by go_simp
  unfold machV at *
  go_enter Try.func52, Try.ntmps52
  go_wp2_with fail
  refine HC.out.mono ?_
  rintro e w1 ⟨hb1, rfl⟩
  have d0 := (hb1.cell (cell_lt c0)).trans c0
  have d1 := (hb1.cell (cell_lt c1)).trans c1
  have d2 := (hb1.cell (cell_lt c2)).trans c2
  have HB1 := hid (HA.out.trans (hb1.mono HA.out.size))
  clear hb1 c0 c1 c2 hA HC HA
  generalize hv0 : lenE L rows accs n = v at *
  have HV0 := hid hv0
  clear hv0
  by_cases hv : v = 0
  · subst hv
    obtain ⟨hV, ⟨m, rfl, hm⟩, l, rfl⟩ := HO.out rfl
    obtain ⟨hg, h64⟩ := vE_ok hV
    have hacc := hg.acc
    have HG := hid hg
    have HE := hid (show ukE l rows accs m r = if 0 ≤ r ∧ r < wT l rows accs m 0 then 0 else 5 from HE.out.trans (by simp))
    rw [hacc] at d2
    have hA1 : Below w1.heap.size w1 (w1.alloc (machO l Na rows.length nc Aa rows.length ac)) := (Below.refl _ _).alloc (Nat.le_refl _) _
    have HBA := hid (HB1.out.trans (hA1.mono HB1.out.size))
    have b0 : (w1.alloc (machO l Na rows.length nc Aa rows.length ac)).cell? ⟨w1.heap.size, 0, none⟩ = some (.int .i64 (l : Int)) := by go_simp
    have b1 : (w1.alloc (machO l Na rows.length nc Aa rows.length ac)).cell? ⟨w1.heap.size, 1, none⟩ = some (.slice Na rows.length nc) := by go_simp
    have b2 : (w1.alloc (machO l Na rows.length nc Aa rows.length ac)).cell? ⟨w1.heap.size, 2, none⟩ = some (.slice Aa rows.length ac) := by go_simp
    have HWd := hid (mWords_any l m nc ac Na Aa rows accs _ (HH.out.below HBA.out) hg hm (by omega))
    unfold machV at HWd
    have hpos := hg.pos
    clear hV hg hacc HO hA1
    go_wp2_with fail
    refine HWd.out.mono ?_
    rintro e w3 ⟨hb3, gT, G, rfl, hT⟩
    have b0 := (hb3.cell (cell_lt b0)).trans b0
    have b1 := (hb3.cell (cell_lt b1)).trans b1
    have b2 := (hb3.cell (cell_lt b2)).trans b2
    have HB3 := hid (HBA.out.trans (hb3.mono HBA.out.size))
    have t1 := hT.cell m (by omega)
    have t2 := hT.get m 0 (by omega) hpos
    have HT := hid hT
    have hmi : (m : Int) < (m : Int) + 1 := by omega
    clear hT hb3 HWd d0 d1 d2
    go_wp2_with fail
    refine (mIsBelow_any r (wT l rows accs m 0) _).mono ?_
    rintro e w4 ⟨rfl, rfl⟩
    clear t1 t2
    by_cases hrr : 0 ≤ r ∧ r < wT l rows accs m 0
    · have hd : decide (0 ≤ r ∧ r < wT l rows accs m 0) = true := by simpa using hrr
      rw [hd]
      have HE := hid (HE.out.trans (if_pos hrr))
      have HR := hid (show ukL l rows accs m r = urD l rows accs m 0 r from HR.out.trans (by rw [HE.out, if_pos rfl, Int.toNat_natCast, Int.toNat_natCast]))
      have HUs := hid (urD_spec HG.out m 0 r HG.out.pos hrr.1 hrr.2)
      have hmk := make_intsM m (by omega)
      have hA5 : Below w4.heap.size w4 (w4.alloc (.cells (List.replicate m (Value.int .i64 0)).toArray 3)) := (Below.refl _ _).alloc (Nat.le_refl _) _
      have HI5 := hid (IBox.made w4 m)
      have HA5 := hid hA5
      have HRr := hid hrr
      have hgw : w1.heap.size < w4.heap.size := cell_lt b0
      clear hd hA5 hrr
      go_wp2
      clear hmk
      go_loopg [2, 12, 38] m (fun gk q st i wr => ∃ (k s : Nat) (z : Int) (D : List Int), k + gk = m ∧ i = .int .i64 (k : Int) ∧ q = .int .i64 z ∧ st = .int .i64 (s : Int) ∧ D.length = k ∧ s < rows.length ∧ 0 ≤ z ∧ z < wT l rows accs gk s ∧ Hid (urD l rows accs m 0 r = D ++ urD l rows accs gk s z) ∧ Hid (IBox wr w4.heap.size (rowPad m D)) ∧ Hid (Below w4.heap.size w4 wr))
      case atStart => exact ⟨0, 0, r, [], by omega, rfl, rfl, rfl, rfl, hpos, HRr.out.1, HRr.out.2, rfl, by rw [rowPad_nil]; exact HI5.out, HA5.out⟩
      case round =>
        clear HI5 HA5
        obtain ⟨k, s, z, D, hk, rfl, rfl, rfl, hD, hs, hz0, hz1, HU, HIb, HB⟩ := hrel
        by_cases hlt : k < m
        · obtain ⟨g', hg'⟩ : ∃ f, gk = f + 1 := ⟨gk - 1, by omega⟩
          subst hg'
          have hf : ∀ c, c < l → 0 ≤ (fun c => wT l rows accs g' (mN rows s c)) c := fun c hc => wT_nn HG.out _ _ (HG.out.ent s c hs hc).1
          obtain ⟨e1, e2, e3⟩ := dig_spec _ l hf z hz0 (by rw [wT] at hz1; exact hz1)
          have HUn := hid (show urD l rows accs (g' + 1) s z = (dig l (fun c => wT l rows accs g' (mN rows s c)) z : Int) :: urD l rows accs g' (mN rows s (dig l (fun c => wT l rows accs g' (mN rows s c)) z)) (z - sumN (fun c => wT l rows accs g' (mN rows s c)) (dig l (fun c => wT l rows accs g' (mN rows s c)) z)) from rfl)
          generalize dig l (fun c => wT l rows accs g' (mN rows s c)) z = d at *
          have HSm := hid (fun a b hab hb => sumN_mono _ l hf a b hab hb)
          have HSb := hid (fun c hc => sumN_bd (fun a => wT l rows accs g' (mN rows s a)) 3656158440062976 l (fun c hc => wT_small HG.out g' _ (by omega) (HG.out.ent s c hs hc).1) c hc)
          have HSs := hid (fun c => show sumN (fun a => wT l rows accs g' (mN rows s a)) (c + 1) = sumN (fun a => wT l rows accs g' (mN rows s a)) c + wT l rows accs g' (mN rows s c) from rfl)
          have HP0 := hid (show rowPad m D = rowPad m (D ++ [((0 : Nat) : Int)]) by
            rw [← rowPad_set m D _ (by omega)]
            unfold rowPad
            obtain ⟨q, hq⟩ : ∃ q, m - D.length = q + 1 := ⟨m - D.length - 1, by omega⟩
            rw [List.set_append_right _ _ (Nat.le_refl _), Nat.sub_self, hq, List.replicate_succ, List.set_cons_zero]; rfl)
          have HIc := HIb.out
          rw [HP0.out] at HIc
          have HIc := hid HIc
          have hlen : wrap64 (wrap64 ((m : Int) - (k : Int)) - 1) = (g' : Int) := by unfold wrap64; omega
          have hlen2 : ((m : Int) - (k : Int) - 1) = (g' : Int) := by omega
          have hki : (k : Int) < (m : Int) := by omega
          have hzs := wT_small HG.out (g' + 1) s (by omega) hs
          clear hf
          go_wp2
          go_loopg [2] d (fun g2 q wr => ∃ (a : Nat), a + g2 = d ∧ q = .int .i64 (z - sumN (fun a => wT l rows accs g' (mN rows s a)) a) ∧ Hid (IBox wr w4.heap.size (rowPad m (D ++ [(a : Int)]))) ∧ Hid (Below w4.heap.size w4 wr))
          case atStart => exact ⟨0, by omega, by simp [sumN], HIc.out, HB.out⟩
          case round =>
            clear HIc HIb
            obtain ⟨a, ha, rfl, HIb, HBr⟩ := hrel
            have hb := HBr.out
            have c0 := (hb.cell (cell_lt b0)).trans b0
            have c1 := (hb.cell (cell_lt b1)).trans b1
            have c2 := (hb.cell (cell_lt b2)).trans b2
            have hT := HT.out.below hb
            have t1 := hT.cell g' (by omega)
            have hal2 : a < l := by omega
            obtain ⟨he1, he2⟩ := HG.out.ent s a hs hal2
            have hrow := HG.out.row s hs
            have t2 := hT.get g' (mN rows s a) (by omega) he1
            have hpl : (rowPad m (D ++ [(a : Int)])).length = m := rowPad_len _ _ (by simp; omega)
            have t3 := HIb.out.cell k (by rw [hpl]; exact hlt)
            have hge : (rowPad m (D ++ [(a : Int)]))[k]?.getD 0 = (a : Int) := by
              unfold rowPad
              rw [List.getElem?_append_left (by simp; omega), List.getElem?_append_right (by omega), hD, Nat.sub_self]; rfl
            rw [hge] at t3
            have hy := wT_small HG.out g' (mN rows s a) (by omega) he1
            have hsb := HSb.out a (by omega)
            have HSa := hid (HSs.out a)
            have hmon := fun (hh : a < d) => HSm.out (a + 1) d (by omega) (by omega)
            have hlast := fun (hh : a = d) => (show z < sumN (fun a => wT l rows accs g' (mN rows s a)) (a + 1) by rw [hh]; exact e3)
            have HNx := hid (show ∀ wx, Below wr.heap.size wr wx → Calls Try.prog 71 #[machV l Na rows.length nc Aa rows.length ac, .int .i64 s, .int .i64 a] wx fun e w' => Below wx.heap.size wx w' ∧ e = .returned (.int .i64 (mN rows s a : Int)) from fun wx hb2 => by
                have := next_any l s a nc ac rows.length Na Aa rows accs wx (((HH.out.below HB3.out).below hb).below hb2) hs (by rw [hrow]; exact hal2)
                rw [he2] at this
                exact this.mono (by rintro e w' ⟨rfl, rfl⟩; exact ⟨(Below.refl _ _).alloc (Nat.le_refl _) _, rfl⟩))
            have HUj := hid (fun (hh : a = d) => (show urD l rows accs (g' + 1) s z = (a : Int) :: urD l rows accs g' (mN rows s a) (z - sumN (fun a => wT l rows accs g' (mN rows s a)) a) by rw [hh]; exact HUn.out))
            have hfr := HIb.out.frozen k
            have hgwl := HIb.out.lt
            have HPs := hid (rowPad_set m D ((a : Int) + 1) (by omega))
            have HIn := hid (fun wx (hx : Below wr.heap.size wr wx) => (show IBox (wx.setCell ⟨w4.heap.size, k, none⟩ (.int .i64 ((a : Int) + 1))) w4.heap.size (rowPad m (D ++ [((a + 1 : Nat) : Int)])) from by
              have h9 := (HIb.out.below hx).set k ((a : Int) + 1)
              have e9 : (rowPad m (D ++ [(a : Int)])).set k ((a : Int) + 1) = rowPad m (D ++ [((a + 1 : Nat) : Int)]) := by
                rw [← rowPad_set m D (a : Int) (by omega), ← rowPad_set m D (((a + 1 : Nat) : Int)) (by omega), hD, List.set_set]; rfl
              rw [e9] at h9; exact h9))
            rw [HSa.out] at hmon hlast
            clear hT hrow he2 hge hpl
            generalize hyy : wT l rows accs g' (mN rows s a) = y at *
            generalize hjj : mN rows s a = j at *
            generalize huu : sumN (fun a => wT l rows accs g' (mN rows s a)) a = u at *
            have HUU := hid huu
            have HYY := hid hyy
            have HJJ := hid hjj
            have hl6 := HG.out.hi
            have S0 := hid (show _ ∧ _ ∧ _ ∧ _ ∧ _ ∧ _ ∧ _ from ⟨c0, c1, c2, t1, t2, t3, Below.refl wr.heap.size wr⟩)
            have hg0 : (0 : Int) ≤ (g' : Int) := by omega
            have hg1 : (g' : Int) < (m : Int) + 1 := by omega
            have hj0 : (0 : Int) ≤ (j : Int) := by omega
            have hj1 : (j : Int) < (rows.length : Int) := by omega
            have hk0 : (0 : Int) ≤ (k : Int) := by omega
            clear c0 c1 c2 t1 t2 t3 hyy hjj huu
            unfold machV at HNx
            by_cases had : a < d
            · obtain ⟨g2', hg2⟩ : ∃ f, gk = f + 1 := ⟨gk - 1, by omega⟩
              subst hg2
              have hmm := hmon had
              have hge2 : y ≤ z - u := by omega
              have hw1 : IntKind.i64.wrap (z - u - y) = z - u - y := by rw [IntKind.wrap_i64]; omega
              have hw2 : wrap64 (z - u - y) = z - u - y := by unfold wrap64; omega
              clear hmon hlast HUj
              go_wp2_with fail
              go_region_held3 (fun w' => w'.cell? ⟨w1.heap.size, 0, none⟩ = some (.int .i64 (l : Int)) ∧ w'.cell? ⟨w1.heap.size, 1, none⟩ = some (.slice Na rows.length nc) ∧ w'.cell? ⟨w1.heap.size, 2, none⟩ = some (.slice Aa rows.length ac) ∧ w'.cell? ⟨gT, g', none⟩ = some (.slice (some ⟨G g', 0, none⟩) rows.length rows.length) ∧ w'.cell? ⟨G g', j, none⟩ = some (.int .i64 y) ∧ w'.cell? ⟨w4.heap.size, k, none⟩ = some (.int .i64 (a : Int)) ∧ Below wr.heap.size wr w') (first | exact ukS_keep S0.out (Below.refl _ _).drew | exact S0.out | exact ukS_keep (by assumption) (by assumption)) ((go_at_call 71; refine (HNx.out _ ?_).mono ?_; (exact (And.right (And.right (And.right (And.right (And.right (And.right (by assumption)))))))); rintro e w5 ⟨hb5, rfl⟩))
              rename _ ∧ _ => hHeld
              have HS1 := hid hHeld
              clear hb5 hHeld
              go_wp2_with fail
              go_region_held3 (fun w' => w'.cell? ⟨w1.heap.size, 0, none⟩ = some (.int .i64 (l : Int)) ∧ w'.cell? ⟨w1.heap.size, 1, none⟩ = some (.slice Na rows.length nc) ∧ w'.cell? ⟨w1.heap.size, 2, none⟩ = some (.slice Aa rows.length ac) ∧ w'.cell? ⟨gT, g', none⟩ = some (.slice (some ⟨G g', 0, none⟩) rows.length rows.length) ∧ w'.cell? ⟨G g', j, none⟩ = some (.int .i64 y) ∧ w'.cell? ⟨w4.heap.size, k, none⟩ = some (.int .i64 (a : Int)) ∧ Below wr.heap.size wr w') (first | exact ukS_keep HS1.out (Below.refl _ _).drew | exact HS1.out | exact ukS_keep (by assumption) (by assumption)) ((go_at_call 71; refine (HNx.out _ ?_).mono ?_; (exact (And.right (And.right (And.right (And.right (And.right (And.right (by assumption)))))))); rintro e w5 ⟨hb5, rfl⟩))
              rename _ ∧ _ => hHeld
              have HS2 := hid hHeld
              clear hb5 hHeld S0 HS1 HNx
              obtain ⟨_, _, _, _, _, x3, x4⟩ := HS2.out
              rename World => w6
              have x5 := (x4.frozen (p := ⟨w4.heap.size, k, none⟩) hgwl).trans hfr
              have HI6 := hid (HIn.out w6 x4)
              have HB6 := hid ((HBr.out.trans (x4.mono (Nat.le_of_lt hgwl))).setCell (p := ⟨w4.heap.size, k, none⟩) (Nat.le_refl _) (.int .i64 ((a : Int) + 1)))
              clear x4 HIn HIb
              go_wp2
              go_roundg g2'
              case rel => exact ⟨a + 1, by omega, by rw [HSa.out]; simp; omega, HI6.out, HB6.out⟩
              all_goals omega
            · have had' : a = d := by omega
              have hll := hlast had'
              have hUU := HUj.out had'
              have hge2 : ¬ y ≤ z - u := by omega
              have HU2 := hid (show urD l rows accs m 0 r = (D ++ [(a : Int)]) ++ urD l rows accs g' j (z - u) by rw [HU.out, hUU, List.append_assoc]; rfl)
              have had2 : sumN (fun c => wT l rows accs g' (mN rows s c)) a ≤ z := by rw [had']; exact e2
              clear hmon hlast HUj had' hUU
              go_wp2_with fail
              go_region_held3 (fun w' => w'.cell? ⟨w1.heap.size, 0, none⟩ = some (.int .i64 (l : Int)) ∧ w'.cell? ⟨w1.heap.size, 1, none⟩ = some (.slice Na rows.length nc) ∧ w'.cell? ⟨w1.heap.size, 2, none⟩ = some (.slice Aa rows.length ac) ∧ w'.cell? ⟨gT, g', none⟩ = some (.slice (some ⟨G g', 0, none⟩) rows.length rows.length) ∧ w'.cell? ⟨G g', j, none⟩ = some (.int .i64 y) ∧ w'.cell? ⟨w4.heap.size, k, none⟩ = some (.int .i64 (a : Int)) ∧ Below wr.heap.size wr w') (first | exact ukS_keep S0.out (Below.refl _ _).drew | exact S0.out | exact ukS_keep (by assumption) (by assumption)) ((go_at_call 71; refine (HNx.out _ ?_).mono ?_; (exact (And.right (And.right (And.right (And.right (And.right (And.right (by assumption)))))))); rintro e w5 ⟨hb5, rfl⟩))
              rename _ ∧ _ => hHeld
              have HS1 := hid hHeld
              clear hb5 hHeld
              go_wp2_with fail
              go_region_held3 (fun w' => w'.cell? ⟨w1.heap.size, 0, none⟩ = some (.int .i64 (l : Int)) ∧ w'.cell? ⟨w1.heap.size, 1, none⟩ = some (.slice Na rows.length nc) ∧ w'.cell? ⟨w1.heap.size, 2, none⟩ = some (.slice Aa rows.length ac) ∧ w'.cell? ⟨gT, g', none⟩ = some (.slice (some ⟨G g', 0, none⟩) rows.length rows.length) ∧ w'.cell? ⟨G g', j, none⟩ = some (.int .i64 y) ∧ w'.cell? ⟨w4.heap.size, k, none⟩ = some (.int .i64 (a : Int)) ∧ Below wr.heap.size wr w') (first | exact ukS_keep HS1.out (Below.refl _ _).drew | exact HS1.out | exact ukS_keep (by assumption) (by assumption)) ((go_at_call 71; refine (HNx.out _ ?_).mono ?_; (exact (And.right (And.right (And.right (And.right (And.right (And.right (by assumption)))))))); rintro e w5 ⟨hb5, rfl⟩))
              rename _ ∧ _ => hHeld
              have hbz := hHeld.2.2.2.2.2.2
              rename World => w6
              have HI6 := hid (HIb.out.below hbz)
              have HB6 := hid (HBr.out.trans (hbz.mono (Nat.le_of_lt hgwl)))
              have hul : u ≤ z := by have := HUU.out; have := had2; omega
              have hyl : z - u < wT l rows accs g' j := by have := HYY.out; omega
              clear hb5 hHeld S0 HS1 HNx HIn HIb hbz
              go_wp2
              go_roundg g'
              case rel => exact ⟨k + 1, j, z - u, D ++ [(a : Int)], by omega, by go_num, rfl, rfl, by simp; omega, he1, by omega, hyl, HU2.out, HI6.out, HB6.out⟩
              all_goals omega
        · have hke : gk = 0 := by omega
          subst hke
          have HU9 := hid (show urD l rows accs m 0 r = D by rw [HU.out, urD, List.append_nil])
          have HI9 := HIb.out
          rw [rowPad_full m D (by omega)] at HI9
          have HI9 := hid HI9
          have HB9 := hid (HB3.out.trans (HB.out.mono HB3.out.size))
          have hkf : ¬ (k : Int) < (m : Int) := by omega
          go_wp2
          go_ret2
          refine ⟨HB9.out, some ⟨w4.heap.size, 0, none⟩, m, by rw [HE.out, HR.out, HU9.out, show D.length = m by omega]; rfl, ?_⟩
          rw [HR.out, HU9.out]
          refine HI9.out.ints (by omega) (fun x hx => ?_)
          have hall := HUs.out.2.1
          rw [HU9.out] at hall
          have := allB_iff.1 hall x hx
          have := HG.out.hi
          omega
    · have hd : decide (0 ≤ r ∧ r < wT l rows accs m 0) = false := by simpa using hrr
      rw [hd]
      have HE := hid (HE.out.trans (if_neg hrr))
      have HR := hid (show ukL l rows accs m r = [] from HR.out.trans (by rw [HE.out]; rfl))
      clear hd hrr
      go_wp2
      go_ret2
      exact ⟨HB3.out, none, 0, by rw [HE.out, HR.out]; rfl, by rw [HR.out]; exact ints_nil _ _⟩
  · have HE := hid (show ukE L rows accs n r = v by rw [HE.out, if_pos hv])
    have HR := hid (show ukL L rows accs n r = [] by rw [HR.out, HE.out, if_neg hv])
    have hv' : (v != 0) = true := by simpa using hv
    clear hv HO
    go_wp2
    go_ret2
    exact ⟨HB1.out, none, 0, by rw [HE.out, HR.out]; rfl, by rw [HR.out]; exact ints_nil _ _⟩
end Go.Proofs.Ytkboeldafppicaa
