/- Cheapest of package menu. -/
import Derived.Test.YtkboeldafppicaaMChp
set_option linter.unusedVariables false
set_option linter.unusedSimpArgs false
namespace Go.Proofs.Ytkboeldafppicaa
open Go.RowKit

theorem egF : (∀ args (w : World), (callFunc 137 args).run Try.prog w = .ok (.enter 137 args) w) := fun _ _ => by kernel_rfl
set_option maxRecDepth 100000 in
set_option maxHeartbeats 4000000 in
theorem mFewest_any (L n nc ac cP : Nat) (Na Aa P : Option Addr) (rows : List (List Int)) (accs : List Bool) (ps : List Int) (w : World) (h : MachAt w Na rows Aa accs) (hg : GoodM L rows accs) (hn : n ≤ 20) (hn5 : rows.length ≤ 5000) (hP : Ints w P ps) (hps : allB ps 21 = true) (hpl : ps.length = L) :
    Calls Try.prog 114 #[machV L Na rows.length nc Aa rows.length ac, .int .i64 (n : Int), .slice P ps.length cP] w fun e w' => Below w.heap.size w w' ∧ ∃ gT G, e = .returned (.slice (some ⟨gT, 0, none⟩) (n + 1) (n + 1)) ∧ TabW w' w.heap.size gT (n + 1) rows.length (chT 401 L rows accs ps) G (n + 1) := by
  have hA : Below w.heap.size w ((w.alloc (machO L Na rows.length nc Aa rows.length ac)).alloc (.cells #[.slice P ps.length cP] 26)) := ((Below.refl _ _).alloc (Nat.le_refl _) _).alloc (by simp) _
  have HA := hid hA
  have HB := hid (byLength_any L n nc ac Na Aa rows accs 0 401 (chT 401 L rows accs ps) 137 #[] #[.pointer (some ⟨w.heap.size, 0, none⟩), .pointer (some ⟨w.heap.size + 1, 0, none⟩)] ((w.alloc (machO L Na rows.length nc Aa rows.length ac)).alloc (.cells #[.slice P ps.length cP] 26)) (h.below hA) hg hn hn5 (fun s _ => rfl) (fun k s hk hs => by obtain ⟨h0, h1⟩ := chT_bd (N := 401) (by omega) (rows := rows) (accs := accs) hps hpl k s; exact i64_small h0 (by omega)) egF
    (fun w' k s K hb hk hs hK => by
      have c1 : ((w.alloc (machO L Na rows.length nc Aa rows.length ac)).alloc (.cells #[.slice P ps.length cP] 26)).cell? ⟨w.heap.size, 1, none⟩ = some (.slice Na rows.length nc) := by go_simp
      have c2 : ((w.alloc (machO L Na rows.length nc Aa rows.length ac)).alloc (.cells #[.slice P ps.length cP] 26)).cell? ⟨w.heap.size + 1, 0, none⟩ = some (.slice P ps.length cP) := by go_simp
      exact fewestC_any L s k nc ac rows.length cP w.heap.size (w.heap.size + 1) Na Aa K P rows accs ps w' ((h.below hA).below hb) hg hs hn5 hK ((hP.below hA).below hb) hps hpl ((hb.cell (cell_lt c1)).trans c1) ((hb.cell (cell_lt c2)).trans c2)))
  clear h hg hA hP hpl hps
  unfold machV at *
  go_enter Try.func114, Try.ntmps114
  go_wp2_with fail
  refine HB.out.mono ?_
  rintro e w1 ⟨hb1, gT, G, rfl, hT⟩
  have HT := hid (hT.weak (b := w.heap.size) (by simp; omega))
  have HB1 := hid (HA.out.trans (hb1.mono HA.out.size))
  clear hT hb1 HB HA
  go_wp2
  go_ret
  exact ⟨HB1.out, gT, G, rfl, HT.out⟩

def chOk (L : Int) (rows : List (List Int)) (accs : List Bool) (n : Int) (ps : List Int) : Bool := decide (ptE L rows accs n ps = 0) && decide (chT 401 L.toNat rows accs ps n.toNat 0 < 401)
def chL (L : Int) (rows : List (List Int)) (accs : List Bool) (n : Int) (ps : List Int) : List Int := if chOk L rows accs n ps = true then cW L.toNat (mN rows) (mA accs) (pN ps) 401 n.toNat 0 else []
def chV (L : Int) (rows : List (List Int)) (accs : List Bool) (n : Int) (ps : List Int) : Int := if chOk L rows accs n ps = true then chT 401 L.toNat rows accs ps n.toNat 0 else 0
theorem chOk_no {L : Int} {rows : List (List Int)} {accs : List Bool} {n : Int} {ps : List Int} (h : chOk L rows accs n ps = false) : chL L rows accs n ps = [] ∧ chV L rows accs n ps = 0 := by
  unfold chL chV; rw [h]; simp
theorem chOk_yes {L : Int} {rows : List (List Int)} {accs : List Bool} {n : Int} {ps : List Int} (h : chOk L rows accs n ps = true) : chL L rows accs n ps = cW L.toNat (mN rows) (mA accs) (pN ps) 401 n.toNat 0 ∧ chV L rows accs n ps = chT 401 L.toNat rows accs ps n.toNat 0 := by
  unfold chL chV; rw [h]; simp
/-- What Cheapest answers. -/
def ChAns (w' : World) (l : List Int) (x : Int) (b : Bool) (v : Int) (e : Ending) : Prop := ∃ A cap, e = .returned (.tuple #[.slice A l.length cap, .int .i64 x, .bool b, .int .i64 v]) ∧ Ints w' A l
theorem chS_keep {w0 w w' : World} {pM gT lf gl j gw i gm sp bP oP : Nat} {L rn : Nat} {Na : Option Addr} {nc : Nat} {Aa : Option Addr} {ac : Nat} {x y z p : Int} (h : w.cell? ⟨pM, 0, none⟩ = some (.int .i64 (L : Int)) ∧ w.cell? ⟨pM, 1, none⟩ = some (.slice Na rn nc) ∧ w.cell? ⟨pM, 2, none⟩ = some (.slice Aa rn ac) ∧ w.cell? ⟨gT, lf, none⟩ = some (.slice (some ⟨gl, 0, none⟩) rn rn) ∧ w.cell? ⟨gl, j, none⟩ = some (.int .i64 x) ∧ w.cell? ⟨gw, i, none⟩ = some (.int .i64 y) ∧ w.cell? ⟨gT, lf + 1, none⟩ = some (.slice (some ⟨gm, 0, none⟩) rn rn) ∧ w.cell? ⟨gm, sp, none⟩ = some (.int .i64 z) ∧ w.cell? ⟨bP, oP, none⟩ = some (.int .i64 p) ∧ Below w0.heap.size w0 w) (hb : Below w.heap.size w w') : w'.cell? ⟨pM, 0, none⟩ = some (.int .i64 (L : Int)) ∧ w'.cell? ⟨pM, 1, none⟩ = some (.slice Na rn nc) ∧ w'.cell? ⟨pM, 2, none⟩ = some (.slice Aa rn ac) ∧ w'.cell? ⟨gT, lf, none⟩ = some (.slice (some ⟨gl, 0, none⟩) rn rn) ∧ w'.cell? ⟨gl, j, none⟩ = some (.int .i64 x) ∧ w'.cell? ⟨gw, i, none⟩ = some (.int .i64 y) ∧ w'.cell? ⟨gT, lf + 1, none⟩ = some (.slice (some ⟨gm, 0, none⟩) rn rn) ∧ w'.cell? ⟨gm, sp, none⟩ = some (.int .i64 z) ∧ w'.cell? ⟨bP, oP, none⟩ = some (.int .i64 p) ∧ Below w0.heap.size w0 w' := by
  obtain ⟨h2, h3, h4, h5, h7, h8, h9, ha, hc, h6⟩ := h
  exact ⟨(hb.cell (cell_lt h2)).trans h2, (hb.cell (cell_lt h3)).trans h3, (hb.cell (cell_lt h4)).trans h4, (hb.cell (cell_lt h5)).trans h5, (hb.cell (cell_lt h7)).trans h7, (hb.cell (cell_lt h8)).trans h8, (hb.cell (cell_lt h9)).trans h9, (hb.cell (cell_lt ha)).trans ha, (hb.cell (cell_lt hc)).trans hc, h6.trans (hb.mono h6.size)⟩
set_option maxRecDepth 100000 in
set_option maxHeartbeats 4000000 in
theorem mCheapest_any (L : Int) (nc ac : Nat) (Na Aa : Option Addr) (rows : List (List Int)) (accs : List Bool) (n : Int) (P : Option Addr) (ps : List Int) (cP : Nat) (w : World) (h : MachAt w Na rows Aa accs) (hP : Ints w P ps) :
    Calls Try.prog 58 #[machV L Na rows.length nc Aa accs.length ac, .int .i64 n, .slice P ps.length cP] w fun e w' => Below w.heap.size w w' ∧ ChAns w' (chL L rows accs n ps) (chV L rows accs n ps) (chOk L rows accs n ps) (ptE L rows accs n ps) e := by
  have hn := h.nlen
  have hal := h.alen
  have hpn := hP.len
  have hA : Below w.heap.size w (w.alloc (amachO L Na rows.length nc Aa accs.length ac)) := (Below.refl _ _).alloc (Nat.le_refl _) _
  have HA := hid hA
  have HH := hid h
  have HPp := hid hP
  have HK := hid (show chOk L rows accs n ps = (decide (ptE L rows accs n ps = 0) && decide (chT 401 L.toNat rows accs ps n.toNat 0 < 401)) from rfl)
  have HNo := hid (fun hh => chOk_no (L := L) (rows := rows) (accs := accs) (n := n) (ps := ps) hh)
  have HYes := hid (fun hh => chOk_yes (L := L) (rows := rows) (accs := accs) (n := n) (ps := ps) hh)
  have HO := hid (ptE_ok (L := L) (rows := rows) (accs := accs) (n := n) (ps := ps))
  have HC := hid (mCheckPoints_any L nc ac Na Aa rows accs n P ps cP _ (h.below hA) (hP.below hA))
  clear h hP
  have c0 : (w.alloc (amachO L Na rows.length nc Aa accs.length ac)).cell? ⟨w.heap.size, 0, none⟩ = some (.int .i64 L) := by go_simp
  have c1 : (w.alloc (amachO L Na rows.length nc Aa accs.length ac)).cell? ⟨w.heap.size, 1, none⟩ = some (.slice Na rows.length nc) := by go_simp
  have c2 : (w.alloc (amachO L Na rows.length nc Aa accs.length ac)).cell? ⟨w.heap.size, 2, none⟩ = some (.slice Aa accs.length ac) := by go_simp
  unfold machV at *
  go_enter Try.func58, Try.ntmps58
  go_wp2_with fail
  refine HC.out.mono ?_
  rintro e w1 ⟨hb1, rfl⟩
  have d0 := (hb1.cell (cell_lt c0)).trans c0
  have d1 := (hb1.cell (cell_lt c1)).trans c1
  have d2 := (hb1.cell (cell_lt c2)).trans c2
  have HB1 := hid (HA.out.trans (hb1.mono HA.out.size))
  clear hb1 c0 c1 c2 hA HC HA
  generalize hv0 : ptE L rows accs n ps = v at *
  have HV0 := hid hv0
  clear hv0
  by_cases hv : v = 0
  · subst hv
    obtain ⟨hlE, hpsl, hps⟩ := HO.out rfl
    obtain ⟨hV, ⟨m, rfl, hm⟩, l, rfl⟩ := lenE_ok hlE
    obtain ⟨hg, h64⟩ := vE_ok hV
    have hacc := hg.acc
    have HG := hid hg
    have HPL := hid (show ps.length = l by omega)
    have HPS := hid hps
    have HK := hid (show chOk l rows accs m ps = decide (chT 401 l rows accs ps m 0 < 401) by rw [HK.out]; simp)
    have HYes := hid (show chOk l rows accs m ps = true → chL l rows accs m ps = cW l (mN rows) (mA accs) (pN ps) 401 m 0 ∧ chV l rows accs m ps = chT 401 l rows accs ps m 0 from HYes.out)
    rw [hacc] at d2
    have hA1 : Below w1.heap.size w1 (w1.alloc (machO l Na rows.length nc Aa rows.length ac)) := (Below.refl _ _).alloc (Nat.le_refl _) _
    have HBA := hid (HB1.out.trans (hA1.mono HB1.out.size))
    have b0 : (w1.alloc (machO l Na rows.length nc Aa rows.length ac)).cell? ⟨w1.heap.size, 0, none⟩ = some (.int .i64 (l : Int)) := by go_simp
    have b1 : (w1.alloc (machO l Na rows.length nc Aa rows.length ac)).cell? ⟨w1.heap.size, 1, none⟩ = some (.slice Na rows.length nc) := by go_simp
    have b2 : (w1.alloc (machO l Na rows.length nc Aa rows.length ac)).cell? ⟨w1.heap.size, 2, none⟩ = some (.slice Aa rows.length ac) := by go_simp
    have HWd := hid (mFewest_any l m nc ac cP Na Aa P rows accs ps _ (HH.out.below HBA.out) hg hm (by omega) (HPp.out.below HBA.out) hps HPL.out)
    unfold machV at HWd
    have hpos := hg.pos
    have HL0 := hid hg.lo
    clear hV hg hacc HO hA1 hlE hpsl hps
    go_wp2_with fail
    refine HWd.out.mono ?_
    rintro e w3 ⟨hb3, gT, G, rfl, hT⟩
    have b0 := (hb3.cell (cell_lt b0)).trans b0
    have b1 := (hb3.cell (cell_lt b1)).trans b1
    have b2 := (hb3.cell (cell_lt b2)).trans b2
    have HB3 := hid (HBA.out.trans (hb3.mono HBA.out.size))
    have t1 := hT.cell m (by omega)
    have t2 := hT.get m 0 (by omega) hpos
    have HT := hid hT
    have HFb := hid (fun k j => chT_bd (N := 401) (by omega) (rows := rows) (accs := accs) HPS.out HPL.out k j)
    have hmi : (m : Int) < (m : Int) + 1 := by omega
    have hfb0 := HFb.out m 0
    clear hT hb3 HWd d0 d1 d2
    by_cases hrr : chT 401 l rows accs ps m 0 < 401
    · have HKt := hid (show chOk l rows accs m ps = true by rw [HK.out]; simpa using hrr)
      obtain ⟨hW1, hW2⟩ := HYes.out HKt.out
      have HWl := hid hW1
      have HWv := hid hW2
      have HUs := hid (cW_spec l (mN rows) (mA accs) (pN ps) 401 (fun c hc => (pN_ok HPS.out HPL.out c hc).1) m 0 hrr)
      have hmk := make_intsM m (by omega)
      have hA5 : Below w3.heap.size w3 (w3.alloc (.cells (List.replicate m (Value.int .i64 0)).toArray 3)) := (Below.refl _ _).alloc (Nat.le_refl _) _
      have HI5 := hid (IBox.made w3 m)
      have HA5 := hid hA5
      have HRr := hid hrr
      have hgw : w1.heap.size < w3.heap.size := cell_lt b0
      have hne : (chT 401 l rows accs ps m 0 == 401) = false := by rw [beq_eq_false_iff_ne]; omega
      clear hA5 hrr hW1 hW2 HYes HNo HK
      have HX0 := hid (show ∃ x, x = chT 401 l rows accs ps m 0 from ⟨_, rfl⟩)
      generalize hx0 : chT 401 l rows accs ps m 0 = x0 at *
      have HX := hid hx0
      clear hx0
      go_wp2
      clear hmk t1 t2 hne
      go_loopg [15, 42] m (fun gk st i wr => ∃ (k s : Nat) (D : List Int), k + gk = m ∧ i = .int .i64 (k : Int) ∧ st = .int .i64 (s : Int) ∧ D.length = k ∧ s < rows.length ∧ Hid (chT 401 l rows accs ps gk s < 401) ∧ Hid (cW l (mN rows) (mA accs) (pN ps) 401 m 0 = D ++ cW l (mN rows) (mA accs) (pN ps) 401 gk s) ∧ Hid (IBox wr w3.heap.size (rowPad m D)) ∧ Hid (Below w3.heap.size w3 wr))
      case atStart => exact ⟨0, 0, [], by omega, rfl, rfl, rfl, hpos, by rw [HX.out]; exact HRr.out, rfl, by rw [rowPad_nil]; exact HI5.out, HA5.out⟩
      case round =>
        clear HI5 HA5
        obtain ⟨k, s, D, hk, rfl, rfl, hD, hs, HZ, HU, HIb, HB⟩ := hrel
        by_cases hlt : k < m
        · obtain ⟨g', hg'⟩ : ∃ f, gk = f + 1 := ⟨gk - 1, by omega⟩
          subst hg'
          obtain ⟨e1, e2, e3⟩ := cT_step l (mN rows) (mA accs) (pN ps) 401 g' s HZ.out
          have HUn := hid (show cW l (mN rows) (mA accs) (pN ps) 401 (g' + 1) s = (cdig l (fun c => pN ps c + cT l (mN rows) (mA accs) (pN ps) 401 g' (mN rows s c)) (cT l (mN rows) (mA accs) (pN ps) 401 (g' + 1) s) : Int) :: cW l (mN rows) (mA accs) (pN ps) 401 g' (mN rows s (cdig l (fun c => pN ps c + cT l (mN rows) (mA accs) (pN ps) 401 g' (mN rows s c)) (cT l (mN rows) (mA accs) (pN ps) 401 (g' + 1) s))) from rfl)
          generalize cdig l (fun c => pN ps c + cT l (mN rows) (mA accs) (pN ps) 401 g' (mN rows s c)) (cT l (mN rows) (mA accs) (pN ps) 401 (g' + 1) s) = d at *
          have HE2 := hid (show pN ps d + chT 401 l rows accs ps g' (mN rows s d) = chT 401 l rows accs ps (g' + 1) s from e2)
          have HE3 := hid (show ∀ c, c < d → chT 401 l rows accs ps (g' + 1) s < pN ps c + chT 401 l rows accs ps g' (mN rows s c) from e3)
          clear e2 e3
          have HP0 := hid (show rowPad m D = rowPad m (D ++ [((0 : Nat) : Int)]) by
            rw [← rowPad_set m D _ (by omega)]
            unfold rowPad
            obtain ⟨q, hq⟩ : ∃ q, m - D.length = q + 1 := ⟨m - D.length - 1, by omega⟩
            rw [List.set_append_right _ _ (Nat.le_refl _), Nat.sub_self, hq, List.replicate_succ, List.set_cons_zero]; rfl)
          have HIc := HIb.out
          rw [HP0.out] at HIc
          have HIc := hid HIc
          have hlen : wrap64 (wrap64 ((m : Int) - (k : Int)) - 1) = (g' : Int) := by unfold wrap64; omega
          have hlen2 : ((m : Int) - (k : Int) - 1) = (g' : Int) := by omega
          have hki : (k : Int) < (m : Int) := by omega
          have hzs := HFb.out (g' + 1) s
          go_wp2
          go_loopg [] d (fun g2 wr => ∃ (a : Nat), a + g2 = d ∧ Hid (IBox wr w3.heap.size (rowPad m (D ++ [(a : Int)]))) ∧ Hid (Below w3.heap.size w3 wr))
          case atStart => exact ⟨0, by omega, HIc.out, HB.out⟩
          case round =>
            clear HIc HIb
            obtain ⟨a, ha, HIb, HBr⟩ := hrel
            have hb := HBr.out
            have c0 := (hb.cell (cell_lt b0)).trans b0
            have c1 := (hb.cell (cell_lt b1)).trans b1
            have c2 := (hb.cell (cell_lt b2)).trans b2
            have hT := HT.out.below hb
            have t1 := hT.cell g' (by omega)
            have t4 := hT.cell (g' + 1) (by omega)
            have hal2 : a < l := by omega
            obtain ⟨he1, he2⟩ := HG.out.ent s a hs hal2
            have hrow := HG.out.row s hs
            have t2 := hT.get g' (mN rows s a) (by omega) he1
            have t5 := hT.get (g' + 1) s (by omega) hs
            obtain ⟨bP, oP, hPa, t6'⟩ : ∃ bP oP, P = some ⟨bP, oP, none⟩ ∧ w.cell? ⟨bP, oP + a, none⟩ = some (.int .i64 (pN ps a)) := by
              rcases HPp.out.at_ with e | ⟨b, o, hA, hc⟩
              · have := HPL.out; rw [e] at this; simp at this; omega
              · exact ⟨b, o, hA, hc a (by have := HPL.out; omega)⟩
            have t6 := (hb.cell (cell_lt ((HB3.out.cell (cell_lt t6')).trans t6'))).trans ((HB3.out.cell (cell_lt t6')).trans t6')
            have hpa := pN_ok HPS.out HPL.out a hal2
            have hpl : (rowPad m (D ++ [(a : Int)])).length = m := rowPad_len _ _ (by simp; omega)
            have t3 := HIb.out.cell k (by rw [hpl]; exact hlt)
            have hge : (rowPad m (D ++ [(a : Int)]))[k]?.getD 0 = (a : Int) := by
              unfold rowPad
              rw [List.getElem?_append_left (by simp; omega), List.getElem?_append_right (by omega), hD, Nat.sub_self]; rfl
            rw [hge] at t3
            have hy := HFb.out g' (mN rows s a)
            have hmon := fun (hh : a < d) => HE3.out a hh
            have hlast := fun (hh : a = d) => (show pN ps a + chT 401 l rows accs ps g' (mN rows s a) = chT 401 l rows accs ps (g' + 1) s by rw [hh]; exact HE2.out)
            have HNx := hid (show ∀ wx, Below wr.heap.size wr wx → Calls Try.prog 71 #[machV l Na rows.length nc Aa rows.length ac, .int .i64 s, .int .i64 a] wx fun e w' => Below wx.heap.size wx w' ∧ e = .returned (.int .i64 (mN rows s a : Int)) from fun wx hb2 => by
                have := next_any l s a nc ac rows.length Na Aa rows accs wx (((HH.out.below HB3.out).below hb).below hb2) hs (by rw [hrow]; exact hal2)
                rw [he2] at this
                exact this.mono (by rintro e w' ⟨rfl, rfl⟩; exact ⟨(Below.refl _ _).alloc (Nat.le_refl _) _, rfl⟩))
            have HUj := hid (fun (hh : a = d) => (show cW l (mN rows) (mA accs) (pN ps) 401 (g' + 1) s = (a : Int) :: cW l (mN rows) (mA accs) (pN ps) 401 g' (mN rows s a) by rw [hh]; exact HUn.out))
            have HZj := hid (fun (hh : a = d) => (show chT 401 l rows accs ps g' (mN rows s a) < 401 by have := hlast hh; have := HZ.out; omega))
            have hfr := HIb.out.frozen k
            have hgwl := HIb.out.lt
            have HIn := hid (fun wx (hx : Below wr.heap.size wr wx) => (show IBox (wx.setCell ⟨w3.heap.size, k, none⟩ (.int .i64 ((a : Int) + 1))) w3.heap.size (rowPad m (D ++ [((a + 1 : Nat) : Int)])) from by
              have h9 := (HIb.out.below hx).set k ((a : Int) + 1)
              have e9 : (rowPad m (D ++ [(a : Int)])).set k ((a : Int) + 1) = rowPad m (D ++ [((a + 1 : Nat) : Int)]) := by
                rw [← rowPad_set m D (a : Int) (by omega), ← rowPad_set m D (((a + 1 : Nat) : Int)) (by omega), hD, List.set_set]; rfl
              rw [e9] at h9; exact h9))
            clear hT hrow he2 hge hpl t6'
            subst hPa
            generalize hyy : chT 401 l rows accs ps g' (mN rows s a) = y at *
            generalize hzz : chT 401 l rows accs ps (g' + 1) s = z at *
            generalize hpp : pN ps a = p at *
            generalize hjj : mN rows s a = j at *
            have HYY := hid hyy
            have HJJ := hid hjj
            have hl6 := HG.out.hi
            have S0 := hid (show _ ∧ _ ∧ _ ∧ _ ∧ _ ∧ _ ∧ _ ∧ _ ∧ _ ∧ _ from ⟨c0, c1, c2, t1, t2, t3, t4, t5, t6, Below.refl wr.heap.size wr⟩)
            have hg0 : (0 : Int) ≤ (g' : Int) := by omega
            have hg1 : (g' : Int) < (m : Int) + 1 := by omega
            have hg2 : (g' : Int) + 1 < (m : Int) + 1 := by omega
            have hg3 : (0 : Int) ≤ (g' : Int) + 1 := by omega
            have hgw1 : IntKind.i64.wrap ((g' : Int) + 1) = (g' : Int) + 1 := by rw [IntKind.wrap_i64]; omega
            have hgw2 : wrap64 ((g' : Int) + 1) = (g' : Int) + 1 := by unfold wrap64; omega
            have hpw1 : IntKind.i64.wrap (p + y) = p + y := by rw [IntKind.wrap_i64]; omega
            have hpw2 : wrap64 (p + y) = p + y := by unfold wrap64; omega
            have hj0 : (0 : Int) ≤ (j : Int) := by omega
            have hj1 : (j : Int) < (rows.length : Int) := by omega
            have hk0 : (0 : Int) ≤ (k : Int) := by omega
            have hs0 : (0 : Int) ≤ (s : Int) := by omega
            have hs1 : (s : Int) < (rows.length : Int) := by omega
            have ha0 : (0 : Int) ≤ (a : Int) := by omega
            have ha1 : (a : Int) < (ps.length : Int) := by have := HPL.out; omega
            clear c0 c1 c2 t1 t2 t3 t4 t5 t6 hyy hjj hzz hpp
            unfold machV at HNx
            by_cases had : a < d
            · obtain ⟨g2', hg2⟩ : ∃ f, gk = f + 1 := ⟨gk - 1, by omega⟩
              subst hg2
              have hmm := hmon had
              have hge2 : z < p + y := by omega
              clear hmon hlast HUj HZj
              go_wp2_with fail
              go_region_held3 (fun w' => w'.cell? ⟨w1.heap.size, 0, none⟩ = some (.int .i64 (l : Int)) ∧ w'.cell? ⟨w1.heap.size, 1, none⟩ = some (.slice Na rows.length nc) ∧ w'.cell? ⟨w1.heap.size, 2, none⟩ = some (.slice Aa rows.length ac) ∧ w'.cell? ⟨gT, g', none⟩ = some (.slice (some ⟨G g', 0, none⟩) rows.length rows.length) ∧ w'.cell? ⟨G g', j, none⟩ = some (.int .i64 y) ∧ w'.cell? ⟨w3.heap.size, k, none⟩ = some (.int .i64 (a : Int)) ∧ w'.cell? ⟨gT, g' + 1, none⟩ = some (.slice (some ⟨G (g' + 1), 0, none⟩) rows.length rows.length) ∧ w'.cell? ⟨G (g' + 1), s, none⟩ = some (.int .i64 z) ∧ w'.cell? ⟨bP, oP + a, none⟩ = some (.int .i64 p) ∧ Below wr.heap.size wr w') (first | exact chS_keep S0.out (Below.refl _ _).drew | exact S0.out | exact chS_keep (by assumption) (by assumption)) ((go_at_call 71; refine (HNx.out _ ?_).mono ?_; (exact (And.right (And.right (And.right (And.right (And.right (And.right (And.right (And.right (And.right (by assumption))))))))))); rintro e w5 ⟨hb5, rfl⟩))
              rename _ ∧ _ => hHeld
              have HS2 := hid hHeld
              clear hb5 hHeld S0 HNx
              obtain ⟨_, _, _, _, _, x3, _, _, _, x4⟩ := HS2.out
              rename World => w6
              have x5 := (x4.frozen (p := ⟨w3.heap.size, k, none⟩) hgwl).trans hfr
              have HI6 := hid (HIn.out w6 x4)
              have HB6 := hid ((HBr.out.trans (x4.mono (Nat.le_of_lt hgwl))).setCell (p := ⟨w3.heap.size, k, none⟩) (Nat.le_refl _) (.int .i64 ((a : Int) + 1)))
              clear x4 HIn HIb
              go_wp2
              go_roundg g2'
              case rel => exact ⟨a + 1, by omega, HI6.out, HB6.out⟩
              all_goals omega
            · have had' : a = d := by omega
              have hll := hlast had'
              have hUU := HUj.out had'
              have HZ2 := hid (HZj.out had')
              have hge2 : ¬ z < p + y := by omega
              have HU2 := hid (show cW l (mN rows) (mA accs) (pN ps) 401 m 0 = (D ++ [(a : Int)]) ++ cW l (mN rows) (mA accs) (pN ps) 401 g' j by rw [HU.out, hUU, List.append_assoc]; rfl)
              clear hmon hlast HUj had' hUU HZj hll
              go_wp2_with fail
              go_region_held3 (fun w' => w'.cell? ⟨w1.heap.size, 0, none⟩ = some (.int .i64 (l : Int)) ∧ w'.cell? ⟨w1.heap.size, 1, none⟩ = some (.slice Na rows.length nc) ∧ w'.cell? ⟨w1.heap.size, 2, none⟩ = some (.slice Aa rows.length ac) ∧ w'.cell? ⟨gT, g', none⟩ = some (.slice (some ⟨G g', 0, none⟩) rows.length rows.length) ∧ w'.cell? ⟨G g', j, none⟩ = some (.int .i64 y) ∧ w'.cell? ⟨w3.heap.size, k, none⟩ = some (.int .i64 (a : Int)) ∧ w'.cell? ⟨gT, g' + 1, none⟩ = some (.slice (some ⟨G (g' + 1), 0, none⟩) rows.length rows.length) ∧ w'.cell? ⟨G (g' + 1), s, none⟩ = some (.int .i64 z) ∧ w'.cell? ⟨bP, oP + a, none⟩ = some (.int .i64 p) ∧ Below wr.heap.size wr w') (first | exact chS_keep S0.out (Below.refl _ _).drew | exact S0.out | exact chS_keep (by assumption) (by assumption)) ((go_at_call 71; refine (HNx.out _ ?_).mono ?_; (exact (And.right (And.right (And.right (And.right (And.right (And.right (And.right (And.right (And.right (by assumption))))))))))); rintro e w5 ⟨hb5, rfl⟩))
              rename _ ∧ _ => hHeld
              have HS1 := hid hHeld
              clear hb5 hHeld
              go_wp2_with fail
              go_region_held3 (fun w' => w'.cell? ⟨w1.heap.size, 0, none⟩ = some (.int .i64 (l : Int)) ∧ w'.cell? ⟨w1.heap.size, 1, none⟩ = some (.slice Na rows.length nc) ∧ w'.cell? ⟨w1.heap.size, 2, none⟩ = some (.slice Aa rows.length ac) ∧ w'.cell? ⟨gT, g', none⟩ = some (.slice (some ⟨G g', 0, none⟩) rows.length rows.length) ∧ w'.cell? ⟨G g', j, none⟩ = some (.int .i64 y) ∧ w'.cell? ⟨w3.heap.size, k, none⟩ = some (.int .i64 (a : Int)) ∧ w'.cell? ⟨gT, g' + 1, none⟩ = some (.slice (some ⟨G (g' + 1), 0, none⟩) rows.length rows.length) ∧ w'.cell? ⟨G (g' + 1), s, none⟩ = some (.int .i64 z) ∧ w'.cell? ⟨bP, oP + a, none⟩ = some (.int .i64 p) ∧ Below wr.heap.size wr w') (first | exact chS_keep HS1.out (Below.refl _ _).drew | exact HS1.out | exact chS_keep (by assumption) (by assumption)) ((go_at_call 71; refine (HNx.out _ ?_).mono ?_; (exact (And.right (And.right (And.right (And.right (And.right (And.right (And.right (And.right (And.right (by assumption))))))))))); rintro e w5 ⟨hb5, rfl⟩))
              rename _ ∧ _ => hHeld
              have hbz := hHeld.2.2.2.2.2.2.2.2.2
              rename World => w6
              have HI6 := hid (HIb.out.below hbz)
              have HB6 := hid (HBr.out.trans (hbz.mono (Nat.le_of_lt hgwl)))
              have hz4 : Hid (chT 401 l rows accs ps g' j < 401) := by rw [HYY.out]; exact HZ2
              clear hb5 hHeld S0 HS1 HNx HIn HIb hbz hgw1 hgw2 hpw1 hpw2
              go_wp2
              go_roundg g'
              case rel => exact ⟨k + 1, j, D ++ [(a : Int)], by omega, by go_num, rfl, by simp; omega, he1, hz4.out, HU2.out, HI6.out, HB6.out⟩
              all_goals omega
        · have hke : gk = 0 := by omega
          subst hke
          have HU9 := hid (show cW l (mN rows) (mA accs) (pN ps) 401 m 0 = D by rw [HU.out, cW, List.append_nil])
          have HI9 := HIb.out
          rw [rowPad_full m D (by omega)] at HI9
          have HI9 := hid HI9
          have HB9 := hid (HB3.out.trans (HB.out.mono HB3.out.size))
          have hkf : ¬ (k : Int) < (m : Int) := by omega
          go_wp2
          refine bodyPost_ret (v := .tuple #[.slice (some ⟨w3.heap.size, 0, none⟩) m m, .int .i64 x0, .bool true, .int .i64 0]) (by simp [results, Try.results58, go_sem]) rfl ?_
          refine ⟨HB9.out, some ⟨w3.heap.size, 0, none⟩, m, by rw [HWl.out, HWv.out, HKt.out, HU9.out, HV0.out, show D.length = m by omega], ?_⟩
          rw [HWl.out, HU9.out]
          refine HI9.out.ints (by omega) (fun x hx => ?_)
          have hall := HUs.out.2
          rw [HU9.out] at hall
          have := hall x hx
          have := HG.out.hi
          omega
    · have HKt := hid (show chOk l rows accs m ps = false by rw [HK.out]; simpa using hrr)
      obtain ⟨hW1, hW2⟩ := HNo.out HKt.out
      have HWl := hid hW1
      have HWv := hid hW2
      have hne : (chT 401 l rows accs ps m 0 == 401) = true := by rw [beq_iff_eq]; omega
      clear hW1 hW2 hrr
      generalize chT 401 l rows accs ps m 0 = x0 at *
      go_wp2
      refine bodyPost_ret (v := .tuple #[.slice none 0 0, .int .i64 0, .bool false, .int .i64 0]) (by simp [results, Try.results58, go_sem]) rfl ?_
      exact ⟨HB3.out, none, 0, by rw [HWl.out, HWv.out, HKt.out, HV0.out]; rfl, by rw [HWl.out]; exact ints_nil _ _⟩
  · have HK := hid (show chOk L rows accs n ps = false by rw [HK.out]; simp [hv])
    obtain ⟨hW1, hW2⟩ := HNo.out HK.out
    have HWl := hid hW1
    have HWv := hid hW2
    have hv' : (v != 0) = true := by simpa using hv
    clear hv HO hW1 hW2
    go_wp2
    refine bodyPost_ret (v := .tuple #[.slice none 0 0, .int .i64 0, .bool false, .int .i64 v]) (by simp [results, Try.results58, go_sem]) rfl ?_
    exact ⟨HB1.out, none, 0, by rw [HWl.out, HWv.out, HK.out, HV0.out]; rfl, by rw [HWl.out]; exact ints_nil _ _⟩
end Go.Proofs.Ytkboeldafppicaa
