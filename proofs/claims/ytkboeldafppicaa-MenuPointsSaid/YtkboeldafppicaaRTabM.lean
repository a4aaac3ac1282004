/- The document's table of how many words are accepted: chapter 3. -/
import Derived.Test.YtkboeldafppicaaMRef2
import Derived.Test.YtkboeldafppicaaMCount
import Derived.Deep.LoopGhost
import Derived.Deep.AppendLies
import Derived.StillTailTactics
set_option linter.unusedVariables false
set_option linter.unusedSimpArgs false
namespace Go.Proofs.Ytkboeldafppicaa
open Go.RowKit

/-- A table whose outer slice is appended to; row i lies in the block G i. -/
structure TabO (w : World) (base rn : Nat) (v : Value) (T : Nat → Nat → Int) (G : Nat → Nat) (k : Nat) : Prop where
  out : ∃ vals : List Value, w.ownsRow base 26 1 v k vals ∧ ∀ i, i < k → vals[i]? = some (.slice (some ⟨G i, 0, none⟩) rn rn)
  rows : ∀ i, i < k → IBox w (G i) ((List.range rn).map (T i))
  ne : ∀ i, i < k → base ≤ G i ∧ v.ownBlock ≠ some (G i)
section
variable {w w' : World} {base rn k : Nat} {v : Value} {T : Nat → Nat → Int} {G : Nat → Nat}
theorem TabO.below (h : TabO w base rn v T G k) (hb : Below w.heap.size w w') : TabO w' base rn v T G k := by
  obtain ⟨vals, h1, h2⟩ := h.out
  refine ⟨⟨vals, ?_, h2⟩, fun i hi => (h.rows i hi).below hb, h.ne⟩
  obtain ⟨g1, g2⟩ := h1
  refine ⟨g1, ?_⟩
  rcases g2 with g2 | ⟨g, cap, cur, hv, hg, hh, r⟩
  · exact .inl g2
  · exact .inr ⟨g, cap, cur, hv, hg, by rw [hb.block g (Array.getElem?_eq_some_iff.1 hh).1]; exact hh, r⟩
theorem TabO.form (h : TabO w base rn v T G k) (hk : 0 < k) : ∃ g c, v = .slice (some ⟨g, 0, none⟩) k c ∧ ∀ i, i < k → w.cell? ⟨g, i, none⟩ = some (.slice (some ⟨G i, 0, none⟩) rn rn) := by
  obtain ⟨vals, h1, h2⟩ := h.out
  obtain ⟨g, c, hv, hg, hg2⟩ := h1.form hk
  subst hv
  exact ⟨g, c, rfl, fun i hi => by rw [h1.cellAt _ (by omega)]; exact h2 i hi⟩
theorem TabO.get (h : TabO w base rn v T G k) (i s : Nat) (hi : i < k) (hs : s < rn) : w.cell? ⟨G i, s, none⟩ = some (.int .i64 (T i s)) := by
  have := (h.rows i hi).cell s (by simpa using hs)
  simpa [hs] using this
theorem TabO.push {wa : World} {v' : Value} {gr : Nat} (h : TabO wa base rn v T G k) (hrow : IBox wa gr ((List.range rn).map (T k))) (hgr : base ≤ gr) (hne : v.ownBlock ≠ some gr) (vals : List Value) (hvals : ∀ i, i < k → vals[i]? = some (.slice (some ⟨G i, 0, none⟩) rn rn)) (hvl : vals.length = k)
    (hown : w'.ownsRow base 26 1 v' (k + 1) (vals ++ [.slice (some ⟨gr, 0, none⟩) rn rn])) (hg : wa.grownBy w' v.ownBlock) (hloc : v'.ownBlock = v.ownBlock ∨ v'.ownBlock = some wa.heap.size) : TabO w' base rn v' T (fun i => if i = k then gr else G i) (k + 1) := by
  have hnew : ∀ q, q < wa.heap.size → v.ownBlock ≠ some q → v'.ownBlock ≠ some q := fun q hq hn => by
    rcases hloc with hl | hl
    · rw [hl]; exact hn
    · rw [hl]; intro hh; have := Option.some.inj hh; omega
  refine ⟨⟨_, hown, fun i hi => ?_⟩, fun i hi => ?_, fun i hi => ?_⟩
  · by_cases e : i = k
    · subst e; rw [List.getElem?_append_right (by omega), hvl, Nat.sub_self]; simp
    · rw [List.getElem?_append_left (by omega), if_neg e]; exact hvals i (by omega)
  · by_cases e : i = k
    · subst e; simpa using hrow.keep (hg.block gr hrow.lt (fun hh => hne hh.symm))
    · simp only [e, if_false]
      have hr := h.rows i (by omega)
      exact hr.keep (hg.block _ hr.lt (fun hh => (h.ne i (by omega)).2 hh.symm))
  · by_cases e : i = k
    · simp only [e, if_true]; exact ⟨hgr, hnew gr hrow.lt hne⟩
    · simp only [e, if_false]; exact ⟨(h.ne i (by omega)).1, hnew _ (h.rows i (by omega)).lt (h.ne i (by omega)).2⟩
end
theorem vnum_set0 (n : Nat) (f : Nat → Int) (m : Nat) (h : m < n) : (vnum n f m).set m 0 = vnum n f m := by
  obtain ⟨d, hd⟩ : ∃ d, n - m = d + 1 := ⟨n - m - 1, by omega⟩
  unfold vnum rowPad
  rw [List.set_append_right _ _ (by simp)]
  simp only [List.length_map, List.length_range, Nat.sub_self, hd, List.replicate_succ, List.set_cons_zero]
set_option maxRecDepth 100000 in
set_option maxHeartbeats 8000000 in
theorem rTable_any (L n nc ac : Nat) (Na Aa : Option Addr) (rows : List (List Int)) (accs : List Bool) (w : World) (h : MachAt w Na rows Aa accs) (hg : GoodM L rows accs) (hn : n ≤ 20) (hn5 : rows.length ≤ 5000) :
    Calls Try.prog 108 #[machV L Na rows.length nc Aa rows.length ac, .int .i64 (n : Int)] w fun e w' => Below w.heap.size w w' ∧ ∃ v G, e = .returned v ∧ TabO w' w.heap.size rows.length v (wT L rows accs) G (n + 1) := by
  have HH := hid h
  have HG := hid hg
  have HI := hid (fun k s (hk : k ≤ 20) hs => wT_small hg k s hk hs)
  obtain ⟨i0, hinf, hz0, hz1, hz2⟩ := info_parts row_info
  have hmk := make_intsM rows.length (by omega)
  have hA : Below w.heap.size w (w.alloc (amachO L Na rows.length nc Aa rows.length ac)) := (Below.refl _ _).alloc (Nat.le_refl _) _
  have HB0 := hid hA
  have c0 : (w.alloc (amachO L Na rows.length nc Aa rows.length ac)).cell? ⟨w.heap.size, 0, none⟩ = some (.int .i64 (L : Int)) := by go_simp
  have c1 : (w.alloc (amachO L Na rows.length nc Aa rows.length ac)).cell? ⟨w.heap.size, 1, none⟩ = some (.slice Na rows.length nc) := by go_simp
  have c2 : (w.alloc (amachO L Na rows.length nc Aa rows.length ac)).cell? ⟨w.heap.size, 2, none⟩ = some (.slice Aa rows.length ac) := by go_simp
  have hpos := hg.pos
  have hL1 : (0 : Int) < (L : Int) := by have := hg.lo; omega
  have hL6 := hg.hi
  obtain ⟨ba, oa, hAa, hca⟩ : ∃ b o, Aa = some ⟨b, o, none⟩ ∧ ∀ s, s < rows.length → w.cell? ⟨b, o + s, none⟩ = some (.bool (mA accs s)) := by
    rcases h.aat with e | ⟨b, o, ha, hc⟩
    · have h9 := hg.acc; rw [e] at h9; rw [← h9] at hpos; simp at hpos
    · exact ⟨b, o, ha, fun s hs => hc s (by rw [hg.acc]; exact hs)⟩
  subst hAa
  have HCa := hid hca
  have HTz := hid (show TabO (w.alloc (amachO L Na rows.length nc (some ⟨ba, oa, none⟩) rows.length ac)) (w.heap.size + 1) rows.length (.slice none 0 0) (wT L rows accs) (fun _ => 0) 0 from ⟨⟨[], ⟨rfl, .inl ⟨rfl, rfl⟩⟩, fun i hi => by omega⟩, fun i hi => by omega, fun i hi => by omega⟩)
  clear h hg hA hca
  unfold machV
  go_enter Try.func108, Try.ntmps108
  go_wp2
  go_loopg [5, 6] (n + 1) (fun gk v i wr => ∃ (k : Nat) (G : Nat → Nat), k + gk = n + 1 ∧ i = .int .i64 (k : Int) ∧ Hid (TabO wr (w.heap.size + 1) rows.length v (wT L rows accs) G k) ∧ Hid (Below w.heap.size w wr) ∧ wr.cell? ⟨w.heap.size, 0, none⟩ = some (.int .i64 (L : Int)) ∧ wr.cell? ⟨w.heap.size, 1, none⟩ = some (.slice Na rows.length nc) ∧ wr.cell? ⟨w.heap.size, 2, none⟩ = some (.slice (some ⟨ba, oa, none⟩) rows.length ac))
  case atStart => exact ⟨0, fun _ => 0, by omega, rfl, HTz.out, HB0.out, c0, c1, c2⟩
  case round =>
    clear c0 c1 c2 HTz HB0
    obtain ⟨k, G, hk, rfl, HTb, HB, c0, c1, c2⟩ := hrel
    obtain ⟨wo, hwo⟩ : ∃ x, x = wr := ⟨_, rfl⟩
    subst hwo
    by_cases hkn : k < n + 1
    · obtain ⟨go', hgo⟩ : ∃ f, gk = f + 1 := ⟨gk - 1, by omega⟩
      subst hgo
      have hki : (k : Int) ≤ (n : Int) := by omega
      have HI5 := hid (show IBox (wo.alloc (.cells (List.replicate rows.length (Value.int .i64 0)).toArray 3)) wo.heap.size (vnum rows.length (wT L rows accs k) 0) by
        have := IBox.made wo rows.length
        rw [show vnum rows.length (wT L rows accs k) 0 = List.replicate rows.length 0 from rowPad_nil _]
        exact this)
      have hA5 : Below wo.heap.size wo (wo.alloc (.cells (List.replicate rows.length (Value.int .i64 0)).toArray 3)) := (Below.refl _ _).alloc (Nat.le_refl _) _
      have HA5 := hid hA5
      have hsz := cell_lt c0
      go_wp2
      clear hA5
      go_loopg [8] rows.length (fun g2 i wr => ∃ (m : Nat), m + g2 = rows.length ∧ i = .int .i64 (m : Int) ∧ Hid (IBox wr wo.heap.size (vnum rows.length (wT L rows accs k) m)) ∧ Hid (Below wo.heap.size wo wr))
      case atStart => exact ⟨0, by omega, rfl, HI5.out, HA5.out⟩
      case round =>
        clear HI5 HA5
        obtain ⟨m, hm, rfl, HIb, HBr⟩ := hrel
        have e0 := (HBr.out.cell (cell_lt c0)).trans c0
        have e1 := (HBr.out.cell (cell_lt c1)).trans c1
        have e2 := (HBr.out.cell (cell_lt c2)).trans c2
        have hgrl := HIb.out.lt
        by_cases hlt : m < rows.length
        · obtain ⟨g2', hg2⟩ : ∃ f, gk = f + 1 := ⟨gk - 1, by omega⟩
          subst hg2
          have hm0 : (m : Int) < (rows.length : Int) := by omega
          have hvl : (vnum rows.length (wT L rows accs k) m).length = rows.length := vnum_len _ _ _ (by omega)
          have s1 := HIb.out.cell m (by rw [hvl]; exact hlt)
          have s2 := HIb.out.frozen m
          have hv0 : (vnum rows.length (wT L rows accs k) m)[m]?.getD 0 = 0 := by
            unfold vnum rowPad
            rw [List.getElem?_append_right (by simp)]
            simp [List.getElem?_replicate, show 0 < rows.length - m by omega]
          rw [hv0] at s1
          have HVs := hid (vnum_succ rows.length (wT L rows accs k) m hlt)
          have a0 := (HBr.out.cell (cell_lt ((HB.out.cell (cell_lt (HCa.out m hlt))).trans (HCa.out m hlt)))).trans ((HB.out.cell (cell_lt (HCa.out m hlt))).trans (HCa.out m hlt))
          clear hvl hv0
          by_cases hk0 : k = 0
          · subst hk0
            have HT0 := hid (show wT L rows accs 0 m = if mA accs m = true then 1 else 0 from rfl)
            have hs0 := vnum_set0 rows.length (wT L rows accs 0) m hlt
            have hoa := hid hs0
            clear hs0
            cases hb : mA accs m with
            | true =>
              rw [hb] at a0
              have HTv := hid (show wT L rows accs 0 m = 1 by rw [HT0.out, hb]; rfl)
              have HI2 := hid (HIb.out.set m 1)
              rw [← HTv.out, HVs.out, HTv.out] at HI2
              have HB2 := hid (HBr.out.setCell (p := ⟨wo.heap.size, m, none⟩) (Nat.le_refl _) (.int .i64 1))
              have y0 := (World.cell?_setCell_other (w := wr) (a := ⟨wo.heap.size, m, none⟩) (b := ⟨w.heap.size, 0, none⟩) (.int .i64 1) (by simp only [ne_eq, Addr.mk.injEq]; omega)).trans e0
              clear hb HT0
              go_wp2
              go_loopw [9] (fun i wx => i = .int .i64 0 ∧ Hid (wx = wr.setCell ⟨wo.heap.size, m, none⟩ (.int .i64 1)) ∧ wx.cell? ⟨w.heap.size, 0, none⟩ = some (.int .i64 (L : Int))) (fun _ _ => 0)
              case atStart => exact ⟨rfl, rfl, y0⟩
              case round =>
                obtain ⟨rfl, HW, y0⟩ := hrel
                have HI3 := hid (show IBox wr wo.heap.size (vnum rows.length (wT L rows accs 0) (m + 1)) by rw [HW.out]; exact HI2.out)
                have HB3 := hid (show Below wo.heap.size wo wr by rw [HW.out]; exact HB2.out)
                go_wp2
                go_roundg g2'
                case rel => exact ⟨m + 1, by omega, by go_num, HI3.out, HB3.out⟩
                all_goals omega
            | false =>
              rw [hb] at a0
              have HTv := hid (show wT L rows accs 0 m = 0 by rw [HT0.out, hb]; rfl)
              have HI2 := hid (show IBox wr wo.heap.size (vnum rows.length (wT L rows accs 0) (m + 1)) by rw [← HVs.out, HTv.out, hoa.out]; exact HIb.out)
              clear hb HT0
              go_wp2
              go_loopw [9] (fun i wx => i = .int .i64 0 ∧ Hid (wx = wr) ∧ wx.cell? ⟨w.heap.size, 0, none⟩ = some (.int .i64 (L : Int))) (fun _ _ => 0)
              case atStart => exact ⟨rfl, rfl, e0⟩
              case round =>
                obtain ⟨rfl, HW, y0⟩ := hrel
                have HI3 := hid (show IBox wr wo.heap.size (vnum rows.length (wT L rows accs 0) (m + 1)) by rw [HW.out]; exact HI2.out)
                have HB3 := hid (show Below wo.heap.size wo wr by rw [HW.out]; exact HBr.out)
                go_wp2
                go_roundg g2'
                case rel => exact ⟨m + 1, by omega, by go_num, HI3.out, HB3.out⟩
                all_goals omega
          · obtain ⟨k, rfl⟩ : ∃ q, k = q + 1 := ⟨k - 1, by omega⟩
            have hk0' : ((k : Int) + 1 == 0) = false := by rw [beq_eq_false_iff_ne]; omega
            have hkp : (0 : Int) < (k : Int) + 1 := by omega
            have HSt := hid (show wT L rows accs (k + 1) m = sumN (fun c => wT L rows accs k (mN rows m c)) L from rfl)
            have HI2 := hid (show IBox wr wo.heap.size ((vnum rows.length (wT L rows accs (k + 1)) m).set m (sumN (fun c => wT L rows accs k (mN rows m c)) 0)) by
              rw [show sumN (fun c => wT L rows accs k (mN rows m c)) 0 = 0 from rfl, vnum_set0 _ _ _ hlt]; exact HIb.out)
            clear a0
            go_wp2
            go_loopw [9] (fun i wx => ∃ (c : Nat), c ≤ L ∧ i = .int .i64 (c : Int) ∧ Hid (IBox wx wo.heap.size ((vnum rows.length (wT L rows accs (k + 1)) m).set m (sumN (fun c => wT L rows accs k (mN rows m c)) c))) ∧ Hid (Below wo.heap.size wo wx) ∧ wx.cell? ⟨w.heap.size, 0, none⟩ = some (.int .i64 (L : Int)) ∧ wx.cell? ⟨w.heap.size, 1, none⟩ = some (.slice Na rows.length nc)) (fun i _ => L - (intOf i).toNat)
            case atStart => exact ⟨0, Nat.zero_le _, rfl, HI2.out, HBr.out, e0, e1⟩
            case round =>
              clear HI2 e0 e1 e2 s1 s2 HIb HBr
              obtain ⟨c, hc, rfl, HIb, HBr, e0, e1⟩ := hrel
              by_cases hcL : c < L
              · have hci : (c : Int) < (L : Int) := by omega
                obtain ⟨gO, cO, hvO, hcO⟩ := HTb.out.form (Nat.succ_pos k)
                have t1 := (HBr.out.cell (cell_lt (hcO k (Nat.lt_succ_self k)))).trans (hcO k (Nat.lt_succ_self k))
                obtain ⟨he1, he2⟩ := HG.out.ent m c hlt hcL
                have hrow := HG.out.row m hlt
                have t2' := HTb.out.get k (mN rows m c) (Nat.lt_succ_self k) he1
                have t2 := (HBr.out.cell (cell_lt t2')).trans t2'
                obtain ⟨b2, o2, g2, o3, kk, hNa, g3, g4, _⟩ := ((HH.out.below HB.out).below HBr.out).row m c hlt (by rw [hrow]; exact hcL)
                rw [he2] at g4
                rw [hrow] at g3
                have hvl : (vnum rows.length (wT L rows accs (k + 1)) m).length = rows.length := vnum_len _ _ _ (by omega)
                have s1 := HIb.out.cell m (by rw [List.length_set, hvl]; exact hlt)
                rw [List.getElem?_set_self (by rw [hvl]; exact hlt), Option.getD_some] at s1
                have s2 := HIb.out.frozen m
                have hz := sumN_bd (fun c => wT L rows accs k (mN rows m c)) 3656158440062976 L (fun c hc => HI.out k _ (by omega) (HG.out.ent m c hlt hc).1) c hc
                have hy := HI.out k (mN rows m c) (by omega) he1
                have HSs := hid (show sumN (fun c => wT L rows accs k (mN rows m c)) (c + 1) = sumN (fun c => wT L rows accs k (mN rows m c)) c + wT L rows accs k (mN rows m c) from rfl)
                have HI4 := hid (fun wx (hx : IBox wx wo.heap.size ((vnum rows.length (wT L rows accs (k + 1)) m).set m (sumN (fun c => wT L rows accs k (mN rows m c)) c))) => hx.set m (sumN (fun c => wT L rows accs k (mN rows m c)) (c + 1)))
                simp only [List.set_set] at HI4
                have HIb2 := hid (HI4.out wr HIb.out)
                rw [HSs.out] at HIb2
                have hgrl2 := HIb.out.lt
                clear hrow he2 hvl t2' hcO HI4 HIb HSt
                subst hvO
                generalize sumN (fun c => wT L rows accs k (mN rows m c)) c = z at *
                generalize wT L rows accs k (mN rows m c) = y at *
                generalize mN rows m c = j at *
                have hkw : IntKind.i64.wrap ((k : Int) + 1 - 1) = (k : Int) := by rw [IntKind.wrap_i64]; omega
                have hkw2 : IntKind.i64.wrap (k : Int) = (k : Int) := by rw [IntKind.wrap_i64]; omega
                have hzw : IntKind.i64.wrap (z + y) = z + y := by rw [IntKind.wrap_i64]; omega
                have hzw2 : wrap64 (z + y) = z + y := by unfold wrap64; omega
                have hk1 : (k : Int) < (k : Int) + 1 := by omega
                have hm1 : (0 : Int) ≤ (m : Int) := by omega
                have hc1 : (0 : Int) ≤ (c : Int) := by omega
                have hj1 : (0 : Int) ≤ (j : Int) := by omega
                have hj2 : (j : Int) < (rows.length : Int) := by omega
                have hkk1 : (0 : Int) ≤ (k : Int) := by omega
                have HSc := HSs
                subst hNa
                go_wp2_with fail
                go_still_tail 21, (by kernel_rfl)
                change wpList _ _ _ _ _ wr.drew
                have HIb3 := hid (show IBox (wr.drew.setCell ⟨wo.heap.size, m, none⟩ (.int .i64 (z + y))) wo.heap.size ((vnum rows.length (wT L rows accs (k + 1)) m).set m (z + y)) from HIb2.out)
                have HBr3 := hid (show Below wo.heap.size wo (wr.drew.setCell ⟨wo.heap.size, m, none⟩ (.int .i64 (z + y))) from (HBr.out.drew).setCell (p := ⟨wo.heap.size, m, none⟩) (Nat.le_refl _) _)
                have x0 := (World.cell?_setCell_other (w := wr.drew) (a := ⟨wo.heap.size, m, none⟩) (b := ⟨w.heap.size, 0, none⟩) (.int .i64 (z + y)) (by simp only [ne_eq, Addr.mk.injEq]; omega)).trans (show wr.drew.cell? ⟨w.heap.size, 0, none⟩ = _ from e0)
                have x1 := (World.cell?_setCell_other (w := wr.drew) (a := ⟨wo.heap.size, m, none⟩) (b := ⟨w.heap.size, 1, none⟩) (.int .i64 (z + y)) (by simp only [ne_eq, Addr.mk.injEq]; omega)).trans (show wr.drew.cell? ⟨w.heap.size, 1, none⟩ = _ from e1)
                have s1d : wr.drew.cell? ⟨wo.heap.size, m, none⟩ = some (.int .i64 z) := s1
                have s2d : wr.drew.frozen? ⟨wo.heap.size, m, none⟩ = false := s2
                clear HIb2 t1 t2 g3 g4 s1 s2 HBr
                generalize wr.drew = wd at *
                go_wp2
                go_roundw
                case rel =>
                  repeat apply Exists.intro
                  refine ⟨?_, rfl⟩
                  exact ⟨c + 1, by omega, by go_num, by rw [HSc.out]; exact HIb3.out, HBr3.out, x0, x1⟩
                case measure => simp [intOf]; omega
              · obtain rfl : c = L := by omega
                have HI3 := hid (show IBox wr wo.heap.size (vnum rows.length (wT c rows accs (k + 1)) (m + 1)) by rw [← HVs.out, HSt.out]; exact HIb.out)
                go_wp2
                go_roundg g2'
                case rel => exact ⟨m + 1, by omega, by go_num, HI3.out, HBr.out⟩
                all_goals omega
        · obtain rfl : m = rows.length := by omega
          have hfull : vnum rows.length (wT L rows accs k) rows.length = (List.range rows.length).map (wT L rows accs k) := by
            unfold vnum; exact rowPad_full _ _ (by simp)
          have HI9 := HIb.out
          rw [hfull] at HI9
          have HI9 := hid HI9
          have HTr := hid (HTb.out.below HBr.out)
          have HBz := hid (HB.out.trans (HBr.out.mono HB.out.size))
          have hA9 : Below wr.heap.size wr (wr.alloc (.cells #[.slice (some ⟨wo.heap.size, 0, none⟩) rows.length rows.length] 26)) := (Below.refl _ _).alloc (Nat.le_refl _) _
          have HT9 := HTr.out.below hA9
          obtain ⟨vals, hr1, hr2⟩ := HT9.out
          have HR2 := hid hr2
          have HT9 := hid HT9
          have HA9 := hid hA9
          have hbs : w.heap.size + 1 ≤ wr.heap.size := by omega
          have hvl : vals.length = k := by have := hr1.1; simpa using this
          have HVl := hid hvl
          clear hfull hr2 hA9 hvl
          have hlo := hr1.lt
          have HLo := hid hlo
          clear hlo
          go_wp2_with (at_builtin; refine wpList_append_lies _ rfl _ _ 22 rfl (w.heap.size + 1) 26 i0 (.slice none 0 0) 1 24 Try.underlying22 hinf hz0 hz1 hz2 rfl (by decide) u5 k vals rfl hr1 ⟨wr.heap.size, 0, none⟩ 1 1 [.slice (some ⟨wo.heap.size, 0, none⟩) rows.length rows.length] rfl rfl (World.news_of_block (cs := #[.slice (some ⟨wo.heap.size, 0, none⟩) rows.length rows.length]) (t := 26) (fr := (0, 0)) (heap_alloc_new wr _)) (by simp [Value.oneCell']) (by decide) (by unfold maxLen; omega) (by omega) (by simp; omega) _ rfl ?_)
          intro gV cV w9 hown9 hgr9 hat9 hlt9
          have hNo : u5.ownBlock ≠ some wo.heap.size := by
            obtain ⟨vs, g1, _⟩ := HTb.out.out
            exact fun hh => by have := (g1.lt _ hh).2; omega
          have HT2 := hid (TabO.push (wa := wr.alloc (.cells #[.slice (some ⟨wo.heap.size, 0, none⟩) rows.length rows.length] 26)) HT9.out (HI9.out.below HA9.out) (by omega) hNo vals HR2.out HVl.out hown9 hgr9 (by have := lies_loc (n := k + 1) (c := cV) hat9; simpa using this))
          have HB9 := hid ((HBz.out.alloc HBz.out.size (.cells #[.slice (some ⟨wo.heap.size, 0, none⟩) rows.length rows.length] 26)).grown hgr9 (by simp; omega) (fun q hq => by have := (HLo.out q hq).1; omega))
          have hnw : u5.ownBlock ≠ some w.heap.size := fun hh => by have := (HLo.out _ hh).1; omega
          have y0 := (grown_cell hgr9 (p := ⟨w.heap.size, 0, none⟩) (by simp; omega) hnw).trans ((HA9.out.cell (cell_lt e0)).trans e0)
          have y1 := (grown_cell hgr9 (p := ⟨w.heap.size, 1, none⟩) (by simp; omega) hnw).trans ((HA9.out.cell (cell_lt e1)).trans e1)
          have y2 := (grown_cell hgr9 (p := ⟨w.heap.size, 2, none⟩) (by simp; omega) hnw).trans ((HA9.out.cell (cell_lt e2)).trans e2)
          clear hr1 hown9 hgr9 hat9 hlt9 hnw hNo e0 e1 e2
          go_wp2
          go_roundg go'
          case rel => exact ⟨k + 1, _, by omega, by go_num, HT2.out, HB9.out, y0, y1, y2⟩
          all_goals omega
    · have hke : k = n + 1 := by omega
      have HT9 := hid (show TabO wo w.heap.size rows.length u5 (wT L rows accs) G (n + 1) by
        have h9 := HTb.out
        rw [hke] at h9
        obtain ⟨vals, g1, g2⟩ := h9.out
        exact ⟨⟨vals, own_weak g1 (Nat.le_succ _), g2⟩, h9.rows, fun i hi => ⟨by have := (h9.ne i hi).1; omega, (h9.ne i hi).2⟩⟩)
      have hkf : ¬ (k : Int) ≤ (n : Int) := by omega
      clear hke
      go_wp2
      go_ret
      exact ⟨HB.out, _, rfl, G, HT9.out⟩
end Go.Proofs.Ytkboeldafppicaa
