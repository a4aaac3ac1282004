/- Rank of package menu. -/
import Derived.Test.YtkboeldafppicaaMCount
set_option linter.unusedVariables false
set_option linter.unusedSimpArgs false
namespace Go.Proofs.Ytkboeldafppicaa
open Go.RowKit

/-- How many words come before, by the first i letters. -/
def rkK (L : Nat) (rows : List (List Int)) (accs : List Bool) (l : List Int) : Nat → Int
  | 0 => 0
  | i + 1 => rkK L rows accs l i + sumN (fun a => wT L rows accs (l.length - i - 1) (mN rows (runK rows 0 l i) a)) (l[i]?.getD 0).toNat
def rnkE (L : Int) (rows : List (List Int)) (accs : List Bool) (l : List Int) : Int := if wordE L rows accs l ≠ 0 then wordE L rows accs l else if mA accs (runK rows 0 l l.length) = true then 0 else 9
def rnkA (L : Int) (rows : List (List Int)) (accs : List Bool) (l : List Int) : Int := if rnkE L rows accs l = 0 then rkK L.toNat rows accs l l.length else 0
theorem rkK_bd {L : Nat} {rows : List (List Int)} {accs : List Bool} {l : List Int} (hg : GoodM L rows accs) (hl : allB l L = true) (h20 : l.length ≤ 20) (i : Nat) (hi : i ≤ l.length) : 0 ≤ rkK L rows accs l i ∧ rkK L rows accs l i ≤ (i : Int) * 21936950640377856 := by
  induction i with
  | zero => simp [rkK]
  | succ i ih =>
    have h1 := ih (by omega)
    have hx := allB_iff.1 hl _ (getD_mem l i (by omega))
    have hL := hg.hi
    have hr := runK_lt hg 0 l hg.pos hl i (by omega)
    have h2 := sumN_bd (fun a => wT L rows accs (l.length - i - 1) (mN rows (runK rows 0 l i) a)) 3656158440062976 L (fun c hc => wT_small hg _ _ (by omega) (hg.ent _ c hr hc).1) (l[i]?.getD 0).toNat (by omega)
    rw [rkK]
    omega
theorem rkS_keep {w0 w w' : World} {pM gT lf gl j : Nat} {L rn : Nat} {Na : Option Addr} {nc : Nat} {Aa : Option Addr} {ac : Nat} {x : Int} (h : w.cell? ⟨pM, 0, none⟩ = some (.int .i64 (L : Int)) ∧ w.cell? ⟨pM, 1, none⟩ = some (.slice Na rn nc) ∧ w.cell? ⟨pM, 2, none⟩ = some (.slice Aa rn ac) ∧ w.cell? ⟨gT, lf, none⟩ = some (.slice (some ⟨gl, 0, none⟩) rn rn) ∧ w.cell? ⟨gl, j, none⟩ = some (.int .i64 x) ∧ Below w0.heap.size w0 w) (hb : Below w.heap.size w w') : w'.cell? ⟨pM, 0, none⟩ = some (.int .i64 (L : Int)) ∧ w'.cell? ⟨pM, 1, none⟩ = some (.slice Na rn nc) ∧ w'.cell? ⟨pM, 2, none⟩ = some (.slice Aa rn ac) ∧ w'.cell? ⟨gT, lf, none⟩ = some (.slice (some ⟨gl, 0, none⟩) rn rn) ∧ w'.cell? ⟨gl, j, none⟩ = some (.int .i64 x) ∧ Below w0.heap.size w0 w' := by
  obtain ⟨h2, h3, h4, h5, h7, h6⟩ := h
  exact ⟨(hb.cell (cell_lt h2)).trans h2, (hb.cell (cell_lt h3)).trans h3, (hb.cell (cell_lt h4)).trans h4, (hb.cell (cell_lt h5)).trans h5, (hb.cell (cell_lt h7)).trans h7, h6.trans (hb.mono h6.size)⟩
set_option maxRecDepth 100000 in
set_option maxHeartbeats 4000000 in
theorem mRank_any (L : Int) (nc ac : Nat) (Na Aa : Option Addr) (rows : List (List Int)) (accs : List Bool) (A : Option Addr) (l : List Int) (cap : Nat) (w : World) (h : MachAt w Na rows Aa accs) (hw : Ints w A l) :
    Calls Try.prog 50 #[machV L Na rows.length nc Aa accs.length ac, .slice A l.length cap] w fun e w' => Below w.heap.size w w' ∧ e = .returned (.tuple #[.int .i64 (rnkA L rows accs l), .int .i64 (rnkE L rows accs l)]) := by
  have hn := h.nlen
  have hal := h.alen
  have hll := hw.len
  have hA : Below w.heap.size w (w.alloc (amachO L Na rows.length nc Aa accs.length ac)) := (Below.refl _ _).alloc (Nat.le_refl _) _
  have HA := hid hA
  have HH := hid h
  have HI := hid hw
  have HE := hid (show rnkE L rows accs l = if wordE L rows accs l ≠ 0 then wordE L rows accs l else if mA accs (runK rows 0 l l.length) = true then 0 else 9 from rfl)
  have HR := hid (show rnkA L rows accs l = if rnkE L rows accs l = 0 then rkK L.toNat rows accs l l.length else 0 from rfl)
  have HO := hid (wordE_ok (L := L) (rows := rows) (accs := accs) (l := l))
  have HC := hid (mCheckWord_any L nc ac Na Aa rows accs A l cap _ (h.below hA) (hw.below hA))
  clear h hw
  have c0 : (w.alloc (amachO L Na rows.length nc Aa accs.length ac)).cell? ⟨w.heap.size, 0, none⟩ = some (.int .i64 L) := by go_simp
  have c1 : (w.alloc (amachO L Na rows.length nc Aa accs.length ac)).cell? ⟨w.heap.size, 1, none⟩ = some (.slice Na rows.length nc) := by go_simp
  have c2 : (w.alloc (amachO L Na rows.length nc Aa accs.length ac)).cell? ⟨w.heap.size, 2, none⟩ = some (.slice Aa accs.length ac) := by go_simp
  unfold machV at *
  go_enter Try.func50, Try.ntmps50
  go_wp2_with fail
  refine HC.out.mono ?_
  rintro e w1 ⟨hb1, rfl⟩
  have d0 := (hb1.cell (cell_lt c0)).trans c0
  have d1 := (hb1.cell (cell_lt c1)).trans c1
  have d2 := (hb1.cell (cell_lt c2)).trans c2
  have HB1 := hid (HA.out.trans (hb1.mono HA.out.size))
  clear hb1 c0 c1 c2 hA HC HA
  generalize hv0 : wordE L rows accs l = v at *
  have HV0 := hid hv0
  clear hv0
  by_cases hv : v = 0
  · subst hv
    obtain ⟨hV, h20, hall, n, rfl⟩ := HO.out rfl
    obtain ⟨hg, h64⟩ := vE_ok hV
    have hacc := hg.acc
    have HG := hid hg
    have HAll := hid hall
    have HE := hid (HE.out.trans (if_neg (fun h => h rfl)))
    rw [hacc] at d2
    have hA1 : Below w1.heap.size w1 (w1.alloc (machO n Na rows.length nc Aa rows.length ac)) := (Below.refl _ _).alloc (Nat.le_refl _) _
    have HT := hid (mTakes_any n nc ac cap Na Aa A rows accs l _ ((HH.out.below HB1.out).below hA1) hg ((HI.out.below HB1.out).below hA1) hall)
    have b0 : (w1.alloc (machO n Na rows.length nc Aa rows.length ac)).cell? ⟨w1.heap.size, 0, none⟩ = some (.int .i64 (n : Int)) := by go_simp
    have b1 : (w1.alloc (machO n Na rows.length nc Aa rows.length ac)).cell? ⟨w1.heap.size, 1, none⟩ = some (.slice Na rows.length nc) := by go_simp
    have b2 : (w1.alloc (machO n Na rows.length nc Aa rows.length ac)).cell? ⟨w1.heap.size, 2, none⟩ = some (.slice Aa rows.length ac) := by go_simp
    have HBA := hid (HB1.out.trans (hA1.mono HB1.out.size))
    unfold machV at HT
    clear hV hall hg hacc HO hA1
    go_wp2_with fail
    refine HT.out.mono ?_
    rintro e w2 ⟨hb2, rfl⟩
    have b0 := (hb2.cell (cell_lt b0)).trans b0
    have b1 := (hb2.cell (cell_lt b1)).trans b1
    have b2 := (hb2.cell (cell_lt b2)).trans b2
    have HB2 := hid (HBA.out.trans (hb2.mono HBA.out.size))
    clear hb2 HT HBA d0 d1 d2
    cases hb : mA accs (runK rows 0 l l.length) with
    | false =>
      have HE := hid (show rnkE n rows accs l = 9 from HE.out.trans (by rw [hb]; rfl))
      have HR := hid (show rnkA n rows accs l = 0 from HR.out.trans (by rw [HE.out]; rfl))
      clear hb
      go_wp2
      go_ret2
      exact ⟨HB2.out, by rw [HE.out, HR.out]; rfl⟩
    | true =>
      have HE := hid (show rnkE n rows accs l = 0 from HE.out.trans (by rw [hb]; rfl))
      have HR := hid (show rnkA n rows accs l = rkK n rows accs l l.length from HR.out.trans (by rw [HE.out, if_pos rfl, Int.toNat_natCast]))
      clear hb
      have HWd := hid (mWords_any n l.length nc ac Na Aa rows accs w2 (HH.out.below HB2.out) HG.out h20 (by omega))
      unfold machV at HWd
      go_wp2_with fail
      refine HWd.out.mono ?_
      rintro e w3 ⟨hb3, gT, G, rfl, hT⟩
      have b0 := (hb3.cell (cell_lt b0)).trans b0
      have b1 := (hb3.cell (cell_lt b1)).trans b1
      have b2 := (hb3.cell (cell_lt b2)).trans b2
      have HB3 := hid (HB2.out.trans (hb3.mono HB2.out.size))
      have HT := hid hT
      clear hT hb3 HWd
      have HBd := hid (fun i hi => rkK_bd HG.out HAll.out h20 i hi)
      go_wp2
      go_loopg [9, 10, 32] l.length (fun gk q st i wr => ∃ (k : Nat), k + gk = l.length ∧ i = .int .i64 (k : Int) ∧ q = .int .i64 (rkK n rows accs l k) ∧ st = .int .i64 (runK rows 0 l k : Int) ∧ Hid (Below w3.heap.size w3 wr))
      case atStart => exact ⟨0, by omega, rfl, rfl, rfl, Below.refl _ _⟩
      case round =>
        obtain ⟨k, hk, rfl, rfl, rfl, HB⟩ := hrel
        obtain ⟨wo, hwo⟩ : ∃ x, x = wr := ⟨_, rfl⟩
        subst hwo
        by_cases hlt : k < l.length
        · obtain ⟨go', hgo⟩ : ∃ f, gk = f + 1 := ⟨gk - 1, by omega⟩
          subst hgo
          have hI := (HI.out.below HB3.out).below HB.out
          rcases hI.at_ with e | ⟨b, off, rfl, hc⟩
          · rw [e] at hlt; simp at hlt
          have x0 := hc k hlt
          have hx := allB_iff.1 HAll.out _ (getD_mem l k hlt)
          have hr := runK_lt HG.out 0 l HG.out.pos HAll.out k (Nat.le_of_lt hlt)
          have hz := HBd.out k (Nat.le_of_lt hlt)
          have HRk := hid (show rkK n rows accs l (k + 1) = rkK n rows accs l k + sumN (fun a => wT n rows accs (l.length - k - 1) (mN rows (runK rows 0 l k) a)) (l[k]?.getD 0).toNat from rfl)
          have HRu := hid (show runK rows 0 l (k + 1) = mN rows (runK rows 0 l k) (l[k]?.getD 0).toNat from rfl)
          clear hI hc
          generalize runK rows 0 l k = s at *
          generalize rkK n rows accs l k = z at *
          obtain ⟨x, hxx⟩ := Int.eq_ofNat_of_zero_le hx.1
          rw [hxx] at x0 hx HRk HRu
          rw [Int.toNat_natCast] at HRk HRu
          clear hxx
          have hxn : x < n := by omega
          have hlen : wrap64 (wrap64 ((l.length : Int) - (k : Int)) - 1) = ((l.length - k - 1 : Nat) : Int) := by unfold wrap64; omega
          have hlen2 : ((l.length : Int) - (k : Int) - 1) = ((l.length - k - 1 : Nat) : Int) := by omega
          have HSb := hid (fun c hc => sumN_bd (fun a => wT n rows accs (l.length - k - 1) (mN rows s a)) 3656158440062976 n (fun c hc => wT_small HG.out _ _ (by omega) (HG.out.ent _ c hr hc).1) c hc)
          have HSs := hid (fun c => show sumN (fun a => wT n rows accs (l.length - k - 1) (mN rows s a)) (c + 1) = sumN (fun a => wT n rows accs (l.length - k - 1) (mN rows s a)) c + wT n rows accs (l.length - k - 1) (mN rows s c) from rfl)
          have hlf : l.length - k - 1 < l.length + 1 := by omega
          have HLf := hid (show l.length - k - 1 ≤ 20 by omega)
          have hki : (k : Int) < (l.length : Int) := by omega
          go_wp2
          go_loopg [9, 43] x (fun g2 q a wr => ∃ (c : Nat), c + g2 = x ∧ a = .int .i64 (c : Int) ∧ q = .int .i64 (z + sumN (fun a => wT n rows accs (l.length - k - 1) (mN rows s a)) c) ∧ Hid (Below w3.heap.size w3 wr))
          case atStart => exact ⟨0, by omega, rfl, by simp [sumN], HB.out⟩
          case round =>
            obtain ⟨c, hc, rfl, rfl, HBr⟩ := hrel
            have hb := HBr.out
            have c0 := (hb.cell (cell_lt b0)).trans b0
            have c1 := (hb.cell (cell_lt b1)).trans b1
            have c2 := (hb.cell (cell_lt b2)).trans b2
            have hT := HT.out.below hb
            have t1 := hT.cell (l.length - k - 1) hlf
            by_cases hcx : c < x
            · obtain ⟨g2', hg2⟩ : ∃ f, gk = f + 1 := ⟨gk - 1, by omega⟩
              subst hg2
              have hcn : c < n := by omega
              obtain ⟨he1, he2⟩ := HG.out.ent s c hr hcn
              have hrow := HG.out.row s hr
              have t2 := hT.get (l.length - k - 1) (mN rows s c) hlf he1
              have hy := wT_small HG.out (l.length - k - 1) (mN rows s c) HLf.out he1
              have hsb := HSb.out c (by omega)
              have HSc := hid (HSs.out c)
              have HNx := hid (show ∀ wx, Below wr.heap.size wr wx → Calls Try.prog 71 #[machV n Na rows.length nc Aa rows.length ac, .int .i64 s, .int .i64 c] wx fun e w' => Below wx.heap.size wx w' ∧ e = .returned (.int .i64 (mN rows s c : Int)) from fun wx hb2 => by
                have := next_any n s c nc ac rows.length Na Aa rows accs wx (((HH.out.below HB3.out).below hb).below hb2) hr (by rw [hrow]; exact hcn)
                rw [he2] at this
                exact this.mono (by rintro e w' ⟨rfl, rfl⟩; exact ⟨(Below.refl _ _).alloc (Nat.le_refl _) _, rfl⟩))
              clear hrow he2
              generalize wT n rows accs (l.length - k - 1) (mN rows s c) = y at *
              generalize mN rows s c = j at *
              generalize sumN (fun a => wT n rows accs (l.length - k - 1) (mN rows s a)) c = u at *
              have S0 := hid (show _ ∧ _ ∧ _ ∧ _ ∧ _ ∧ _ from ⟨c0, c1, c2, t1, t2, Below.refl wr.heap.size wr⟩)
              have hcxi : (c : Int) < (x : Int) := by omega
              have hleft0 : (0 : Int) ≤ ((l.length - k - 1 : Nat) : Int) := by omega
              have hleft1 : ((l.length - k - 1 : Nat) : Int) < (l.length : Int) + 1 := by omega
              have hn6 := HG.out.hi
              have hwz : wrap64 (z + u + y) = z + u + y := by unfold wrap64; omega
              have hwz2 : IntKind.i64.wrap (z + u + y) = z + u + y := by rw [IntKind.wrap_i64]; omega
              generalize hlf0 : l.length - k - 1 = lf at *
              have HLF := hid hlf0
              clear c0 c1 c2 t1 t2 hb hT hlf0
              unfold machV at HNx
              go_wp2_with fail
              go_region_held3 (fun w' => w'.cell? ⟨w1.heap.size, 0, none⟩ = some (.int .i64 (n : Int)) ∧ w'.cell? ⟨w1.heap.size, 1, none⟩ = some (.slice Na rows.length nc) ∧ w'.cell? ⟨w1.heap.size, 2, none⟩ = some (.slice Aa rows.length ac) ∧ w'.cell? ⟨gT, lf, none⟩ = some (.slice (some ⟨G (lf), 0, none⟩) rows.length rows.length) ∧ w'.cell? ⟨G (lf), j, none⟩ = some (.int .i64 y) ∧ Below wr.heap.size wr w') (first | exact rkS_keep S0.out (Below.refl _ _).drew | exact S0.out | exact rkS_keep (by assumption) (by assumption)) ((go_at_call 71; refine (HNx.out _ ?_).mono ?_; (exact (And.right (And.right (And.right (And.right (And.right (by assumption))))))); rintro e w5 ⟨hb5, rfl⟩))
              rename _ ∧ _ => hHeld
              have HBz := hid (HBr.out.trans (hHeld.2.2.2.2.2.mono HBr.out.size))
              clear hb5 hHeld S0 HNx
              go_wp2
              go_roundg g2'
              case rel => exact ⟨c + 1, by omega, by go_num, by rw [HSc.out, Int.add_assoc], HBz.out⟩
              all_goals omega
            · obtain rfl : c = x := by omega
              have hrow := HG.out.row s hr
              obtain ⟨he1, he2⟩ := HG.out.ent s c hr hxn
              have HNx := hid (next_any n s c nc ac rows.length Na Aa rows accs wr ((HH.out.below HB3.out).below hb) hr (by rw [hrow]; exact hxn))
              rw [he2, ← HRu.out] at HNx
              have HBz := hid (HBr.out.trans ((((Below.refl wr.heap.size wr).alloc (Nat.le_refl _) (machO n Na rows.length nc Aa rows.length ac))).mono HBr.out.size))
              clear hrow he1 he2 hb hT t1
              unfold machV at HNx
              go_wp2_with fail
              refine HNx.out.mono ?_
              rintro e w5 ⟨rfl, rfl⟩
              go_wp2
              go_roundg go'
              case rel => exact ⟨k + 1, by omega, by go_num, by rw [HRk.out], rfl, HBz.out⟩
              all_goals omega
        · have hke : k = l.length := by omega
          have HR9 := hid (show rnkA n rows accs l = rkK n rows accs l k by rw [HR.out, hke])
          have HB9 := hid (HB3.out.trans (HB.out.mono HB3.out.size))
          have hkf : ¬ (k : Int) < (l.length : Int) := by omega
          clear hke
          go_wp2
          go_ret2
          exact ⟨HB9.out, by rw [HE.out, HR9.out]; rfl⟩
  · have HE := hid (show rnkE L rows accs l = v by rw [HE.out, if_pos hv])
    have HR := hid (show rnkA L rows accs l = 0 by rw [HR.out, HE.out, if_neg hv])
    have hv' : (v != 0) = true := by simpa using hv
    clear hv HO
    go_wp2
    go_ret2
    exact ⟨HB1.out, by rw [HE.out, HR.out]; rfl⟩
end Go.Proofs.Ytkboeldafppicaa
