/- The document's machine of a rule. -/
import Derived.Test.YtkboeldafppicaaRuNext
import Derived.Test.YtkboeldafppicaaOutX
import Derived.Test.YtkboeldafppicaaRPlainP
import Derived.Test.YtkboeldafppicaaTakeD
import Derived.Deep.Cut
import Derived.Deep.DeepCutAuto
import Derived.Deep.LoopGhost
import Derived.Deep.RegionHeld3
set_option linter.unusedVariables false
set_option linter.unusedSimpArgs false
namespace Go.Proofs.Ytkboeldafppicaa
open Go.RowKit Go.Maps

section
variable {w0 w w' : World} {B g3 gm L : Nat} {K : TypeId} {ml : List (Value × Int)} {e : TypeId} {sz ns : Nat} {sc : List Value} {rows : List (List Int)} {accs : List Bool} {vS vN vA : Value} {rv : List Value}
theorem OutX.put {ml' : List (Value × Int)} (h : OutX w0 w B g3 gm L K ml e sz ns sc rows accs vS vN vA rv) (hg : w.grownBy w' (some gm)) (hm : NumMap w' K gm ml') : OutX w0 w' B g3 gm L K ml' e sz ns sc rows accs vS vN vA rv :=
  have h3 : (some gm : Option Nat) ≠ some g3 := fun hh => h.ne (Option.some.inj hh).symm
  { mem := h.mem.grown hg (fun q hq => by cases hq; exact ⟨h.lm, h.fm⟩)
    map := hm
    lg := ⟨h.lg.1, Nat.lt_of_lt_of_le h.lg.2 hg.size⟩
    lm := h.lm
    ne := h.ne
    f3 := h.f3
    fm := h.fm
    c0 := (grown_cell hg (cell_lt h.c0) h3).trans h.c0
    c1 := (grown_cell hg (cell_lt h.c1) h3).trans h.c1
    c2 := (grown_cell hg (cell_lt h.c2) h3).trans h.c2
    z1 := (grown_frozen hg (p := ⟨g3, 1, none⟩) (cell_lt h.c1) h3).trans h.z1
    z2 := (grown_frozen hg (p := ⟨g3, 2, none⟩) (cell_lt h.c2) h3).trans h.z2 }
theorem OutX.appS {v' : Value} {ns' : Nat} {sc' : List Value} (h : OutX w0 w B g3 gm L K ml e sz ns sc rows accs vS vN vA rv) (hown : w'.ownsRow B e sz v' ns' sc') (hg : w.grownBy w' vS.ownBlock) (hloc : v'.ownBlock = vS.ownBlock ∨ v'.ownBlock = some w.heap.size) (hsome : v'.ownBlock ≠ none) :
    OutX w0 w' B g3 gm L K ml e sz ns' sc' rows accs v' vN vA rv :=
  have h3 : vS.ownBlock ≠ some g3 := h.f3.1
  have h4 : vS.ownBlock ≠ some gm := h.fm.1
  { mem := h.mem.appS hown hg hloc hsome
    map := h.map.block (hg.block gm h.map.lt (fun hh => h4 hh.symm))
    lg := ⟨h.lg.1, Nat.lt_of_lt_of_le h.lg.2 hg.size⟩
    lm := h.lm
    ne := h.ne
    f3 := h.f3.appS hloc (Nat.ne_of_lt h.lg.2)
    fm := h.fm.appS hloc (Nat.ne_of_lt h.map.lt)
    c0 := (grown_cell hg (cell_lt h.c0) h3).trans h.c0
    c1 := (grown_cell hg (cell_lt h.c1) h3).trans h.c1
    c2 := (grown_cell hg (cell_lt h.c2) h3).trans h.c2
    z1 := (grown_frozen hg (p := ⟨g3, 1, none⟩) (cell_lt h.c1) h3).trans h.z1
    z2 := (grown_frozen hg (p := ⟨g3, 2, none⟩) (cell_lt h.c2) h3).trans h.z2 }
end
theorem OutX.init4 {w0 w3 : World} {L : Nat} (hg : ((w0.alloc (.cells #[.int .i64 (-1), .int .i64 (-1), .int .i64 0, .bool false] 137)).alloc (.map #[] 0)).grownBy w3 (some (w0.heap.size + 1))) (hm : NumMap w3 137 (w0.heap.size + 1) (numbL V4 [((-1 : Int), (-1 : Int), (0 : Int), false)])) :
    OutX w0 (w3.alloc (.cells #[.int .i64 (L : Int), .slice none 0 0, .slice none 0 0] 25)) w0.heap.size w3.heap.size (w0.heap.size + 1) L 137 (numbL V4 [((-1 : Int), (-1 : Int), (0 : Int), false)]) 137 4 [((-1 : Int), (-1 : Int), (0 : Int), false)].length ([((-1 : Int), (-1 : Int), (0 : Int), false)].flatMap cl4) [] [] (.slice (some ⟨w0.heap.size, 0, none⟩) 1 1) (.slice none 0 0) (.slice none 0 0) [] := by
  have hz3 := hg.size
  simp at hz3
  have hB0 : Below w0.heap.size w0 ((w0.alloc (.cells #[.int .i64 (-1), .int .i64 (-1), .int .i64 0, .bool false] 137)).alloc (.map #[] 0)) := ((Below.refl _ _).alloc (Nat.le_refl _) _).alloc (by simp) _
  have hB3 : Below w0.heap.size w0 w3 := hB0.grown hg (by simp; omega) (fun k hk => by cases hk; omega)
  have hB5 := hB3.alloc hB3.size (.cells #[.int .i64 (L : Int), .slice none 0 0, .slice none 0 0] 25)
  have hA : Below w3.heap.size w3 (w3.alloc (.cells #[.int .i64 (L : Int), .slice none 0 0, .slice none 0 0] 25)) := (Below.refl _ _).alloc (Nat.le_refl _) _
  have hS := World.ownsRow_lit (base := w0.heap.size) (e := 137) (size := 4) w0 #[.int .i64 (-1), .int .i64 (-1), .int .i64 0, .bool false] 1 (by omega) (by decide) (by simp)
  have hS1 := own_below hS (show Below (w0.alloc (.cells #[.int .i64 (-1), .int .i64 (-1), .int .i64 0, .bool false] 137)).heap.size (w0.alloc (.cells #[.int .i64 (-1), .int .i64 (-1), .int .i64 0, .bool false] 137)) ((w0.alloc (.cells #[.int .i64 (-1), .int .i64 (-1), .int .i64 0, .bool false] 137)).alloc (.map #[] 0)) from (Below.refl _ _).alloc (Nat.le_refl _) _)
  have hS2 := kept_or hS1 hg (fun q hq => by cases hq; simp [Value.ownBlock])
  have hS3 := own_below hS2 hA
  have free : ∀ q, q ≠ w0.heap.size → LFree [] (.slice (some ⟨w0.heap.size, 0, none⟩) 1 1) (.slice none 0 0) (.slice none 0 0) [] q := fun q hq =>
    ⟨by simp [Value.ownBlock]; omega, by simp [Value.ownBlock], by simp [Value.ownBlock], fun i hi => by simp at hi⟩
  exact { mem := { bel := hB5
                   hB := Nat.le_refl _
                   hBw := hB5.size
                   S := by simpa [cl4] using hS3
                   N := ⟨rfl, .inl ⟨rfl, rfl⟩⟩
                   A := ⟨rfl, .inl ⟨rfl, rfl⟩⟩
                   R := fun i hi => by simp at hi
                   SN := by simp [Value.ownBlock]
                   SA := by simp [Value.ownBlock]
                   NA := .inl rfl }
          map := hm.below hA hm.lt
          lg := ⟨by omega, by simp⟩
          lm := by omega
          ne := by omega
          f3 := free _ (by omega)
          fm := free _ (by omega)
          c0 := by go_simp
          c1 := by go_simp
          c2 := by go_simp
          z1 := by go_simp
          z2 := by go_simp }
/-- What a rule can remember. -/
def P4 (s : R4) : Prop := -1 ≤ s.1 ∧ s.1 ≤ 5 ∧ -1 ≤ s.2.1 ∧ s.2.1 ≤ 5 ∧ 0 ≤ s.2.2.1 ∧ s.2.2.1 ≤ 21
theorem p4_next (L : Nat) (hL : L ≤ 6) (kind a b : Int) (s : R4) (c : Nat) (h : P4 s) (hc : c < L) : P4 (nx4 kind a b s c) := by
  obtain ⟨h1, h2, h3, h4, h5, h6⟩ := h
  unfold nx4 P4
  split
  · dsimp only; omega
  · split
    · dsimp only; omega
    · split
      · dsimp only; omega
      · exact ⟨h1, h2, h3, h4, h5, h6⟩
theorem p4_bound (l : List R4) (hn : l.Nodup) (h : ∀ s ∈ l, P4 s) : l.length ≤ 2156 := by
  refine coded_bound (fun s : R4 => ((((s.1 + 1) * 7 + (s.2.1 + 1)) * 22 + s.2.2.1) * 2 + (if s.2.2.2 then 1 else 0)).toNat) 2156 l hn (fun s hs => ?_) (fun s hs t ht e => ?_)
  · obtain ⟨h1, h2, h3, h4, h5, h6⟩ := h s hs
    split <;> omega
  · obtain ⟨h1, h2, h3, h4, h5, h6⟩ := h s hs
    obtain ⟨g1, g2, g3, g4, g5, g6⟩ := h t ht
    obtain ⟨a, b, c, d⟩ := s
    obtain ⟨a', b', c', d'⟩ := t
    dsimp only at *
    have : a = a' ∧ b = b' ∧ c = c' ∧ d = d' := by
      cases d <;> cases d' <;> simp at e ⊢ <;> omega
    obtain ⟨rfl, rfl, rfl, rfl⟩ := this
    rfl
/-- The language of a rule. -/
noncomputable def ruL (n : Nat) (kind a b : Int) : Lang := langOf n (nx4 kind a b) (kp4 kind b) (-1, -1, 0, false)
set_option maxRecDepth 100000 in
set_option maxHeartbeats 8000000 in
theorem rMade_any (L : Nat) (hL1 : 1 ≤ L) (hL : L ≤ 6) (kind a b : Int) (hkind : kind = 0 ∨ kind = 1 ∨ kind = 2 ∨ kind = 3) (w : World) :
    Calls Try.prog 95 #[.agg #[.int .i64 kind, .int .i64 (L : Int), .int .i64 a, .int .i64 b]] w fun e w' => Below w.heap.size w w' ∧ PlainAns w' w.heap.size L (ruL L kind a b) e := by
  obtain ⟨i0, hinf, hz0, hz1, hz2⟩ := info_parts r4_info
  obtain ⟨i1, hinf1, hw0, hw1, hw2⟩ := info_parts int_info
  obtain ⟨kl0, hk0⟩ := key_r4 (-1) (-1) 0 false (by unfold I64; omega) (by unfold I64; omega) (by unfold I64; omega)
  have h0 : P4 (-1, -1, 0, false) := by unfold P4; simp
  have HLo := hid (fun i => listTo_ok L (nx4 kind a b) (kp4 kind b) (-1, -1, 0, false) (fun s c h hc => p4_next L hL kind a b s c h hc) h0 i)
  have HCl := hid (fun s c (h : P4 s) (hc : c < L) => p4_next L hL kind a b s c h hc)
  have hB1 : Below w.heap.size w ((w.alloc (.cells #[.int .i64 kind, .int .i64 (L : Int), .int .i64 a, .int .i64 b] 109)).alloc (.cells #[.int .i64 0, .slice none 0 0, .slice none 0 0] 25)) := ((Below.refl _ _).alloc (Nat.le_refl _) _).alloc (by simp) _
  have HNx0 := hid (fun w' (s : R4) (c : Nat) (hs : P4 s) => rNext_any kind (L : Int) a b s c w' hkind ⟨hs.2.2.2.2.1, hs.2.2.2.2.2⟩)
  have HKe0 := hid (fun w' (s : R4) => rKeeps_any kind (L : Int) a b s w' hkind)
  clear hkind
  generalize hnx : nx4 kind a b = next at *
  generalize hkp : kp4 kind b = acc at *
  have HRL := hid (show ruL L kind a b = langOf L next acc (-1, -1, 0, false) by unfold ruL; rw [hnx, hkp])
  rw [HRL.out]
  clear hnx hkp
  go_enter Try.func95, Try.ntmps95
  go_upto_region 1 with (fail)
  have b0c : ((w.alloc (.cells #[.int .i64 kind, .int .i64 (L : Int), .int .i64 a, .int .i64 b] 109)).alloc (.cells #[.int .i64 0, .slice none 0 0, .slice none 0 0] 25)).cell? ⟨w.heap.size, 0, none⟩ = some (.int .i64 kind) := by go_simp
  have b1c : ((w.alloc (.cells #[.int .i64 kind, .int .i64 (L : Int), .int .i64 a, .int .i64 b] 109)).alloc (.cells #[.int .i64 0, .slice none 0 0, .slice none 0 0] 25)).cell? ⟨w.heap.size, 1, none⟩ = some (.int .i64 (L : Int)) := by go_simp
  have b2c : ((w.alloc (.cells #[.int .i64 kind, .int .i64 (L : Int), .int .i64 a, .int .i64 b] 109)).alloc (.cells #[.int .i64 0, .slice none 0 0, .slice none 0 0] 25)).cell? ⟨w.heap.size, 2, none⟩ = some (.int .i64 a) := by go_simp
  have b3c : ((w.alloc (.cells #[.int .i64 kind, .int .i64 (L : Int), .int .i64 a, .int .i64 b] 109)).alloc (.cells #[.int .i64 0, .slice none 0 0, .slice none 0 0] 25)).cell? ⟨w.heap.size, 3, none⟩ = some (.int .i64 b) := by go_simp
  have r0c : ((w.alloc (.cells #[.int .i64 kind, .int .i64 (L : Int), .int .i64 a, .int .i64 b] 109)).alloc (.cells #[.int .i64 0, .slice none 0 0, .slice none 0 0] 25)).cell? ⟨w.heap.size + 1, 0, none⟩ = some (.int .i64 0) := by go_simp
  have r1c : ((w.alloc (.cells #[.int .i64 kind, .int .i64 (L : Int), .int .i64 a, .int .i64 b] 109)).alloc (.cells #[.int .i64 0, .slice none 0 0, .slice none 0 0] 25)).cell? ⟨w.heap.size + 1, 1, none⟩ = some (.slice none 0 0) := by go_simp
  have r2c : ((w.alloc (.cells #[.int .i64 kind, .int .i64 (L : Int), .int .i64 a, .int .i64 b] 109)).alloc (.cells #[.int .i64 0, .slice none 0 0, .slice none 0 0] 25)).cell? ⟨w.heap.size + 1, 2, none⟩ = some (.slice none 0 0) := by go_simp
  have r0f : ∀ o, ((w.alloc (.cells #[.int .i64 kind, .int .i64 (L : Int), .int .i64 a, .int .i64 b] 109)).alloc (.cells #[.int .i64 0, .slice none 0 0, .slice none 0 0] 25)).frozen? ⟨w.heap.size + 1, o, none⟩ = false := fun o => by go_simp
  have hs0 : ((w.alloc (.cells #[.int .i64 kind, .int .i64 (L : Int), .int .i64 a, .int .i64 b] 109)).alloc (.cells #[.int .i64 0, .slice none 0 0, .slice none 0 0] 25)).heap.size = w.heap.size + 2 := by simp
  generalize ((w.alloc (.cells #[.int .i64 kind, .int .i64 (L : Int), .int .i64 a, .int .i64 b] 109)).alloc (.cells #[.int .i64 0, .slice none 0 0, .slice none 0 0] 25)) = w0 at *
  have HR0 := hid (And.intro (And.intro r0c (And.intro r1c r2c)) r0f)
  have HB1 := hid hB1
  clear r0c r1c r2c r0f hB1
  have hNM := NumMap.made (w0.alloc (.cells #[.int .i64 (-1), .int .i64 (-1), .int .i64 0, .bool false] 137)) 137
  obtain ⟨w3, hput, hNM3, hgr3⟩ := hNM.store law_r4 Try.underlying139 hk0 (fun c h => by simp at h) (by decide) 0 (by unfold I64; omega)
  have hsz1 : (w0.alloc (.cells #[.int .i64 (-1), .int .i64 (-1), .int .i64 0, .bool false] 137)).heap.size = w0.heap.size + 1 := by simp
  rw [hsz1] at hput hNM3 hgr3
  have HO := hid (OutX.init4 (L := L) hgr3 hNM3)
  have hmm := @run_makeMap Try.prog
  have hBy : Below w0.heap.size w0 w3 := (((Below.refl _ _).alloc (Nat.le_refl _) _).alloc (by simp) _).grown hgr3 (by simp; omega) (fun k hk => by cases hk; omega)
  have e1 := (hBy.cell (cell_lt b1c)).trans b1c
  have hlt0 : w.heap.size < w0.heap.size := by omega
  have hsz3 : w0.heap.size + 2 ≤ w3.heap.size := by have := hgr3.size; simp at this; omega
  have HS0 := hid hs0
  clear hNM hNM3 hgr3 hsz1 hBy hs0
  go_wp2
  have HRul := hid (show ∀ w', Below w0.heap.size w0 w' → w'.cell? ⟨w.heap.size, 0, none⟩ = some (.int .i64 kind) ∧ w'.cell? ⟨w.heap.size, 1, none⟩ = some (.int .i64 (L : Int)) ∧ w'.cell? ⟨w.heap.size, 2, none⟩ = some (.int .i64 a) ∧ w'.cell? ⟨w.heap.size, 3, none⟩ = some (.int .i64 b) from fun w' hb => ⟨(hb.cell (cell_lt b0c)).trans b0c, (hb.cell (cell_lt b1c)).trans b1c, (hb.cell (cell_lt b2c)).trans b2c, (hb.cell (cell_lt b3c)).trans b3c⟩)
  clear e1 hput hmm b0c b1c b2c b3c hk0
  go_loopg [4, 7] 2156 (fun gk v i wr => ∃ (k : Nat) (vN vA : Value) (rv : List Value), k + gk = 2156 ∧ k ≤ (listTo L next acc (-1, -1, 0, false) k).1.length ∧ i = .int .i64 (k : Int) ∧ Hid (∀ j, j < k → j < (listTo L next acc (-1, -1, 0, false) j).1.length) ∧ Hid (OutX w0 wr w0.heap.size w3.heap.size (w0.heap.size + 1) L 137 (numbL V4 (listTo L next acc (-1, -1, 0, false) k).1) 137 4 (listTo L next acc (-1, -1, 0, false) k).1.length ((listTo L next acc (-1, -1, 0, false) k).1.flatMap cl4) (listTo L next acc (-1, -1, 0, false) k).2.1 (listTo L next acc (-1, -1, 0, false) k).2.2 v vN vA rv))
  case atStart => exact ⟨0, _, _, _, by omega, Nat.zero_le _, rfl, (fun j hj => by omega), HO.out⟩
  case round =>
    clear HO
    obtain ⟨k, vN, vA, rv, hkM, hk, rfl, HJ, HO⟩ := hrel
    obtain ⟨hnd, hpd, hpos⟩ := HLo.out k
    have hlen := p4_bound _ hnd hpd
    obtain ⟨hr1, hr2⟩ := listTo_len L next acc (-1, -1, 0, false) k
    obtain ⟨gS, cS, hvS, hgS, hgS2⟩ := HO.out.mem.S.form hpos
    subst hvS
    have HSt := hid (show listTo L next acc (-1, -1, 0, false) (k + 1) = ((rowTo next ((listTo L next acc (-1, -1, 0, false) k).1[k]?.getD (-1, -1, 0, false)) (listTo L next acc (-1, -1, 0, false) k).1 L).1, (listTo L next acc (-1, -1, 0, false) k).2.1 ++ [(rowTo next ((listTo L next acc (-1, -1, 0, false) k).1[k]?.getD (-1, -1, 0, false)) (listTo L next acc (-1, -1, 0, false) k).1 L).2], (listTo L next acc (-1, -1, 0, false) k).2.2 ++ [acc ((listTo L next acc (-1, -1, 0, false) k).1[k]?.getD (-1, -1, 0, false))]) from rfl)
    have HJn := hid (show k < (listTo L next acc (-1, -1, 0, false) k).1.length → ∀ j, j < k + 1 → j < (listTo L next acc (-1, -1, 0, false) j).1.length from fun hh j hj => by
      by_cases e : j = k
      · subst e; exact hh
      · exact HJ.out j (by omega))
    have HFu := hid (show k = (listTo L next acc (-1, -1, 0, false) k).1.length → Full L next acc (-1, -1, 0, false) k from fun hh => ⟨hh, HJ.out⟩)
    have HRn := hid (rowTo_rows L next acc (-1, -1, 0, false) k)
    have HEn := hid (listTo_ent L next acc (-1, -1, 0, false) k)
    generalize hT : listTo L next acc (-1, -1, 0, false) k = T at *
    have HT := hid hT
    clear hT HJ
    obtain ⟨sts, rows, accs⟩ := T
    dsimp only at hk hnd hpd hpos hlen hr1 hr2 HO HSt HJn HFu HRn HEn
    by_cases hlt3 : k < sts.length
    · obtain ⟨gk', rfl⟩ : ∃ f, gk = f + 1 := ⟨gk - 1, by omega⟩
      have hsm : sts[k]? = some (sts[k]?.getD (-1, -1, 0, false)) := by rw [List.getElem?_eq_getElem hlt3]; rfl
      have hsP : P4 (sts[k]?.getD (-1, -1, 0, false)) := hpd _ (List.mem_of_getElem? hsm)
      generalize hsd : sts[k]?.getD (-1, -1, 0, false) = s at *
      clear hsd
      obtain ⟨sa, sb, st, sc⟩ := s
      have HRo := hid (fun n (hn : n ≤ L) => rowTo_ok next (sa, sb, st, sc) sts (Pd := P4) L (fun c hc => HCl.out _ c hsP hc) hnd hpd n hn)
      have HRl := hid (fun n => rowTo_len next (sa, sb, st, sc) sts n)
      have HSm := hid hsm
      have HSP := hid hsP
      have HQ := hid (RowQ.nil wr w0.heap.size w3.heap.size (w0.heap.size + 1) rows (.slice (some ⟨gS, 0, none⟩) sts.length cS) vN vA rv)
      have hk0 : (0 : Int) ≤ (k : Int) := by omega
      have hk1 : (k : Int) < (sts.length : Int) := by omega
      have HJ2 := hid (HJn.out hlt3)
      clear hnd hpd hsm hsP HFu hpos
      go_wp2
      go_loopg [4, 8, 9] L (fun g2 v r i wq => ∃ (n : Nat), n + g2 = L ∧ i = .int .i64 (n : Int) ∧ Hid (OutX w0 wq w0.heap.size w3.heap.size (w0.heap.size + 1) L 137 (numbL V4 (rowTo next (sa, sb, st, sc) sts n).1) 137 4 (rowTo next (sa, sb, st, sc) sts n).1.length ((rowTo next (sa, sb, st, sc) sts n).1.flatMap cl4) rows accs v vN vA rv) ∧ Hid (RowQ wq w0.heap.size w3.heap.size (w0.heap.size + 1) r (rowTo next (sa, sb, st, sc) sts n).2 rows v vN vA rv))
      case atStart => exact ⟨0, by omega, rfl, HO.out, HQ.out⟩
      case round =>
        clear HO HQ
        obtain ⟨n, hn, rfl, HO, HR⟩ := hrel
        obtain ⟨hnd, hpd, hpre⟩ := HRo.out n (by omega)
        have hlen1 := p4_bound _ hnd hpd
        have hrl := HRl.out n
        have HSo := hid (rowTo_had next (sa, sb, st, sc) sts n)
        have HSw := hid (rowTo_new next (sa, sb, st, sc) sts n)
        generalize hU : rowTo next (sa, sb, st, sc) sts n = U at *
        have HU := hid hU
        clear hU
        obtain ⟨st1, row1⟩ := U
        dsimp only at hnd hpd hpre hlen1 hrl HO HR HSo HSw
        have hk1s : st1[k]? = some (sa, sb, st, sc) := by
          obtain ⟨tl, rfl⟩ := hpre
          rw [List.getElem?_append_left hlt3]; exact HSm.out
        have hk1l : k < st1.length := (List.getElem?_eq_some_iff.1 hk1s).1
        obtain ⟨gT, cT, hvT, hgT, hgT2⟩ := HO.out.mem.S.form (by omega)
        subst hvT
        have hS := HO.out.mem.S
        obtain ⟨d0, d1, d2, d3⟩ := flat4_at st1 k (sa, sb, st, sc) hk1s
        have c0 : wr.cell? ⟨gT, k * 4, none⟩ = some (.int .i64 sa) := by rw [hS.cellAt _ (by omega)]; exact d0
        have c1 : wr.cell? ⟨gT, k * 4 + 1, none⟩ = some (.int .i64 sb) := by rw [hS.cellAt _ (by omega)]; exact d1
        have c2 : wr.cell? ⟨gT, k * 4 + 2, none⟩ = some (.int .i64 st) := by rw [hS.cellAt _ (by omega)]; exact d2
        have c3 : wr.cell? ⟨gT, k * 4 + 3, none⟩ = some (.bool sc) := by rw [hS.cellAt _ (by omega)]; exact d3
        obtain ⟨q0, q1, q2, q3⟩ := HRul.out wr HO.out.mem.bel
        by_cases hnL : n < L
        · obtain ⟨g2', rfl⟩ : ∃ f, gk = f + 1 := ⟨gk - 1, by omega⟩
          have HPn := hid (HCl.out _ n HSP.out hnL)
          have HNx := hid (fun w' => HNx0.out w' (sa, sb, st, sc) n HSP.out)
          generalize hsn : next (sa, sb, st, sc) n = sn at *
          have HSnE := hid hsn
          clear hsn
          obtain ⟨na, nb, nt, nc⟩ := sn
          have HNx := hid (show ∀ w', Calls Try.prog 130 #[.agg #[.int .i64 kind, .int .i64 (L : Int), .int .i64 a, .int .i64 b], .agg #[.int .i64 sa, .int .i64 sb, .int .i64 st, .bool sc], .int .i64 (n : Int)] w' (fun e w'' => Below w'.heap.size w' w'' ∧ e = .returned (.agg #[.int .i64 na, .int .i64 nb, .int .i64 nt, .bool nc])) from HNx.out)
          have hr1 : Below wr.heap.size wr wr := Below.refl _ _
          have HKp := hid (fun w' (hb : Below wr.heap.size wr w') => (show w'.cell? ⟨w.heap.size, 0, none⟩ = some (.int .i64 kind) ∧ w'.cell? ⟨w.heap.size, 1, none⟩ = some (.int .i64 (L : Int)) ∧ w'.cell? ⟨w.heap.size, 2, none⟩ = some (.int .i64 a) ∧ w'.cell? ⟨w.heap.size, 3, none⟩ = some (.int .i64 b) ∧ w'.cell? ⟨gT, k * 4, none⟩ = some (.int .i64 sa) ∧ w'.cell? ⟨gT, k * 4 + 1, none⟩ = some (.int .i64 sb) ∧ w'.cell? ⟨gT, k * 4 + 2, none⟩ = some (.int .i64 st) ∧ w'.cell? ⟨gT, k * 4 + 3, none⟩ = some (.bool sc) from
            ⟨(hb.cell (cell_lt q0)).trans q0, (hb.cell (cell_lt q1)).trans q1, (hb.cell (cell_lt q2)).trans q2, (hb.cell (cell_lt q3)).trans q3, (hb.cell (cell_lt c0)).trans c0, (hb.cell (cell_lt c1)).trans c1, (hb.cell (cell_lt c2)).trans c2, (hb.cell (cell_lt c3)).trans c3⟩))
          have hgmr := HO.out.map.lt
          have HNE := hid (show ∀ g9, wr.heap.size ≤ g9 → w0.heap.size + 1 ≠ g9 from fun g9 h e => by omega)
          clear hgmr
          have hk1i : (k : Int) < (st1.length : Int) := by omega
          have hn0 : (0 : Int) ≤ (n : Int) := by omega
          have hn1 : (n : Int) < (L : Int) := by omega
          clear hS d0 d1 d2 d3
          go_upto_region 11 with (fail)
          go_cut [10] (fun s10 wx => ∃ g9 : Nat, s10 = .pointer (some ⟨g9, 0, none⟩) ∧ wr.heap.size ≤ g9 ∧ wx.cell? ⟨g9, 0, none⟩ = some (.int .i64 na) ∧ wx.cell? ⟨g9, 1, none⟩ = some (.int .i64 nb) ∧ wx.cell? ⟨g9, 2, none⟩ = some (.int .i64 nt) ∧ wx.cell? ⟨g9, 3, none⟩ = some (.bool nc) ∧ Hid (Below wr.heap.size wr wx))
          case first =>
            refine wp_region_held_drew (S := (fun w' => w'.cell? ⟨w.heap.size, 0, none⟩ = some (.int .i64 kind) ∧ w'.cell? ⟨w.heap.size, 1, none⟩ = some (.int .i64 (L : Int)) ∧ w'.cell? ⟨w.heap.size, 2, none⟩ = some (.int .i64 a) ∧ w'.cell? ⟨w.heap.size, 3, none⟩ = some (.int .i64 b) ∧ w'.cell? ⟨gT, k * 4, none⟩ = some (.int .i64 sa) ∧ w'.cell? ⟨gT, k * 4 + 1, none⟩ = some (.int .i64 sb) ∧ w'.cell? ⟨gT, k * 4 + 2, none⟩ = some (.int .i64 st) ∧ w'.cell? ⟨gT, k * 4 + 3, none⟩ = some (.bool sc))) (by kernel_rfl) (HKp.out _ hr1.drew) (fun hHeld => ?_)
            refine take_d (i := 0) (d := some 35) (v := ?_) rfl rfl (by kernel_rfl) (by kernel_rfl) (by kernel_rfl) (fun _ _ _ h => h) (Or.inl ⟨by first | rfl | (simp [*, Region.wanted, yielded]), ?hyn1⟩) (by assumption) ?restn1
            case hyn1 => (intro w hSw; (try dsimp only at hSw); go_simp <;> with_reducible rfl)
            try simp only [Act.put, List.setIfInBounds_toArray, List.set_cons_zero, List.set_cons_succ]
            refine take_d (i := 1) (d := some 36) (v := ?_) rfl rfl (by kernel_rfl) (by kernel_rfl) (by kernel_rfl) (fun _ _ _ h => h) (Or.inl ⟨by first | rfl | (simp [*, Region.wanted, yielded]), ?hyn2⟩) (by assumption) ?restn2
            case hyn2 => (intro w hSw; (try dsimp only at hSw); go_simp <;> with_reducible rfl)
            try simp only [Act.put, List.setIfInBounds_toArray, List.set_cons_zero, List.set_cons_succ]
            refine take_d (i := 2) (d := some 37) (v := ?_) rfl rfl (by kernel_rfl) (by kernel_rfl) (by kernel_rfl) (fun _ _ _ h => h) (Or.inl ⟨by first | rfl | (simp [*, Region.wanted, yielded]), ?hyn3⟩) (by assumption) ?restn3
            case hyn3 => (intro w hSw; (try dsimp only at hSw); go_simp <;> with_reducible rfl)
            try simp only [Act.put, List.setIfInBounds_toArray, List.set_cons_zero, List.set_cons_succ]
            refine take_d (i := 3) (d := some 38) (v := ?_) rfl rfl (by kernel_rfl) (by kernel_rfl) (by kernel_rfl) (fun _ _ _ h => h) (Or.inl ⟨by first | rfl | (simp [*, Region.wanted, yielded]), ?hyn4⟩) (by assumption) ?restn4
            case hyn4 => (intro w hSw; (try dsimp only at hSw); go_simp <;> with_reducible rfl)
            try simp only [Act.put, List.setIfInBounds_toArray, List.set_cons_zero, List.set_cons_succ]
            refine take_d (i := 4) (d := some 39) (v := ?_) rfl rfl (by kernel_rfl) (by kernel_rfl) (by kernel_rfl) (fun _ _ _ h => h) (Or.inl ⟨by first | rfl | (simp [*, Region.wanted, yielded]), ?hyn5⟩) (by assumption) ?restn5
            case hyn5 => (intro w hSw; (try dsimp only at hSw); go_simp <;> with_reducible rfl)
            try simp only [Act.put, List.setIfInBounds_toArray, List.set_cons_zero, List.set_cons_succ]
            refine take_d (i := 5) (d := some 40) (v := ?_) rfl rfl (by kernel_rfl) (by kernel_rfl) (by kernel_rfl) (fun _ _ _ h => h) (Or.inl ⟨by first | rfl | (simp [*, Region.wanted, yielded]), ?hyn6⟩) (by assumption) ?restn6
            case hyn6 => (intro w hSw; (try dsimp only at hSw); go_simp <;> with_reducible rfl)
            try simp only [Act.put, List.setIfInBounds_toArray, List.set_cons_zero, List.set_cons_succ]
            refine wpAnyH_ready (rs := [6, 7]) (by kernel_rfl) (by simp) ?_
            refine AllReadyH.cons (o := _) rfl (fun K hK => ?_) (AllReadyH.cons (o := _) rfl (fun K hK => ?_) AllReadyH.nil)
            · go_simp
              go_at_call 130
              refine (HNx.out _).mono ?_
              rintro e6 w6 ⟨hb6, rfl⟩
              have p6 : Below wr.heap.size wr w6 := Below.trans (by repeat (first | exact hr1 | apply Below.drew | (refine Below.alloc ?_ (by first | exact Below.size (by assumption) | omega | (simp; done) | (simp; omega)) _) | (refine Below.setCell ?_ (by first | omega | (simp; done) | (simp; omega)) _))) (hb6.mono (by first | (simp; done) | (simp; omega)))
              go_wp2_with fail
              refine hK.out _ _ (HKp.out _ p6) (fun hHeld => ?_)
              clear hK K
              try simp only [Act.put, List.setIfInBounds_toArray, List.set_cons_zero, List.set_cons_succ]
              refine wpAnyH_ready (rs := [7]) (by kernel_rfl) (by simp) ?_
              refine AllReadyH.cons (o := _) rfl (fun K hK => ?_) AllReadyH.nil
              go_simp
              go_wp2_with fail
              refine hK.out _ _ (HKp.out _ (by repeat (first | exact hr1 | exact p6 | apply Below.drew | (refine Below.alloc ?_ (by first | exact Below.size (by assumption) | omega | (simp; done) | (simp; omega)) _) | (refine Below.setCell ?_ (by first | omega | (simp; done) | (simp; omega)) _)))) (fun hHeld => ?_)
              clear hK K
              try simp only [Act.put, List.setIfInBounds_toArray, List.set_cons_zero, List.set_cons_succ]
              refine wpAnyH_ready (rs := [8]) (by kernel_rfl) (by simp) ?_
              refine AllReadyH.cons (o := _) rfl (fun K hK => ?_) AllReadyH.nil
              go_simp
              go_wp2_with fail
              refine hK.out _ _ (HKp.out _ (by repeat (first | exact hr1 | exact p6 | apply Below.drew | (refine Below.alloc ?_ (by first | exact Below.size (by assumption) | omega | (simp; done) | (simp; omega)) _) | (refine Below.setCell ?_ (by first | omega | (simp; done) | (simp; omega)) _)))) (fun hHeld => ?_)
              clear hK K
              try simp only [Act.put, List.setIfInBounds_toArray, List.set_cons_zero, List.set_cons_succ]
              refine wpAnyH_done (by kernel_rfl) ?_ _
              go_simp
              go_wp2_with fail
              go_meet
              case rel => exact ⟨w6.heap.size, rfl, p6.size, by go_simp, by go_simp, by go_simp, by go_simp, p6.alloc p6.size _⟩
            · go_simp
              go_wp2_with fail
              refine hK.out _ _ (HKp.out _ (by repeat (first | exact hr1 | exact p6 | apply Below.drew | (refine Below.alloc ?_ (by first | exact Below.size (by assumption) | omega | (simp; done) | (simp; omega)) _) | (refine Below.setCell ?_ (by first | omega | (simp; done) | (simp; omega)) _)))) (fun hHeld => ?_)
              clear hK K
              try simp only [Act.put, List.setIfInBounds_toArray, List.set_cons_zero, List.set_cons_succ]
              refine wpAnyH_ready (rs := [6]) (by kernel_rfl) (by simp) ?_
              refine AllReadyH.cons (o := _) rfl (fun K hK => ?_) AllReadyH.nil
              go_simp
              go_at_call 130
              refine (HNx.out _).mono ?_
              rintro e6 w6 ⟨hb6, rfl⟩
              have p6 : Below wr.heap.size wr w6 := Below.trans (by repeat (first | exact hr1 | apply Below.drew | (refine Below.alloc ?_ (by first | exact Below.size (by assumption) | omega | (simp; done) | (simp; omega)) _) | (refine Below.setCell ?_ (by first | omega | (simp; done) | (simp; omega)) _))) (hb6.mono (by first | (simp; done) | (simp; omega)))
              have x0 : w6.cell? ⟨wr.heap.size, 0, none⟩ = some (.int .i64 0) := (hb6.cell (by simp)).trans (by go_simp)
              have x1 : w6.cell? ⟨wr.heap.size, 1, none⟩ = some (.int .i64 0) := (hb6.cell (by simp)).trans (by go_simp)
              have x2 : w6.cell? ⟨wr.heap.size, 2, none⟩ = some (.int .i64 0) := (hb6.cell (by simp)).trans (by go_simp)
              have x3 : w6.cell? ⟨wr.heap.size, 3, none⟩ = some (.bool false) := (hb6.cell (by simp)).trans (by go_simp)
              have y0 : w6.frozen? ⟨wr.heap.size, 0, none⟩ = false := (hb6.frozen (by simp)).trans (by go_simp)
              have y1 : w6.frozen? ⟨wr.heap.size, 1, none⟩ = false := (hb6.frozen (by simp)).trans (by go_simp)
              have y2 : w6.frozen? ⟨wr.heap.size, 2, none⟩ = false := (hb6.frozen (by simp)).trans (by go_simp)
              have y3 : w6.frozen? ⟨wr.heap.size, 3, none⟩ = false := (hb6.frozen (by simp)).trans (by go_simp)
              go_wp2_with fail
              refine hK.out _ _ (HKp.out _ p6) (fun hHeld => ?_)
              clear hK K
              try simp only [Act.put, List.setIfInBounds_toArray, List.set_cons_zero, List.set_cons_succ]
              refine wpAnyH_ready (rs := [8]) (by kernel_rfl) (by simp) ?_
              refine AllReadyH.cons (o := _) rfl (fun K hK => ?_) AllReadyH.nil
              go_simp
              go_wp2_with fail
              refine hK.out _ _ (HKp.out _ (by repeat (first | exact hr1 | exact p6 | apply Below.drew | (refine Below.alloc ?_ (by first | exact Below.size (by assumption) | omega | (simp; done) | (simp; omega)) _) | (refine Below.setCell ?_ (by first | omega | (simp; done) | (simp; omega)) _)))) (fun hHeld => ?_)
              clear hK K
              try simp only [Act.put, List.setIfInBounds_toArray, List.set_cons_zero, List.set_cons_succ]
              refine wpAnyH_done (by kernel_rfl) ?_ _
              go_simp
              go_wp2_with fail
              go_meet
              case rel => exact ⟨wr.heap.size, rfl, Nat.le_refl _, by go_simp, by go_simp, by go_simp, by go_simp, (((p6.setCell (Nat.le_refl _) _).setCell (Nat.le_refl _) _).setCell (Nat.le_refl _) _).setCell (Nat.le_refl _) _⟩
          case rest =>
            obtain ⟨g9, rfl, hg9, z0, z1, z2, z3, HBc⟩ := hcut
            have HO2 := hid (HO.out.below HBc.out)
            have HR2 := hid (HR.out.below HBc.out)
            have hP9 : -1 ≤ na ∧ na ≤ 5 ∧ -1 ≤ nb ∧ nb ≤ 5 ∧ 0 ≤ nt ∧ nt ≤ 21 := HPn.out
            obtain ⟨kl, hkey⟩ := key_r4 na nb nt nc (by unfold I64; omega) (by unfold I64; omega) (by unfold I64; omega)
            have HRl1 := hid hrl
            have hrl9 : row1.length ≤ 6 := by omega
            clear c0 c1 c2 c3 q0 q1 q2 q3 HKp HNx hr1 HO HR hP9 hrl
            by_cases hin : (na, nb, nt, nc) ∈ st1
            · obtain ⟨j, hj1, hj2, hsr⟩ := HSo.out hin
              have HSr := hid hsr
              clear hsr
              have hmem : (V4 (na, nb, nt, nc), (j : Int)) ∈ numbL V4 st1 := (numbL_mem V4 V4_inj st1 _ _).2 ⟨j, rfl, hj2⟩
              obtain ⟨hl1, hl2⟩ := HO2.out.map.lookYes law_r4 Try.underlying139 hkey (j : Int) hmem
              have hA5 : Below wc.heap.size wc (wc.alloc (.cells #[.int .i64 (j : Int)] 3)) := (Below.refl _ _).alloc (Nat.le_refl _) _
              have HO6 := hid (HO2.out.below hA5)
              have HR6 := hid (HR2.out.below hA5)
              have hR6 := HR6.out.own
              have hBw := HO2.out.mem.hBw
              clear hmem hin hj2 hA5 HO2 HR2
              go_wp2_with (at_builtin; refine wpList_append_lies _ rfl _ _ 26 rfl w0.heap.size 3 i1 (.int .i64 0) 1 8 Try.underlying26 hinf1 hw0 hw1 hw2 rfl (by decide) _ row1.length (row1.map (Value.int .i64)) rfl hR6 ⟨wc.heap.size, 0, none⟩ 1 1 [.int .i64 (j : Int)] rfl rfl (World.news_of_block (cs := #[.int .i64 (j : Int)]) (t := 3) (fr := (0, 0)) (heap_alloc_new wc _)) (by simp [Value.oneCell']) (by decide) (by unfold maxLen; omega) (by omega) (by simp; omega) _ rfl ?_)
              intro gU cU w6 hown6 hgr6 hat6 hlt6
              have hsz9 : (wc.alloc (.cells #[.int .i64 (j : Int)] 3)).heap.size = wc.heap.size + 1 := by simp
              have hloc := lies_loc (n := row1.length + 1) (c := cU) hat6
              rw [← hsz9] at hloc
              clear hsz9
              obtain ⟨hR7, hO7⟩ := HR6.out.appX HO6.out hown6 hgr6 hloc
              have HO7 := hid hO7
              have HR7 := hid hR7
              clear hR7 hO7 hown6 hgr6 hat6 hlt6 hloc hR6 HO6 HR6 hl1 hl2 z0 z1 z2 z3
              go_wp2
              go_roundg g2'
              case rel => exact ⟨n + 1, by omega, by go_num, by rw [HSr.out]; exact HO7.out, by rw [HSr.out]; exact HR7.out⟩
              all_goals omega
            · have HSr := hid (HSw.out hin)
              have hnol : ∀ c, (V4 (na, nb, nt, nc), c) ∉ numbL V4 st1 := fun c hc => by
                obtain ⟨i, _, hi⟩ := (numbL_mem V4 V4_inj st1 _ _).1 hc
                exact hin (List.mem_of_getElem? hi)
              obtain ⟨v9, hl1⟩ := HO2.out.map.lookNo law_r4 Try.underlying139 hkey hnol
              obtain ⟨w5, hput, hNM5, hgr5⟩ := HO2.out.map.store law_r4 Try.underlying139 hkey hnol (by rw [numbL_len]; unfold maxLen; omega) (st1.length : Int) (by unfold I64; omega)
              have hNM5' : NumMap w5 137 (w0.heap.size + 1) (numbL V4 (st1 ++ [(na, nb, nt, nc)])) := by rw [numbL_snoc]; exact hNM5
              have HO5 := hid (HO2.out.put hgr5 hNM5')
              have hgml := HO2.out.map.lt
              have HR5 := hid (HR2.out.grown hgr5 (fun q hq hh => (HR2.out.free q hh).2.2 (Option.some.inj hq).symm))
              have hwrm := HBc.out.size
              have HMlt := hid hgml
              have hne9 : w0.heap.size + 1 ≠ g9 := HNE.out g9 hg9
              have y0 := (grown_cell hgr5 (p := ⟨g9, 0, none⟩) (cell_lt z0) (fun hh => hne9 (Option.some.inj hh))).trans z0
              have y1 := (grown_cell hgr5 (p := ⟨g9, 1, none⟩) (cell_lt z1) (fun hh => hne9 (Option.some.inj hh))).trans z1
              have y2 := (grown_cell hgr5 (p := ⟨g9, 2, none⟩) (cell_lt z2) (fun hh => hne9 (Option.some.inj hh))).trans z2
              have y3 := (grown_cell hgr5 (p := ⟨g9, 3, none⟩) (cell_lt z3) (fun hh => hne9 (Option.some.inj hh))).trans z3
              have hBw5 := HO5.out.mem.hBw
              have hA5 : Below w5.heap.size w5 (w5.alloc (.cells #[.int .i64 na, .int .i64 nb, .int .i64 nt, .bool nc] 137)) := (Below.refl _ _).alloc (Nat.le_refl _) _
              have HO6 := hid (HO5.out.below hA5)
              have HR6 := hid (HR5.out.below hA5)
              have hS6 := HO6.out.mem.S
              clear hNM5 hgr5 hNM5' hA5 hnol hin HO2 HR2 HO5 HR5
              go_wp2_with (at_builtin; refine wpList_append_lies _ rfl _ _ 138 rfl w0.heap.size 137 i0 (.agg #[.int .i64 0, .int .i64 0, .int .i64 0, .bool false]) 4 32 Try.underlying138 hinf hz0 hz1 hz2 rfl (by decide) _ st1.length (st1.flatMap cl4) rfl hS6 ⟨w5.heap.size, 0, none⟩ 1 1 [.int .i64 na, .int .i64 nb, .int .i64 nt, .bool nc] rfl rfl (World.news_of_block (cs := #[.int .i64 na, .int .i64 nb, .int .i64 nt, .bool nc]) (t := 137) (fr := (0, 0)) (heap_alloc_new w5 _)) (by simp [Value.oneCell']) (by decide) (by unfold maxLen; omega) (by omega) (by simp; omega) _ rfl ?_)
              intro gU cU w6 hown6 hgr6 hat6 hlt6
              have hsz9 : (w5.alloc (.cells #[.int .i64 na, .int .i64 nb, .int .i64 nt, .bool nc] 137)).heap.size = w5.heap.size + 1 := by simp
              have hloc := lies_loc (n := st1.length + 1) (c := cU) hat6
              rw [← hsz9] at hloc
              have hown7 : w6.ownsRow w0.heap.size 137 4 (.slice (some ⟨gU, 0, none⟩) (st1.length + 1) cU) (st1 ++ [(na, nb, nt, nc)]).length ((st1 ++ [(na, nb, nt, nc)]).flatMap cl4) := by
                rw [List.length_append, List.flatMap_append]
                simpa [cl4] using hown6
              have HO7 := hid (HO6.out.appS hown7 hgr6 hloc (by simp [Value.ownBlock]))
              have HR7 := hid (HR6.out.appS hgr6 hloc)
              have hsz6 := hgr6.size
              rw [hsz9] at hsz6
              have hA7 : Below w6.heap.size w6 (w6.alloc (.cells #[.int .i64 (st1.length : Int)] 3)) := (Below.refl _ _).alloc (Nat.le_refl _) _
              have HO8 := hid (HO7.out.below hA7)
              have HR8 := hid (HR7.out.below hA7)
              have hR8 := HR8.out.own
              have hBw6 := HO7.out.mem.hBw
              clear hown6 hown7 hgr6 hat6 hlt6 hloc hS6 HO6 HR6 hA7 HO7 HR7 hl1 hput y0 y1 y2 y3 z0 z1 z2 z3 hsz9
              go_wp2_with (at_builtin; refine wpList_append_lies _ rfl _ _ 26 rfl w0.heap.size 3 i1 (.int .i64 0) 1 8 Try.underlying26 hinf1 hw0 hw1 hw2 rfl (by decide) _ row1.length (row1.map (Value.int .i64)) rfl hR8 ⟨w6.heap.size, 0, none⟩ 1 1 [.int .i64 (st1.length : Int)] rfl rfl (World.news_of_block (cs := #[.int .i64 (st1.length : Int)]) (t := 3) (fr := (0, 0)) (heap_alloc_new w6 _)) (by simp [Value.oneCell']) (by decide) (by unfold maxLen; omega) (by omega) (by simp; omega) _ rfl ?_)
              intro gV cV w7 hown7 hgr7 hat7 hlt7
              have hsz9 : (w6.alloc (.cells #[.int .i64 (st1.length : Int)] 3)).heap.size = w6.heap.size + 1 := by simp
              have hloc := lies_loc (n := row1.length + 1) (c := cV) hat7
              rw [← hsz9] at hloc
              clear hsz9
              obtain ⟨hR9, hO9⟩ := HR8.out.appX HO8.out hown7 hgr7 hloc
              have HO9 := hid hO9
              have HR9 := hid hR9
              have hle1 : (st1 ++ [(na, nb, nt, nc)]).length = st1.length + 1 := by simp
              have HLe := hid hle1
              clear hR9 hO9 hown7 hgr7 hat7 hlt7 hloc hR8 HO8 HR8 hle1
              go_wp2
              go_roundg g2'
              case rel => exact ⟨n + 1, by omega, by go_num, by rw [HSr.out]; exact HO9.out, by rw [HSr.out]; exact HR9.out⟩
              all_goals omega
        · obtain rfl : L = n := by omega
          obtain ⟨j0, hjnf, hy0, hy1, hy2⟩ := info_parts row_info
          obtain ⟨j3, hjnf3, hx0, hx1, hx2⟩ := info_parts boolM_info
          obtain ⟨gr, cr, hvr, hgr, hgr2⟩ := HR.out.own.form (by omega)
          subst hvr
          have HFr := hid (HR.out.free gr rfl)
          have hrs : rows.length ≤ 5000 := by omega
          have has : accs.length ≤ 5000 := by omega
          have hLf : ¬ (L : Int) < (L : Int) := by omega
          have HR12 := hid (And.intro hr1 (And.intro hr2 hrl))
          have hA : Below wr.heap.size wr (wr.alloc (.cells #[.slice (some ⟨gr, 0, none⟩) row1.length cr] 26)) := (Below.refl _ _).alloc (Nat.le_refl _) _
          have HO1 := hid (HO.out.below hA)
          have HR1 := hid (HR.out.below hA)
          have hN1 := HO1.out.mem.N
          have hBw1 := HO1.out.mem.hBw
          have hN0 := HO.out.c1
          have hSn : (Value.slice (some ⟨gT, 0, none⟩) st1.length cT).ownBlock ≠ none := by simp [Value.ownBlock]
          have hrw := HR1.out.own
          have hk1g := (HO1.out.c1)
          clear c0 c1 c2 c3 q0 q2 q3 hA hr1 hr2 hrl hS
          go_wp2_with (at_builtin; refine wpList_append_lies _ rfl _ _ 22 rfl w0.heap.size 26 j0 (.slice none 0 0) 1 24 Try.underlying22 hjnf hy0 hy1 hy2 rfl (by decide) vN rows.length rv rfl hN1 ⟨wr.heap.size, 0, none⟩ 1 1 [.slice (some ⟨gr, 0, none⟩) row1.length cr] rfl rfl (World.news_of_block (cs := #[.slice (some ⟨gr, 0, none⟩) row1.length cr]) (t := 26) (fr := (0, 0)) (heap_alloc_new wr _)) (by simp [Value.oneCell']) (by decide) (by unfold maxLen; omega) (by omega) (by simp; omega) _ rfl ?_)
          intro gU cU wN hownN hgrN hatN hltN
          have hsz9 : (wr.alloc (.cells #[.slice (some ⟨gr, 0, none⟩) row1.length cr] 26)).heap.size = wr.heap.size + 1 := by simp
          have hloc := lies_loc (n := rows.length + 1) (c := cU) hatN
          rw [← hsz9] at hloc
          clear hsz9
          have k1c := (grown_cell hgrN (cell_lt HO1.out.c1) (HO1.out.f3.2.1)).trans HO1.out.c1
          have k1f := (grown_frozen hgrN (p := ⟨w3.heap.size, 1, none⟩) (cell_lt HO1.out.c1) (HO1.out.f3.2.1)).trans HO1.out.z1
          have HO3 := hid (HO1.out.pushN hownN hgrN hloc hrw ⟨gr, cr, rfl, HFr.out.1⟩ (by simp only [Value.ownBlock, ne_eq, Option.some.injEq]; exact HFr.out.2.1) (by simp only [Value.ownBlock, ne_eq, Option.some.injEq]; exact HFr.out.2.2) hSn)
          clear hownN hgrN hatN hltN hloc hrw hSn hN1 hN0 HR HR1 HO1 HO hk1g
          go_upto_region 19 with (fail)
          have HSt2 := hid (show listTo L next acc (-1, -1, 0, false) (k + 1) = (st1, rows ++ [row1], accs ++ [acc (sa, sb, st, sc)]) from by
            have := HSt.out
            rw [HU.out] at this
            exact this)
          clear k1c k1f q1 HU HRo HRl hLf
          generalize wN.setCell ⟨w3.heap.size, 1, none⟩ (.slice (some ⟨gU, 0, none⟩) (rows.length + 1) cU) = wq at *
          have hBq := HO3.out.mem.bel
          obtain ⟨q0, q1, q2, q3⟩ := HRul.out wq hBq
          have hS := HO3.out.mem.S
          have c0 : wq.cell? ⟨gT, k * 4, none⟩ = some (.int .i64 sa) := by rw [hS.cellAt _ (by omega)]; exact d0
          have c1 : wq.cell? ⟨gT, k * 4 + 1, none⟩ = some (.int .i64 sb) := by rw [hS.cellAt _ (by omega)]; exact d1
          have c2 : wq.cell? ⟨gT, k * 4 + 2, none⟩ = some (.int .i64 st) := by rw [hS.cellAt _ (by omega)]; exact d2
          have c3 : wq.cell? ⟨gT, k * 4 + 3, none⟩ = some (.bool sc) := by rw [hS.cellAt _ (by omega)]; exact d3
          have HAc := hid (show ∀ w', Calls Try.prog 131 #[.agg #[.int .i64 kind, .int .i64 (L : Int), .int .i64 a, .int .i64 b], .agg #[.int .i64 sa, .int .i64 sb, .int .i64 st, .bool sc]] w' (fun e w'' => Below w'.heap.size w' w'' ∧ e = .returned (.bool (acc (sa, sb, st, sc)))) from fun w' => HKe0.out w' (sa, sb, st, sc))
          generalize acc (sa, sb, st, sc) = ba at *
          have c2v := HO3.out.c2
          have z2v := HO3.out.z2
          have hlgq := HO3.out.lg.2
          have hBwq := HO3.out.mem.hBw
          have hn1 : (k : Int) < (st1.length : Int) := by omega
          have HsaT := hid (show vA.ownBlock ≠ some gT from fun hh => HO3.out.mem.SA (by rw [hh]; rfl))
          have HlA := hid ((HO3.out.mem.low w.heap.size (by omega)).2.2.1)
          have hneT : w3.heap.size ≠ gT := fun hh => HO3.out.f3.1 (by rw [hh]; rfl)
          have hneW : w3.heap.size ≠ w.heap.size := by omega
          have hr0 : Below wq.heap.size wq wq := Below.refl _ _
          have HKp := hid (fun w' (hb : Below wq.heap.size wq w') => (show w'.cell? ⟨w.heap.size, 0, none⟩ = some (.int .i64 kind) ∧ w'.cell? ⟨w.heap.size, 1, none⟩ = some (.int .i64 (L : Int)) ∧ w'.cell? ⟨w.heap.size, 2, none⟩ = some (.int .i64 a) ∧ w'.cell? ⟨w.heap.size, 3, none⟩ = some (.int .i64 b) ∧ w'.cell? ⟨gT, k * 4, none⟩ = some (.int .i64 sa) ∧ w'.cell? ⟨gT, k * 4 + 1, none⟩ = some (.int .i64 sb) ∧ w'.cell? ⟨gT, k * 4 + 2, none⟩ = some (.int .i64 st) ∧ w'.cell? ⟨gT, k * 4 + 3, none⟩ = some (.bool sc) from
            ⟨(hb.cell (cell_lt q0)).trans q0, (hb.cell (cell_lt q1)).trans q1, (hb.cell (cell_lt q2)).trans q2, (hb.cell (cell_lt q3)).trans q3, (hb.cell (cell_lt c0)).trans c0, (hb.cell (cell_lt c1)).trans c1, (hb.cell (cell_lt c2)).trans c2, (hb.cell (cell_lt c3)).trans c3⟩))
          have HKg := hid (fun wx w' (hb : Below wq.heap.size wq wx) (hg : wx.grownBy w' vA.ownBlock) => (show w'.cell? ⟨w.heap.size, 0, none⟩ = some (.int .i64 kind) ∧ w'.cell? ⟨w.heap.size, 1, none⟩ = some (.int .i64 (L : Int)) ∧ w'.cell? ⟨w.heap.size, 2, none⟩ = some (.int .i64 a) ∧ w'.cell? ⟨w.heap.size, 3, none⟩ = some (.int .i64 b) ∧ w'.cell? ⟨gT, k * 4, none⟩ = some (.int .i64 sa) ∧ w'.cell? ⟨gT, k * 4 + 1, none⟩ = some (.int .i64 sb) ∧ w'.cell? ⟨gT, k * 4 + 2, none⟩ = some (.int .i64 st) ∧ w'.cell? ⟨gT, k * 4 + 3, none⟩ = some (.bool sc) from by
            obtain ⟨g1, g2, g3, g4, g5, g6, g7, g8⟩ := HKp.out wx hb
            exact ⟨(grown_cell hg (cell_lt g1) HlA.out).trans g1, (grown_cell hg (cell_lt g2) HlA.out).trans g2, (grown_cell hg (cell_lt g3) HlA.out).trans g3, (grown_cell hg (cell_lt g4) HlA.out).trans g4, (grown_cell hg (cell_lt g5) HsaT.out).trans g5, (grown_cell hg (cell_lt g6) HsaT.out).trans g6, (grown_cell hg (cell_lt g7) HsaT.out).trans g7, (grown_cell hg (cell_lt g8) HsaT.out).trans g8⟩))
          have HKs := hid (fun wx wy u (hb : Below wq.heap.size wq wx) (hg : wx.grownBy wy vA.ownBlock) (w' : World) (hw' : w' = wy.setCell ⟨w3.heap.size, 2, none⟩ u) => (show w'.cell? ⟨w.heap.size, 0, none⟩ = some (.int .i64 kind) ∧ w'.cell? ⟨w.heap.size, 1, none⟩ = some (.int .i64 (L : Int)) ∧ w'.cell? ⟨w.heap.size, 2, none⟩ = some (.int .i64 a) ∧ w'.cell? ⟨w.heap.size, 3, none⟩ = some (.int .i64 b) ∧ w'.cell? ⟨gT, k * 4, none⟩ = some (.int .i64 sa) ∧ w'.cell? ⟨gT, k * 4 + 1, none⟩ = some (.int .i64 sb) ∧ w'.cell? ⟨gT, k * 4 + 2, none⟩ = some (.int .i64 st) ∧ w'.cell? ⟨gT, k * 4 + 3, none⟩ = some (.bool sc) from by
            obtain ⟨g1, g2, g3, g4, g5, g6, g7, g8⟩ := HKg.out wx wy hb hg
            subst hw'
            exact ⟨(World.cell?_setCell_other _ _ _ _ (by simp only [ne_eq, Addr.mk.injEq]; omega)).trans g1, (World.cell?_setCell_other _ _ _ _ (by simp only [ne_eq, Addr.mk.injEq]; omega)).trans g2, (World.cell?_setCell_other _ _ _ _ (by simp only [ne_eq, Addr.mk.injEq]; omega)).trans g3, (World.cell?_setCell_other _ _ _ _ (by simp only [ne_eq, Addr.mk.injEq]; omega)).trans g4, (World.cell?_setCell_other _ _ _ _ (by simp only [ne_eq, Addr.mk.injEq]; omega)).trans g5, (World.cell?_setCell_other _ _ _ _ (by simp only [ne_eq, Addr.mk.injEq]; omega)).trans g6, (World.cell?_setCell_other _ _ _ _ (by simp only [ne_eq, Addr.mk.injEq]; omega)).trans g7, (World.cell?_setCell_other _ _ _ _ (by simp only [ne_eq, Addr.mk.injEq]; omega)).trans g8⟩))
          clear q0 q1 q2 q3 c0 c1 c2 c3 hBq hk1s HSm hS d0 d1 d2 d3
          refine wp_region_held_drew (S := (fun w' => w'.cell? ⟨w.heap.size, 0, none⟩ = some (.int .i64 kind) ∧ w'.cell? ⟨w.heap.size, 1, none⟩ = some (.int .i64 (L : Int)) ∧ w'.cell? ⟨w.heap.size, 2, none⟩ = some (.int .i64 a) ∧ w'.cell? ⟨w.heap.size, 3, none⟩ = some (.int .i64 b) ∧ w'.cell? ⟨gT, k * 4, none⟩ = some (.int .i64 sa) ∧ w'.cell? ⟨gT, k * 4 + 1, none⟩ = some (.int .i64 sb) ∧ w'.cell? ⟨gT, k * 4 + 2, none⟩ = some (.int .i64 st) ∧ w'.cell? ⟨gT, k * 4 + 3, none⟩ = some (.bool sc))) (by kernel_rfl) (HKp.out _ hr0.drew) (fun hHeld => ?_)
          refine take_d (i := 0) (d := some 69) (v := ?_) rfl rfl (by kernel_rfl) (by kernel_rfl) (by kernel_rfl) (fun _ _ _ h => h) (Or.inl ⟨by first | rfl | (simp [*, Region.wanted, yielded]), ?hym1⟩) (by assumption) ?restm1
          case hym1 => (intro w hSw; (try dsimp only at hSw); go_simp <;> with_reducible rfl)
          try simp only [Act.put, List.setIfInBounds_toArray, List.set_cons_zero, List.set_cons_succ]
          refine take_d (i := 2) (d := some 71) (v := ?_) rfl rfl (by kernel_rfl) (by kernel_rfl) (by kernel_rfl) (fun _ _ _ h => h) (Or.inl ⟨by first | rfl | (simp [*, Region.wanted, yielded]), ?hym2⟩) (by assumption) ?restm2
          case hym2 => (intro w hSw; (try dsimp only at hSw); go_simp <;> with_reducible rfl)
          try simp only [Act.put, List.setIfInBounds_toArray, List.set_cons_zero, List.set_cons_succ]
          refine take_d (i := 3) (d := some 72) (v := ?_) rfl rfl (by kernel_rfl) (by kernel_rfl) (by kernel_rfl) (fun _ _ _ h => h) (Or.inl ⟨by first | rfl | (simp [*, Region.wanted, yielded]), ?hym3⟩) (by assumption) ?restm3
          case hym3 => (intro w hSw; (try dsimp only at hSw); go_simp <;> with_reducible rfl)
          try simp only [Act.put, List.setIfInBounds_toArray, List.set_cons_zero, List.set_cons_succ]
          refine take_d (i := 4) (d := some 73) (v := ?_) rfl rfl (by kernel_rfl) (by kernel_rfl) (by kernel_rfl) (fun _ _ _ h => h) (Or.inl ⟨by first | rfl | (simp [*, Region.wanted, yielded]), ?hym4⟩) (by assumption) ?restm4
          case hym4 => (intro w hSw; (try dsimp only at hSw); go_simp <;> with_reducible rfl)
          try simp only [Act.put, List.setIfInBounds_toArray, List.set_cons_zero, List.set_cons_succ]
          refine take_d (i := 5) (d := some 74) (v := ?_) rfl rfl (by kernel_rfl) (by kernel_rfl) (by kernel_rfl) (fun _ _ _ h => h) (Or.inl ⟨by first | rfl | (simp [*, Region.wanted, yielded]), ?hym5⟩) (by assumption) ?restm5
          case hym5 => (intro w hSw; (try dsimp only at hSw); go_simp <;> with_reducible rfl)
          try simp only [Act.put, List.setIfInBounds_toArray, List.set_cons_zero, List.set_cons_succ]
          refine take_d (i := 6) (d := some 75) (v := ?_) rfl rfl (by kernel_rfl) (by kernel_rfl) (by kernel_rfl) (fun _ _ _ h => h) (Or.inl ⟨by first | rfl | (simp [*, Region.wanted, yielded]), ?hym6⟩) (by assumption) ?restm6
          case hym6 => (intro w hSw; (try dsimp only at hSw); go_simp <;> with_reducible rfl)
          try simp only [Act.put, List.setIfInBounds_toArray, List.set_cons_zero, List.set_cons_succ]
          refine wpAnyH_ready (rs := [1, 7]) (by kernel_rfl) (by simp) ?_
          refine AllReadyH.cons (o := _) rfl (fun K hK => ?_) (AllReadyH.cons (o := _) rfl (fun K hK => ?_) AllReadyH.nil)
          · go_simp
            go_wp2_with fail
            refine hK.out _ _ (HKp.out _ (by repeat (first | exact hr0 | exact p8 | apply Below.drew | (refine Below.alloc ?_ (by first | exact Below.size (by assumption) | omega | (simp; done) | (simp; omega)) _)))) (fun hHeld => ?_)
            clear hK K
            try simp only [Act.put, List.setIfInBounds_toArray, List.set_cons_zero, List.set_cons_succ]
            refine wpAnyH_ready (rs := [7]) (by kernel_rfl) (by simp) ?_
            refine AllReadyH.cons (o := _) rfl (fun K hK => ?_) AllReadyH.nil
            go_simp
            go_at_call 131
            refine (HAc.out _).mono ?_
            rintro e8 w8 ⟨hb8, rfl⟩
            have p8 : Below wq.heap.size wq w8 := Below.trans (by repeat (first | exact hr0 | apply Below.drew | (refine Below.alloc ?_ (by first | exact Below.size (by assumption) | omega | (simp; done) | (simp; omega)) _))) (hb8.mono (by first | (simp; done) | (simp; omega)))
            have x8 : w8.cell? ⟨w3.heap.size, 2, none⟩ = some vA := (p8.cell (cell_lt c2v)).trans c2v
            have l8 : w3.heap.size < w8.heap.size := cell_lt x8
            go_wp2_with fail
            refine hK.out _ _ (HKp.out _ p8) (fun hHeld => ?_)
            clear hK K
            try simp only [Act.put, List.setIfInBounds_toArray, List.set_cons_zero, List.set_cons_succ]
            refine wpAnyH_ready (rs := [8]) (by kernel_rfl) (by simp) ?_
            refine AllReadyH.cons (o := _) rfl (fun K hK => ?_) AllReadyH.nil
            go_simp
            go_wp2_with fail
            refine hK.out _ _ (HKp.out _ (by repeat (first | exact hr0 | exact p8 | apply Below.drew | (refine Below.alloc ?_ (by first | exact Below.size (by assumption) | omega | (simp; done) | (simp; omega)) _)))) (fun hHeld => ?_)
            clear hK K
            try simp only [Act.put, List.setIfInBounds_toArray, List.set_cons_zero, List.set_cons_succ]
            refine wpAnyH_ready (rs := [9]) (by kernel_rfl) (by simp) ?_
            refine AllReadyH.cons (o := _) rfl (fun K hK => ?_) AllReadyH.nil
            have HO8 := hid (HO3.out.below (p8.alloc p8.size (.cells #[.bool ba] 4)))
            have hA8 := HO8.out.mem.A
            have l9 := p8.size
            refine step_append_lies _ rfl _ _ 23 rfl w0.heap.size 4 j3 (.bool false) 1 1 Try.underlying23 hjnf3 hx0 hx1 hx2 rfl (by decide) vA accs.length (accs.map Value.bool) (by rfl) (by exact hA8) ⟨w8.heap.size, 0, none⟩ 1 1 [.bool ba] (by rfl) rfl (World.news_of_block (cs := #[.bool ba]) (t := 4) (fr := (0, 0)) (heap_alloc_new w8 _)) (by simp [Value.oneCell']) (by decide) (by unfold maxLen; omega) (by omega) (by simp; omega) _ rfl ?_
            intro gV cV w9 hown9 hgr9 hat9 hlt9
            have HO9 := hid (HO8.out.pushA hown9 hgr9 (lies_loc (n := accs.length + 1) (c := cV) hat9))
            have x9 := (grown_cell hgr9 (cell_lt HO8.out.c2) (HO8.out.f3.2.2.1)).trans HO8.out.c2
            have f9 := (grown_frozen hgr9 (p := ⟨w3.heap.size, 2, none⟩) (cell_lt HO8.out.c2) (HO8.out.f3.2.2.1)).trans HO8.out.z2
            refine hK.out _ _ (HKg.out _ _ (p8.alloc p8.size _) hgr9) (fun hHeld => ?_)
            clear hK K
            try simp only [Act.put, List.setIfInBounds_toArray, List.set_cons_zero, List.set_cons_succ]
            refine take_d (i := 10) (d := some 79) (v := ?_) rfl rfl (by kernel_rfl) (by kernel_rfl) (by kernel_rfl) (fun _ _ _ h => h) (Or.inl ⟨by first | rfl | (simp [*, Region.wanted, yielded]), ?hym7⟩) (by assumption) ?restm7
            case hym7 => (intro w hSw; (try dsimp only at hSw); go_simp <;> with_reducible rfl)
            try simp only [Act.put, List.setIfInBounds_toArray, List.set_cons_zero, List.set_cons_succ]
            refine wpAnyH_ready (rs := [11]) (by kernel_rfl) (by simp) ?_
            refine AllReadyH.cons (o := _) rfl (fun K hK => ?_) AllReadyH.nil
            go_simp
            go_wp2_with fail
            refine hK.out _ _ (HKs.out _ _ _ (p8.alloc p8.size _) hgr9 _ rfl) (fun hHeld => ?_)
            clear hK K
            try simp only [Act.put, List.setIfInBounds_toArray, List.set_cons_zero, List.set_cons_succ]
            refine wpAnyH_done (by kernel_rfl) ?_ _
            go_simp
            clear hown9 hgr9 hat9 hlt9 x9 f9 hA8 hHeld p8 x8
            have hkM2 := hkM
            go_wp2
            go_roundg gk'
            case rel => exact ⟨k + 1, _, _, _, by omega, by rw [HSt2.out]; exact hk1l, by go_num, HJ2, by rw [HSt2.out]; exact HO9⟩
            all_goals omega
          · go_simp
            go_at_call 131
            refine (HAc.out _).mono ?_
            rintro e8 w8 ⟨hb8, rfl⟩
            have p8 : Below wq.heap.size wq w8 := Below.trans (by repeat (first | exact hr0 | apply Below.drew | (refine Below.alloc ?_ (by first | exact Below.size (by assumption) | omega | (simp; done) | (simp; omega)) _))) (hb8.mono (by first | (simp; done) | (simp; omega)))
            have x8 : w8.cell? ⟨w3.heap.size, 2, none⟩ = some vA := (p8.cell (cell_lt c2v)).trans c2v
            have l8 : w3.heap.size < w8.heap.size := cell_lt x8
            go_wp2_with fail
            refine hK.out _ _ (HKp.out _ p8) (fun hHeld => ?_)
            clear hK K
            try simp only [Act.put, List.setIfInBounds_toArray, List.set_cons_zero, List.set_cons_succ]
            refine wpAnyH_ready (rs := [1, 8]) (by kernel_rfl) (by simp) ?_
            refine AllReadyH.cons (o := _) rfl (fun K hK => ?_) (AllReadyH.cons (o := _) rfl (fun K hK => ?_) AllReadyH.nil)
            · go_simp
              go_wp2_with fail
              refine hK.out _ _ (HKp.out _ (by repeat (first | exact hr0 | exact p8 | apply Below.drew | (refine Below.alloc ?_ (by first | exact Below.size (by assumption) | omega | (simp; done) | (simp; omega)) _)))) (fun hHeld => ?_)
              clear hK K
              try simp only [Act.put, List.setIfInBounds_toArray, List.set_cons_zero, List.set_cons_succ]
              refine wpAnyH_ready (rs := [8]) (by kernel_rfl) (by simp) ?_
              refine AllReadyH.cons (o := _) rfl (fun K hK => ?_) AllReadyH.nil
              go_simp
              go_wp2_with fail
              refine hK.out _ _ (HKp.out _ (by repeat (first | exact hr0 | exact p8 | apply Below.drew | (refine Below.alloc ?_ (by first | exact Below.size (by assumption) | omega | (simp; done) | (simp; omega)) _)))) (fun hHeld => ?_)
              clear hK K
              try simp only [Act.put, List.setIfInBounds_toArray, List.set_cons_zero, List.set_cons_succ]
              refine wpAnyH_ready (rs := [9]) (by kernel_rfl) (by simp) ?_
              refine AllReadyH.cons (o := _) rfl (fun K hK => ?_) AllReadyH.nil
              have HO8 := hid (HO3.out.below (p8.alloc p8.size (.cells #[.bool ba] 4)))
              have hA8 := HO8.out.mem.A
              have l9 := p8.size
              refine step_append_lies _ rfl _ _ 23 rfl w0.heap.size 4 j3 (.bool false) 1 1 Try.underlying23 hjnf3 hx0 hx1 hx2 rfl (by decide) vA accs.length (accs.map Value.bool) (by rfl) (by exact hA8) ⟨w8.heap.size, 0, none⟩ 1 1 [.bool ba] (by rfl) rfl (World.news_of_block (cs := #[.bool ba]) (t := 4) (fr := (0, 0)) (heap_alloc_new w8 _)) (by simp [Value.oneCell']) (by decide) (by unfold maxLen; omega) (by omega) (by simp; omega) _ rfl ?_
              intro gV cV w9 hown9 hgr9 hat9 hlt9
              have HO9 := hid (HO8.out.pushA hown9 hgr9 (lies_loc (n := accs.length + 1) (c := cV) hat9))
              have x9 := (grown_cell hgr9 (cell_lt HO8.out.c2) (HO8.out.f3.2.2.1)).trans HO8.out.c2
              have f9 := (grown_frozen hgr9 (p := ⟨w3.heap.size, 2, none⟩) (cell_lt HO8.out.c2) (HO8.out.f3.2.2.1)).trans HO8.out.z2
              refine hK.out _ _ (HKg.out _ _ (p8.alloc p8.size _) hgr9) (fun hHeld => ?_)
              clear hK K
              try simp only [Act.put, List.setIfInBounds_toArray, List.set_cons_zero, List.set_cons_succ]
              refine take_d (i := 10) (d := some 79) (v := ?_) rfl rfl (by kernel_rfl) (by kernel_rfl) (by kernel_rfl) (fun _ _ _ h => h) (Or.inl ⟨by first | rfl | (simp [*, Region.wanted, yielded]), ?hym8⟩) (by assumption) ?restm8
              case hym8 => (intro w hSw; (try dsimp only at hSw); go_simp <;> with_reducible rfl)
              try simp only [Act.put, List.setIfInBounds_toArray, List.set_cons_zero, List.set_cons_succ]
              refine wpAnyH_ready (rs := [11]) (by kernel_rfl) (by simp) ?_
              refine AllReadyH.cons (o := _) rfl (fun K hK => ?_) AllReadyH.nil
              go_simp
              go_wp2_with fail
              refine hK.out _ _ (HKs.out _ _ _ (p8.alloc p8.size _) hgr9 _ rfl) (fun hHeld => ?_)
              clear hK K
              try simp only [Act.put, List.setIfInBounds_toArray, List.set_cons_zero, List.set_cons_succ]
              refine wpAnyH_done (by kernel_rfl) ?_ _
              go_simp
              clear hown9 hgr9 hat9 hlt9 x9 f9 hA8 hHeld p8 x8
              have hkM2 := hkM
              go_wp2
              go_roundg gk'
              case rel => exact ⟨k + 1, _, _, _, by omega, by rw [HSt2.out]; exact hk1l, by go_num, HJ2, by rw [HSt2.out]; exact HO9⟩
              all_goals omega
            · go_simp
              go_wp2_with fail
              refine hK.out _ _ (HKp.out _ (by repeat (first | exact hr0 | exact p8 | apply Below.drew | (refine Below.alloc ?_ (by first | exact Below.size (by assumption) | omega | (simp; done) | (simp; omega)) _)))) (fun hHeld => ?_)
              clear hK K
              try simp only [Act.put, List.setIfInBounds_toArray, List.set_cons_zero, List.set_cons_succ]
              refine wpAnyH_ready (rs := [1]) (by kernel_rfl) (by simp) ?_
              refine AllReadyH.cons (o := _) rfl (fun K hK => ?_) AllReadyH.nil
              go_simp
              go_wp2_with fail
              refine hK.out _ _ (HKp.out _ (by repeat (first | exact hr0 | exact p8 | apply Below.drew | (refine Below.alloc ?_ (by first | exact Below.size (by assumption) | omega | (simp; done) | (simp; omega)) _)))) (fun hHeld => ?_)
              clear hK K
              try simp only [Act.put, List.setIfInBounds_toArray, List.set_cons_zero, List.set_cons_succ]
              refine wpAnyH_ready (rs := [9]) (by kernel_rfl) (by simp) ?_
              refine AllReadyH.cons (o := _) rfl (fun K hK => ?_) AllReadyH.nil
              have HO8 := hid (HO3.out.below (p8.alloc p8.size (.cells #[.bool ba] 4)))
              have hA8 := HO8.out.mem.A
              have l9 := p8.size
              refine step_append_lies _ rfl _ _ 23 rfl w0.heap.size 4 j3 (.bool false) 1 1 Try.underlying23 hjnf3 hx0 hx1 hx2 rfl (by decide) vA accs.length (accs.map Value.bool) (by rfl) (by exact hA8) ⟨w8.heap.size, 0, none⟩ 1 1 [.bool ba] (by rfl) rfl (World.news_of_block (cs := #[.bool ba]) (t := 4) (fr := (0, 0)) (heap_alloc_new w8 _)) (by simp [Value.oneCell']) (by decide) (by unfold maxLen; omega) (by omega) (by simp; omega) _ rfl ?_
              intro gV cV w9 hown9 hgr9 hat9 hlt9
              have HO9 := hid (HO8.out.pushA hown9 hgr9 (lies_loc (n := accs.length + 1) (c := cV) hat9))
              have x9 := (grown_cell hgr9 (cell_lt HO8.out.c2) (HO8.out.f3.2.2.1)).trans HO8.out.c2
              have f9 := (grown_frozen hgr9 (p := ⟨w3.heap.size, 2, none⟩) (cell_lt HO8.out.c2) (HO8.out.f3.2.2.1)).trans HO8.out.z2
              refine hK.out _ _ (HKg.out _ _ (p8.alloc p8.size _) hgr9) (fun hHeld => ?_)
              clear hK K
              try simp only [Act.put, List.setIfInBounds_toArray, List.set_cons_zero, List.set_cons_succ]
              refine take_d (i := 10) (d := some 79) (v := ?_) rfl rfl (by kernel_rfl) (by kernel_rfl) (by kernel_rfl) (fun _ _ _ h => h) (Or.inl ⟨by first | rfl | (simp [*, Region.wanted, yielded]), ?hym9⟩) (by assumption) ?restm9
              case hym9 => (intro w hSw; (try dsimp only at hSw); go_simp <;> with_reducible rfl)
              try simp only [Act.put, List.setIfInBounds_toArray, List.set_cons_zero, List.set_cons_succ]
              refine wpAnyH_ready (rs := [11]) (by kernel_rfl) (by simp) ?_
              refine AllReadyH.cons (o := _) rfl (fun K hK => ?_) AllReadyH.nil
              go_simp
              go_wp2_with fail
              refine hK.out _ _ (HKs.out _ _ _ (p8.alloc p8.size _) hgr9 _ rfl) (fun hHeld => ?_)
              clear hK K
              try simp only [Act.put, List.setIfInBounds_toArray, List.set_cons_zero, List.set_cons_succ]
              refine wpAnyH_done (by kernel_rfl) ?_ _
              go_simp
              clear hown9 hgr9 hat9 hlt9 x9 f9 hA8 hHeld p8 x8
              have hkM2 := hkM
              go_wp2
              go_roundg gk'
              case rel => exact ⟨k + 1, _, _, _, by omega, by rw [HSt2.out]; exact hk1l, by go_num, HJ2, by rw [HSt2.out]; exact HO9⟩
              all_goals omega
    · have hkE : k = sts.length := by omega
      have hF := HFu.out hkE
      have hgm := (full_good hL1 hL hF).1
      have hlang := (full_lang hL1 hL hF).1
      rw [HT.out] at hgm hlang
      dsimp only at hgm hlang
      have hHX := HO.out
      obtain ⟨Na5, nc5, Aa5, ac5, hvN, hvA, hMA⟩ := hHX.mem.mach (w' := wr) (fun _ _ => rfl) (by omega) (by omega) (fun r hr => by
        obtain ⟨i, hi, rfl⟩ := List.mem_iff_getElem.1 hr
        have h1 := hgm.row i hi
        rw [List.getElem?_eq_getElem hi, Option.getD_some] at h1
        refine ⟨by omega, fun x hx => ?_⟩
        obtain ⟨c, hc, rfl⟩ := List.mem_iff_getElem.1 hx
        have h2 := hgm.ent i c hi (by omega)
        rw [List.getElem?_eq_getElem hi, Option.getD_some, List.getElem?_eq_getElem hc, Option.getD_some] at h2
        rw [h2.2]
        unfold I64
        omega)
      have HTd := hid (rtold_any L nc5 ac5 Na5 Aa5 rows accs wr hMA hgm (by omega))
      have hal := hgm.acc
      subst hvN hvA
      have c0 := hHX.c0
      have c1 := hHX.c1
      have c2 := hHX.c2
      rw [hal] at c2
      rw [hlang] at HTd
      obtain ⟨⟨r0c, r1c, r2c⟩, r0f⟩ := HR0.out
      have hb := hHX.mem.bel
      have z0 := (hb.cell (cell_lt r0c)).trans r0c
      have z1 := (hb.cell (cell_lt r1c)).trans r1c
      have z2 := (hb.cell (cell_lt r2c)).trans r2c
      have y0 := (hb.frozen (p := ⟨w.heap.size + 1, 0, none⟩) (cell_lt r0c)).trans (r0f 0)
      have y1 := (hb.frozen (p := ⟨w.heap.size + 1, 1, none⟩) (cell_lt r1c)).trans (r0f 1)
      have y2 := (hb.frozen (p := ⟨w.heap.size + 1, 2, none⟩) (cell_lt r2c)).trans (r0f 2)
      have hsz4 : w.heap.size + 1 < wr.heap.size := cell_lt z0
      have HB4 := hid (HB1.out.trans (hb.mono HB1.out.size))
      unfold machV at HTd
      have hxx : ¬ (k : Int) < (sts.length : Int) := by omega
      clear hHX hgm hMA r0c r1c r2c r0f hb hF hal hlang hr1 hr2 hkE hlt3
      go_wp2_with fail
      refine HTd.out.mono ?_
      rintro e w5 ⟨hb5, i, hF, hans⟩
      have hsz5 : w.heap.size + 1 < w5.heap.size := by have := hb5.size; omega
      have z0 := (hb5.cell (cell_lt z0)).trans z0
      have z1 := (hb5.cell (cell_lt z1)).trans z1
      have z2 := (hb5.cell (cell_lt z2)).trans z2
      have y0 := (hb5.frozen (p := ⟨w.heap.size + 1, 0, none⟩) hsz4).trans y0
      have y1 := (hb5.frozen (p := ⟨w.heap.size + 1, 1, none⟩) hsz4).trans y1
      have y2 := (hb5.frozen (p := ⟨w.heap.size + 1, 2, none⟩) hsz4).trans y2
      have HB5 := hid (HB4.out.trans (hb5.mono HB4.out.size))
      have HF5 := hid hF
      clear hb5 hF HTd c0 c1 c2
      rcases hans with ⟨h64, rfl⟩ | ⟨h64, Na, nc, Aa, ac, rfl, hM⟩
      · unfold machV
        go_wp2
        have t0 : (((w5.setCell ⟨w.heap.size + 1, 0, none⟩ (.int .i64 0)).setCell ⟨w.heap.size + 1, 1, none⟩ (.slice none 0 0)).setCell ⟨w.heap.size + 1, 2, none⟩ (.slice none 0 0)).cell? ⟨w.heap.size + 1, 0, none⟩ = some (.int .i64 0) := by go_simp
        have t1 : (((w5.setCell ⟨w.heap.size + 1, 0, none⟩ (.int .i64 0)).setCell ⟨w.heap.size + 1, 1, none⟩ (.slice none 0 0)).setCell ⟨w.heap.size + 1, 2, none⟩ (.slice none 0 0)).cell? ⟨w.heap.size + 1, 1, none⟩ = some (.slice none 0 0) := by go_simp
        have t2 : (((w5.setCell ⟨w.heap.size + 1, 0, none⟩ (.int .i64 0)).setCell ⟨w.heap.size + 1, 1, none⟩ (.slice none 0 0)).setCell ⟨w.heap.size + 1, 2, none⟩ (.slice none 0 0)).cell? ⟨w.heap.size + 1, 2, none⟩ = some (.slice none 0 0) := by go_simp
        have HBz := hid (((HB5.out.setCell (p := ⟨w.heap.size + 1, 0, none⟩) (by simp) (.int .i64 0)).setCell (p := ⟨w.heap.size + 1, 1, none⟩) (by simp) (.slice none 0 0)).setCell (p := ⟨w.heap.size + 1, 2, none⟩) (by simp) (.slice none 0 0))
        generalize (((w5.setCell ⟨w.heap.size + 1, 0, none⟩ (.int .i64 0)).setCell ⟨w.heap.size + 1, 1, none⟩ (.slice none 0 0)).setCell ⟨w.heap.size + 1, 2, none⟩ (.slice none 0 0)) = wz at *
        refine bodyPost_ret (v := .tuple #[machV 0 none 0 0 none 0 0, .int .i64 4]) (by simp [machV, results, Try.results95, go_sem, t0, t1, t2]) rfl ⟨HBz.out, i, HF5.out, .inl ⟨h64, rfl⟩⟩
      · unfold machV
        have HM := hid hM
        clear hM
        go_wp2
        have t0 : (((w5.setCell ⟨w.heap.size + 1, 0, none⟩ (.int .i64 (L : Int))).setCell ⟨w.heap.size + 1, 1, none⟩ (.slice Na i nc)).setCell ⟨w.heap.size + 1, 2, none⟩ (.slice Aa i ac)).cell? ⟨w.heap.size + 1, 0, none⟩ = some (.int .i64 (L : Int)) := by go_simp
        have t1 : (((w5.setCell ⟨w.heap.size + 1, 0, none⟩ (.int .i64 (L : Int))).setCell ⟨w.heap.size + 1, 1, none⟩ (.slice Na i nc)).setCell ⟨w.heap.size + 1, 2, none⟩ (.slice Aa i ac)).cell? ⟨w.heap.size + 1, 1, none⟩ = some (.slice Na i nc) := by go_simp
        have t2 : (((w5.setCell ⟨w.heap.size + 1, 0, none⟩ (.int .i64 (L : Int))).setCell ⟨w.heap.size + 1, 1, none⟩ (.slice Na i nc)).setCell ⟨w.heap.size + 1, 2, none⟩ (.slice Aa i ac)).cell? ⟨w.heap.size + 1, 2, none⟩ = some (.slice Aa i ac) := by go_simp
        have HBz := hid (((HB5.out.setCell (p := ⟨w.heap.size + 1, 0, none⟩) (by simp) (.int .i64 (L : Int))).setCell (p := ⟨w.heap.size + 1, 1, none⟩) (by simp) (.slice Na i nc)).setCell (p := ⟨w.heap.size + 1, 2, none⟩) (by simp) (.slice Aa i ac))
        have HMz := hid ((((HM.out.setCell ⟨w.heap.size + 1, 0, none⟩ (.int .i64 (L : Int)) (by first | omega | (simp; done) | (simp; omega) | (simp at *; omega))).setCell ⟨w.heap.size + 1, 1, none⟩ (.slice Na i nc) (by first | omega | (simp; done) | (simp; omega) | (simp at *; omega))).setCell ⟨w.heap.size + 1, 2, none⟩ (.slice Aa i ac) (by first | omega | (simp; done) | (simp; omega) | (simp at *; omega))).weak (B' := w.heap.size) (by omega))
        generalize (((w5.setCell ⟨w.heap.size + 1, 0, none⟩ (.int .i64 (L : Int))).setCell ⟨w.heap.size + 1, 1, none⟩ (.slice Na i nc)).setCell ⟨w.heap.size + 1, 2, none⟩ (.slice Aa i ac)) = wz at *
        refine bodyPost_ret (v := .tuple #[machV L Na i nc Aa i ac, .int .i64 0]) (by simp [machV, results, Try.results95, go_sem, t0, t1, t2]) rfl ⟨HBz.out, i, HF5.out, .inr ⟨h64, Na, nc, Aa, ac, rfl, HMz.out⟩⟩
end Go.Proofs.Ytkboeldafppicaa
