/- All shifts of an order; Run, Time: package kitchen. -/
import Derived.Test.YthogliblgcccnaaKiC
import Derived.OneCell
import Derived.Deep.AppendLies
set_option linter.unusedVariables false
namespace Go.Proofs.Ythogliblgcccnaa
open Go.RowKit

/-- A block that holds a shift. -/
def LBox (w : World) (B : Nat) (x0 x1 c x3 p : Int) : Prop := w.heap[B]? = some (.cells #[.int .i64 x0, .int .i64 x1, .int .i64 c, .int .i64 x3, .int .i64 p] 37 (0, 0))
theorem LBox.cells {w : World} {B : Nat} {x0 x1 c x3 p : Int} (h : LBox w B x0 x1 c x3 p) : w.cell? ⟨B, 0, none⟩ = some (.int .i64 x0) ∧ w.cell? ⟨B, 1, none⟩ = some (.int .i64 x1) ∧ w.cell? ⟨B, 2, none⟩ = some (.int .i64 c) ∧ w.cell? ⟨B, 3, none⟩ = some (.int .i64 x3) ∧ w.cell? ⟨B, 4, none⟩ = some (.int .i64 p) := by
  unfold LBox at h
  unfold World.cell?
  simp [h]
theorem LBox.frozen {w : World} {B : Nat} {x0 x1 c x3 p : Int} (h : LBox w B x0 x1 c x3 p) (i : Nat) : w.frozen? ⟨B, i, none⟩ = false := by
  unfold LBox at h
  unfold World.frozen?
  simp [h]
theorem LBox.lt {w : World} {B : Nat} {x0 x1 c x3 p : Int} (h : LBox w B x0 x1 c x3 p) : B < w.heap.size := cell_lt h.cells.1
theorem LBox.below {w w' : World} {B : Nat} {x0 x1 c x3 p : Int} (h : LBox w B x0 x1 c x3 p) (hb : Below w.heap.size w w') : LBox w' B x0 x1 c x3 p := by
  have := h.lt
  unfold LBox at h ⊢
  rw [hb.block B this]; exact h
/-- Five stores into one block. -/
def set5 (w : World) (B : Nat) (y0 y1 y2 y3 y4 : Int) : World := ((((w.setCell ⟨B, 0, none⟩ (.int .i64 y0)).setCell ⟨B, 1, none⟩ (.int .i64 y1)).setCell ⟨B, 2, none⟩ (.int .i64 y2)).setCell ⟨B, 3, none⟩ (.int .i64 y3)).setCell ⟨B, 4, none⟩ (.int .i64 y4)
theorem LBox.set5 {w : World} {B : Nat} {x0 x1 c x3 p : Int} (h : LBox w B x0 x1 c x3 p) (y0 y1 y2 y3 y4 : Int) : LBox (set5 w B y0 y1 y2 y3 y4) B y0 y1 y2 y3 y4 := by
  unfold LBox at h ⊢
  unfold Go.Proofs.Ythogliblgcccnaa.set5
  rw [heap_setCell_same _ B 4 _ _ _ (heap_setCell_same _ B 3 _ _ _ (heap_setCell_same _ B 2 _ _ _ (heap_setCell_same _ B 1 _ _ _ (heap_setCell_same _ B 0 _ _ _ h))))]
  rfl
theorem below_set5 {w0 w : World} {n B : Nat} (h : Below n w0 w) (hB : n ≤ B) (y0 y1 y2 y3 y4 : Int) : Below n w0 (set5 w B y0 y1 y2 y3 y4) :=
  ((((h.setCell (p := ⟨B, 0, none⟩) hB _).setCell (p := ⟨B, 1, none⟩) hB _).setCell (p := ⟨B, 2, none⟩) hB _).setCell (p := ⟨B, 3, none⟩) hB _).setCell (p := ⟨B, 4, none⟩) hB _
theorem size_set5 (w : World) (B : Nat) (y0 y1 y2 y3 y4 : Int) : (set5 w B y0 y1 y2 y3 y4).heap.size = w.heap.size := by simp [set5]
theorem own_set5 {w : World} {base : Nat} {e : TypeId} {s : Nat} {v : Value} {n : Nat} {xs : List Value} (h : w.ownsRow base e s v n xs) (B : Nat) (hB : B < base) (y0 y1 y2 y3 y4 : Int) : (set5 w B y0 y1 y2 y3 y4).ownsRow base e s v n xs :=
  own_setCell (own_setCell (own_setCell (own_setCell (own_setCell h _ hB _) _ hB _) _ hB _) _ hB _) _ hB _
/-- A slice that reads as the shifts of an order. -/
structure Shs (w : World) (a : Option Addr) (o : List Int) (s : List Bt) : Prop where
  len : o.length ≤ 140737488355328
  at_ : o = [] ∨ ∃ b off, a = some ⟨b, off, none⟩ ∧ ∀ i, i < o.length → w.cell? ⟨b, off + i * 5, none⟩ = some (.int .i64 (oAt o i)) ∧ w.cell? ⟨b, off + i * 5 + 1, none⟩ = some (.int .i64 (cookTo s i)) ∧ w.cell? ⟨b, off + i * 5 + 2, none⟩ = some (.int .i64 (cookTo s (i + 1))) ∧ w.cell? ⟨b, off + i * 5 + 3, none⟩ = some (.int .i64 (max (cookTo s (i + 1)) (packTo s i))) ∧ w.cell? ⟨b, off + i * 5 + 4, none⟩ = some (.int .i64 (packTo s (i + 1)))
theorem Shs.below {w w' : World} {a : Option Addr} {o : List Int} {s : List Bt} (h : Shs w a o s) (hb : Below w.heap.size w w') : Shs w' a o s := by
  refine ⟨h.len, ?_⟩
  rcases h.at_ with e | ⟨b, off, ha, hc⟩
  · exact .inl e
  · refine .inr ⟨b, off, ha, fun i hi => ?_⟩
    obtain ⟨h0, h1, h2, h3, h4⟩ := hc i hi
    exact ⟨by rw [hb.cell (cell_lt h0)]; exact h0, by rw [hb.cell (cell_lt h1)]; exact h1, by rw [hb.cell (cell_lt h2)]; exact h2, by rw [hb.cell (cell_lt h3)]; exact h3, by rw [hb.cell (cell_lt h4)]; exact h4⟩
theorem own_shs {w : World} {base : Nat} {t : TypeId} {v : Value} {o : List Int} {s : List Bt} (h : w.ownsRow base t 5 v o.length (runC o s o.length)) (hl : o.length ≤ 140737488355328) : ∃ A c, v = .slice A o.length c ∧ Shs w A o s ∧ o.length ≤ c := by
  rcases h.2 with ⟨rfl, h0⟩ | ⟨g, cap, cur, rfl, hg, hh, hc, hm, hs, ht⟩
  · exact ⟨none, 0, by rw [h0], ⟨hl, .inl (List.eq_nil_of_length_eq_zero h0)⟩, by omega⟩
  · refine ⟨_, _, rfl, ⟨hl, .inr ⟨g, 0, rfl, fun i hi => ?_⟩⟩, hc⟩
    rw [Nat.zero_add]
    have e : ∀ j, j < 5 → w.cell? ⟨g, i * 5 + j, none⟩ = (shC o s i)[j]? := fun j hj => by
      rw [h.cellAt _ (by omega), runC_at o s o.length i j hi hj]
    exact ⟨e 0 (by omega), e 1 (by omega), e 2 (by omega), e 3 (by omega), e 4 (by omega)⟩
def ShsR (w : World) (o : List Int) (s : List Bt) (en : Ending) (w' : World) : Prop := Below w.heap.size w w' ∧ ∃ A c, en = .returned (.slice A o.length c) ∧ Shs w' A o s
set_option maxRecDepth 100000 in
set_option maxHeartbeats 2000000 in
theorem kRun_any (a A : Option Addr) (l : List Bt) (o : List Int) (cap oc : Nat) (w : World) (h : Bts w a l) (hO : Ints w A o) (hl : BtsOk l) (ho : IsOrd o l.length) :
  Calls Try.prog 53 #[.slice a l.length cap, .slice A o.length oc] w (ShsR w o (seqO l o)) := by
  obtain ⟨i0, hinf, hz0, hz1, hz2⟩ := info_parts shift_info
  have hlen := h.len
  have holen := hO.len
  have ho7 : o.length ≤ 7 := by rw [ho.len]; exact hl.len
  have HH := hid h
  have HA := hid hO
  have HL := hid hl
  have HR := hid ho
  have HS := hid (seq_ok hl ho)
  have HC := hid (fun k (hk : k ≤ o.length) => cookTo_bd (seq_ok hl ho) k (by rw [seqO_len]; exact hk))
  have HP := hid (fun k (hk : k ≤ o.length) => packTo_bd (seq_ok hl ho) k (by rw [seqO_len]; exact hk))
  have HQ := hid (fun k (hk : k < o.length) => seqO_at l o k hk)
  have HB0 := hid ((Below.refl w.heap.size w).alloc (Nat.le_refl _) (.cells #[.int .i64 0, .int .i64 0, .int .i64 0, .int .i64 0, .int .i64 0] 37))
  have HZ : Hid (LBox (w.alloc (.cells #[.int .i64 0, .int .i64 0, .int .i64 0, .int .i64 0, .int .i64 0] 37)) w.heap.size 0 0 0 0 0) := by unfold Hid LBox World.alloc; simp
  generalize hwB : w.alloc (.cells #[.int .i64 0, .int .i64 0, .int .i64 0, .int .i64 0, .int .i64 0] 37) = wB at *
  have HE : ∃ s, seqO l o = s := ⟨_, rfl⟩
  obtain ⟨s, hs⟩ := HE
  rw [hs] at HS HC HP HQ ⊢
  clear h hO hl ho hs
  go_enter Try.func53, Try.ntmps53
  go_wp2
  clear hwB
  go_loopw [5, 10] (fun v i wr => ∃ (k : Nat), k ≤ o.length ∧ i = .int .i64 k ∧ Hid (wr.ownsRow (w.heap.size + 1) 37 5 v k (runC o s k)) ∧ Hid (∃ x0 x1 x3, LBox wr w.heap.size x0 x1 (cookTo s k) x3 (packTo s k)) ∧ Hid (Below w.heap.size w wr)) (fun _ i _ => o.length - (intOf i).toNat)
  case atStart => exact ⟨0, Nat.zero_le _, rfl, ⟨rfl, .inl ⟨rfl, rfl⟩⟩, ⟨0, 0, 0, HZ⟩, HB0⟩
  case round =>
    obtain ⟨k, hk, rfl, HO, HX, HB⟩ := hrel
    clear HZ HB0
    obtain ⟨x0, x1, x3, hbox⟩ := HX.out
    by_cases hlt : k < o.length
    · obtain ⟨b, off, rfl, hc0⟩ : ∃ b off, A = some ⟨b, off, none⟩ ∧ wr.cell? ⟨b, off + k, none⟩ = some (.int .i64 (oAt o k)) := by
        rcases (HA.out.below HB.out).at_ with e | ⟨b, off, ha, hc⟩
        · rw [e] at hlt; simp at hlt
        · exact ⟨b, off, ha, hc k hlt⟩
      have hm := HR.out.mem (oAt_mem o k hlt)
      obtain ⟨n, hn⟩ := Int.eq_ofNat_of_zero_le hm.1
      have hc := HC.out k (by omega)
      have hp := HP.out k (by omega)
      have hbt : btAt s k = btAt l n := by rw [HQ.out k hlt, hn]; rfl
      have HN0 := (fun W (hb : Below wr.heap.size wr W) => kNext_any x0 x1 x3 (cookTo s k) (packTo s k) a l cap n W ((HH.out.below HB.out).below hb) (by omega) (by omega) (by omega) (HL.out.at_ n (by omega)))
      have HN1 : ∀ W, Below wr.heap.size wr W → Calls Try.prog 71 #[.agg #[.int .i64 x0, .int .i64 x1, .int .i64 (cookTo s k), .int .i64 x3, .int .i64 (packTo s k)], .slice a l.length cap, .int .i64 (n : Int)] W (fun en w' => Below W.heap.size W w' ∧ en = .returned (.agg #[.int .i64 (n : Int), .int .i64 (cookTo s k), .int .i64 (cookTo s k + (btAt l n).1), .int .i64 (max (cookTo s k + (btAt l n).1) (packTo s k)), .int .i64 (max (cookTo s k + (btAt l n).1) (packTo s k) + (btAt l n).2)])) := HN0
      have HN := hid HN1
      clear HN1
      clear HN0
      rw [hn] at hc0
      have HShC := hid (show shC o s k = [.int .i64 (n : Int), .int .i64 (cookTo s k), .int .i64 (cookTo s k + (btAt l n).1), .int .i64 (max (cookTo s k + (btAt l n).1) (packTo s k)), .int .i64 (max (cookTo s k + (btAt l n).1) (packTo s k) + (btAt l n).2)] by rw [← hbt, ← hn]; rfl)
      have HCk := hid (show cookTo s (k + 1) = cookTo s k + (btAt l n).1 by rw [← hbt]; rfl)
      have HPk := hid (show packTo s (k + 1) = max (cookTo s k + (btAt l n).1) (packTo s k) + (btAt l n).2 by rw [← hbt]; rfl)
      obtain ⟨c0, c1, c2, c3, c4⟩ := hbox.cells
      have f0 := hbox.frozen
      have HBox := hid hbox
      have hszr := hbox.lt
      have i0' : (0 : Int) ≤ (k : Int) := by omega
      have i1' : (k : Int) < (o.length : Int) := by omega
      have hr : Below wr.heap.size wr wr := Below.refl _ _
      clear hm hn hbt hbox
      generalize cookTo s k = c at *
      generalize packTo s k = p at *
      generalize btAt l n = y at *
      generalize c + y.1 = c' at *
      generalize max c' p = m' at *
      generalize m' + y.2 = p' at *
      go_wp2_with fail
      go_region_with (go_at_call 71; refine (HN.out _ (by first | exact hr | exact hr.drew | exact hr.drew.drew | exact Below.drew (by assumption))).mono ?_; rintro en w7 ⟨hb7, rfl⟩; have z0 := (hb7.cell (p := ⟨w.heap.size, 0, none⟩) hszr).trans c0; have y0 := (hb7.frozen (p := ⟨w.heap.size, 0, none⟩) hszr).trans (f0 0); have z1 := (hb7.cell (p := ⟨w.heap.size, 1, none⟩) hszr).trans c1; have y1 := (hb7.frozen (p := ⟨w.heap.size, 1, none⟩) hszr).trans (f0 1); have z2 := (hb7.cell (p := ⟨w.heap.size, 2, none⟩) hszr).trans c2; have y2 := (hb7.frozen (p := ⟨w.heap.size, 2, none⟩) hszr).trans (f0 2); have z3 := (hb7.cell (p := ⟨w.heap.size, 3, none⟩) hszr).trans c3; have y3 := (hb7.frozen (p := ⟨w.heap.size, 3, none⟩) hszr).trans (f0 3); have z4 := (hb7.cell (p := ⟨w.heap.size, 4, none⟩) hszr).trans c4; have y4 := (hb7.frozen (p := ⟨w.heap.size, 4, none⟩) hszr).trans (f0 4))
      all_goals
        have p7 : Below wr.heap.size wr w7 := by first | exact (Below.refl wr.heap.size wr).drew.trans hb7 | exact (Below.refl wr.heap.size wr).trans hb7 | exact (Below.refl wr.heap.size wr).drew.drew.trans hb7
        have hz7 : wr.heap.size ≤ w7.heap.size := p7.size
        have X7 := (HBox.out.below p7).set5 (n : Int) c c' m' p'
        have O7 := own_set5 (own_below HO.out p7) w.heap.size (Nat.lt_succ_self _) (n : Int) c c' m' p'
        have B7 := hid (below_set5 (HB.out.trans (p7.mono (by omega))) (Nat.le_refl _) (n : Int) c c' m' p')
        have hz8 := size_set5 w7 w.heap.size (n : Int) c c' m' p'
        obtain ⟨ws, hws⟩ : ∃ ws, set5 w7 w.heap.size (n : Int) c c' m' p' = ws := ⟨_, rfl⟩
        rw [hws] at X7 O7 B7 hz8
        unfold set5 at hws
        rw [hws]
        clear z0 z1 z2 z3 z4 y0 y1 y2 y3 y4 c0 c1 c2 c3 c4 f0 hb7 HN hr hws p7
        obtain ⟨c0, c1, c2, c3, c4⟩ := X7.cells
        have HX7 := hid X7
        have hsz8 : w.heap.size < ws.heap.size := by omega
        have HZ8 := hid hz8
        clear X7 hz8 hz7 HBox HX hc0
        go_wp2_with (at_builtin; refine wpList_append_own _ rfl _ _ 26 rfl (w.heap.size + 1) 37 i0 (.agg #[.int .i64 0, .int .i64 0, .int .i64 0, .int .i64 0, .int .i64 0]) 5 40 Try.underlying26 hinf hz0 hz1 hz2 rfl (by decide) _ _ _ rfl (O7.alloc _) ⟨ws.heap.size, 0, none⟩ 1 1 [.int .i64 (n : Int), .int .i64 c, .int .i64 c', .int .i64 m', .int .i64 p'] rfl rfl ?c1 ?c2 ?c3 ?c4 ?c5 ?_)
        case c1 =>
          have := World.news_of_block (cs := #[.int .i64 (n : Int), .int .i64 c, .int .i64 c', .int .i64 m', .int .i64 p']) (t := 37) (fr := (0, 0)) (heap_alloc_new ws (.cells #[.int .i64 (n : Int), .int .i64 c, .int .i64 c', .int .i64 m', .int .i64 p'] 37))
          simpa using this
        case c2 => simp [Value.oneCell']
        case c3 => unfold maxLen; omega
        case c4 => omega
        case c5 => simp; omega
        intro v' w6 hown2 hgrow _
        have hnb : ∀ q, some q = u5.ownBlock → w.heap.size + 1 ≤ q ∧ q < ws.heap.size := fun q hq => O7.lt q hq.symm
        have q6 : Below (w.heap.size + 1) ws w6 := ((Below.refl _ _).alloc (by omega) _).grown hgrow (by simp; omega) (fun q hq => (hnb q hq.symm).1)
        have X6 : Hid (LBox w6 w.heap.size (n : Int) c c' m' p') := by
          have := HX7.out
          unfold Hid LBox at this ⊢
          rw [q6.block _ (Nat.lt_succ_self _)]; exact this
        have B6 := hid (B7.out.trans (q6.mono (Nat.le_succ _)))
        clear hnb hgrow O7 q6
        go_wp2
        go_roundw
        case rel => exact ⟨k + 1, by omega, by go_num, by unfold Hid; rw [runC_succ, HShC.out]; simpa using hown2, ⟨_, _, _, by rw [HCk.out, HPk.out]; exact X6.out⟩, B6⟩
        case measure => simp [intOf]; omega
    · obtain rfl : k = o.length := by omega
      obtain ⟨A2, c2, rfl, h2, _⟩ := own_shs HO.out (by omega)
      go_wp2
      go_ret
      exact ⟨HB.out, A2, c2, rfl, h2⟩
set_option maxRecDepth 100000 in
set_option maxHeartbeats 1000000 in
theorem kTimeOf_any (A : Option Addr) (o : List Int) (s : List Bt) (c : Nat) (w : World) (h : Shs w A o s) : Calls Try.prog 56 #[.slice A o.length c] w (NumK w (packTo s o.length)) := by
  have hlen := h.len
  by_cases h0 : o.length = 0
  · have h0' : (o.length : Int) = 0 := by omega
    have HE := hid (show packTo s o.length = 0 by rw [h0]; rfl)
    clear h h0
    go_enter Try.func56, Try.ntmps56
    go_wp2
    go_ret
    exact ⟨rfl, by rw [HE.out]; rfl⟩
  · rcases h.at_ with e | ⟨b, off, rfl, hc⟩
    · rw [e] at h0; simp at h0
    obtain ⟨m, hm⟩ : ∃ m, o.length = m + 1 := ⟨o.length - 1, by omega⟩
    obtain ⟨_, _, _, _, c4⟩ := hc m (by omega)
    rw [hm]
    have hm1 : m + 1 ≤ 140737488355328 := by omega
    have h1 : ((m + 1 : Nat) : Int) ≠ 0 := by omega
    have h2 : (((m + 1 : Nat) : Int) == 0) = false := by rw [beq_eq_false_iff_ne]; omega
    clear h hc h0 hlen hm
    go_enter Try.func56, Try.ntmps56
    go_wp2
    go_ret
    exact ⟨rfl, rfl⟩
def PairK (w : World) (v : Int × Int) (en : Ending) (w' : World) : Prop := Below w.heap.size w w' ∧ en = .returned (.tuple #[.int .i64 v.1, .int .i64 v.2])
/-- What Time answers. -/
def timeV (l : List Bt) (o : List Int) : Int × Int := if chkE l o = 0 then (timeO l o, 0) else (0, chkE l o)
theorem timeO_to (l : List Bt) (o : List Int) : timeO l o = packTo (seqO l o) o.length := by
  rw [timeO, tm_end, seqO_len]
set_option maxRecDepth 100000 in
set_option maxHeartbeats 1000000 in
theorem kTime_any (a A : Option Addr) (l : List Bt) (o : List Int) (cap oc : Nat) (w : World) (h : Bts w a l) (hO : Ints w A o) : Calls Try.prog 21 #[.slice a l.length cap, .slice A o.length oc] w (PairK w (timeV l o)) := by
  have hlen := h.len
  have holen := hO.len
  have HV := hid (kCheck_any a A l o cap oc w h hO)
  have HE := hid (show timeV l o = if chkE l o = 0 then (timeO l o, 0) else (0, chkE l o) from rfl)
  by_cases h0 : chkE l o = 0
  · have HE2 := hid ((HE.out).trans (if_pos h0))
    obtain ⟨hl, ho⟩ := chkE_ok h0
    have HR := hid (fun W (hb : Below w.heap.size w W) => kRun_any a A l o cap oc W (h.below hb) (hO.below hb) hl ho)
    have HT := hid (timeO_to l o)
    rw [h0] at HV
    clear h hO h0 HE hl ho
    go_enter Try.func21, Try.ntmps21
    go_wp2_with fail
    refine HV.out.mono ?_
    rintro e w1 ⟨hb1, rfl⟩
    have P1 := hid hb1
    clear hb1
    go_wp2_with fail
    refine (HR.out _ P1.out).mono ?_
    rintro e w2 ⟨hb2, A2, c2, rfl, hs2⟩
    have P2 := hid (P1.out.trans (hb2.mono P1.out.size))
    have S2 := hid hs2
    clear hb2 hs2
    go_wp2_with fail
    refine (kTimeOf_any A2 o (seqO l o) c2 _ S2.out).mono ?_
    rintro e w3 ⟨rfl, rfl⟩
    go_wp2
    go_ret2
    exact ⟨P2.out, by rw [HE2.out, HT.out]; rfl⟩
  · have HE2 := hid ((HE.out).trans (if_neg h0))
    have h1 : (chkE l o != 0) = true := by simp [h0]
    clear h hO h0 HE
    generalize chkE l o = v at *
    go_enter Try.func21, Try.ntmps21
    go_wp2_with fail
    refine HV.out.mono ?_
    rintro e w1 ⟨hb1, rfl⟩
    have P1 := hid hb1
    clear hb1
    go_wp2
    go_ret2
    exact ⟨P1.out, by rw [HE2.out]; rfl⟩
end Go.Proofs.Ythogliblgcccnaa
