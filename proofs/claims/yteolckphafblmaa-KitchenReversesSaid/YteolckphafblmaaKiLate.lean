/- Late: package kitchen. -/
import Derived.Test.YteolckphafblmaaKiLtR
import Derived.Shelf.SortM.Plain
import Derived.Shelf.SortM.SortNone
import Derived.Shelf.Lay
import Derived.Ground.SlgmProg
set_option linter.unusedVariables false
namespace Go.Proofs.Yteolckphafblmaa
open Go.Shelf Go.RowKit Go.Lib

shelf_lay_g SlLaysM.n5 Slgm 5 at Try 51 as Try.sortInts

theorem put_ints (L : List Int) (c : Array Value) (h : L.length ≤ c.size) : (Go.Sort.putCells (Value.int .i64) 0 L.toArray c).size = c.size ∧ (Go.Sort.putCells (Value.int .i64) 0 L.toArray c).toList.take L.length = L.map (Value.int .i64) := by
  refine ⟨by simp [Go.Sort.putCells], ?_⟩
  apply List.ext_getElem?
  intro t
  rcases Nat.lt_or_ge t L.length with h1 | h1
  · rw [List.getElem?_take_of_lt h1]
    have h2 : t < c.size := by omega
    simp [Go.Sort.putCells, h1, h2]
  · rw [List.getElem?_eq_none (by simp; omega), List.getElem?_eq_none (by simpa using h1)]
theorem kSort_any (base : Nat) (v : Value) (L : List Int) (w : World) (hown : Own w base v L) (hl : L.length ≤ 1000) :
  ∃ A c, v = .slice A L.length c ∧ Calls Try.prog 51 #[.slice A L.length c] w
    fun e w' => e = .returned (.tuple #[]) ∧ Below base w w' ∧ Own w' base (.slice A L.length c) (L.mergeSort fun x y => decide (x ≤ y)) := by
  rcases hown.2 with ⟨hv, hn⟩ | ⟨g, cap, cur, hv, hg, hh, hc, hm, hs, ht⟩
  · have hn0 := List.eq_nil_of_length_eq_zero hn
    subst hn0
    refine ⟨none, 0, hv, ?_⟩
    refine (Go.Proofs.AnyM.slices_Sort_int_none Try.sortInts none 0 w).mono ?_
    rintro e w' ⟨he, rfl⟩
    rw [List.mergeSort_nil]
    exact ⟨he, Below.refl _ _, Own.nil _ _⟩
  · refine ⟨some ⟨g, 0, none⟩, cap, hv, ?_⟩
    have hgl : g < w.heap.size := lt_of_block hh
    have hH : Go.Sort.Holds (Value.int .i64) w g 0 L.toArray := by
      intro j hj
      have hj2 : j < L.length := by simpa using hj
      subst hv
      rw [Nat.zero_add]
      refine ⟨?_, hown.frozenAt j⟩
      rw [hown.cellAt j (by omega)]
      simp [hj2]
    have hcon := Go.Proofs.AnyM.slices_Sort_int Try.sortInts g 0 cap L w hH hgl (by omega)
    refine hcon.mono ?_
    rintro e w' ⟨he, n, os, rfl⟩
    have hl2 : (L.mergeSort fun x y => decide (x ≤ y)).length = L.length := List.length_mergeSort _
    generalize (L.mergeSort fun x y => decide (x ≤ y)) = R at *
    obtain ⟨p1, p2⟩ := put_ints R cur (by omega)
    have hheap : (Go.Sort.grow (Go.Sort.putRow (Value.int .i64) (Go.Sort.ahead w n) g 0 R.toArray) os).heap = w.heap.modify g (Go.Sort.onCells (Go.Sort.putCells (Value.int .i64) 0 R.toArray)) ++ os := rfl
    have hg' : (Go.Sort.grow (Go.Sort.putRow (Value.int .i64) (Go.Sort.ahead w n) g 0 R.toArray) os).heap[g]? = some (.cells (Go.Sort.putCells (Value.int .i64) 0 R.toArray cur) 3) := by
      rw [hheap, Array.getElem?_append_left (by simpa using hgl), Array.getElem?_modify, if_pos rfl, hh]; rfl
    refine ⟨he, ⟨rfl, rfl, rfl, by rw [hheap]; simp, fun k hk => ?_⟩, ?_⟩
    · rw [hheap, Array.getElem?_append_left (by simp; omega), Array.getElem?_modify, if_neg (by omega)]
    · refine ⟨by simp, .inr ⟨g, cap, _, by rw [hl2], hg, hg', by omega, hm, by rw [p1, hs], ?_⟩⟩
      rw [Nat.mul_one, p2]
theorem lateTo_bd {o : List Int} {n : Nat} (ho : IsOrd o n) (hn : n ≤ 7) (f : Nat → Bool) (k : Nat) (hk : k ≤ o.length) : ∀ x ∈ lateTo o f k, -9223372036854775808 ≤ x ∧ x ≤ 9223372036854775807 := fun x hx => by
  obtain ⟨i, h1, h2, _⟩ := (lateTo_mem o f k x).1 hx
  have := ho.mem (oAt_mem2 o i (by omega))
  omega
set_option maxRecDepth 100000 in
set_option maxHeartbeats 4000000 in
theorem kLate_ok (a A D : Option Addr) (l : List Bt) (o du : List Int) (cap oc dc : Nat) (w : World) (h : Bts w a l) (hO : Ints w A o) (hU : Ints w D du) (h0 : ltE l o du = 0) :
  Calls Try.prog 37 #[.slice a l.length cap, .slice A o.length oc, .slice D du.length dc] w (LateQ w (refTo o (duF o du (seqO l o)) l.length)) := by
  obtain ⟨i0, hinf, hz0, hz1, hz2⟩ := info_parts int_info
  have hlen := h.len
  have holen := hO.len
  have hulen := hU.len
  have hc : chkE l o = 0 := by
    unfold ltE at h0
    by_cases e : chkE l o = 0
    · exact e
    · rw [if_neg e] at h0; exact absurd h0 e
  have hud : du.length = l.length := by
    unfold ltE at h0
    rw [if_pos hc] at h0
    by_cases e : du.length = l.length
    · exact e
    · rw [if_neg e] at h0; cases h0
  have HV := hid (kCheck_any a A l o cap oc w h hO)
  rw [hc] at HV
  obtain ⟨hl, ho⟩ := chkE_ok hc
  have hol := ho.len
  have hl7 := hl.len
  have HR := hid (fun W (hb : Below w.heap.size w W) => kRun_any a A l o cap oc W (h.below hb) (hO.below hb) hl ho)
  have HU := hid hU
  have HM := hid (fun i (hi : i < o.length) => ho.mem (oAt_mem o i hi))
  have HF := hid (show ∀ k, duF o du (seqO l o) k = decide (oAt du (oAt o k).toNat < packTo (seqO l o) (k + 1)) from fun _ => rfl)
  have u1 : (du.length : Int) ≤ (l.length : Int) := by omega
  have u2 : (l.length : Int) ≤ (du.length : Int) := by omega
  have u3 : ((du.length : Int) != (l.length : Int)) = false := by simp; omega
  have o1 : o.length ≤ 7 := by omega
  have HOL := hid hol
  have HUD := hid hud
  have HBd := hid (refTo_bd o (duF o du (seqO l o)) l.length hl7)
  have HLn := hid (fun k => lateTo_len o (duF o du (seqO l o)) k)
  have HSo := hid (late_sorted ho (duF o du (seqO l o)))
  generalize hf : duF o du (seqO l o) = f at *
  generalize seqO l o = s at *
  clear h hO hU h0 hc hl ho hol hud hf
  go_enter Try.func37, Try.ntmps37
  go_wp2_with fail
  refine HV.out.mono ?_
  rintro e w1 ⟨hb1, rfl⟩
  have P1 := hid hb1
  clear hb1
  go_wp2_with fail
  refine (HR.out _ P1.out).mono ?_
  rintro e w2 ⟨hb2, A2, c2, rfl, hs2⟩
  have P2 := hid (P1.out.trans (hb2.mono P1.out.size))
  have S2 := hid hs2
  have U2 := hid (HU.out.below P2.out)
  clear hb2 hs2 HV HR HU
  go_wp2
  go_loopw [9, 27] (fun v i wr => ∃ (k : Nat), k ≤ o.length ∧ i = .int .i64 k ∧ Hid (Own wr w2.heap.size v (lateTo o f k)) ∧ Hid (Below w2.heap.size w2 wr)) (fun _ i _ => o.length - (intOf i).toNat)
  case atStart => exact ⟨0, Nat.zero_le _, rfl, Own.nil _ _, Below.refl _ _⟩
  case round =>
    obtain ⟨k, hk, rfl, HO, HB⟩ := hrel
    by_cases hlk : k < o.length
    · have hdk : decide (k < o.length) = true := decide_eq_true hlk
      have hm := HM.out k hlk
      obtain ⟨n, hnn⟩ := Int.eq_ofNat_of_zero_le hm.1
      rcases (S2.out.below HB.out).at_ with e | ⟨bs, os, rfl, hcs⟩
      · rw [e] at hlk; simp at hlk
      obtain ⟨c0, c1, c2', c3, c4⟩ := hcs k hlk
      obtain ⟨bd, od, rfl, d0⟩ : ∃ b off, D = some ⟨b, off, none⟩ ∧ wr.cell? ⟨b, off + n, none⟩ = some (.int .i64 (oAt du n)) := by
        rcases (U2.out.below HB.out).at_ with e | ⟨b, off, hb, hcd⟩
        · have := HUD.out; rw [e] at this; simp at this; omega
        · exact ⟨b, off, hb, hcd n (by have := HUD.out; omega)⟩
      have i2' : (0 : Int) ≤ (n : Int) := by omega
      have i3' : (n : Int) < (du.length : Int) := by have := HUD.out; omega
      have hbl := cell_lt d0
      dsimp only at hbl
      have HIn := hid (show lateTo o f (k + 1) = lateTo o f k ++ (if f k = true then [oAt o k] else []) from rfl)
      have HFk := hid (HF.out k)
      have hln := HLn.out k
      have hsz := HB.out.size
      rw [hnn] at HFk HIn c0
      rw [Int.toNat_natCast] at HFk
      have hb3 := (Below.refl wr.heap.size wr).alloc (Nat.le_refl _) (.cells #[.int .i64 (n : Int), .int .i64 (cookTo s k), .int .i64 (cookTo s (k + 1)), .int .i64 (max (cookTo s (k + 1)) (packTo s k)), .int .i64 (packTo s (k + 1))] 37)
      have hO3 := HO.out
      clear hnn hm hcs HM
      generalize packTo s (k + 1) = p at *
      generalize max (cookTo s (k + 1)) (packTo s k) = mm at *
      generalize cookTo s (k + 1) = ck1 at *
      generalize cookTo s k = ck at *
      generalize oAt du n = q at *
      generalize hfk : f k = fk at *
      clear hfk
      have H3 := hid hb3
      clear hb3
      by_cases hq : q < p
      · have HR2 := hid (show lateTo o f (k + 1) = lateTo o f k ++ [(n : Int)] by rw [HIn.out, if_pos (by rw [HFk.out, decide_eq_true hq])])
        generalize lateTo o f k = R at *
        clear HIn HFk
        go_wp2_with fail
        go_quiet (fail)
        have hb4 := below_drewN H3.out nq
        have O4 := hO3.below hb4
        have B4 := hid (HB.out.trans (hb4.mono hsz))
        have e0 : ((wr.alloc (.cells #[.int .i64 (n : Int), .int .i64 ck, .int .i64 ck1, .int .i64 mm, .int .i64 p] 37)).drewN nq).cell? ⟨wr.heap.size, 0, none⟩ = some (.int .i64 (n : Int)) := by
          show (wr.alloc _).cell? _ = _
          go_simp
        have hz4 : w2.heap.size ≤ ((wr.alloc (.cells #[.int .i64 (n : Int), .int .i64 ck, .int .i64 ck1, .int .i64 mm, .int .i64 p] 37)).drewN nq).heap.size := Nat.le_trans hsz hb4.size
        generalize (wr.alloc (.cells #[.int .i64 (n : Int), .int .i64 ck, .int .i64 ck1, .int .i64 mm, .int .i64 p] 37)).drewN nq = wd at *
        unfold Own at O4
        clear hb4 c0 c1 c2' c3 c4 d0
        go_wp2_with (at_builtin; refine wpList_append_own _ rfl _ _ 23 rfl w2.heap.size 3 i0 (.int .i64 0) 1 8 Try.underlying23 hinf hz0 hz1 hz2 rfl (by decide) _ _ _ rfl (O4.alloc _) ⟨wd.heap.size, 0, none⟩ 1 1 [.int .i64 (n : Int)] rfl rfl (news_at rfl #[.int .i64 (n : Int)] 3) (by simp [Value.oneCell']) (by unfold maxLen; omega) (by omega) (by rw [World.size_alloc]; omega) ?_)
        intro v' w6 hown2 hgrow _
        have hnb : ∀ q, some q = u9.ownBlock → w2.heap.size ≤ q ∧ q < wd.heap.size := fun q hq => O4.lt q hq.symm
        have B6 := hid ((B4.out.alloc hz4 _).grown hgrow (by rw [World.size_alloc]; omega) (fun q hq => (hnb q hq.symm).1))
        clear hnb hgrow O4
        have HOw : Hid (Own w6 w2.heap.size v' (R ++ [(n : Int)])) := by unfold Hid Own; simpa using hown2
        clear hown2
        go_wp2
        go_roundw
        case rel => exact ⟨k + 1, by omega, by go_num, by unfold Hid; rw [HR2.out]; exact HOw.out, B6⟩
        case measure => simp [intOf]; omega
      · have hq' : p ≤ q := by omega
        have HR2 := hid (show lateTo o f (k + 1) = lateTo o f k by rw [HIn.out, if_neg (by rw [HFk.out, decide_eq_false hq]; simp), List.append_nil])
        clear HIn HFk hq
        go_wp2_with fail
        go_quiet (fail)
        go_wp2
        go_roundw
        case rel => exact ⟨k + 1, by omega, by go_num, by unfold Hid; rw [HR2.out]; exact hO3.below (below_drewN H3.out _), HB.out.trans ((below_drewN H3.out _).mono hsz)⟩
        case measure => simp [intOf]; omega
    · obtain rfl : k = o.length := by omega
      have hdk : decide (o.length < o.length) = false := decide_eq_false (Nat.lt_irrefl _)
      have hln := HLn.out o.length
      obtain ⟨A3, c3, hv3, hcall⟩ := kSort_any w2.heap.size _ _ wr HO.out (by omega)
      subst hv3
      have hsl : (lateTo o f o.length).length = (refTo o f l.length).length := by rw [← HSo.out, List.length_mergeSort]
      rw [HSo.out] at hcall
      rw [hsl] at hcall
      have HC := hid hcall
      rw [hsl]
      have hrl : (refTo o f l.length).length ≤ 7 := by omega
      generalize refTo o f l.length = R at *
      clear hcall hsl HSo HO
      go_wp2_with fail
      refine HC.out.mono ?_
      rintro e w5 ⟨rfl, hb5, ho5⟩
      obtain ⟨A5, c5, hv5, hi5⟩ := ho5.ints (by omega) HBd.out
      have P5 := hid (P2.out.trans ((HB.out.trans hb5).mono P2.out.size))
      have HI5 := hid hi5
      simp only [Value.slice.injEq] at hv5
      obtain ⟨rfl, _, rfl⟩ := hv5
      clear hb5 ho5 hi5
      go_wp2
      go_ret2
      exact ⟨P5.out, A3, c3, rfl, HI5.out⟩
set_option maxRecDepth 100000 in
set_option maxHeartbeats 1000000 in
theorem kLate_bad (a A D : Option Addr) (l : List Bt) (o du : List Int) (cap oc dc : Nat) (w : World) (h : Bts w a l) (hO : Ints w A o) (hU : Ints w D du) (h0 : ¬ ltE l o du = 0) :
  Calls Try.prog 37 #[.slice a l.length cap, .slice A o.length oc, .slice D du.length dc] w (LErrQ w (ltE l o du)) := by
  have hlen := h.len
  have holen := hO.len
  have hulen := hU.len
  have HV := hid (kCheck_any a A l o cap oc w h hO)
  have HE := hid (show ltE l o du = if chkE l o = 0 then (if du.length = l.length then 0 else 1) else chkE l o from rfl)
  by_cases hc : chkE l o = 0
  · have hne : ¬ du.length = l.length := fun e => h0 (by rw [HE.out, if_pos hc, if_pos e])
    have HE2 := hid (show ltE l o du = 1 by rw [HE.out, if_pos hc, if_neg hne])
    have u3 : ((du.length : Int) != (l.length : Int)) = true := by simp; omega
    rw [hc] at HV
    clear h hO hU h0 hc hne HE
    go_enter Try.func37, Try.ntmps37
    go_wp2_with fail
    refine HV.out.mono ?_
    rintro e w1 ⟨hb1, rfl⟩
    have P1 := hid hb1
    clear hb1
    go_wp2
    go_ret2
    exact ⟨P1.out, by rw [HE2.out]; first | rfl | skip⟩
  · have HE2 := hid (show ltE l o du = chkE l o by rw [HE.out, if_neg hc])
    have h1 : (chkE l o != 0) = true := by simp [hc]
    clear h hO hU h0 hc HE
    generalize chkE l o = v at *
    go_enter Try.func37, Try.ntmps37
    go_wp2_with fail
    refine HV.out.mono ?_
    rintro e w1 ⟨hb1, rfl⟩
    have P1 := hid hb1
    clear hb1
    go_wp2
    go_ret2
    exact ⟨P1.out, by rw [HE2.out]; first | rfl | skip⟩
end Go.Proofs.Yteolckphafblmaa
