/- The document's own menus of a table (canteenref02.Menus). -/
import Derived.Test.YtdmoaofbijgeeabRTable
set_option linter.unusedVariables false
namespace Go.Proofs.Ytdmoaofbijgeeab
open Go.RowKit

theorem shr_bit (m x : Nat) (hm : m < 256) (hx : x < 8) : (bits .and .i64 ((m : Int) / 2 ^ x) 1 = 0) ↔ m.testBit x = false := by
  have e : ((m : Int) / 2 ^ x) = ((m / 2 ^ x : Nat) : Int) := by rw [Int.natCast_ediv]; simp
  have hl : m / 2 ^ x < 9223372036854775808 := Nat.lt_of_le_of_lt (Nat.div_le_self _ _) (by omega)
  rw [e, show (1 : Int) = ((1 : Nat) : Int) from rfl, i64_and_n _ _ hl (by omega), Nat.and_one_is_mod]
  have hb : (m / 2 ^ x % 2 = 1) = (m.testBit x = true) := bit_all ⟨m, hm⟩ ⟨x, hx⟩
  generalize m / 2 ^ x = q at *
  cases h : m.testBit x with
  | true =>
    have : q % 2 = 1 := by rw [hb]; exact h
    simp [this]
  | false =>
    have : ¬ q % 2 = 1 := by rw [hb, h]; simp
    simp; omega
theorem sub_bit (m x : Nat) (hm : m < 256) (hx : x < 8) (hb : m.testBit x = true) : wrap64 ((m : Int) - wrap64 (2 ^ x)) = ((without m x : Nat) : Int) := by
  obtain ⟨h1, h2⟩ := without_sub m x hm hx hb
  rw [pow_wrap x (by omega), h1]
  generalize 2 ^ x = p at *
  rw [wrap64]
  omega

set_option maxRecDepth 100000 in
set_option maxHeartbeats 4000000 in
theorem rmenus_any (a : Option Addr) (rows : List Int) (cap : Nat) (d : Int) (w : World) (h : Ints w a rows) :
  Calls Try.prog 8 #[.slice a rows.length cap, .int .i64 d] w (OwnERs w w.heap.size (menusR rows d)) := by
  have HV := hid (rvalidTab_any a rows cap d · )
  by_cases hz : validTab rows d = 0
  · obtain ⟨h0, h8, hr8, hrr⟩ := validTab_ok hz
    have HM := hid (show menusR rows d = (menusTo rows (2 ^ d.toNat), 0) by rw [menusR, if_neg (by simp [hz])])
    have HZ := hid hz
    obtain ⟨n, rfl⟩ := Int.eq_ofNat_of_zero_le h0
    rw [Int.toNat_natCast] at HM
    have hp := pow_le_256 h0 h8
    rw [Int.toNat_natCast] at hp
    have HP := hid (pow_wrap n (by omega))
    have HPN := hid (Nat.le_refl (2 ^ n))
    have HRr := hid (fun x hx => (hrr x hx).1)
    obtain ⟨i0, hi, hz0, hz1, hz2⟩ := info_parts int_info
    clear hz hrr
    have HH := hid h
    go_enter Try.func8, Try.ntmps8
    go_wp2_with fail
    refine (HV.out _ h).mono ?_
    rintro e w1 ⟨q1, rfl⟩
    rw [HZ.out]
    clear HV
    have HI1 := hid (h.below q1)
    clear h
    go_wp2
    go_loopw [7, 8] (fun o i wr => ∃ j : Nat, j ≤ 2 ^ n ∧ i = .int .i64 j ∧ Own wr w.heap.size o (menusTo rows j) ∧ Below w.heap.size w wr) (fun _ i _ => 2 ^ n - (intOf i).toNat)
    case atStart => exact ⟨0, Nat.zero_le _, rfl, ⟨rfl, .inl ⟨rfl, rfl⟩⟩, q1⟩
    case round =>
      obtain ⟨j, hj, rfl, hown, hB⟩ := hrel
      by_cases hlt : j < 2 ^ n
      · have hltw : (j : Int) < wrap64 (2 ^ n) := by rw [HP.out]; omega
        have hI := HH.out.below hB
        have HG := hid (goodMenu_rok rows j n hlt (by omega))
        have hlen := menusTo_len rows j
        have HT := hid (show menusTo rows (j + 1) = menusTo rows j ++ (if rokTo rows j n then [(j : Int)] else []) by rw [menusTo, HG.out])
        have hj256 : j < 256 := by omega
        generalize menusTo rows j = pre at *
        go_wp2_with fail
        refine (rfeeds_any _ _ _ j _ hI HRr.out (by omega)).mono ?_
        rintro e w' ⟨rfl, rfl⟩
        have hF : feedsB j rows = rokTo rows j 0 := rfl
        rw [hF]
        clear hF
        go_wp2
        obtain ⟨wo, rfl⟩ : ∃ wo : World, wo = wr := ⟨_, rfl⟩
        go_loopw [9, 10] (fun v i w2 => ∃ k : Nat, k ≤ n ∧ v = .bool (rokTo rows j k) ∧ i = .int .i64 k ∧ Below wo.heap.size wo w2) (fun _ i _ => n - (intOf i).toNat)
        case atStart => exact ⟨0, Nat.zero_le _, rfl, rfl, Below.refl _ _⟩
        case round =>
          obtain ⟨k, hk, rfl, rfl, hB2⟩ := hrel
          by_cases hkn : k < n
          · have HK := hid (show rokTo rows j (k + 1) = (rokTo rows j k && (!j.testBit k || !feedsB (without j k) rows)) from rfl)
            cases hr : rokTo rows j k with
            | true =>
              cases hb : j.testBit k with
              | true =>
                have hbit : ¬ bits .and .i64 ((j : Int) / 2 ^ k) 1 = 0 := by rw [shr_bit j k hj256 (by omega), hb]; simp
                have HS := hid (sub_bit j k hj256 (by omega) hb)
                have hwl := without_lt j k (by omega)
                go_wp2_with fail
                rw [HS.out]
                refine (rfeeds_any _ _ _ _ _ (hI.below hB2) HRr.out hwl).mono ?_
                rintro e w' ⟨rfl, rfl⟩
                have HK2 := hid (show rokTo rows j (k + 1) = !feedsB (without j k) rows by rw [HK.out, hr, hb]; rfl)
                generalize feedsB (without j k) rows = fb at *
                go_wp2
                go_roundw
                case rel => exact ⟨k + 1, by omega, by rw [HK2.out]; simp [hbit], by go_num, hB2⟩
                case measure => simp [intOf]; omega
              | false =>
                have hbit : bits .and .i64 ((j : Int) / 2 ^ k) 1 = 0 := by rw [shr_bit j k hj256 (by omega), hb]
                have HK2 := hid (show rokTo rows j (k + 1) = true by rw [HK.out, hr, hb]; rfl)
                go_wp2
                go_roundw
                case rel => exact ⟨k + 1, by omega, by rw [HK2.out], by go_num, hB2⟩
                case measure => simp [intOf]; omega
            | false =>
              have HF := hid (rokTo_stop hr hk)
              have HT2 := hid (show menusTo rows (j + 1) = pre by rw [HT.out, if_neg (by rw [HF.out]; simp)]; simp)
              go_wp2
              go_roundw
              case rel => exact ⟨j + 1, by omega, by go_num, by rw [HT2.out]; exact hown.below hB2, hB.trans (hB2.mono hB.size)⟩
              case measure => simp [intOf]; omega
          · obtain rfl : k = n := by omega
            cases hr : rokTo rows j k with
            | true =>
              have HT2 := hid (show menusTo rows (j + 1) = pre ++ [(j : Int)] by rw [HT.out, if_pos hr])
              have hown2 := hown.below hB2
              have p2 := hB.trans (hB2.mono hB.size)
              clear hown hI
              unfold Own at hown2
              go_wp2_with (at_builtin; refine wpList_append_own _ rfl _ _ 22 rfl w.heap.size 3 i0 (.int .i64 0) 1 8 Try.underlying22 hi hz0 hz1 hz2 rfl (by decide) _ _ _ rfl (hown2.alloc _) ⟨wr.heap.size, 0, none⟩ 1 1 [.int .i64 (j : Int)] rfl rfl ?c1 ?c2 ?c3 ?c4 ?c5 ?_)
              case c1 => exact cell_one_new _ _ _
              case c2 => simp [Value.oneCell']
              case c3 => unfold maxLen; omega
              case c4 => omega
              case c5 => have := p2.size; simp; omega
              intro v' w4 hown3 hgrow _
              have p4 := (p2.alloc p2.size _).grown hgrow (by have := p2.size; simp; omega) (fun q hq => by have := (hown2.lt q hq).1; omega)
              clear hgrow hown2
              go_wp2
              go_roundw
              case rel => exact ⟨j + 1, by omega, by go_num, by rw [HT2.out]; unfold Own; simpa using hown3, p4⟩
              case measure => simp [intOf]; omega
            | false =>
              have HT2 := hid (show menusTo rows (j + 1) = pre by rw [HT.out, if_neg (by rw [hr]; simp)]; simp)
              go_wp2
              go_roundw
              case rel => exact ⟨j + 1, by omega, by go_num, by rw [HT2.out]; exact hown.below hB2, hB.trans (hB2.mono hB.size)⟩
              case measure => simp [intOf]; omega
      · obtain rfl : j = 2 ^ n := by omega
        have hltw : ¬ ((2 ^ n : Nat) : Int) < wrap64 (2 ^ n) := by rw [HP.out]; omega
        have hown' : Own wr w.heap.size u7 (menusTo rows (2 ^ n)) := hown
        clear hown
        obtain ⟨A, c, rfl⟩ := own_sl hown'
        generalize 2 ^ n = N at *
        go_wp2
        refine bodyPost_ret (v := .tuple #[.slice A (menusTo rows N).length c, .int .i64 0]) (by simp [results, Try.results8, go_sem]) rfl ⟨hB, A, c, by rw [HM.out], by rw [HM.out]; exact hown'⟩
  · have hz' : (validTab rows d != 0) = true := by simp [hz]
    have HM := hid (show menusR rows d = ([], validTab rows d) by rw [menusR, if_pos hz])
    clear hz
    go_enter Try.func8, Try.ntmps8
    go_wp2_with fail
    refine (HV.out _ h).mono ?_
    rintro e w' ⟨q1, rfl⟩
    generalize validTab rows d = x at *
    go_wp2
    refine bodyPost_ret (v := .tuple #[.slice none 0 0, .int .i64 x]) (by simp [results, Try.results8, go_sem]) rfl ⟨q1, none, 0, by rw [HM.out]; rfl, by rw [HM.out]; exact Own.nil _ _⟩

end Go.Proofs.Ytdmoaofbijgeeab
