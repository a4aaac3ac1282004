/- The Go function Menus of package dish. -/
import Derived.Test.YtdgleicpcjfnoaaTable
set_option linter.unusedVariables false
namespace Go.Proofs.Ytdgleicpcjfnoaa
open Go.RowKit

def OwnERs (w : World) (base : Nat) (p : List Int × Int) (en : Ending) (w' : World) : Prop :=
  Below w.heap.size w w' ∧ ∃ A c, en = .returned (.tuple #[.slice A p.1.length c, .int .i64 p.2]) ∧ Own w' base (.slice A p.1.length c) p.1
theorem own_sl {w : World} {base : Nat} {v : Value} {xs : List Int} (h : Own w base v xs) : ∃ A c, v = .slice A xs.length c := by
  rcases h.2 with ⟨hv, hn⟩ | ⟨g, c, cur, hv, _⟩
  · exact ⟨none, 0, by rw [hv, hn]⟩
  · exact ⟨_, _, hv⟩

set_option maxRecDepth 100000 in
set_option maxHeartbeats 4000000 in
theorem tmenus_any (a : Option Addr) (rows : List Int) (cap : Nat) (d : Int) (w : World) (h : Ints w a rows) :
  Calls Try.prog 44 #[.slice a rows.length cap, .int .i64 d] w (OwnERs w w.heap.size (menusR rows d)) := by
  have HV := hid (validTab_any a rows cap d · )
  by_cases hz : validTab rows d = 0
  · obtain ⟨h0, h8, hr8, hrr⟩ := validTab_ok hz
    have HM := hid (show menusR rows d = (menusTo rows (2 ^ d.toNat), 0) by rw [menusR, if_neg (by simp [hz])])
    have HZ := hid hz
    obtain ⟨n, rfl⟩ := Int.eq_ofNat_of_zero_le h0
    rw [Int.toNat_natCast] at HM
    have hp := pow_le_256 h0 h8
    rw [Int.toNat_natCast] at hp
    have HP := hid (show wrap64 (2 ^ n) = ((2 ^ n : Nat) : Int) by
      have : ((2 : Int) ^ n) = ((2 ^ n : Nat) : Int) := by simp
      rw [wrap64, this]
      generalize 2 ^ n = p at *
      omega)
    have HRr := hid (fun x hx => (hrr x hx).1)
    obtain ⟨i0, hi, hz0, hz1, hz2⟩ := info_parts int_info
    clear hz hrr
    have HH := hid h
    go_enter Try.func44, Try.ntmps44
    go_wp2_with fail
    refine (HV.out _ h).mono ?_
    rintro e w' ⟨rfl, rfl⟩
    rw [HZ.out]
    clear HV h
    go_wp2
    rw [HP.out]
    generalize 2 ^ n = N at *
    go_loopw [7, 17] (fun o i wr => ∃ j : Nat, j ≤ N ∧ i = .int .i64 j ∧ wr.ownsRow w.heap.size 3 1 o (menusTo rows j).length ((menusTo rows j).map (Value.int .i64)) ∧ Below w.heap.size w wr) (fun _ i _ => N - (intOf i).toNat)
    case atStart => exact ⟨0, Nat.zero_le _, rfl, ⟨rfl, .inl ⟨rfl, rfl⟩⟩, Below.refl _ _⟩
    case round =>
      obtain ⟨j, hj, rfl, hown, hB⟩ := hrel
      by_cases hlt : j < N
      · have hlen := menusTo_len rows j
        have hI := HH.out.below hB
        have hlt' : (j : Int) < (N : Int) := by omega
        cases hf : feedsB j rows with
        | false =>
          have HT := hid (show menusTo rows (j + 1) = menusTo rows j by rw [menusTo, if_neg (by simp [goodMenu, hf])]; simp)
          generalize menusTo rows j = pre at *
          go_wp2_with fail
          refine (feeds_any _ _ _ j _ hI HRr.out (by omega)).mono ?_
          rintro e w' ⟨rfl, rfl⟩
          rw [hf]
          go_wp2
          go_roundw
          case rel => exact ⟨j + 1, by omega, by go_num, by rw [HT.out]; exact hown, hB⟩
          case measure => simp [intOf]; omega
        | true =>
          cases hs : spareB rows j (numsL j) with
          | true =>
            have HT := hid (show menusTo rows (j + 1) = menusTo rows j by
              have : goodMenu rows j = false := by rw [goodMenu, hf, show bitsTo j 64 = numsL j from rfl, hs]; rfl
              rw [menusTo, if_neg (by simp [this])]; simp)
            generalize menusTo rows j = pre at *
            go_wp2_with fail
            refine (feeds_any _ _ _ j _ hI HRr.out (by omega)).mono ?_
            rintro e w' ⟨rfl, rfl⟩
            rw [hf]
            go_wp2_with fail
            refine (hasSpare_any _ _ _ j _ hI HRr.out (by omega)).mono ?_
            rintro e w2 ⟨q2, rfl⟩
            rw [hs]
            have hown2 := own_below hown q2
            have p2 := hB.trans (q2.mono hB.size)
            go_wp2
            go_roundw
            case rel => exact ⟨j + 1, by omega, by go_num, by rw [HT.out]; exact hown2, p2⟩
            case measure => simp [intOf]; omega
          | false =>
            have HT := hid (show menusTo rows (j + 1) = menusTo rows j ++ [(j : Int)] by
              have : goodMenu rows j = true := by rw [goodMenu, hf, show bitsTo j 64 = numsL j from rfl, hs]; rfl
              rw [menusTo, if_pos this])
            generalize menusTo rows j = pre at *
            go_wp2_with fail
            refine (feeds_any _ _ _ j _ hI HRr.out (by omega)).mono ?_
            rintro e w' ⟨rfl, rfl⟩
            rw [hf]
            go_wp2_with fail
            refine (hasSpare_any _ _ _ j _ hI HRr.out (by omega)).mono ?_
            rintro e w2 ⟨q2, rfl⟩
            rw [hs]
            have hown2 := own_below hown q2
            have p2 := hB.trans (q2.mono hB.size)
            clear hown hI hf hs
            go_wp2_with (at_builtin; refine wpList_append_own _ rfl _ _ 32 rfl w.heap.size 3 i0 (.int .i64 0) 1 8 Try.underlying32 hi hz0 hz1 hz2 rfl (by decide) _ _ _ rfl (hown2.alloc _) ⟨w2.heap.size, 0, none⟩ 1 1 [.int .i64 (j : Int)] rfl rfl ?c1 ?c2 ?c3 ?c4 ?c5 ?_)
            case c1 => exact cell_one_new _ _ _
            case c2 => simp [Value.oneCell']
            case c3 => unfold maxLen; omega
            case c4 => omega
            case c5 => have := p2.size; simp; omega
            intro v' w4 hown3 hgrow _
            have p4 := (p2.alloc p2.size _).grown hgrow (by have := p2.size; simp; omega) (fun q hq => by have := (hown2.lt q hq).1; omega)
            clear hgrow hown2
            go_wp2
            go_roundw
            case rel => exact ⟨j + 1, by omega, by go_num, by rw [HT.out]; simpa using hown3, p4⟩
            case measure => simp [intOf]; omega
      · obtain rfl : j = N := by omega
        have hown' : Own wr w.heap.size u7 (menusTo rows j) := hown
        clear hown
        obtain ⟨A, c, rfl⟩ := own_sl hown'
        go_wp2
        refine bodyPost_ret (v := .tuple #[.slice A (menusTo rows j).length c, .int .i64 0]) (by simp [results, Try.results44, go_sem]) rfl ⟨hB, A, c, by rw [HM.out], by rw [HM.out]; exact hown'⟩
  · have hz' : (validTab rows d != 0) = true := by simp [hz]
    have HM := hid (show menusR rows d = ([], validTab rows d) by rw [menusR, if_pos hz])
    clear hz
    go_enter Try.func44, Try.ntmps44
    go_wp2_with fail
    refine (HV.out _ h).mono ?_
    rintro e w' ⟨rfl, rfl⟩
    go_wp2
    refine bodyPost_ret (v := .tuple #[.slice none 0 0, .int .i64 (validTab rows d)]) (by simp [results, Try.results44, go_sem]) rfl ⟨Below.refl _ _, none, 0, by rw [HM.out]; rfl, by rw [HM.out]; exact Own.nil _ _⟩

end Go.Proofs.Ytdgleicpcjfnoaa
