/- Divisors that prove: areProved, isDivisorForm, Check of package share. -/
import Derived.Test.YtnjaacmcdkiilaaShT
import Derived.Test.YtnjaacmcdkiilaaShV
set_option linter.unusedVariables false
namespace Go.Proofs.Ytnjaacmcdkiilaa
open Go.RowKit

def unitV (kind : Int) : Int := if kind = 1 then 2 else 1
theorem unitV_bd (kind : Int) : 1 ≤ unitV kind ∧ unitV kind ≤ 2 := by unfold unitV; split <;> omega
def provA (u p q : Int) (c : ClaimL) : Bool := decide (c.2.2 * p ≤ c.2.1 * u * q)
def provB (u p q : Int) (c : ClaimL) : Bool := decide (c.2.1 * u * q ≤ c.2.2 * p)
def provM (kind : Int) (os ms : List Int) (p q : Int) : Bool := (heldL kind os ms).all (provA (unitV kind) p q) && (nextL kind os ms).all (provB (unitV kind) p q)
def formB (p q : Int) : Bool := inW p 1 1000000000 && inW q 1 1000000000 && decide (Nat.gcd p.toNat q.toNat = 1)
def checkE (os ms : List Int) (kind p q : Int) : Int := if goodV os ms kind = false then 1 else if formB p q = false then 1 else if provM kind os ms p q = false then 8 else 0
theorem all_dropC (f : ClaimL → Bool) (l : List ClaimL) (k : Nat) (h : k < l.length) : (l.drop k).all f = (f (clAt l k) && (l.drop (k + 1)).all f) := by
  unfold clAt
  rw [List.drop_eq_getElem_cons h, List.getElem?_eq_getElem h]; rfl
theorem stepsV_form2 (kind : Int) : ∃ K, stepsV kind = .agg #[.func (.func K) #[] #[], .int .i64 (unitV kind)] := ⟨_, rfl⟩

set_option maxRecDepth 100000 in
set_option maxHeartbeats 4000000 in
theorem areProved_any (kind : Int) (oa ma : Option Addr) (os ms : List Int) (oc mc : Nat) (p q : Int) (w : World) (ho : Ints w oa os) (hm : Ints w ma ms) (g1 : okO os = true) (g2 : okMs os ms = true) (g3 : okK kind = true) (p1 : 1 ≤ p) (p2 : p ≤ 1000000000) (q1 : 1 ≤ q) (q2 : q ≤ 1000000000) :
  Calls Try.prog 58 #[stepsV kind, .slice oa os.length oc, .slice ma ms.length mc, .agg #[.int .i64 p, .int .i64 q]] w (BoolR w (provM kind os ms p q)) := by
  obtain ⟨K, hs⟩ := stepsV_form2 kind
  have hub := unitV_bd kind
  have hB0 := ((Below.refl w.heap.size w).alloc (Nat.le_refl _) (.cells #[.func (.func K) #[] #[], .int .i64 (unitV kind)] 70)).alloc (by simp) (.cells #[.int .i64 p, .int .i64 q] 39)
  have HC := hid (fun (w' : World) (hb : Below w.heap.size w w') => held_any kind oa ma os ms oc mc w' (ho.below hb) (hm.below hb) g1 g2 g3)
  have HNx := hid (fun (w' : World) (hb : Below w.heap.size w w') => next_any kind oa ma os ms oc mc w' (ho.below hb) (hm.below hb) g1 g2 g3)
  rw [show heldTo kind os ms os.length = heldL kind os ms from rfl] at HC
  rw [show nextTo kind os ms os.length = nextL kind os ms from rfl] at HNx
  have hgd : ∀ c ∈ heldL kind os ms, GoodC c := heldTo_good g1 g2 _ (Nat.le_refl _)
  have hgn : ∀ c ∈ nextL kind os ms, GoodC c := nextTo_good g1 g2 _ (Nat.le_refl _)
  have hlen8 : (heldL kind os ms).length ≤ os.length := heldTo_len _ _ _ _
  have hnl : (nextL kind os ms).length ≤ os.length := Nat.le_of_eq (nextTo_len _ _ _ _)
  have h8 := (okO_len g1).2.1
  have HP := hid (show provM kind os ms p q = ((heldL kind os ms).all (provA (unitV kind) p q) && (nextL kind os ms).all (provB (unitV kind) p q)) from rfl)
  have HGd := hid (fun k hk => hgd _ (clAt_mem _ k hk))
  have HGn := hid (fun k hk => hgn _ (clAt_mem _ k hk))
  rw [hs] at HC HNx ⊢
  clear ho hm g1 g2 g3 hs hgd hgn
  generalize heldL kind os ms = l at *
  generalize nextL kind os ms = ln at *
  generalize unitV kind = u at *
  generalize provM kind os ms p q = res at *
  have hc0 : ((w.alloc (.cells #[.func (.func K) #[] #[], .int .i64 u] 70)).alloc (.cells #[.int .i64 p, .int .i64 q] 39)).cell? ⟨w.heap.size, 0, none⟩ = some (.func (.func K) #[] #[]) := by go_simp
  have hc1 : ((w.alloc (.cells #[.func (.func K) #[] #[], .int .i64 u] 70)).alloc (.cells #[.int .i64 p, .int .i64 q] 39)).cell? ⟨w.heap.size, 1, none⟩ = some (.int .i64 u) := by go_simp
  have hc2 : ((w.alloc (.cells #[.func (.func K) #[] #[], .int .i64 u] 70)).alloc (.cells #[.int .i64 p, .int .i64 q] 39)).cell? ⟨w.heap.size + 1, 0, none⟩ = some (.int .i64 p) := by go_simp
  have hc3 : ((w.alloc (.cells #[.func (.func K) #[] #[], .int .i64 u] 70)).alloc (.cells #[.int .i64 p, .int .i64 q] 39)).cell? ⟨w.heap.size + 1, 1, none⟩ = some (.int .i64 q) := by go_simp
  go_enter Try.func58, Try.ntmps58
  go_wp2_with fail
  generalize hwb : (w.alloc (.cells #[.func (.func K) #[] #[], .int .i64 u] 70)).alloc (.cells #[.int .i64 p, .int .i64 q] 39) = wb at *
  have hwbs : wb.heap.size = w.heap.size + 1 + 1 := by rw [← hwb]; simp
  clear hwb
  have hwl : w.heap.size + 1 < wb.heap.size := by omega
  have hwl0 : w.heap.size < wb.heap.size := by omega
  have HW := hid (fun (w' : World) (hb : Below wb.heap.size wb w') => (show w'.cell? ⟨w.heap.size, 0, none⟩ = some (.func (.func K) #[] #[]) ∧ w'.cell? ⟨w.heap.size, 1, none⟩ = some (.int .i64 u) ∧ w'.cell? ⟨w.heap.size + 1, 0, none⟩ = some (.int .i64 p) ∧ w'.cell? ⟨w.heap.size + 1, 1, none⟩ = some (.int .i64 q) from ⟨by rw [hb.cell hwl0]; exact hc0, by rw [hb.cell hwl0]; exact hc1, by rw [hb.cell hwl]; exact hc2, by rw [hb.cell hwl]; exact hc3⟩))
  clear hc0 hc1 hc2 hc3 hwbs
  refine (HC.out _ hB0).mono ?_
  rintro e w1 ⟨z1, A, c, rfl, hA⟩
  have HA := hid hA
  clear hA
  have hs1 := z1.size
  go_wp2
  go_loopw [18] (fun i wr => ∃ k : Nat, k ≤ l.length ∧ i = .int .i64 (k : Int) ∧ Hid (l.all (provA u p q) = (l.drop k).all (provA u p q)) ∧ Below w1.heap.size w1 wr) (fun i _ => l.length - (intOf i).toNat)
  case atStart => exact ⟨0, Nat.zero_le _, rfl, rfl, Below.refl _ _⟩
  case round =>
    obtain ⟨k, hk, rfl, HS, hB⟩ := hrel
    have hB1 := z1.trans (hB.mono hs1)
    have hsr := hB1.size
    by_cases hlt : k < l.length
    · rcases (HA.out.below hB).at_ with e | ⟨b, off, rfl, hc⟩
      · rw [e] at hlt; simp at hlt
      obtain ⟨d0, d1, d2⟩ := hc k hlt
      have hg := HGd.out k hlt
      have HD := hid (all_dropC (provA u p q) l k hlt)
      obtain ⟨f0, f1, f2, f3⟩ := HW.out _ hB1
      have hn1 : w.heap.size + 1 < wr.heap.size := by omega
      have hn0 : w.heap.size < wr.heap.size := by omega
      have hk1 : (k : Int) < (l.length : Int) := by omega
      have hk0 : (0 : Int) ≤ (k : Int) := by omega
      clear hc f0
      generalize clAt l k = x at *
      obtain ⟨s, v, t⟩ := x
      obtain ⟨_, ⟨v1, v2⟩, t1, t2⟩ := hg
      dsimp only at d0 d1 d2 v1 v2 t1 t2
      have b1 := mul_bd t1 t2 (by omega : 0 ≤ p) p2
      have b2 := mul_bd (by omega : 0 ≤ v) v2 (by omega : 0 ≤ u) hub.2
      have b3 := mul_bd b2.1 b2.2 (by omega : 0 ≤ q) q2
      have HPe := hid (show provA u p q (s, v, t) = decide (t * p ≤ v * u * q) from rfl)
      have hbk := cell_lt d0
      have pA := hB.alloc hB.size (.cells #[.int .i64 s, .int .i64 v, .int .i64 t] 76)
      by_cases hle : t * p ≤ v * u * q
      · have HX := hid hle
        go_wp2
        go_roundw
        case rel => exact ⟨k + 1, by omega, by go_num, by unfold Hid; rw [HS.out, HD.out, HPe.out, decide_eq_true HX.out]; rfl, pA⟩
        case measure => simp [intOf]; omega
      · have HX := hid hle
        have hle' : v * u * q < t * p := by omega
        clear hle
        have HF := hid (show res = false by rw [HP.out, HS.out, HD.out, HPe.out, decide_eq_false (by have := HX.out; omega)]; rfl)
        go_wp2
        go_ret
        exact ⟨hB0.trans ((z1.trans (pA.mono hs1)).mono (by omega)), by rw [HF.out]; rfl⟩
    · obtain rfl : k = l.length := by omega
      have HP1 := hid (show res = ln.all (provB u p q) by rw [HP.out, HS.out, List.drop_of_length_le (by omega)]; rfl)
      obtain ⟨f0, f1, f2, f3⟩ := HW.out _ hB1
      clear HP HS
      go_wp2_with fail
      refine (HNx.out _ (hB0.trans (hB1.mono (by omega)))).mono ?_
      rintro e w2 ⟨z2, A2, c2, rfl, hA2⟩
      have hB2 := hB1.trans (z2.mono hsr)
      have hs2 := hB2.size
      have HA2 := hid hA2
      clear hA2 f0 f1 f2 f3
      go_wp2
      go_loopw [42] (fun i wr => ∃ k : Nat, k ≤ ln.length ∧ i = .int .i64 (k : Int) ∧ Hid (ln.all (provB u p q) = (ln.drop k).all (provB u p q)) ∧ Below w2.heap.size w2 wr) (fun i _ => ln.length - (intOf i).toNat)
      case atStart => exact ⟨0, Nat.zero_le _, rfl, rfl, Below.refl _ _⟩
      case round =>
        obtain ⟨k, hk, rfl, HS, hB3⟩ := hrel
        have hB4 := hB2.trans (hB3.mono hs2)
        have hsr4 := hB4.size
        by_cases hlt : k < ln.length
        · rcases (HA2.out.below hB3).at_ with e | ⟨b, off, rfl, hc⟩
          · rw [e] at hlt; simp at hlt
          obtain ⟨d0, d1, d2⟩ := hc k hlt
          have hg := HGn.out k hlt
          have HD := hid (all_dropC (provB u p q) ln k hlt)
          obtain ⟨f0, f1, f2, f3⟩ := HW.out _ hB4
          have hn1 : w.heap.size + 1 < wr.heap.size := by omega
          have hn0 : w.heap.size < wr.heap.size := by omega
          have hk1 : (k : Int) < (ln.length : Int) := by omega
          have hk0 : (0 : Int) ≤ (k : Int) := by omega
          clear hc f0
          generalize clAt ln k = x at *
          obtain ⟨s, v, t⟩ := x
          obtain ⟨_, ⟨v1, v2⟩, t1, t2⟩ := hg
          dsimp only at d0 d1 d2 v1 v2 t1 t2
          have b1 := mul_bd t1 t2 (by omega : 0 ≤ p) p2
          have b2 := mul_bd (by omega : 0 ≤ v) v2 (by omega : 0 ≤ u) hub.2
          have b3 := mul_bd b2.1 b2.2 (by omega : 0 ≤ q) q2
          have HPe := hid (show provB u p q (s, v, t) = decide (v * u * q ≤ t * p) from rfl)
          have hbk := cell_lt d0
          have pA := hB3.alloc hB3.size (.cells #[.int .i64 s, .int .i64 v, .int .i64 t] 76)
          by_cases hle : v * u * q ≤ t * p
          · have HX := hid hle
            go_wp2
            go_roundw
            case rel => exact ⟨k + 1, by omega, by go_num, by unfold Hid; rw [HS.out, HD.out, HPe.out, decide_eq_true HX.out]; rfl, pA⟩
            case measure => simp [intOf]; omega
          · have HX := hid hle
            have hle' : t * p < v * u * q := by omega
            clear hle
            have HF := hid (show res = false by rw [HP1.out, HS.out, HD.out, HPe.out, decide_eq_false (by have := HX.out; omega)]; rfl)
            go_wp2
            go_ret
            exact ⟨hB0.trans ((hB2.trans (pA.mono hs2)).mono (by omega)), by rw [HF.out]; rfl⟩
        · obtain rfl : k = ln.length := by omega
          have HF := hid (show res = true by rw [HP1.out, HS.out, List.drop_of_length_le (by omega)]; rfl)
          go_wp2
          go_ret
          exact ⟨hB0.trans (hB4.mono (by omega)), by rw [HF.out]; rfl⟩
end Go.Proofs.Ytnjaacmcdkiilaa
