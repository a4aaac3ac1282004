/- The drive of a tour: package van. -/
import Derived.Test.YtbffdpcogfmomaaVaSt3
import Derived.Deep.AppendLies
set_option linter.unusedVariables false
namespace Go.Proofs.Ytbffdpcogfmomaa
open Go.RowKit

def stI (l : List St) (x : Int) : St := stAt l x.toNat
/-- When the van has left the first k stops. -/
def lv (t : Tbl) (l : List St) (o : List Int) (b : Int) : Nat → Int
  | 0 => b
  | k + 1 => max (lv t l o b k + tA t (lastP o k) (vAt o k)) (stI l (vAt o k)).op + (stI l (vAt o k)).sy
/-- When stop number k is served. -/
def ar (t : Tbl) (l : List St) (o : List Int) (b : Int) (k : Nat) : Int := max (lv t l o b k + tA t (lastP o k) (vAt o k)) (stI l (vAt o k)).op
theorem lv_succ (t : Tbl) (l : List St) (o : List Int) (b : Int) (k : Nat) : lv t l o b (k + 1) = ar t l o b k + (stI l (vAt o k)).sy := rfl
def backD (t : Tbl) (l : List St) (o : List Int) (b : Int) : Int := lv t l o b o.length + tA t (lastP o o.length) 0
/-- The cells of the first k visits. -/
def visC (t : Tbl) (l : List St) (o : List Int) (b : Int) : Nat → List Value
  | 0 => []
  | k + 1 => visC t l o b k ++ [.int .i64 (vAt o k), .int .i64 (ar t l o b k), .int .i64 (lv t l o b (k + 1))]
theorem visC_len (t : Tbl) (l : List St) (o : List Int) (b : Int) (k : Nat) : (visC t l o b k).length = k * 3 := by
  induction k with
  | zero => rfl
  | succ k ih => simp only [visC, List.length_append, List.length_cons, List.length_nil, ih]; omega
theorem visC_at (t : Tbl) (l : List St) (o : List Int) (b : Int) : ∀ (n k : Nat), k < n → (visC t l o b n)[k * 3]? = some (.int .i64 (vAt o k)) ∧ (visC t l o b n)[k * 3 + 1]? = some (.int .i64 (ar t l o b k)) ∧ (visC t l o b n)[k * 3 + 2]? = some (.int .i64 (lv t l o b (k + 1))) := by
  intro n
  induction n with
  | zero => intro k h; omega
  | succ n ih =>
    intro k h
    have hl := visC_len t l o b n
    rcases Nat.lt_or_ge k n with h1 | h1
    · obtain ⟨h2, h3, h4⟩ := ih k h1
      simp only [visC]
      rw [List.getElem?_append_left (by omega), List.getElem?_append_left (by omega), List.getElem?_append_left (by omega)]
      exact ⟨h2, h3, h4⟩
    · obtain rfl : k = n := by omega
      simp only [visC]
      rw [List.getElem?_append_right (by omega), List.getElem?_append_right (by omega), List.getElem?_append_right (by omega), hl]
      refine ⟨by simp, ?_, ?_⟩
      · rw [show k * 3 + 1 - k * 3 = 1 by omega]; rfl
      · rw [show k * 3 + 2 - k * 3 = 2 by omega]; rfl
theorem stI_ok {l : List St} {n : Nat} (h : StsOk l n) {x : Int} (hx : 0 ≤ x ∧ x < n) : (0 ≤ (stI l x).op ∧ (stI l x).op ≤ 10000) ∧ (0 ≤ (stI l x).cl ∧ (stI l x).cl ≤ 10000) ∧ (0 ≤ (stI l x).sy ∧ (stI l x).sy ≤ 10000) ∧ 0 ≤ (stI l x).bx ∧ (stI l x).bx ≤ 100 :=
  h.all _ (stAt_mem (by rw [h.len]; omega))
theorem lv_bd {t : Tbl} {l : List St} {o : List Int} {b : Int} (ht : Ways t) (hl : StsOk l t.length) (ho : StopsOk o t.length) (hb : 0 ≤ b ∧ b ≤ 10000) : ∀ k, k ≤ o.length → 0 ≤ lv t l o b k ∧ lv t l o b k ≤ 10000 + 21000 * k := by
  intro k
  induction k with
  | zero => intro _; simp only [lv]; omega
  | succ k ih =>
    intro hk
    have h1 := ih (by omega)
    have hp := lastP_in ho ht.pos (k := k) (by omega)
    have hx := ho _ (vAt_mem (o := o) (k := k) (by omega))
    have hw := ht.bdI _ (vAt o k) hp ⟨by omega, hx.2⟩
    have hs := stI_ok hl (x := vAt o k) ⟨by omega, hx.2⟩
    simp only [lv]
    omega
theorem visit_info : (Try.prog.info? 59).map (fun i => (i.zero, i.size, i.bytes)) = some (some (.agg #[.int .i64 0, .int .i64 0, .int .i64 0]), 3, 24) := by kernel_rfl
/-- What drive answers. -/
def DriveV (ty : TypeId) (t : Tbl) (l : List St) (o : List Int) (b : Int) (w : World) (en : Ending) (w' : World) : Prop :=
  Below w.heap.size w w' ∧ ∃ A c, en = .returned (.tuple #[.slice A o.length c, .int .i64 (backD t l o b)]) ∧ w'.ownsRow w.heap.size ty 3 (.slice A o.length c) o.length (visC t l o b o.length)
set_option maxRecDepth 100000 in
set_option maxHeartbeats 8000000 in
theorem vDrive_any (a A B : Option Addr) (t : Tbl) (l : List St) (o : List Int) (b : Int) (cap c d : Nat) (w : World) (h : TabAt w a t) (hs : StsAt w A l) (hi : Ints w B o) (ht : Ways t) (hl : StsOk l t.length) (ho : StopsOk o t.length) (hb : 0 ≤ b ∧ b ≤ 10000) (hol : o.length ≤ 100) :
  Calls Try.prog 77 #[.slice a t.length cap, .slice A l.length c, .slice B o.length d, .int .i64 b] w (DriveV 59 t l o b w) := by
  obtain ⟨i0, hinf, hz0, hz1, hz2⟩ := info_parts visit_info
  have hpos := ht.pos
  have hl7 := ht.len
  have HTab := hid h
  have HS := hid hs
  have HI := hid hi
  have HT := hid ht
  have HL := hid hl
  have HO := hid ho
  have HLv := hid (fun k hk => lv_bd ht hl ho hb k hk)
  have hll := hl.len
  have HLL := hid hll
  clear h hs hi ht hl ho hb hll
  go_enter Try.func77, Try.ntmps77
  go_wp2_with fail
  go_loopw [10, 11, 12, 19] (fun v p m i wr => ∃ (k : Nat), k ≤ o.length ∧ i = .int .i64 k ∧ p = .int .i64 (lastP o k) ∧ m = .int .i64 (lv t l o b k) ∧ Hid (wr.ownsRow w.heap.size 59 3 v k (visC t l o b k)) ∧ Hid (Below w.heap.size w wr)) (fun _ _ _ i _ => o.length - (intOf i).toNat)
  case atStart => exact ⟨0, Nat.zero_le _, rfl, rfl, rfl, ⟨rfl, .inl ⟨rfl, rfl⟩⟩, Below.refl _ _⟩
  case round =>
    obtain ⟨k, hk, rfl, rfl, rfl, HOw, HB⟩ := hrel
    have hp := lastP_in HO.out hpos hk
    have hm := HLv.out k hk
    obtain ⟨b1, o1, rfl, HC⟩ := (HTab.out.below HB.out).sq HT.out.sq hpos
    by_cases hlt : k < o.length
    · obtain ⟨b2, o2, rfl, hc2⟩ := (HI.out.below HB.out).at' (by omega)
      have c0 := hc2 k hlt
      rw [show o[k]?.getD 0 = vAt o k from rfl] at c0
      have hx := HO.out _ (vAt_mem hlt)
      have hw := HT.out.bdI _ (vAt o k) hp ⟨by omega, hx.2⟩
      have hst := stI_ok HL.out (x := vAt o k) ⟨by omega, hx.2⟩
      obtain ⟨b3, o3, rfl, hc3⟩ := (HS.out.below HB.out).open_ (by rw [HLL.out]; omega)
      have HA := hid (show ar t l o b k = max (lv t l o b k + tA t (lastP o k) (vAt o k)) (stI l (vAt o k)).op from rfl)
      have HN := hid (lv_succ t l o b k)
      have HV := hid (show visC t l o b (k + 1) = visC t l o b k ++ [.int .i64 (vAt o k), .int .i64 (ar t l o b k), .int .i64 (lv t l o b (k + 1))] from rfl)
      have HLa := hid (lastP_succ o k)
      have hn := HLv.out (k + 1) hlt
      rw [HN.out] at hn
      rw [HN.out] at HV
      obtain ⟨x, hx0⟩ : ∃ x, vAt o k = x := ⟨_, rfl⟩
      obtain ⟨q, hq0⟩ : ∃ q, lastP o k = q := ⟨_, rfl⟩
      rw [hx0] at c0 hx hw hst HA HN HV hn HLa
      rw [hq0] at hp hw HA
      obtain ⟨xn, rfl⟩ := Int.eq_ofNat_of_zero_le (show 0 ≤ x by omega)
      obtain ⟨qn, rfl⟩ := Int.eq_ofNat_of_zero_le hp.1
      obtain ⟨b4, o4, c4, g1, _, g2⟩ := HC qn (by omega)
      have g3 := g2 xn (by omega)
      obtain ⟨s0, _, s2, _⟩ := hc3 xn (by rw [HLL.out]; omega)
      rw [show stAt l xn = stI l (xn : Int) from rfl] at s0 s2
      have hOw := HOw.out
      obtain ⟨m0, hm0⟩ : ∃ m0, lv t l o b k = m0 := ⟨_, rfl⟩
      obtain ⟨e1, he1⟩ : ∃ e1, tA t (qn : Int) (xn : Int) = e1 := ⟨_, rfl⟩
      obtain ⟨so, hso⟩ : ∃ so, (stI l (xn : Int)).op = so := ⟨_, rfl⟩
      obtain ⟨ss, hss⟩ : ∃ ss, (stI l (xn : Int)).sy = ss := ⟨_, rfl⟩
      obtain ⟨pre, hpre⟩ : ∃ pre, visC t l o b k = pre := ⟨_, rfl⟩
      rw [hm0] at hm HA
      rw [he1] at hw g3 HA
      rw [hso] at s0 hst HA
      rw [hss] at s2 hst HN HV hn
      rw [HA.out] at HN HV hn
      have hcl := visC_len t l o b k
      rw [hpre] at hOw HV hcl
      rw [hm0, hq0]
      obtain ⟨⟨t1, t2⟩, _, ⟨t3, t4⟩, _⟩ := hst
      have HCL := hid hcl
      have q1 : (xn : Int) < (t.length : Int) := hx.2
      have q2 : (qn : Int) < (t.length : Int) := hp.2
      have q3 : (xn : Int) < (l.length : Int) := by rw [HLL.out]; exact hx.2
      have w1 : IntKind.i64.wrap (m0 + e1) = m0 + e1 := IntWalk.i64_in _ (by omega)
      have w2 : IntKind.i64.wrap (max (m0 + e1) so + ss) = max (m0 + e1) so + ss := IntWalk.i64_in _ (by omega)
      have hbs := HB.out.size
      clear hcl HOw HC hc2 hc3 g2 HA hx0 hq0 hm0 he1 hso hss hpre hx hp
      go_wp2_with fail
      go_region
      have s2' : wr.drew.cell? ⟨b3, o3 + xn * 4 + 2, none⟩ = some (.int .i64 ss) := s2
      have hOw' : wr.drew.ownsRow w.heap.size 59 3 u10 k pre := hOw
      have HBd := hid HB.out.drew
      have hbs' : w.heap.size ≤ wr.drew.heap.size := hbs
      clear s2 hOw hbs g1 g3 s0 c0 w1
      generalize wr.drew = w4 at *
      generalize max (m0 + e1) so = a1 at *
      go_wp2_with fail
      go_quiet (fail)
      have hOw5 : (w4.drewN nq).ownsRow w.heap.size 59 3 u10 k pre := hOw'
      have HB5 := hid (below_drewN HBd.out nq)
      have hbs5 : w.heap.size ≤ (w4.drewN nq).heap.size := hbs'
      clear s2' hOw' hbs' HBd
      generalize w4.drewN nq = w5 at *
      go_wp2_with (at_builtin; refine wpList_append_own _ rfl _ _ 51 rfl w.heap.size 59 i0 (.agg #[.int .i64 0, .int .i64 0, .int .i64 0]) 3 24 Try.underlying51 hinf hz0 hz1 hz2 rfl (by decide) _ _ _ rfl (hOw5.alloc _) ⟨w5.heap.size, 0, none⟩ 1 1 [.int .i64 (xn : Int), .int .i64 a1, .int .i64 (a1 + ss)] rfl rfl ?c1 ?c2 ?c3 ?c4 ?c5 ?_)
      case c1 => exact World.news_of_block (cs := #[.int .i64 (xn : Int), .int .i64 a1, .int .i64 (a1 + ss)]) (t := 59) (fr := (0, 0)) (heap_alloc_new w5 _)
      case c2 => simp [Value.oneCell']
      case c3 => unfold maxLen; omega
      case c4 => omega
      case c5 => simp; omega
      intro v' w6 hown6 hgrow6 _
      have p6 := hid ((HB5.out.alloc hbs5 (.cells #[.int .i64 (xn : Int), .int .i64 a1, .int .i64 (a1 + ss)] 59)).grown hgrow6 (by simp; omega) (fun q hq => by have := (hOw5.lt q hq).1; omega))
      have O6 := hid (show w6.ownsRow w.heap.size 59 3 v' (k + 1) (visC t l o b (k + 1)) by rw [HV.out]; exact hown6)
      clear hown6 hgrow6 hOw5
      go_wp2
      go_roundw
      case rel => exact ⟨k + 1, by omega, by go_num, by rw [HLa.out], by rw [HN.out], O6, p6⟩
      case measure => simp [intOf]; omega
    · obtain rfl : k = o.length := by omega
      have hOw := HOw.out
      obtain ⟨A9, c9, hv9⟩ : ∃ A9 c9, u10 = .slice A9 o.length c9 := by
        rcases hOw.2 with ⟨hv, hn⟩ | ⟨g, c, cur, hv, _⟩
        · exact ⟨none, 0, by rw [hv, hn]⟩
        · exact ⟨_, _, hv⟩
      subst hv9
      have HE := hid (show backD t l o b = lv t l o b o.length + tA t (lastP o o.length) 0 from rfl)
      have hw := HT.out.bdI _ 0 hp ⟨by omega, by omega⟩
      obtain ⟨q, hq0⟩ : ∃ q, lastP o o.length = q := ⟨_, rfl⟩
      obtain ⟨m0, hm0⟩ : ∃ m0, lv t l o b o.length = m0 := ⟨_, rfl⟩
      rw [hq0] at hp hw HE
      rw [hm0] at hm HE
      obtain ⟨qn, rfl⟩ := Int.eq_ofNat_of_zero_le hp.1
      obtain ⟨b4, o4, c4, g1, _, g2⟩ := HC qn (by omega)
      have g3 := g2 0 (by omega)
      rw [show tA t (qn : Int) ((0 : Nat) : Int) = tA t (qn : Int) 0 from rfl, Nat.add_zero] at g3
      obtain ⟨e1, he1⟩ : ∃ e1, tA t (qn : Int) 0 = e1 := ⟨_, rfl⟩
      rw [he1] at hw g3 HE
      rw [hm0, hq0]
      have q2 : (qn : Int) < (t.length : Int) := hp.2
      have q0 : (0 : Int) < (t.length : Int) := by omega
      have w1 : IntKind.i64.wrap (m0 + e1) = m0 + e1 := IntWalk.i64_in _ (by omega)
      have HOw2 := hid hOw
      clear HC g2 hq0 hm0 he1 hp hOw HOw
      go_wp2_with fail
      go_quiet (fail)
      go_wp2
      go_ret2
      exact ⟨below_drewN HB.out _, A9, c9, by rw [HE.out]; rfl, HOw2.out⟩
end Go.Proofs.Ytbffdpcogfmomaa
