/- Dividing by remainders: package share. -/
import Derived.Test.YtnjaacmcdkiilaaShSort
import Derived.Test.YtnjaacmcdkiilaaShU
import Derived.Test.YtnjaacmcdkiilaaShH
import Derived.Test.YtnjaacmcdkiilaaShRemM
import Derived.Deep.AppendLies
set_option linter.unusedVariables false
namespace Go.Proofs.Ytnjaacmcdkiilaa
open Go.RowKit

/-- A quota rounded down, and what it lacks. -/
def flo (os : List Int) (n : Int) (k : Nat) : Int := Int.tdiv (n * at0 os k) (sumL os)
def fra (os : List Int) (n : Int) (k : Nat) : Int := Int.tmod (n * at0 os k) (sumL os)
theorem at0_mem {l : List Int} {k : Nat} (h : k < l.length) : at0 l k ∈ l := by
  unfold at0; rw [List.getElem?_eq_getElem h]; simp
theorem sumL_pos {l : List Int} (h : ∀ x ∈ l, 0 ≤ x) : 0 ≤ sumL l := by
  induction l with
  | nil => exact Int.le_refl _
  | cons x t ih =>
    have h1 := h x (by simp)
    have h2 := ih (fun y hy => h y (by simp [hy]))
    show 0 ≤ x + sumL t
    omega
theorem sumL_ge {l : List Int} (h : ∀ x ∈ l, 0 ≤ x) {x : Int} (hx : x ∈ l) : x ≤ sumL l := by
  induction l with
  | nil => simp at hx
  | cons y t ih =>
    have hy := h y (by simp)
    have ht : 0 ≤ sumL t := sumL_pos (fun z hz => h z (List.mem_cons_of_mem _ hz))
    show x ≤ y + sumL t
    rcases List.mem_cons.1 hx with rfl | hx
    · omega
    · have := ih (fun z hz => h z (by simp [hz])) hx; omega
theorem flo_facts {os : List Int} (ho : okO os = true) {n : Int} (h0 : 0 ≤ n) (h1 : n ≤ 1000) {k : Nat} (hk : k < os.length) :
  0 ≤ n * at0 os k ∧ n * at0 os k ≤ 1000000000 ∧ 0 ≤ flo os n k ∧ flo os n k ≤ n ∧ 0 ≤ fra os n k ∧ fra os n k < sumL os ∧ flo os n k * sumL os + fra os n k = n * at0 os k := by
  obtain ⟨hv, hs1, hs2⟩ := okO_vals ho
  have hvk := hv _ (at0_mem hk)
  have hvs := sumL_ge (fun x hx => by have := hv x hx; omega) (at0_mem hk)
  have hm0 : 0 ≤ n * at0 os k := Int.mul_nonneg h0 (by omega)
  have hm1 : n * at0 os k ≤ 1000 * 1000000 := Int.mul_le_mul h1 hvk.2 (by omega) (by omega)
  have hm2 : n * at0 os k ≤ n * sumL os := Int.mul_le_mul_of_nonneg_left hvs h0
  unfold flo fra
  generalize at0 os k = v at *
  generalize sumL os = S at *
  have hS : 0 < S := by omega
  rw [Int.tdiv_eq_ediv_of_nonneg hm0, Int.tmod_eq_emod_of_nonneg hm0]
  have e := Int.mul_ediv_add_emod (n * v) S
  have r0 := Int.emod_nonneg (n * v) (show S ≠ 0 by omega)
  have r1 := Int.emod_lt_of_pos (n * v) hS
  have d0 : 0 ≤ n * v / S := Int.ediv_nonneg hm0 (by omega)
  have d1 : n * v / S ≤ n := by
    have : n * v / S ≤ n * S / S := Int.ediv_le_ediv hS hm2
    rw [Int.mul_ediv_cancel _ (by omega)] at this
    exact this
  refine ⟨hm0, by omega, d0, d1, r0, r1, ?_⟩
  rw [Int.mul_comm]; omega
def floL (os : List Int) (n : Int) (k : Nat) : List Int := (List.range k).map (flo os n)
def fraL (os : List Int) (n : Int) (k : Nat) : List (Nat × Int) := (List.range k).map (fun j => (j, fra os n j))
theorem floL_succ (os : List Int) (n : Int) (k : Nat) : floL os n (k + 1) = floL os n k ++ [flo os n k] := by simp [floL, List.range_succ]
theorem fraL_succ (os : List Int) (n : Int) (k : Nat) : fraL os n (k + 1) = fraL os n k ++ [(k, fra os n k)] := by simp [fraL, List.range_succ]
theorem floL_len (os : List Int) (n : Int) (k : Nat) : (floL os n k).length = k := by simp [floL]
theorem fraL_len (os : List Int) (n : Int) (k : Nat) : (fraL os n k).length = k := by simp [fraL]
/-- Sums over numbers. -/
def sumF (f : Nat → Int) : Nat → Int
  | 0 => 0
  | k + 1 => sumF f k + f k
theorem sumL_range (f : Nat → Int) (k : Nat) : sumL ((List.range k).map f) = sumF f k := by
  induction k with
  | zero => rfl
  | succ k ih =>
    rw [List.range_succ, List.map_append, sumL_app, ih]
    show sumF f k + (f k + 0) = sumF f k + f k
    omega
theorem sumF_congr {f g : Nat → Int} {k : Nat} (h : ∀ j, j < k → f j = g j) : sumF f k = sumF g k := by
  induction k with
  | zero => rfl
  | succ k ih => show sumF f k + f k = sumF g k + g k; rw [ih (fun j a => h j (by omega)), h k (by omega)]
theorem sumF_add (f g : Nat → Int) (k : Nat) : sumF (fun j => f j + g j) k = sumF f k + sumF g k := by
  induction k with
  | zero => rfl
  | succ k ih => show sumF (fun j => f j + g j) k + (f k + g k) = (sumF f k + f k) + (sumF g k + g k); rw [ih]; omega
theorem sumF_mulr (f : Nat → Int) (c : Int) (k : Nat) : sumF (fun j => f j * c) k = sumF f k * c := by
  induction k with
  | zero => show (0 : Int) = 0 * c; rw [Int.zero_mul]
  | succ k ih => show sumF (fun j => f j * c) k + f k * c = (sumF f k + f k) * c; rw [ih, Int.add_mul]
theorem sumF_mull (f : Nat → Int) (c : Int) (k : Nat) : sumF (fun j => c * f j) k = c * sumF f k := by
  induction k with
  | zero => show (0 : Int) = c * 0; rw [Int.mul_zero]
  | succ k ih => show sumF (fun j => c * f j) k + c * f k = c * (sumF f k + f k); rw [ih, Int.mul_add]
theorem sumF_le {f g : Nat → Int} {k : Nat} (h : ∀ j, j < k → f j ≤ g j) : sumF f k ≤ sumF g k := by
  induction k with
  | zero => exact Int.le_refl _
  | succ k ih =>
    have := ih (fun j a => h j (by omega))
    have := h k (by omega)
    show sumF f k + f k ≤ sumF g k + g k
    omega
theorem sumF_cnt (p : Nat → Bool) (c : Int) (k : Nat) : sumF (fun j => if p j = true then c else 0) k = (cntP p k : Int) * c := by
  induction k with
  | zero => show (0 : Int) = ((0 : Nat) : Int) * c; simp
  | succ k ih =>
    show sumF _ k + (if p k = true then c else 0) = ((cntP p k + if p k = true then 1 else 0 : Nat) : Int) * c
    rw [ih]
    by_cases h : p k = true
    · rw [if_pos h, if_pos h]; push_cast; rw [Int.add_mul, Int.one_mul]
    · rw [if_neg h, if_neg h]; simp
theorem sumL_at (os : List Int) : sumL os = sumF (at0 os) os.length := by
  rw [← sumL_range]
  congr 1
  apply at0_ext
  · simp
  · intro i hi
    unfold at0
    rw [List.getElem?_map, List.getElem?_range hi]
    rfl
/-- What is left when quotas are rounded down. -/
def lft (os : List Int) (n : Int) : Int := n - sumL (floL os n os.length)
theorem lft_facts {os : List Int} (ho : okO os = true) {n : Int} (h0 : 0 ≤ n) (h1 : n ≤ 1000) : lft os n * sumL os = sumF (fra os n) os.length ∧ 0 ≤ lft os n ∧ lft os n ≤ os.length := by
  obtain ⟨_, hs1, _⟩ := okO_vals ho
  have e1 : sumF (fun k => flo os n k * sumL os + fra os n k) os.length = sumF (fun k => n * at0 os k) os.length := sumF_congr (fun j hj => (flo_facts ho h0 h1 hj).2.2.2.2.2.2)
  rw [sumF_add, sumF_mulr, sumF_mull, ← sumL_at] at e1
  have e2 : lft os n * sumL os = sumF (fra os n) os.length := by
    unfold lft floL
    rw [sumL_range, Int.sub_mul]
    omega
  have a0 : sumF (fun _ => 0) os.length ≤ sumF (fra os n) os.length := sumF_le (fun j hj => (flo_facts ho h0 h1 hj).2.2.2.2.1)
  have a1 : sumF (fra os n) os.length ≤ sumF (fun _ => sumL os) os.length := sumF_le (fun j hj => by have := (flo_facts ho h0 h1 hj).2.2.2.2.2.1; omega)
  have z0 : ∀ k, sumF (fun _ => 0) k = 0 := by intro k; induction k with
    | zero => rfl
    | succ k ih => show sumF (fun _ => 0) k + 0 = 0; rw [ih]; rfl
  have z1 : ∀ (c : Int) k, sumF (fun _ => c) k = (k : Int) * c := by intro c k; induction k with
    | zero => show (0 : Int) = ((0 : Nat) : Int) * c; simp
    | succ k ih => show sumF (fun _ => c) k + c = ((k + 1 : Nat) : Int) * c; rw [ih]; push_cast; rw [Int.add_mul, Int.one_mul]
  rw [z0] at a0
  rw [z1] at a1
  refine ⟨e2, ?_, ?_⟩
  · rw [← e2] at a0
    rcases Int.lt_or_le (lft os n) 0 with g | g
    · have := Int.mul_neg_of_neg_of_pos g (show 0 < sumL os by omega); omega
    · exact g
  · rw [← e2] at a1
    exact Int.le_of_mul_le_mul_right a1 (by omega)
/-- How n meals are divided by remainders. -/
def remL (os : List Int) (n : Int) : List Int := plusTo (flo os n) (fra os n) os.length (lft os n).toNat

theorem rest_info : (Try.prog.info? 96).map (fun i => (i.zero, i.size, i.bytes)) = some (some (.agg #[.int .i64 0, .int .i64 0]), 2, 16) := by kernel_rfl
/-- Two rows that lie apart. -/
def Apart (u v : Value) : Prop := ∀ q, u.ownBlock = some q → v.ownBlock ≠ some q
theorem own_lt {w : World} {base : Nat} {e : TypeId} {s n : Nat} {v : Value} {xs : List Value} (h : w.ownsRow base e s v n xs) {q : Nat} (hq : v.ownBlock = some q) : q < w.heap.size := (h.lt q hq).2

set_option maxRecDepth 100000 in
set_option maxHeartbeats 4000000 in
theorem byRests_any (a : Option Addr) (os : List Int) (cap : Nat) (n : Int) (w : World) (h : Ints w a os) (ho : okO os = true) (n0 : 0 ≤ n) (n1 : n ≤ 1000) :
  Calls Try.prog 74 #[.slice a os.length cap, .int .i64 n] w (fun e w' => Below w.heap.size w w' ∧ ∃ A c, e = .returned (.slice A os.length c) ∧ w'.ownsRow w.heap.size 3 1 (.slice A os.length c) os.length ((remL os n).map (Value.int .i64))) := by
  obtain ⟨i0, hi, hz0, hz1, hz2⟩ := info_parts int_info
  obtain ⟨j0, hj, hy0, hy1, hy2⟩ := info_parts rest_info
  obtain ⟨hl1, hl8, _⟩ := okO_len ho
  obtain ⟨hv, hs1, hs2⟩ := okO_vals ho
  have HS := hid (fun w' (hb : Below w.heap.size w w') => sum_any a os cap w' (h.below hb) (fun x hx => by have := hv x hx; omega) (by omega))
  have HF := hid (fun k (hk : k < os.length) => flo_facts ho n0 n1 hk)
  have HL := hid (lft_facts ho n0 n1)
  have HI := hid h
  have hSdef := hid (show ∀ k, flo os n k = Int.tdiv (n * at0 os k) (sumL os) ∧ fra os n k = Int.tmod (n * at0 os k) (sumL os) from fun k => ⟨rfl, rfl⟩)
  clear h ho hv
  generalize hSg : sumL os = S at *
  have hSh := hid hSg
  clear hSg
  go_enter Try.func74, Try.ntmps74
  go_wp2_with fail
  refine (HS.out w (Below.refl _ _)).mono ?_
  rintro e w' ⟨rfl, rfl⟩
  go_wp2
  go_loopw [6, 7, 16] (fun o r i wr => ∃ k : Nat, k ≤ os.length ∧ i = .int .i64 k ∧ Hid (wr.ownsRow w.heap.size 3 1 o k ((floL os n k).map (Value.int .i64))) ∧ Hid (wr.ownsRow w.heap.size 96 2 r k (rsCells (fraL os n k))) ∧ Hid (Apart o r) ∧ Below w.heap.size w wr) (fun _ _ i _ => os.length - (intOf i).toNat)
  case atStart => exact ⟨0, Nat.zero_le _, rfl, ⟨rfl, .inl ⟨rfl, rfl⟩⟩, ⟨rfl, .inl ⟨rfl, rfl⟩⟩, (fun q hq => by cases hq), Below.refl _ _⟩
  case round =>
    obtain ⟨k, hk, rfl, HM, HR, HAp, hB⟩ := hrel
    by_cases hlt : k < os.length
    · rcases (HI.out.below hB).at_ with e | ⟨b, off, rfl, hc⟩
      · rw [e] at hlt; simp at hlt
      have c0 : wr.cell? ⟨b, off + k, none⟩ = some (.int .i64 (at0 os k)) := hc k hlt
      obtain ⟨f0, f1, f2, f3, f4, f5, f6⟩ := HF.out k hlt
      obtain ⟨d0, d1⟩ := hSdef.out k
      have HFs := hid (floL_succ os n k)
      have HRs := hid (fraL_succ os n k)
      clear hc f6
      generalize at0 os k = v at *
      generalize flo os n k = F at *
      generalize fra os n k = R at *
      have hS0 : S ≠ 0 := by omega
      have hw0 : IntKind.i64.wrap (n * v) = n * v := IntWalk.i64_in _ (by omega)
      have d0' := d0.symm
      have d1' := d1.symm
      have hw1 : IntKind.i64.wrap F = F := IntWalk.i64_in _ (by omega)
      have hw2 : IntKind.i64.wrap R = R := IntWalk.i64_in _ (by omega)
      clear d0 d1
      have hM := HM.out
      have hR := HR.out
      have hzB := hB.size
      go_wp2_with (at_builtin; refine wpList_append_lies _ rfl _ _ 22 rfl w.heap.size 3 i0 (.int .i64 0) 1 8 Try.underlying22 hi hz0 hz1 hz2 rfl (by decide) _ k ((floL os n k).map (Value.int .i64)) rfl (hM.alloc _) ⟨wr.heap.size, 0, none⟩ 1 1 [.int .i64 F] rfl rfl (cell_one_new _ _ _) (by simp [Value.oneCell']) (by decide) (by unfold maxLen; omega) (by omega) (by first | omega | (simp; omega)) _ rfl ?_)
      intro g c6 w6 hownM hgrow hat hgl
      have hR6 := own_grown (hR.alloc _) hgrow (fun q hq e => HAp.out q e.symm hq)
      have p6 := (hB.alloc hB.size _).grown hgrow (by first | omega | (simp; omega)) (fun q hq => (hM.lt q hq).1)
      have HAp6 := hid (show ∀ q, u7.ownBlock = some q → q ≠ g from fun q hq e => by
        subst e
        rcases hat with h | h
        · exact HAp.out _ h hq
        · have := own_lt hR hq; (try simp at h); omega)
      have hs6 := p6.size
      have HR6 := hid hR6
      have HM6 := hid hownM
      clear hgrow hat hM hR HM HR HAp
      go_wp2_with (at_builtin; refine wpList_append_lies _ rfl _ _ 94 rfl w.heap.size 96 j0 (.agg #[.int .i64 0, .int .i64 0]) 2 16 Try.underlying94 hj hy0 hy1 hy2 rfl (by decide) _ k (rsCells (fraL os n k)) rfl (hR6.alloc _) ⟨w6.heap.size, 0, none⟩ 1 1 [.int .i64 (k : Int), .int .i64 R] rfl rfl ?d1 (by simp [Value.oneCell']) (by decide) (by unfold maxLen; omega) (by omega) (by first | omega | (simp; omega)) _ rfl ?_)
      try case d1 =>
        have := World.news_of_block (cs := #[.int .i64 (k : Int), .int .i64 R]) (t := 96) (fr := (0, 0)) (heap_alloc_new w6 (.cells #[.int .i64 (k : Int), .int .i64 R] 96))
        simpa using this
      intro g2 c7 w7 hownR hgrow2 hat2 hgl2
      have hM7 := own_grown (HM6.out.alloc _) hgrow2 (fun q hq e => by
        have : g = q := by simpa [Value.ownBlock] using hq
        subst this
        exact HAp6.out _ e.symm rfl)
      have p7 := (p6.alloc p6.size _).grown hgrow2 (by first | omega | (simp; omega)) (fun q hq => (HR6.out.lt q hq).1)
      have HAp7 := hid (show Apart (.slice (some ⟨g, 0, none⟩) (k + 1) c6) (.slice (some ⟨g2, 0, none⟩) (k + 1) c7) from fun q hq e => by
        have e1 : g = q := by simpa [Value.ownBlock] using hq
        have e2 : g2 = q := by simpa [Value.ownBlock] using e
        subst e1
        rcases hat2 with h | h
        · exact HAp6.out _ h e2
        · (try simp at h); omega)
      have HM7 := hid hM7
      have HR7 := hid hownR
      clear hgrow2 hat2 hM7 hownR HM6 HR6 HAp6 hR6 hownM
      go_wp2
      go_roundw
      case rel => exact ⟨k + 1, by omega, by go_num, by unfold Hid; rw [HFs.out, List.map_append]; exact HM7.out, by unfold Hid; rw [HRs.out, rsCells_snoc]; exact HR7.out, HAp7, p7⟩
      case measure => simp [intOf]; omega
    · obtain rfl : k = os.length := by omega
      have hM := HM.out
      have hR := HR.out
      obtain ⟨gm, cm, rfl, hgm, hgml⟩ := hM.form hl1
      obtain ⟨gr, cr, rfl, hgr, hgrl⟩ := hR.form hl1
      have hne : gm ≠ gr := fun e => by subst e; exact HAp.out _ rfl rfl
      have hcr : os.length ≤ cr := by obtain ⟨cur, hx1, hx2, hx3, hx4, hx5, hx6⟩ := own_heap hR; exact hx3
      have HSo := hid (sortRests_list w.heap.size gr cr os.length (fraL os n os.length) wr (fraL_len os n _) hR (by omega))
      have HMv := hid (fun (x : Int) (hx : x ∈ floL os n os.length) => show 0 ≤ x ∧ x ≤ 1000 from by
        unfold floL at hx
        rw [List.mem_map] at hx
        obtain ⟨j, hj, rfl⟩ := hx
        have := HF.out j (List.mem_range.1 hj)
        omega)
      have HMl := hid (floL_len os n os.length)
      clear HM HR HAp hR
      go_wp2_with fail
      refine HSo.out.mono ?_
      rintro e w8 ⟨rfl, hg8, L, hLl, hLp, hLs, hR8⟩
      have hM8 := own_grown hM hg8 (fun q hq e => by
        have : gm = q := by simpa [Value.ownBlock] using hq
        subst this
        cases e
        exact hne rfl)
      have p8 := hB.grown hg8 hB.size (fun q hq => by cases hq; exact hgr)
      have HI8 := hid (own_ints hM8 HMl.out (by omega) (fun x hx => by have := HMv.out x hx; omega))
      have HRk := hid (fun p x (hx : L[p]? = some x) => sorted_rnk (fra os n) os.length L (by rw [show (List.range os.length).map (fun j => (j, fra os n j)) = fraL os n os.length from rfl]; exact hLp) hLs p x hx)
      have HM8 := hid hM8
      have HR8 := hid hR8
      have HSm := hid (sum_any (some ⟨gm, 0, none⟩) (floL os n os.length) cm w8 HI8.out (fun x hx => by have := HMv.out x hx; omega) (by rw [HMl.out]; omega))
      rw [HMl.out] at HSm
      clear HSo hg8 hLp hLs hM8 hR8 hM hB HI8
      obtain ⟨_, t0, t1⟩ := HL.out
      have hlt0 := hid (show lft os n = n - sumL (floL os n os.length) from rfl)
      have hz8 := p8.size
      go_wp2_with fail
      refine HSm.out.mono ?_
      rintro e w' ⟨rfl, rfl⟩
      rw [show sumL (floL os n os.length) = n - lft os n by rw [hlt0.out]; omega]
      have hres := hid (show remL os n = plusTo (flo os n) (fra os n) os.length (lft os n).toNat from rfl)
      have hpl0 := hid (plusTo_zero (flo os n) (fra os n) os.length)
      clear hlt0 HSm
      generalize hT : lft os n = T at *
      obtain ⟨t, rfl⟩ := Int.eq_ofNat_of_zero_le t0
      rw [Int.toNat_natCast] at hres
      have hsub : n - (n - (t : Int)) = (t : Int) := by omega
      have hwT : IntKind.i64.wrap (t : Int) = (t : Int) := IntWalk.i64_in _ (by omega)
      have t2 : (t : Int) ≤ (cr : Int) := by omega
      clear hT HL
      go_wp2
      clear hwT hsub HMv
      go_loopw [49] (fun i wx => ∃ p : Nat, p ≤ t ∧ i = .int .i64 p ∧ Hid (wx.ownsRow w.heap.size 3 1 (.slice (some ⟨gm, 0, none⟩) os.length cm) os.length ((plusTo (flo os n) (fra os n) os.length p).map (Value.int .i64))) ∧ Hid (wx.ownsRow w.heap.size 96 2 (.slice (some ⟨gr, 0, none⟩) os.length cr) os.length (rsCells L)) ∧ Below w.heap.size w wx) (fun i _ => t - (intOf i).toNat)
      case atStart => exact ⟨0, Nat.zero_le _, rfl, by unfold Hid; rw [hpl0.out]; exact HM8.out, HR8, p8⟩
      case round =>
        clear HM8 HR8 p8
        obtain ⟨p, hp, rfl, HM, HR, hB⟩ := hrel
        by_cases hlt2 : p < t
        · have hpL : p < L.length := by omega
          obtain ⟨x, hx⟩ : ∃ x, L[p]? = some x := ⟨_, List.getElem?_eq_getElem hpL⟩
          obtain ⟨h1, h2, h3⟩ := HRk.out p x hx
          obtain ⟨y0, y1⟩ := rsCells_at L p x hx
          have c0 : wr.cell? ⟨gr, p * 2, none⟩ = some (.int .i64 (x.1 : Int)) := by rw [HR.out.cellAt _ (by omega)]; exact y0
          have c1 : wr.cell? ⟨gr, p * 2 + 1, none⟩ = some (.int .i64 x.2) := by rw [HR.out.cellAt _ (by omega)]; exact y1
          have hv0 := plusTo_at (flo os n) (fra os n) os.length p x.1 h2
          have hfl := HF.out x.1 h2
          have hpl := plusTo_len (flo os n) (fra os n) os.length p
          have e0 : wr.cell? ⟨gm, x.1, none⟩ = some (.int .i64 (at0 (plusTo (flo os n) (fra os n) os.length p) x.1)) := by
            rw [HM.out.cellAt _ (by omega), List.getElem?_map, List.getElem?_eq_getElem (by omega)]
            unfold at0
            rw [List.getElem?_eq_getElem (by omega)]
            rfl
          have f0 := HM.out.frozenAt x.1
          have HSt := hid (plusTo_step (flo os n) (fra os n) os.length p x.1 h2 h3)
          have hbd : 0 ≤ at0 (plusTo (flo os n) (fra os n) os.length p) x.1 ∧ at0 (plusTo (flo os n) (fra os n) os.length p) x.1 ≤ 1001 := by
            rw [hv0]; split <;> omega
          have HMa := HM.out.alloc (.cells #[.int .i64 (x.1 : Int), .int .i64 x.2] 96)
          have HS0 := HM.out.stored x.1 (.int .i64 (at0 (plusTo (flo os n) (fra os n) os.length p) x.1 + 1))
          have HSd := hid (HS0.1.alloc (.cells #[.int .i64 (x.1 : Int), .int .i64 x.2] 96))
          have HRa := hid ((own_grown HR.out HS0.2 (fun q hq e => by
            have : gr = q := by simpa [Value.ownBlock] using hq
            subst this
            cases e
            exact hne rfl)).alloc (.cells #[.int .i64 (x.1 : Int), .int .i64 x.2] 96))
          have HBn := hid ((hB.setCell (p := ⟨gm, x.1, none⟩) (by exact hgm) (.int .i64 (at0 (plusTo (flo os n) (fra os n) os.length p) x.1 + 1))).alloc (by have := hB.size; simp; omega) (.cells #[.int .i64 (x.1 : Int), .int .i64 x.2] 96))
          clear HS0
          have hgl3 : gm < wr.heap.size := cell_lt e0
          have hne3 : ¬ gm = wr.heap.size := by omega
          have hne4 : ¬ wr.heap.size = gm := by omega
          have fa := HMa.frozenAt x.1
          have ea : (wr.alloc (.cells #[.int .i64 (x.1 : Int), .int .i64 x.2] 96)).cell? ⟨gm, x.1, none⟩ = some (.int .i64 (at0 (plusTo (flo os n) (fra os n) os.length p) x.1)) := by
            rw [((Below.refl wr.heap.size wr).alloc (Nat.le_refl _) _).cell hgl3]; exact e0
          obtain ⟨i, r⟩ := x
          dsimp only at *
          have i0' : (0 : Int) ≤ (i : Int) := by omega
          have i1' : (i : Int) < (os.length : Int) := by omega
          have q0' : (0 : Int) ≤ (p : Int) := by omega
          have q1' : (p : Int) < (t : Int) := by omega
          clear hv0 hfl h1 h3 y0 y1 hx HMa HM HR hB
          generalize at0 (plusTo (flo os n) (fra os n) os.length p) i = y at *
          have hwy : IntKind.i64.wrap (y + 1) = y + 1 := IntWalk.i64_in _ (by omega)
          go_wp2
          go_roundw
          case rel => exact ⟨p + 1, by omega, by go_num, by unfold Hid; rw [← HSt.out, List.map_set]; exact HSd.out, HRa, HBn.out⟩
          case measure => simp [intOf]; omega
        · obtain rfl : p = t := by omega
          have HX := hid (show (remL os n).map (Value.int .i64) = (plusTo (flo os n) (fra os n) os.length p).map (Value.int .i64) by rw [hres.out])
          go_wp2
          go_ret
          exact ⟨hB, some ⟨gm, 0, none⟩, cm, rfl, by rw [HX.out]; exact HM.out⟩
end Go.Proofs.Ytnjaacmcdkiilaa
