/- Days of a menu, how often each menu is served, and how many are lost: plain functions. -/
import Derived.Test.YtilolaednbcaoaaTogetherM
set_option linter.unusedVariables false
namespace Go.Proofs.Ytilolaednbcaoaa

theorem mst_succ (rs cs : List Int) (m k f : Int) (hk : k = 0 ∨ k = 1) (n : Nat) :
    (mst m k f (wd rs cs (n + 1))).2 = (mst m k f (wd rs cs n)).2 ++ (if openB rs cs (n : Int) then [((n : Int), (rst rs cs m k f n).1)] else []) := by
  have hr := (mst_rst rs cs m k f hk n).1
  cases hm : memB ((n : Int) % 7) rs with
  | true =>
    have hw : wd rs cs (n + 1) = wd rs cs n := by rw [wd, hm]; simp
    have ho : openB rs cs (n : Int) = false := by simp [openB, hm]
    rw [hw, ho]; simp
  | false =>
    have hw : wd rs cs (n + 1) = wd rs cs n ++ [((n : Int), !memB (n : Int) cs)] := by rw [wd, hm]; simp
    have ho : openB rs cs (n : Int) = !memB (n : Int) cs := by simp [openB, hm]
    rw [hw, mst_snoc, ho]
    simp only [stepM]
    cases hc : memB (n : Int) cs with
    | true => simp
    | false => simp [hr]
theorem rst_succ (rs cs : List Int) (m k f : Int) (n : Nat) : (rst rs cs m k f (n + 1)).2 = (rst rs cs m k f n).2 ++ [if openB rs cs (n : Int) then (rst rs cs m k f n).1 else -1] := rfl

/-- The places of a number in a list, below j. -/
def rdw (x : Int) (l : List Int) : Nat → List Int
  | 0 => []
  | j + 1 => rdw x l j ++ (if l[j]?.getD 0 = x then [(j : Int)] else [])
theorem rdw_len (x : Int) (l : List Int) (j : Nat) : (rdw x l j).length ≤ j := by
  induction j with
  | zero => simp [rdw]
  | succ j ih => rw [rdw]; split <;> simp <;> omega
theorem rdw_bd (x : Int) (l : List Int) (j : Nat) : ∀ y ∈ rdw x l j, 0 ≤ y ∧ y < j := by
  induction j with
  | zero => intro y hy; cases hy
  | succ j ih =>
    intro y hy
    rw [rdw] at hy
    rcases List.mem_append.1 hy with hy | hy
    · have := ih y hy; omega
    · split at hy
      · simp at hy; omega
      · cases hy
theorem rdw_append (x : Int) (l t : List Int) (j : Nat) (h : j ≤ l.length) : rdw x (l ++ t) j = rdw x l j := by
  induction j with
  | zero => rfl
  | succ j ih => rw [rdw, rdw, ih (by omega), List.getElem?_append_left (by omega)]
theorem dw_rdw (rs cs : List Int) (m k f x : Int) (hk : k = 0 ∨ k = 1) (hx : 0 ≤ x) (n : Nat) :
    dw x (mst m k f (wd rs cs n)).2 = rdw x (rst rs cs m k f n).2 n := by
  induction n with
  | zero => rfl
  | succ n ih =>
    have hl := rst_len rs cs m k f n
    rw [mst_succ rs cs m k f hk, rst_succ, rdw, rdw_append _ _ _ _ (by omega), ← ih]
    rw [List.getElem?_append_right (by omega), hl]
    simp only [Nat.sub_self, List.getElem?_cons_zero, Option.getD_some]
    cases ho : openB rs cs (n : Int) with
    | true =>
      simp only [if_true]
      by_cases he : (rst rs cs m k f n).1 = x
      · rw [if_pos he, he, dw_yes]
      · rw [if_neg he, dw_no _ _ _ _ he]; simp
    | false =>
      simp only [Bool.false_eq_true, if_false]
      rw [if_neg (by omega)]; simp

/-- How often a menu is among days with menus; how often a number is in a list. -/
def cntM (v : Int) (l : List (Int × Int)) : Int := ((l.filter (fun y => decide (y.2 = v))).length : Int)
def cntR (v : Int) (l : List Int) : Int := ((l.filter (fun y => decide (y = v))).length : Int)
theorem cntM_snoc (v d y : Int) (l : List (Int × Int)) : cntM v (l ++ [(d, y)]) = cntM v l + if y = v then 1 else 0 := by
  unfold cntM
  rw [List.filter_append]
  by_cases h : y = v <;> simp [h]
theorem cntR_snoc (v y : Int) (l : List Int) : cntR v (l ++ [y]) = cntR v l + if y = v then 1 else 0 := by
  unfold cntR
  rw [List.filter_append]
  by_cases h : y = v <;> simp [h]
theorem cntM_dw (v : Int) (l : List (Int × Int)) : cntM v l = (dw v l).length := by simp [cntM, dw]
theorem cntM_bd (v : Int) (l : List (Int × Int)) : 0 ≤ cntM v l ∧ cntM v l ≤ l.length := by
  unfold cntM; have := List.length_filter_le (fun y : Int × Int => decide (y.2 = v)) l; omega
theorem cntR_bd (v : Int) (l : List Int) : 0 ≤ cntR v l ∧ cntR v l ≤ l.length := by
  unfold cntR; have := List.length_filter_le (fun y : Int => decide (y = v)) l; omega
theorem cntM_cntR (rs cs : List Int) (m k f v : Int) (hk : k = 0 ∨ k = 1) (hv : 0 ≤ v) (n : Nat) :
    cntM v (mst m k f (wd rs cs n)).2 = cntR v (rst rs cs m k f n).2 := by
  induction n with
  | zero => rfl
  | succ n ih =>
    rw [mst_succ rs cs m k f hk, rst_succ, cntR_snoc, ← ih]
    cases ho : openB rs cs (n : Int) with
    | true => simp only [if_true]; rw [cntM_snoc]
    | false => simp only [Bool.false_eq_true, if_false]; rw [if_neg (by omega)]; simp

def srv (m : Nat) (l : List (Int × Int)) : List Int := (List.range m).map (fun i : Nat => cntM (i : Int) l)
def srvR (m : Nat) (l : List Int) : List Int := (List.range m).map (fun i : Nat => cntR (i : Int) l)
theorem srv_len (m : Nat) (l : List (Int × Int)) : (srv m l).length = m := by simp [srv]
theorem srvR_len (m : Nat) (l : List Int) : (srvR m l).length = m := by simp [srvR]
theorem srv_at (m : Nat) (l : List (Int × Int)) (i : Nat) (h : i < m) : (srv m l)[i]?.getD 0 = cntM (i : Int) l := by simp [srv, h]
theorem srvR_at (m : Nat) (l : List Int) (i : Nat) (h : i < m) : (srvR m l)[i]?.getD 0 = cntR (i : Int) l := by simp [srvR, h]
theorem srv_nil (m : Nat) : srv m [] = List.replicate m 0 := by
  refine List.ext_getElem (by simp [srv]) fun i h1 h2 => ?_
  simp [srv, cntM]
theorem srvR_nil (m : Nat) : srvR m [] = List.replicate m 0 := by
  refine List.ext_getElem (by simp [srvR]) fun i h1 h2 => ?_
  simp [srvR, cntR]
theorem srv_snoc (m : Nat) (l : List (Int × Int)) (d : Int) (y : Nat) (h : y < m) : srv m (l ++ [(d, (y : Int))]) = (srv m l).set y (cntM (y : Int) l + 1) := by
  refine List.ext_getElem (by simp [srv]) fun i h1 h2 => ?_
  rw [List.getElem_set]
  simp only [srv, List.getElem_map, List.getElem_range, cntM_snoc]
  by_cases he : y = i
  · subst he; simp
  · rw [if_neg he, if_neg (by omega)]; simp
theorem srvR_snoc (m : Nat) (l : List Int) (y : Nat) (h : y < m) : srvR m (l ++ [(y : Int)]) = (srvR m l).set y (cntR (y : Int) l + 1) := by
  refine List.ext_getElem (by simp [srvR]) fun i h1 h2 => ?_
  rw [List.getElem_set]
  simp only [srvR, List.getElem_map, List.getElem_range, cntR_snoc]
  by_cases he : y = i
  · subst he; simp
  · rw [if_neg he, if_neg (by omega)]; simp
theorem srvR_snoc_no (m : Nat) (l : List Int) (y : Int) (h : y < 0) : srvR m (l ++ [y]) = srvR m l := by
  refine List.ext_getElem (by simp [srvR]) fun i h1 h2 => ?_
  simp only [srvR, List.getElem_map, List.getElem_range, cntR_snoc]
  rw [if_neg (by omega)]; simp
theorem srv_srvR (rs cs : List Int) (m k f : Int) (hk : k = 0 ∨ k = 1) (n j : Nat) :
    srv j (mst m k f (wd rs cs n)).2 = srvR j (rst rs cs m k f n).2 := by
  refine List.ext_getElem (by simp [srv, srvR]) fun i h1 h2 => ?_
  simp only [srv, srvR, List.getElem_map, List.getElem_range]
  exact cntM_cntR rs cs m k f i hk (by omega) n

/-- How many week days are closed. -/
def lostN (l : List (Int × Bool)) : Int := ((l.filter (fun x => !x.2)).length : Int)
theorem lostN_snoc (l : List (Int × Bool)) (d : Int) (b : Bool) : lostN (l ++ [(d, b)]) = lostN l + if b then 0 else 1 := by
  unfold lostN
  rw [List.filter_append]
  cases b <;> simp
theorem lostN_bd (l : List (Int × Bool)) : 0 ≤ lostN l ∧ lostN l ≤ l.length := by
  unfold lostN; have := List.length_filter_le (fun x : Int × Bool => !x.2) l; omega
/-- The document counts the closed days that are week days. -/
def lostR (rs cs : List Int) : Nat → Int
  | 0 => 0
  | j + 1 => lostR rs cs j + if memB (cs[j]?.getD 0 % 7) rs then 0 else 1
theorem lostR_bd (rs cs : List Int) (j : Nat) : 0 ≤ lostR rs cs j ∧ lostR rs cs j ≤ j := by
  induction j with
  | zero => simp [lostR]
  | succ j ih => rw [lostR]; split <;> omega
theorem lostR_filter (rs cs : List Int) (j : Nat) (h : j ≤ cs.length) : lostR rs cs j = (((cs.take j).filter (fun d => !memB (d % 7) rs)).length : Int) := by
  induction j with
  | zero => simp [lostR]
  | succ j ih =>
    rw [lostR, ih (by omega), List.take_succ_eq_append_getElem (by omega), List.filter_append]
    rw [List.getElem?_eq_getElem (by omega)]
    cases hm : memB (cs[j] % 7) rs <;> simp [hm]
/-- Below n. -/
theorem lostN_filter (rs cs : List Int) (hcs : cs.Pairwise (· < ·)) (hc0 : ∀ x ∈ cs, 0 ≤ x) (n : Nat) :
    lostN (wd rs cs n) = ((cs.filter (fun d => decide (d < (n : Int)) && !memB (d % 7) rs)).length : Int) := by
  induction n with
  | zero =>
    have : cs.filter (fun d => decide (d < ((0 : Nat) : Int)) && !memB (d % 7) rs) = [] := by
      rw [List.filter_eq_nil_iff]
      intro x hx
      have := hc0 x hx
      simp; intro h; omega
    rw [this]; rfl
  | succ n ih =>
    have key : ∀ l : List Int, l.Pairwise (· < ·) → (l.filter (fun d => decide (d < ((n + 1 : Nat) : Int)) && !memB (d % 7) rs)).length =
        (l.filter (fun d => decide (d < (n : Int)) && !memB (d % 7) rs)).length + if memB (n : Int) l && !memB ((n : Int) % 7) rs then 1 else 0 := by
      intro l
      induction l with
      | nil => intro _; simp [memB]
      | cons x t iht =>
        intro hp
        rw [List.pairwise_cons] at hp
        have hi := iht hp.2
        rw [List.filter_cons, List.filter_cons]
        by_cases hxn : x = n
        · subst hxn
          have hnot : memB (n : Int) t = false := by
            rw [memB, decide_eq_false_iff_not]
            intro hh
            have := hp.1 _ hh
            omega
          rw [hnot] at hi
          have hyes : memB (n : Int) ((n : Int) :: t) = true := by simp [memB]
          rw [hyes]
          have e1 : decide ((n : Int) < ((n + 1 : Nat) : Int)) = true := by simp; omega
          have e2 : decide ((n : Int) < (n : Int)) = false := by simp
          rw [e1, e2]
          cases hm : memB ((n : Int) % 7) rs with
          | true => simp [hm] at hi ⊢; omega
          | false => simp [hm] at hi ⊢; omega
        · have e1 : decide (x < ((n + 1 : Nat) : Int)) = decide (x < (n : Int)) := by rw [decide_eq_decide]; omega
          have e2 : memB (n : Int) (x :: t) = memB (n : Int) t := by
            rw [memB, memB, decide_eq_decide, List.mem_cons]
            constructor
            · rintro (h | h)
              · exact absurd h.symm hxn
              · exact h
            · exact .inr
          rw [e1, e2]
          split
          · rw [List.length_cons, List.length_cons, hi]; omega
          · exact hi
    have hk := key cs hcs
    rw [wd]
    cases hm : memB ((n : Int) % 7) rs with
    | true =>
      rw [hm] at hk
      rw [if_pos rfl, List.append_nil, ih, hk]
      simp
    | false =>
      rw [hm] at hk
      rw [if_neg (by simp), lostN_snoc, ih, hk]
      cases hc : memB (n : Int) cs <;> simp
theorem lost_eq (rs cs : List Int) (n : Nat) (hcs : cs.Pairwise (· < ·)) (hb : ∀ x ∈ cs, 0 ≤ x ∧ x < (n : Int)) : lostN (wd rs cs n) = lostR rs cs cs.length := by
  rw [lostN_filter rs cs hcs (fun x hx => (hb x hx).1), lostR_filter rs cs cs.length (Nat.le_refl _), List.take_length]
  congr 1
  congr 1
  refine List.filter_congr fun x hx => ?_
  have := (hb x hx).2
  simp [this]

end Go.Proofs.Ytilolaednbcaoaa
