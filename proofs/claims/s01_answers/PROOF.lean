import PyProof.Rows.All
import VbhlaeSpec
import Wide.All
import OpenK.AllK
import Wide.FinOn
import Open.SpecLaws
import KE.OsGo
import HandS.ForSpec
import HandS.TryMany
import HandS.Comp
import HandS.Iter
import HandS.Walk
import HandS.Wide
import HandS.CallLocal
import PySem.Challenge.RW_quietaids_s01_answers
import PyVbhlae
set_option linter.all false
/-! Mathematics: rows, without the model. -/
namespace Qm
open Vbhlae

theorem trim_nil : trim [] = [] := rfl
theorem trim_zero (l : List Int) : trim (l ++ [0]) = trim l := by
  unfold trim
  rw [List.reverse_append]
  rfl
theorem trim_ne (l : List Int) {x : Int} (h : x ≠ 0) : trim (l ++ [x]) = l ++ [x] := by
  unfold trim
  rw [List.reverse_append]
  have e : (x == 0) = false := by simpa using h
  show (List.dropWhile (fun x => x == 0) (x :: l.reverse)).reverse = _
  rw [List.dropWhile_cons, e]
  simp
/-- a row is empty, or has a last number -/
theorem snoc (l : List Int) : l = [] ∨ ∃ m x, l = m ++ [x] := by
  rcases List.eq_nil_or_concat l with h | ⟨m, x, h⟩
  · exact .inl h
  · exact .inr ⟨m, x, by rw [h]; simp⟩
/-- r is trim r and zeros behind -/
theorem trim_split (r : List Int) : ∃ k, r = trim r ++ List.replicate k 0 := by
  induction hn : r.length generalizing r with
  | zero =>
    have : r = [] := List.length_eq_zero_iff.mp hn
    subst this
    exact ⟨0, rfl⟩
  | succ n ih =>
    rcases snoc r with h | ⟨m, x, h⟩
    · subst h
      cases hn
    · subst h
      by_cases hx : x = 0
      · subst hx
        obtain ⟨k, e⟩ := ih m (by simpa using hn)
        refine ⟨k + 1, ?_⟩
        rw [trim_zero, List.replicate_succ', ← List.append_assoc, ← e]
      · refine ⟨0, ?_⟩
        rw [trim_ne m hx]
        simp
theorem trim_last (r : List Int) : trim r = [] ∨ ∃ m x, trim r = m ++ [x] ∧ x ≠ 0 := by
  induction hn : r.length generalizing r with
  | zero =>
    have : r = [] := List.length_eq_zero_iff.mp hn
    subst this
    exact .inl rfl
  | succ n ih =>
    rcases snoc r with h | ⟨m, x, h⟩
    · subst h
      cases hn
    · subst h
      by_cases hx : x = 0
      · subst hx
        rw [trim_zero]
        exact ih m (by simpa using hn)
      · rw [trim_ne m hx]
        exact .inr ⟨m, x, rfl, hx⟩
theorem trim_trim (r : List Int) : trim (trim r) = trim r := by
  rcases trim_last r with h | ⟨m, x, h, hx⟩
  · rw [h]
    rfl
  · rw [h, trim_ne m hx]
theorem trim_len (r : List Int) : (trim r).length ≤ r.length := by
  obtain ⟨k, e⟩ := trim_split r
  have := congrArg List.length e
  rw [List.length_append] at this
  omega
theorem trim_mem {r : List Int} {x : Int} (h : x ∈ trim r) : x ∈ r := by
  obtain ⟨k, e⟩ := trim_split r
  rw [e]
  exact List.mem_append_left _ h
theorem at_nil (i : Nat) : at_ [] i = 0 := by simp [at_]
theorem at_app_l {a b : List Int} {i : Nat} (h : i < a.length) : at_ (a ++ b) i = at_ a i := by
  unfold at_
  rw [List.getD_eq_getElem?_getD, List.getD_eq_getElem?_getD, List.getElem?_append_left h]
theorem at_app_r {a b : List Int} {i : Nat} (h : a.length ≤ i) : at_ (a ++ b) i = at_ b (i - a.length) := by
  unfold at_
  rw [List.getD_eq_getElem?_getD, List.getD_eq_getElem?_getD, List.getElem?_append_right h]
theorem at_out {a : List Int} {i : Nat} (h : a.length ≤ i) : at_ a i = 0 := by
  unfold at_
  rw [List.getD_eq_getElem?_getD, List.getElem?_eq_none h]
  rfl
theorem at_rep (k i : Nat) : at_ (List.replicate k 0) i = 0 := by
  unfold at_
  rw [List.getD_eq_getElem?_getD, List.getElem?_replicate]
  split <;> rfl
theorem at_trim (r : List Int) (i : Nat) : at_ (trim r) i = at_ r i := by
  obtain ⟨k, e⟩ := trim_split r
  by_cases h : i < (trim r).length
  · conv => rhs; rw [e]
    rw [at_app_l h]
  · conv => rhs; rw [e]
    rw [at_app_r (by omega), at_rep, at_out (by omega)]
theorem at_get {a : List Int} {i : Nat} {x : Int} (h : a[i]? = some x) : at_ a i = x := by
  unfold at_
  rw [List.getD_eq_getElem?_getD, h]
  rfl
theorem get_at {a : List Int} {i : Nat} (h : i < a.length) : a[i]? = some (at_ a i) := by
  unfold at_
  rw [List.getD_eq_getElem?_getD, List.getElem?_eq_getElem h]
  rfl
theorem at_mem {a : List Int} {i : Nat} (h : i < a.length) : at_ a i ∈ a := List.mem_of_getElem? (get_at h)
theorem at_map {f : Int → Int} (hf : f 0 = 0) (a : List Int) (i : Nat) : at_ (a.map f) i = f (at_ a i) := by
  unfold at_
  rw [List.getD_eq_getElem?_getD, List.getD_eq_getElem?_getD, List.getElem?_map]
  cases a[i]? with
  | none => exact hf.symm
  | some x => rfl
theorem at_range {f : Nat → Int} {n i : Nat} (h : i < n) : at_ ((List.range n).map f) i = f i := by
  apply at_get
  rw [List.getElem?_map, List.getElem?_range h]
  rfl
theorem at_range_out {f : Nat → Int} {n i : Nat} (h : n ≤ i) : at_ ((List.range n).map f) i = 0 := at_out (by simpa using h)
theorem row_ext {a b : List Int} (hl : a.length = b.length) (h : ∀ i, i < a.length → at_ a i = at_ b i) : a = b := by
  apply List.ext_getElem? 
  intro i
  by_cases hi : i < a.length
  · rw [get_at hi, get_at (hl ▸ hi), h i hi]
  · rw [List.getElem?_eq_none (by omega), List.getElem?_eq_none (by omega)]
/-- two rows with the same numbers have the same trimmed row -/
theorem trim_eq {a b : List Int} (h : ∀ i, at_ a i = at_ b i) : trim a = trim b := by
  have key : ∀ {a b : List Int}, (∀ i, at_ a i = at_ b i) → (trim a).length ≤ (trim b).length := by
    intro a b h
    rcases trim_last a with e | ⟨m, x, e, hx⟩
    · rw [e]
      exact Nat.zero_le _
    · have h1 : at_ (trim a) m.length = x := by
        rw [e, at_app_r (Nat.le_refl _)]
        simp [at_]
      have h2 : at_ (trim b) m.length = x := by rw [at_trim, ← h, ← at_trim, h1]
      have h3 : m.length < (trim b).length := by
        rcases Nat.lt_or_ge m.length (trim b).length with z | z
        · exact z
        · rw [at_out z] at h2
          exact absurd h2.symm hx
      rw [e]
      simp
      omega
  refine row_ext (Nat.le_antisymm (key h) (key fun i => (h i).symm)) fun i _ => ?_
  rw [at_trim, at_trim, h]

/-! ### common divisors -/
theorem common_app (a b : List Int) : common (a ++ b) = b.foldl (fun g x => Nat.gcd g x.natAbs) (common a) := by
  unfold common
  rw [List.foldl_append]
theorem foldl_gcd_dvd : ∀ (r : List Int) (g : Nat), (r.foldl (fun g x => Nat.gcd g x.natAbs) g ∣ g) ∧ ∀ x ∈ r, r.foldl (fun g x => Nat.gcd g x.natAbs) g ∣ x.natAbs
  | [], g => ⟨Nat.dvd_refl _, fun _ h => nomatch h⟩
  | y :: r, g => by
    obtain ⟨h1, h2⟩ := foldl_gcd_dvd r (Nat.gcd g y.natAbs)
    refine ⟨Nat.dvd_trans h1 (Nat.gcd_dvd_left _ _), fun x hx => ?_⟩
    rcases List.mem_cons.mp hx with rfl | hx
    · exact Nat.dvd_trans h1 (Nat.gcd_dvd_right _ _)
    · exact h2 x hx
theorem dvd_foldl_gcd : ∀ (r : List Int) (g d : Nat), d ∣ g → (∀ x ∈ r, d ∣ x.natAbs) → d ∣ r.foldl (fun g x => Nat.gcd g x.natAbs) g
  | [], _, _, h, _ => h
  | y :: r, g, d, h, hr => dvd_foldl_gcd r _ d (Nat.dvd_gcd h (hr y List.mem_cons_self)) fun x hx => hr x (List.mem_cons_of_mem _ hx)
theorem common_dvd {r : List Int} {x : Int} (h : x ∈ r) : (common r : Int) ∣ x := Int.ofNat_dvd_left.mpr ((foldl_gcd_dvd r 0).2 x h)
theorem dvd_common {r : List Int} {d : Nat} (h : ∀ x ∈ r, (d : Int) ∣ x) : d ∣ common r := dvd_foldl_gcd r 0 d (Nat.dvd_zero _) fun x hx => Int.ofNat_dvd_left.mp (h x hx)
theorem common_pos {r : List Int} {x : Int} (h : x ∈ r) (hx : x ≠ 0) : 0 < common r := by
  refine Nat.pos_of_ne_zero fun e => hx ?_
  have := common_dvd h
  rw [e] at this
  simpa using this
theorem common_zero {r : List Int} (h : common r = 0) {x : Int} (hx : x ∈ r) : x = 0 := by
  have := common_dvd hx
  rw [h] at this
  simpa using this
/-- a row divided by its greatest common divisor, zeros at its end away -/
def redu (r : List Int) : List Int := (trim r).map fun x => x / (common (trim r) : Int)
theorem redu_len (r : List Int) : (redu r).length = (trim r).length := by simp [redu]
theorem plain_redu (r : List Int) : plain r = if at_ (redu r) 0 < 0 then (redu r).map fun x => -x else redu r := rfl
theorem at_redu (r : List Int) (i : Nat) : at_ (redu r) i = at_ r i / (common (trim r) : Int) := by
  unfold redu
  rw [at_map (by simp), at_trim]
/-- r's numbers are those of redu r, times the divisor -/
theorem redu_times (r : List Int) (i : Nat) : at_ r i = (common (trim r) : Int) * at_ (redu r) i := by
  rw [at_redu, ← at_trim]
  by_cases h : i < (trim r).length
  · exact (Int.mul_ediv_cancel' (common_dvd (at_mem h))).symm
  · rw [at_out (by omega)]
    simp
theorem common_trim_pos {r : List Int} (h : at_ r 0 ≠ 0) : 0 < common (trim r) := by
  have h1 : at_ (trim r) 0 ≠ 0 := by rw [at_trim]; exact h
  have h2 : 0 < (trim r).length := by
    rcases Nat.eq_zero_or_pos (trim r).length with z | z
    · rw [at_out (by omega)] at h1
      exact absurd rfl h1
    · exact z
  exact common_pos (at_mem h2) h1
theorem redu_ne {r : List Int} (h : at_ r 0 ≠ 0) : at_ (redu r) 0 ≠ 0 := fun e => h (by rw [redu_times, e, Int.mul_zero])
theorem redu_nil {r : List Int} (h : at_ r 0 ≠ 0) : redu r ≠ [] := fun e => redu_ne h (by rw [e]; exact at_nil 0)
theorem redu_eq {a b : List Int} (h : ∀ i, at_ a i = at_ b i) : redu a = redu b := by
  unfold redu
  rw [trim_eq h]
theorem plain_eq {a b : List Int} (h : ∀ i, at_ a i = at_ b i) : plain a = plain b := by rw [plain_redu, plain_redu, redu_eq h]
theorem plain_len (r : List Int) : (plain r).length = (trim r).length := by
  rw [plain_redu]
  split
  · rw [List.length_map, redu_len]
  · exact redu_len r
/-- all numbers below 2 ^ B, without sign -/
def Sz (B : Nat) (r : List Int) : Prop := ∀ x ∈ r, x.natAbs < 2 ^ B
theorem Sz.mono {B C : Nat} {r : List Int} (h : Sz B r) (l : B ≤ C) : Sz C r := fun x hx => Nat.lt_of_lt_of_le (h x hx) (Nat.pow_le_pow_right (by decide) l)
theorem Sz.at {B : Nat} {r : List Int} (h : Sz B r) (i : Nat) : (at_ r i).natAbs < 2 ^ B := by
  by_cases hi : i < r.length
  · exact h _ (at_mem hi)
  · rw [at_out (by omega)]
    exact Nat.two_pow_pos B
theorem Sz.redu {B : Nat} {r : List Int} (h : Sz B r) : Sz B (redu r) := by
  intro x hx
  unfold Qm.redu at hx
  obtain ⟨y, hy, rfl⟩ := List.mem_map.mp hx
  have h1 := h y (trim_mem hy)
  obtain ⟨k, hk⟩ := common_dvd hy
  rcases Nat.eq_zero_or_pos (common (trim r)) with z | z
  · rw [z]
    simpa using Nat.two_pow_pos B
  · have e : y / (common (trim r) : Int) = k := by
      rw [hk]
      exact Int.mul_ediv_cancel_left _ (by omega)
    rw [e]
    have : y.natAbs = common (trim r) * k.natAbs := by rw [hk, Int.natAbs_mul]; rfl
    have : k.natAbs ≤ common (trim r) * k.natAbs := Nat.le_mul_of_pos_left _ z
    omega
theorem Sz.neg {B : Nat} {r : List Int} (h : Sz B r) : Sz B (r.map fun x => -x) := by
  intro x hx
  obtain ⟨y, hy, rfl⟩ := List.mem_map.mp hx
  rw [Int.natAbs_neg]
  exact h y hy
theorem Sz.plain {B : Nat} {r : List Int} (h : Sz B r) : Sz B (plain r) := by
  rw [plain_redu]
  split
  · exact h.redu.neg
  · exact h.redu
theorem Sz.step {B : Nat} {r : List Int} (h : Sz B r) : Sz (2 * B + 1) (reduced r) := by
  intro x hx
  unfold reduced at hx
  obtain ⟨i, _, rfl⟩ := List.mem_map.mp hx
  have h0 := h.at 0
  have h1 := h.at i
  have h2 := h.at (r.length - 1)
  have h3 := h.at (r.length - 1 - i)
  have e : 2 ^ (2 * B + 1) = 2 ^ B * 2 ^ B + 2 ^ B * 2 ^ B := by
    rw [Nat.pow_succ, Nat.two_mul, Nat.pow_add]
    omega
  have m1 : (at_ r 0 * at_ r i).natAbs < 2 ^ B * 2 ^ B := by
    rw [Int.natAbs_mul]
    exact Nat.mul_lt_mul'' h0 h1
  have m2 : (at_ r (r.length - 1) * at_ r (r.length - 1 - i)).natAbs < 2 ^ B * 2 ^ B := by
    rw [Int.natAbs_mul]
    exact Nat.mul_lt_mul'' h2 h3
  rw [e]
  show (at_ r 0 * at_ r i - at_ r (r.length - 1) * at_ r (r.length - 1 - i)).natAbs < _
  omega
end Qm
set_option linter.all false
/-! Mathematics: products of rows, and the way the program makes them. -/
namespace Qm
open Vbhlae

theorem sum_app (a b : List Int) : (a ++ b).sum = a.sum + b.sum := by simp
theorem sum_range_succ (f : Nat → Int) (n : Nat) : ((List.range (n + 1)).map f).sum = ((List.range n).map f).sum + f n := by
  rw [List.range_succ, List.map_append, sum_app]
  simp
theorem sum_congr {f g : Nat → Int} {n : Nat} (h : ∀ i, i < n → f i = g i) : ((List.range n).map f).sum = ((List.range n).map g).sum := by
  congr 1
  apply List.map_congr_left
  intro i hi
  exact h i (List.mem_range.mp hi)
theorem sum_tail {g : Nat → Int} {m : Nat} (h : ∀ i, m ≤ i → g i = 0) : ∀ k, m ≤ k → ((List.range k).map g).sum = ((List.range m).map g).sum := by
  intro k hk
  induction k with
  | zero =>
    have : m = 0 := by omega
    rw [this]
  | succ k ih =>
    rcases Nat.eq_or_lt_of_le hk with e | hlt
    · rw [← e]
    · rw [sum_range_succ, ih (by omega), h k (by omega), Int.add_zero]
theorem sum_same {g : Nat → Int} {m k : Nat} (h1 : ∀ i, m ≤ i → g i = 0) (h2 : ∀ i, k ≤ i → g i = 0) : ((List.range k).map g).sum = ((List.range m).map g).sum := by
  rcases Nat.le_total m k with h | h
  · exact sum_tail h1 k h
  · exact (sum_tail h2 m h).symm
/-- what the first i numbers of a bring to the n-th number of the product -/
def cv (a b : Row) (i n : Nat) : Int := ((List.range i).map fun k => if k ≤ n then at_ a k * at_ b (n - k) else 0).sum
/-- the row that is made, behind i whole turns and j turns within -/
def cvRow (a b : Row) (i j : Nat) : Row := (List.range (a.length + b.length - 1)).map fun n => cv a b i n + (if i ≤ n ∧ n < i + j then at_ a i * at_ b (n - i) else 0)
theorem cvRow_len (a b : Row) (i j : Nat) : (cvRow a b i j).length = a.length + b.length - 1 := by simp [cvRow]
theorem cvRow_start (a b : Row) : cvRow a b 0 0 = List.replicate (a.length + b.length - 1) 0 := by
  refine row_ext (by rw [cvRow_len]; simp) fun n hn => ?_
  rw [cvRow_len] at hn
  rw [at_rep]
  unfold cvRow
  rw [at_range hn]
  have : ¬ (0 ≤ n ∧ n < 0 + 0) := by omega
  rw [if_neg this]
  rfl
theorem cvRow_next (a b : Row) {i : Nat} : cvRow a b i b.length = cvRow a b (i + 1) 0 := by
  refine row_ext (by rw [cvRow_len, cvRow_len]) fun n hn => ?_
  rw [cvRow_len] at hn
  unfold cvRow
  rw [at_range hn, at_range hn]
  have z : ¬ (i + 1 ≤ n ∧ n < i + 1 + 0) := by omega
  rw [if_neg z, Int.add_zero]
  unfold cv
  rw [sum_range_succ]
  congr 1
  by_cases h1 : i ≤ n
  · rw [if_pos h1]
    by_cases h2 : n < i + b.length
    · rw [if_pos ⟨h1, h2⟩]
    · rw [if_neg (fun z => h2 z.2), at_out (a := b) (by omega), Int.mul_zero]
  · rw [if_neg (fun z => h1 z.1), if_neg h1]
theorem at_set {r : Row} {k : Nat} {x : Int} (h : k < r.length) (n : Nat) : at_ (r.set k x) n = if n = k then x else at_ r n := by
  unfold at_
  rw [List.getD_eq_getElem?_getD, List.getD_eq_getElem?_getD]
  by_cases e : n = k
  · subst e
    rw [List.getElem?_set_self h, if_pos rfl]
    rfl
  · rw [List.getElem?_set_ne (fun z => e z.symm), if_neg e]
theorem cvRow_turn (a b : Row) {i j : Nat} (hi : i < a.length) (hj : j < b.length) : (cvRow a b i j).set (i + j) (at_ (cvRow a b i j) (i + j) + at_ a i * at_ b j) = cvRow a b i (j + 1) := by
  have hl : i + j < a.length + b.length - 1 := by omega
  refine row_ext (by rw [List.length_set, cvRow_len, cvRow_len]) fun n hn => ?_
  rw [List.length_set, cvRow_len] at hn
  rw [at_set (by rw [cvRow_len]; exact hl)]
  unfold cvRow
  rw [at_range hn, at_range hl]
  by_cases e : n = i + j
  · subst e
    rw [at_range hn]
    have z : ¬ (i ≤ i + j ∧ i + j < i + j) := by omega
    rw [if_pos rfl, if_neg z, if_pos (by omega), Nat.add_sub_cancel_left]
    omega
  · rw [if_neg e, at_range hn]
    congr 1
    by_cases h : i ≤ n ∧ n < i + j
    · rw [if_pos h, if_pos (by omega)]
    · rw [if_neg h, if_neg (by omega)]
theorem cvRow_end {a b : Row} (ha : a ≠ []) (hb : b ≠ []) : cvRow a b a.length 0 = chain a b := by
  unfold chain
  have e1 : ¬ (a.isEmpty = true ∨ b.isEmpty = true) := by
    simp [ha, hb]
  rw [if_neg e1]
  unfold cvRow
  apply List.map_congr_left
  intro n _
  have z : ¬ (a.length ≤ n ∧ n < a.length + 0) := by omega
  rw [if_neg z, Int.add_zero]
  unfold cv
  rw [sum_same (m := n + 1) (fun i hi => if_neg (by omega)) (fun i hi => by
    by_cases h : i ≤ n
    · rw [if_pos h, at_out hi, Int.zero_mul]
    · rw [if_neg h])]
  exact sum_congr fun i hi => if_pos (by omega)
theorem at_plus (a b : Row) (i : Nat) : at_ (plus a b) i = at_ a i + at_ b i := by
  unfold plus
  by_cases h : i < max a.length b.length
  · rw [at_range h]
  · rw [at_range_out (by omega), at_out (a := a) (by omega), at_out (a := b) (by omega)]
    rfl
theorem at_times (k : Int) (a : Row) (i : Nat) : at_ (times k a) i = k * at_ a i := at_map (by simp) a i
/-- the n-th number of a product -/
theorem at_chain (a b : Row) (n : Nat) : at_ (chain a b) n = ((List.range (n + 1)).map fun i => at_ a i * at_ b (n - i)).sum := by
  unfold chain
  split
  · rename_i h
    rw [at_nil]
    have : ∀ i, at_ a i * at_ b (n - i) = 0 := by
      intro i
      rcases h with h | h
      · rw [List.isEmpty_iff.mp h, at_nil, Int.zero_mul]
      · rw [List.isEmpty_iff.mp h, at_nil, Int.mul_zero]
    rw [sum_congr (g := fun _ => 0) (fun i _ => this i)]
    clear this
    symm
    generalize n + 1 = m
    induction m with
    | zero => rfl
    | succ n ih => rw [sum_range_succ, ih]; rfl
  · rename_i h
    simp only [not_or, Bool.not_eq_true, List.isEmpty_eq_false_iff] at h
    have ha : 0 < a.length := List.length_pos_iff.mpr h.1
    have hb : 0 < b.length := List.length_pos_iff.mpr h.2
    by_cases hn : n < a.length + b.length - 1
    · rw [at_range hn]
    · rw [at_range_out (by omega)]
      symm
      have : ∀ i, i < n + 1 → at_ a i * at_ b (n - i) = 0 := by
        intro i hi
        by_cases hi2 : i < a.length
        · rw [at_out (a := b) (by omega), Int.mul_zero]
        · rw [at_out (a := a) (by omega), Int.zero_mul]
      rw [sum_congr (g := fun _ => 0) this]
      clear this hn
      generalize n + 1 = m
      induction m with
      | zero => rfl
      | succ n ih => rw [sum_range_succ, ih]; rfl
theorem chain_len {a b : Row} (ha : a ≠ []) (hb : b ≠ []) : (chain a b).length = a.length + b.length - 1 := by
  rw [← cvRow_end ha hb, cvRow_len]
theorem chain_ne {a b : Row} (ha : a ≠ []) (hb : b ≠ []) : chain a b ≠ [] := by
  intro e
  have := chain_len ha hb
  rw [e] at this
  have h1 : 0 < a.length := List.length_pos_iff.mpr ha
  have h2 : 0 < b.length := List.length_pos_iff.mpr hb
  simp at this
  omega
/-! ### how great the numbers are -/
theorem sum_le {f : Nat → Int} {M : Nat} : ∀ n, (∀ i, i < n → (f i).natAbs ≤ M) → (((List.range n).map f).sum).natAbs ≤ n * M
  | 0, _ => by simp
  | n + 1, h => by
    rw [sum_range_succ, Nat.succ_mul]
    have h1 := sum_le n fun i hi => h i (by omega)
    have h2 := h n (by omega)
    omega
theorem Sz.chain {A B : Nat} {a b : Row} (ha : Sz A a) (hb : Sz B b) (hl : a.length ≤ 16) : Sz (A + B + 4) (chain a b) := by
  intro x hx
  obtain ⟨n, hn, e⟩ := List.getElem_of_mem hx
  have e2 : at_ (Vbhlae.chain a b) n = x := at_get (by rw [List.getElem?_eq_getElem hn, e])
  rw [at_chain] at e2
  have e3 : ((List.range (n + 1)).map fun i => at_ a i * at_ b (n - i)).sum = ((List.range 16).map fun k => if k ≤ n then at_ a k * at_ b (n - k) else 0).sum := by
    rw [← sum_congr (n := n + 1) (f := fun k => if k ≤ n then at_ a k * at_ b (n - k) else 0) (fun i hi => if_pos (by omega))]
    refine sum_same (fun i hi => ?_) (fun i hi => if_neg (by omega))
    by_cases h : i ≤ n
    · rw [if_pos h, at_out (by omega), Int.zero_mul]
    · rw [if_neg h]
  rw [e3] at e2
  have h := sum_le (M := 2 ^ A * 2 ^ B - 1) 16 (f := fun k => if k ≤ n then at_ a k * at_ b (n - k) else 0) fun i _ => by
    by_cases h : i ≤ n
    · rw [if_pos h, Int.natAbs_mul]
      have := Nat.mul_lt_mul'' (ha.at i) (hb.at (n - i))
      omega
    · rw [if_neg h]
      exact Nat.zero_le _
  rw [e2] at h
  have : 2 ^ (A + B + 4) = 2 ^ A * 2 ^ B * 16 := by rw [Nat.pow_add, Nat.pow_add]
  have p1 := Nat.two_pow_pos A
  have p2 := Nat.two_pow_pos B
  have p3 := Nat.mul_pos p1 p2
  omega
theorem Sz.plus {A : Nat} {a b : Row} (ha : Sz A a) (hb : Sz A b) : Sz (A + 1) (plus a b) := by
  intro x hx
  unfold Vbhlae.plus at hx
  obtain ⟨i, _, rfl⟩ := List.mem_map.mp hx
  have h1 := ha.at i
  have h2 := hb.at i
  have : 2 ^ (A + 1) = 2 ^ A * 2 := Nat.pow_succ ..
  omega
theorem Sz.times {A B : Nat} {k : Int} {a : Row} (hk : k.natAbs < 2 ^ B) (ha : Sz A a) : Sz (B + A) (times k a) := by
  intro x hx
  unfold Vbhlae.times at hx
  obtain ⟨y, hy, rfl⟩ := List.mem_map.mp hx
  rw [Int.natAbs_mul, Nat.pow_add]
  exact Nat.mul_lt_mul'' hk (ha y hy)
end Qm
set_option linter.all false
/-! Mathematics: the specification's fractions are Lean's own; how loud altogether; sounds played. -/
namespace Qm
open Vbhlae

def qOf (r : Rat) : Q := ⟨r.num, r.den⟩
theorem q_frac (n : Int) {d : Nat} (h : d ≠ 0) : frac n d = qOf (mkRat n d) := by
  unfold frac qOf
  rw [if_neg h, Rat.num_mkRat, Rat.den_mkRat, if_neg h, if_neg h, Nat.gcd_comm]
theorem q_whole (n : Int) : Q.whole n = qOf (n : Rat) := rfl
theorem q_zero : (⟨0, 1⟩ : Q) = qOf 0 := rfl
theorem q_add (a b : Rat) : (qOf a).add (qOf b) = qOf (a + b) := by
  unfold Q.add
  rw [q_frac _ (by show a.den * b.den ≠ 0; exact Nat.mul_ne_zero a.den_nz b.den_nz), Rat.add_def']
  rfl
theorem q_neg (a : Rat) : (qOf a).neg = qOf (-a) := rfl
theorem q_sub (a b : Rat) : (qOf a).sub (qOf b) = qOf (a - b) := by
  unfold Q.sub
  rw [q_neg, q_add, Rat.sub_eq_add_neg]
theorem q_mul (a b : Rat) : (qOf a).mul (qOf b) = qOf (a * b) := by
  unfold Q.mul
  rw [q_frac _ (by show a.den * b.den ≠ 0; exact Nat.mul_ne_zero a.den_nz b.den_nz), Rat.mul_def']
  rfl
theorem q_div (a b : Rat) : (qOf a).div (qOf b) = qOf (a / b) := by
  unfold Q.div
  by_cases h : b.num = 0
  · have e : b = 0 := Rat.num_eq_zero.mp h
    subst e
    rw [if_pos (by rfl), Rat.div_def, Rat.inv_zero, Rat.mul_zero]
    rfl
  · have h' : ¬ (qOf b).num = 0 := h
    rw [if_neg h']
    have hd : (qOf a).den * (qOf b).num.natAbs ≠ 0 := Nat.mul_ne_zero a.den_nz (by show b.num.natAbs ≠ 0; omega)
    rw [q_frac _ hd]
    congr 1
    rw [Rat.div_def, Rat.inv_def, ← Rat.divInt_ofNat]
    have ea : a * Rat.divInt (b.den : Int) b.num = Rat.divInt a.num (a.den : Int) * Rat.divInt (b.den : Int) b.num := by rw [Rat.num_divInt_den]
    rw [ea]
    rw [Rat.divInt_mul_divInt]
    show Rat.divInt (if b.num < 0 then -(a.num * (b.den : Int)) else a.num * (b.den : Int)) ((a.den * b.num.natAbs : Nat) : Int) = _
    by_cases hn : b.num < 0
    · rw [if_pos hn]
      have e : ((a.den * b.num.natAbs : Nat) : Int) = -((a.den : Int) * b.num) := by
        rw [Int.natCast_mul]
        have : ((b.num.natAbs : Nat) : Int) = - b.num := by omega
        rw [this, Int.mul_neg]
      rw [e, Rat.neg_divInt_neg]
    · rw [if_neg hn]
      have e : ((a.den * b.num.natAbs : Nat) : Int) = (a.den : Int) * b.num := by
        rw [Int.natCast_mul]
        have : ((b.num.natAbs : Nat) : Int) = b.num := by omega
        rw [this]
      rw [e]
theorem q_sum : ∀ (l : List Rat) (x : Rat), (l.map qOf).foldl Q.add (qOf x) = qOf (l.foldl (fun a b => a + b) x)
  | [], _ => rfl
  | y :: l, x => by
    show ((l.map qOf).foldl Q.add ((qOf x).add (qOf y))) = _
    rw [q_add]
    exact q_sum l (x + y)
theorem rat_foldl : ∀ (l : List Rat) (x : Rat), l.foldl (fun a b => a + b) x = x + l.foldl (fun a b => a + b) 0
  | [], x => by
    show x = x + 0
    grind
  | y :: l, x => by
    show l.foldl (fun a b => a + b) (x + y) = x + l.foldl (fun a b => a + b) (0 + y)
    rw [rat_foldl l (x + y), rat_foldl l (0 + y)]
    grind
theorem getD_q (l : List Rat) (i : Nat) : (l.map qOf).getD i ⟨0, 1⟩ = qOf (l.getD i 0) := by
  rw [List.getD_eq_getElem?_getD, List.getD_eq_getElem?_getD, List.getElem?_map]
  cases l[i]? <;> rfl
theorem getD_range (n i : Nat) (f : Nat → Rat) (h : i < n) : ((List.range n).map f).getD i 0 = f i := by
  rw [List.getD_eq_getElem?_getD, List.getElem?_map, List.getElem?_range h]
  rfl

/-! ### how loud altogether -/
/-- n: the last place -/
def lou : Nat → (Nat → Rat) → (Nat → Rat) → Rat
  | 0, a, b => b 0 * b 0 / a 0
  | n + 1, a, b => b (n + 1) * b (n + 1) / a 0 + lou n (fun i => a i - (a (n + 1) / a 0) * a (n + 1 - i)) (fun i => b i - (b (n + 1) / a 0) * a (n + 1 - i))
theorem lou_succ (n : Nat) (a b : Nat → Rat) : lou (n + 1) a b = b (n + 1) * b (n + 1) / a 0 + lou n (fun i => a i - (a (n + 1) / a 0) * a (n + 1 - i)) (fun i => b i - (b (n + 1) / a 0) * a (n + 1 - i)) := rfl
theorem lou_congr : ∀ (n : Nat) {a b a' b' : Nat → Rat}, (∀ i, i ≤ n → a i = a' i) → (∀ i, i ≤ n → b i = b' i) → lou n a b = lou n a' b'
  | 0, a, b, a', b', ha, hb => by
    unfold lou
    rw [ha 0 (by omega), hb 0 (by omega)]
  | n + 1, a, b, a', b', ha, hb => by
    unfold lou
    rw [ha 0 (by omega), hb (n + 1) (by omega)]
    congr 1
    refine lou_congr n (fun i hi => ?_) (fun i hi => ?_)
    · rw [ha i (by omega), ha (n + 1) (by omega), ha (n + 1 - i) (by omega)]
    · rw [hb i (by omega), ha (n + 1 - i) (by omega)]
theorem lou_spec : ∀ (n f : Nat) (a b : List Rat), a.length = n + 1 → n < f → loudFrom f (a.map qOf) (b.map qOf) = qOf (lou n (fun i => a.getD i 0) (fun i => b.getD i 0))
  | n, 0, _, _, _, h => by omega
  | n, f + 1, a, b, hl, hf => by
    unfold loudFrom
    dsimp only
    have e : (a.map qOf).length - 1 = n := by simp [hl]
    rw [e, getD_q, getD_q, getD_q, q_mul, q_div, q_div, q_div]
    cases n with
    | zero =>
      rw [if_pos rfl]
      rfl
    | succ n =>
      rw [if_neg (by omega)]
      have m1 : ((List.range (n + 1)).map fun i => ((a.map qOf).getD i ⟨0, 1⟩).sub ((qOf (a.getD (n + 1) 0 / a.getD 0 0)).mul ((a.map qOf).getD (n + 1 - i) ⟨0, 1⟩))) = ((List.range (n + 1)).map fun i => a.getD i 0 - (a.getD (n + 1) 0 / a.getD 0 0) * a.getD (n + 1 - i) 0).map qOf := by
        rw [List.map_map]
        apply List.map_congr_left
        intro i _
        rw [getD_q, getD_q, q_mul, q_sub]
        rfl
      have m2 : ((List.range (n + 1)).map fun i => ((b.map qOf).getD i ⟨0, 1⟩).sub ((qOf (b.getD (n + 1) 0 / a.getD 0 0)).mul ((a.map qOf).getD (n + 1 - i) ⟨0, 1⟩))) = ((List.range (n + 1)).map fun i => b.getD i 0 - (b.getD (n + 1) 0 / a.getD 0 0) * a.getD (n + 1 - i) 0).map qOf := by
        rw [List.map_map]
        apply List.map_congr_left
        intro i _
        rw [getD_q, getD_q, q_mul, q_sub]
        rfl
      rw [m1, m2, lou_spec n f _ _ (by simp) (by omega), q_add]
      rw [lou_succ, lou_congr n (fun i hi => getD_range (n + 1) i _ (by omega)) (fun i hi => getD_range (n + 1) i _ (by omega))]
theorem rat_mul_div (a b c : Rat) : a * b / c = a * (b / c) := by rw [Rat.div_def, Rat.div_def, Rat.mul_assoc]
theorem rat_inv_mul (a b : Rat) : (a * b)⁻¹ = a⁻¹ * b⁻¹ := by rw [Rat.inv_mul_rev, Rat.mul_comm]
/-- rows that are greater by a factor -/
theorem lou_scale : ∀ (n : Nat) (a b : Nat → Rat) (c d : Rat), c ≠ 0 → lou n (fun i => c * a i) (fun i => d * b i) = d * d / c * lou n a b
  | 0, a, b, c, d, hc => by
    unfold lou
    simp only [Rat.div_def, rat_inv_mul]
    grind
  | n + 1, a, b, c, d, hc => by
    unfold lou
    have k1 : ∀ x : Rat, c * x / (c * a 0) = x / a 0 := fun x => by
      simp only [Rat.div_def, rat_inv_mul]
      have := Rat.mul_inv_cancel c hc
      grind
    have e1 : lou n (fun i => c * a i - c * a (n + 1) / (c * a 0) * (c * a (n + 1 - i))) (fun i => d * b i - d * b (n + 1) / (c * a 0) * (c * a (n + 1 - i))) =
        lou n (fun i => c * (a i - a (n + 1) / a 0 * a (n + 1 - i))) (fun i => d * (b i - b (n + 1) / a 0 * a (n + 1 - i))) := by
      refine lou_congr n (fun i _ => ?_) (fun i _ => ?_)
      · rw [k1]
        grind
      · have e2 : d * b (n + 1) / (c * a 0) * c = d * (b (n + 1) / a 0) := by
          simp only [Rat.div_def, rat_inv_mul]
          have := Rat.mul_inv_cancel c hc
          grind
        grind
    rw [e1, lou_scale n _ _ c d hc]
    have e3 : d * b (n + 1) * (d * b (n + 1)) / (c * a 0) = d * d / c * (b (n + 1) * b (n + 1) / a 0) := by
      simp only [Rat.div_def, rat_inv_mul]
      grind
    rw [e3]
    grind
/-- **how loud**: over the lower row's first number -/
def loudR (n : Nat) (a b : Nat → Rat) : Rat := lou n a b / a 0
theorem loudR_congr {n : Nat} {a b a' b' : Nat → Rat} (ha : ∀ i, i ≤ n → a i = a' i) (hb : ∀ i, i ≤ n → b i = b' i) : loudR n a b = loudR n a' b' := by
  unfold loudR
  rw [lou_congr n ha hb, ha 0 (by omega)]
theorem loudR_scale (n : Nat) (a b : Nat → Rat) {c : Rat} (d : Rat) (hc : c ≠ 0) : loudR n (fun i => c * a i) (fun i => d * b i) = d * d / (c * c) * loudR n a b := by
  unfold loudR
  rw [lou_scale n a b c d hc]
  simp only [Rat.div_def, rat_inv_mul]
  grind
/-- one step, in whole numbers -/
theorem loudR_step {n : Nat} {a b : Nat → Rat} (h0 : a 0 ≠ 0) (h1 : a 0 * a 0 - a (n + 1) * a (n + 1) ≠ 0) :
    loudR (n + 1) a b = b (n + 1) * b (n + 1) / (a 0 * a 0) + (a 0 * a 0 - a (n + 1) * a (n + 1)) / (a 0 * a 0) * loudR n (fun i => a 0 * a i - a (n + 1) * a (n + 1 - i)) (fun i => a 0 * b i - b (n + 1) * a (n + 1 - i)) := by
  have i0 := Rat.mul_inv_cancel _ h0
  have e1 : lou n (fun i => a i - (a (n + 1) / a 0) * a (n + 1 - i)) (fun i => b i - (b (n + 1) / a 0) * a (n + 1 - i)) =
      lou n (fun i => (a 0)⁻¹ * (a 0 * a i - a (n + 1) * a (n + 1 - i))) (fun i => (a 0)⁻¹ * (a 0 * b i - b (n + 1) * a (n + 1 - i))) := by
    refine lou_congr n (fun i _ => ?_) (fun i _ => ?_)
    · simp only [Rat.div_def]
      grind
    · simp only [Rat.div_def]
      grind
  have hi : (a 0)⁻¹ ≠ 0 := fun z => by
    rw [z] at i0
    simp at i0
  have i1 := Rat.mul_inv_cancel _ h1
  unfold loudR
  show (b (n + 1) * b (n + 1) / a 0 + lou n (fun i => a i - (a (n + 1) / a 0) * a (n + 1 - i)) (fun i => b i - (b (n + 1) / a 0) * a (n + 1 - i))) / a 0 = _
  rw [e1, lou_scale n _ _ _ _ hi]
  simp only [Rat.div_def, rat_inv_mul, Nat.sub_zero, Rat.inv_inv]
  grind
theorem lou_zero : ∀ (n : Nat) (a : Nat → Rat), lou n a (fun _ => 0) = 0
  | 0, a => by
    unfold lou
    simp [Rat.div_def]
  | n + 1, a => by
    unfold lou
    have e : lou n (fun i => a i - a (n + 1) / a 0 * a (n + 1 - i)) (fun i => 0 - 0 / a 0 * a (n + 1 - i)) = lou n (fun i => a i - a (n + 1) / a 0 * a (n + 1 - i)) (fun _ => 0) :=
      lou_congr n (fun _ _ => rfl) (fun i _ => by simp only [Rat.div_def]; grind)
    rw [e, lou_zero n]
    simp only [Rat.div_def]
    grind
theorem loudR_zero {n : Nat} {a b : Nat → Rat} (h : ∀ i, i ≤ n → b i = 0) : loudR n a b = 0 := by
  unfold loudR
  rw [lou_congr n (fun _ _ => rfl) h, lou_zero]
  simp [Rat.div_def]
theorem loud_spec (up low : Row) (h : 0 < max up.length low.length) : loud up low = qOf (loudR (max up.length low.length - 1) (fun i => (at_ low i : Rat)) (fun i => (at_ up i : Rat))) := by
  unfold loud
  dsimp only
  have m : ∀ r : Row, ((List.range (max up.length low.length)).map fun i => Q.whole (at_ r i)) = ((List.range (max up.length low.length)).map fun i => (at_ r i : Rat)).map qOf := fun r => by
    rw [List.map_map]
    rfl
  rw [m, m, lou_spec (max up.length low.length - 1) _ _ _ (by simp; omega) (by omega), q_whole, q_div]
  congr 1
  unfold loudR
  congr 1
  exact lou_congr _ (fun i hi => getD_range _ _ _ (by omega)) (fun i hi => getD_range _ _ _ (by omega))
end Qm
set_option linter.all false
/-! Mathematics: plain rows, steps, quiet rows, proofs. -/
namespace Qm
open Vbhlae

theorem common_times (c : Int) (r : Row) : common (r.map fun x => c * x) = c.natAbs * common r := by
  have key : ∀ (r : Row) (g : Nat), (r.map fun x => c * x).foldl (fun g x => Nat.gcd g x.natAbs) (c.natAbs * g) = c.natAbs * r.foldl (fun g x => Nat.gcd g x.natAbs) g := by
    intro r
    induction r with
    | nil => intro g; rfl
    | cons x r ih =>
      intro g
      show (r.map fun x => c * x).foldl (fun g x => Nat.gcd g x.natAbs) (Nat.gcd (c.natAbs * g) (c * x).natAbs) = _
      rw [Int.natAbs_mul, Nat.gcd_mul_left, ih]
      rfl
  have := key r 0
  rw [Nat.mul_zero] at this
  exact this
theorem common_at {r : Row} (i : Nat) : (common r : Int) ∣ at_ r i := by
  by_cases h : i < r.length
  · exact common_dvd (at_mem h)
  · rw [at_out (by omega)]
    exact Int.dvd_zero _
/-- first number above 0, no common divisor, no zeros at the end -/
structure IsPlain (p : Row) : Prop where
  pos : 0 < at_ p 0
  one : common p = 1
  trm : trim p = p
theorem common_congr {a b : Row} (h : ∀ i, at_ a i = at_ b i) : common a = common b := by
  refine Nat.dvd_antisymm ?_ ?_
  · refine dvd_common fun x hx => ?_
    obtain ⟨i, hi, rfl⟩ := List.getElem_of_mem hx
    rw [← at_get (List.getElem?_eq_getElem hi), ← h]
    exact common_at i
  · refine dvd_common fun x hx => ?_
    obtain ⟨i, hi, rfl⟩ := List.getElem_of_mem hx
    rw [← at_get (List.getElem?_eq_getElem hi), h]
    exact common_at i
theorem plain_unique {p q : Row} (hp : IsPlain p) (hq : IsPlain q) {c d : Int} (hc : c ≠ 0) (h : ∀ i, c * at_ p i = d * at_ q i) : p = q := by
  have h0 := h 0
  have p0 := hp.pos
  have q0 := hq.pos
  have e1 : common (p.map fun x => c * x) = common (q.map fun x => d * x) := common_congr fun i => by
    rw [at_map (by simp), at_map (by simp)]
    exact h i
  rw [common_times, common_times, hp.one, hq.one, Nat.mul_one, Nat.mul_one] at e1
  have e2 : c = d := by
    rcases Int.lt_or_gt_of_ne hc with z | z
    · have : c * at_ p 0 < 0 := Int.mul_neg_of_neg_of_pos z p0
      have hd : d < 0 := by
        rcases Int.lt_or_le d 0 with y | y
        · exact y
        · have := Int.mul_nonneg y (Int.le_of_lt q0)
          omega
      omega
    · have : 0 < c * at_ p 0 := Int.mul_pos z p0
      have hd : 0 < d := by
        rcases Int.lt_or_le 0 d with y | y
        · exact y
        · have := Int.mul_nonpos_of_nonpos_of_nonneg y (Int.le_of_lt q0)
          omega
      omega
  subst e2
  rw [← hp.trm, ← hq.trm]
  exact trim_eq fun i => Int.eq_of_mul_eq_mul_left hc (h i)
theorem trim_map {f : Int → Int} (hf : f 0 = 0) (hn : ∀ x, f x = 0 → x = 0) (r : Row) : trim (r.map f) = (trim r).map f := by
  rcases trim_last r with h | ⟨m, x, h, hx⟩
  · have z : ∀ i, at_ (r.map f) i = at_ [] i := fun i => by
      rw [at_map hf, ← at_trim, h, at_nil, hf]
    rw [trim_eq z, h]
    rfl
  · have z : ∀ i, at_ (r.map f) i = at_ ((trim r).map f) i := fun i => by rw [at_map hf, at_map hf, at_trim]
    rw [trim_eq z, h, List.map_append]
    exact trim_ne _ fun e => hx (hn x e)
theorem redu_trim {r : Row} (h : at_ r 0 ≠ 0) : trim (redu r) = redu r := by
  rcases trim_last r with e | ⟨m, x, e, hx⟩
  · have : at_ (trim r) 0 = 0 := by rw [e, at_nil]
    rw [at_trim] at this
    exact absurd this h
  · unfold redu
    rw [e, List.map_append]
    refine trim_ne _ fun z => hx ?_
    have hd : (common (m ++ [x]) : Int) ∣ x := common_dvd (by simp)
    have := Int.mul_ediv_cancel' hd
    have z2 : x / (common (m ++ [x]) : Int) = 0 := z
    rw [z2, Int.mul_zero] at this
    exact this.symm
theorem redu_one {r : Row} (h : at_ r 0 ≠ 0) : common (redu r) = 1 := by
  have hp := common_trim_pos h
  have e : common ((redu r).map fun x => (common (trim r) : Int) * x) = common (trim r) := common_congr fun i => by
    rw [at_map (by simp), ← redu_times, at_trim]
  rw [common_times, Int.natAbs_natCast] at e
  exact Nat.eq_of_mul_eq_mul_left hp (by rw [e, Nat.mul_one])
theorem plain_is {r : Row} (h : at_ r 0 ≠ 0) : IsPlain (plain r) := by
  have hn := redu_ne h
  rw [plain_redu]
  split
  · rename_i hz
    refine ⟨?_, ?_, ?_⟩
    · rw [at_map (by simp)]
      omega
    · have e : (redu r).map (fun x => -x) = (redu r).map fun x => (-1 : Int) * x := List.map_congr_left fun x _ => by omega
      rw [e, common_times, redu_one h]
      rfl
    · rw [trim_map (by simp) (by omega), redu_trim h]
  · exact ⟨by omega, redu_one h, redu_trim h⟩
/-- a row is its plain row times a number -/
theorem plain_times {r : Row} (h : at_ r 0 ≠ 0) : ∃ c : Int, c ≠ 0 ∧ ∀ i, at_ r i = c * at_ (plain r) i := by
  have hp := common_trim_pos h
  rw [plain_redu]
  split
  · refine ⟨-(common (trim r) : Int), by omega, fun i => ?_⟩
    rw [at_map (by simp), redu_times r i, Int.neg_mul_neg]
  · exact ⟨common (trim r), by omega, redu_times r⟩
theorem plain_scale {r s : Row} {c : Int} (hc : c ≠ 0) (hr : at_ r 0 ≠ 0) (h : ∀ i, at_ s i = c * at_ r i) : plain s = plain r := by
  have hs : at_ s 0 ≠ 0 := by
    rw [h]
    exact Int.mul_ne_zero hc hr
  obtain ⟨d, hd, e1⟩ := plain_times hr
  obtain ⟨e, he, e2⟩ := plain_times hs
  refine plain_unique (plain_is hs) (plain_is hr) (c := e) (d := c * d) he fun i => ?_
  rw [← e2, h, e1, Int.mul_assoc]
theorem plain_plain {p : Row} (h : IsPlain p) : plain p = p := by
  have h0 : at_ p 0 ≠ 0 := by
    have := h.pos
    omega
  obtain ⟨c, hc, e⟩ := plain_times h0
  exact plain_unique (plain_is h0) h (c := c) (d := 1) hc fun i => by rw [← e, Int.one_mul]
theorem plain_pos_len {p : Row} (h : IsPlain p) : 0 < p.length := by
  rcases Nat.eq_zero_or_pos p.length with z | z
  · have := h.pos
    rw [at_out (by omega)] at this
    omega
  · exact z
theorem plain_last {p : Row} (h : IsPlain p) : at_ p (p.length - 1) ≠ 0 := by
  have hl := plain_pos_len h
  rcases trim_last p with e | ⟨m, x, e, hx⟩
  · rw [h.trm] at e
    rw [e] at hl
    simp at hl
  · rw [h.trm] at e
    rw [e, List.length_append, List.length_singleton, Nat.add_sub_cancel, at_app_r (Nat.le_refl _)]
    simpa [at_] using hx

/-! ### steps -/
theorem at_reduced {r : Row} {i : Nat} (h : i < r.length - 1) : at_ (reduced r) i = at_ r 0 * at_ r i - at_ r (r.length - 1) * at_ r (r.length - 1 - i) := by
  unfold reduced
  rw [at_range h]
theorem reduced_len (r : Row) : (reduced r).length = r.length - 1 := by simp [reduced]
theorem smaller_iff (r : Row) : smaller r = true ↔ (at_ r (r.length - 1)).natAbs < (at_ r 0).natAbs := by simp [smaller]
theorem sq_lt {a b : Int} (h : a.natAbs < b.natAbs) : 0 < b * b - a * a := by
  have h1 : a * a = ((a.natAbs * a.natAbs : Nat) : Int) := (Int.natAbs_mul_self).symm
  have h2 : b * b = ((b.natAbs * b.natAbs : Nat) : Int) := (Int.natAbs_mul_self).symm
  have h3 : a.natAbs * a.natAbs < b.natAbs * b.natAbs := Nat.mul_lt_mul'' h h
  omega
theorem reduced_pos {r : Row} (hl : 2 ≤ r.length) (h : smaller r = true) : 0 < at_ (reduced r) 0 := by
  rw [at_reduced (by omega), Nat.sub_zero]
  exact sq_lt ((smaller_iff r).mp h)
theorem trim_length_le (r : Row) : (trim r).length ≤ r.length := trim_len r
theorem plain_length_le (r : Row) : (plain r).length ≤ r.length := by
  rw [plain_len]
  exact trim_len r
theorem steps_fuel : ∀ (f g : Nat) (r : Row), r.length ≤ f → 1 ≤ f → r.length ≤ g → 1 ≤ g → stepsFrom f r = stepsFrom g r
  | f + 1, g + 1, r, h1, _, h2, _ => by
    unfold stepsFrom
    by_cases hl : r.length ≤ 1
    · rw [if_pos hl, if_pos hl]
    · rw [if_neg hl, if_neg hl]
      by_cases hs : smaller r = false
      · rw [if_pos hs, if_pos hs]
      · rw [if_neg hs, if_neg hs]
        have := plain_length_le (reduced r)
        rw [reduced_len] at this
        rw [steps_fuel f g _ (by omega) (by omega) (by omega) (by omega)]
/-- the steps of a plain row -/
def tolds (p : Row) : List Row := stepsFrom (p.length + 1) p
theorem steps_tolds (r : Row) : steps r = tolds (plain r) := by
  unfold steps tolds
  have := plain_length_le r
  exact steps_fuel _ _ _ (by omega) (by omega) (by omega) (by omega)
/-- what the program calls the step of a row -/
def stepOf (r : Row) : Option Row := if r.length ≤ 1 ∨ (at_ r 0).natAbs ≤ (at_ r (r.length - 1)).natAbs then none else some (plain (reduced r))
theorem stepsFrom_succ (f : Nat) (r : Row) : stepsFrom (f + 1) r = if r.length ≤ 1 then [r] else if smaller r = false then [r] else r :: stepsFrom f (plain (reduced r)) := rfl
theorem tolds_eq (p : Row) : tolds p = match stepOf p with
    | none => [p]
    | some q => p :: tolds q := by
  have e0 : tolds p = stepsFrom (p.length + 1) p := rfl
  rw [e0, stepsFrom_succ]
  by_cases hl : p.length ≤ 1
  · have hst : stepOf p = none := by
      unfold stepOf
      rw [if_pos (.inl hl)]
    rw [if_pos hl, hst]
  · rw [if_neg hl]
    by_cases hs : smaller p = true
    · have h1 := (smaller_iff p).mp hs
      have hst : stepOf p = some (plain (reduced p)) := by
        unfold stepOf
        rw [if_neg (by omega)]
      rw [if_neg (by rw [hs]; decide), hst]
      have := plain_length_le (reduced p)
      rw [reduced_len] at this
      rw [steps_fuel p.length ((plain (reduced p)).length + 1) _ (by omega) (by omega) (by omega) (by omega)]
      rfl
    · have h1 : ¬ (at_ p (p.length - 1)).natAbs < (at_ p 0).natAbs := fun z => hs ((smaller_iff p).mpr z)
      have hst : stepOf p = none := by
        unfold stepOf
        rw [if_pos (.inr (by omega))]
      rw [if_pos (by simpa using hs), hst]
theorem tolds_none {p : Row} (h : stepOf p = none) : tolds p = [p] := by rw [tolds_eq, h]
theorem tolds_some {p q : Row} (h : stepOf p = some q) : tolds p = p :: tolds q := by rw [tolds_eq, h]
theorem stepOf_some {p q : Row} (h : stepOf p = some q) : 2 ≤ p.length ∧ smaller p = true ∧ q = plain (reduced p) ∧ q.length < p.length := by
  unfold stepOf at h
  split at h
  · cases h
  · rename_i hn
    cases h
    have := plain_length_le (reduced p)
    rw [reduced_len] at this
    exact ⟨by omega, (smaller_iff p).mpr (by omega), rfl, by omega⟩
theorem stepOf_plain {p q : Row} (h : stepOf p = some q) : IsPlain q := by
  obtain ⟨h1, h2, rfl, _⟩ := stepOf_some h
  have := reduced_pos h1 h2
  exact plain_is (by omega)
/-- whether steps come down to one number -/
def downs (p : Row) : Bool := (tolds p).getLast?.any fun x => x.length == 1
theorem downs_none {p : Row} (h : stepOf p = none) : downs p = (p.length == 1) := by
  unfold downs
  rw [tolds_none h]
  rfl
theorem tolds_ne (p : Row) : tolds p ≠ [] := by
  cases h : stepOf p with
  | none => rw [tolds_none h]; simp
  | some q => rw [tolds_some h]; simp
theorem downs_some {p q : Row} (h : stepOf p = some q) : downs p = downs q := by
  unfold downs
  rw [tolds_some h, List.getLast?_cons]
  cases e : (tolds q).getLast? with
  | none => exact absurd (List.getLast?_eq_none_iff.mp e) (tolds_ne q)
  | some x => rfl
theorem quiet_downs (r : Row) : quiet r = (decide (at_ r 0 ≠ 0) && downs (plain r)) := by
  unfold quiet downs
  rw [steps_tolds]
theorem quiet_scale {r s : Row} {c : Int} (hc : c ≠ 0) (hr : at_ r 0 ≠ 0) (h : ∀ i, at_ s i = c * at_ r i) : quiet s = quiet r := by
  have hs : at_ s 0 ≠ 0 := by
    rw [h]
    exact Int.mul_ne_zero hc hr
  rw [quiet_downs, quiet_downs, plain_scale hc hr h, decide_eq_true hs, decide_eq_true hr]
theorem quiet_congr {r s : Row} (h : ∀ i, at_ s i = at_ r i) : quiet s = quiet r := by
  rw [quiet_downs, quiet_downs, h 0, plain_eq h]
theorem quiet_plain {r : Row} (h : at_ r 0 ≠ 0) : quiet (plain r) = quiet r := by
  have := plain_is h
  have h0 := this.pos
  rw [quiet_downs, quiet_downs, plain_plain this, decide_eq_true h, decide_eq_true (by omega)]
/-- one step of a row that is quiet, zeros at its end or not -/
theorem quiet_step {r : Row} (hq : quiet r = true) (hl : 2 ≤ r.length) : smaller r = true ∧ quiet (reduced r) = true := by
  rw [quiet_downs, Bool.and_eq_true] at hq
  obtain ⟨h0, hd⟩ := hq
  have h0 : at_ r 0 ≠ 0 := of_decide_eq_true h0
  by_cases hz : at_ r (r.length - 1) = 0
  · have hs : smaller r = true := (smaller_iff r).mpr (by rw [hz]; simp; omega)
    refine ⟨hs, ?_⟩
    have e : ∀ i, at_ (reduced r) i = at_ r 0 * at_ r i := fun i => by
      by_cases hi : i < r.length - 1
      · rw [at_reduced hi, hz, Int.zero_mul, Int.sub_zero]
      · rw [at_out (by rw [reduced_len]; omega)]
        by_cases hi2 : i = r.length - 1
        · rw [hi2, hz, Int.mul_zero]
        · rw [at_out (a := r) (i := i) (by omega), Int.mul_zero]
    rw [quiet_scale h0 h0 e, quiet_downs, decide_eq_true h0, hd]
    rfl
  · -- the last number isn't 0: the plain row is as long
    have hlen : (plain r).length = r.length := by
      rw [plain_len]
      rcases trim_last r with e | ⟨m, x, e, hx⟩
      · have : at_ (trim r) 0 = 0 := by rw [e, at_nil]
        rw [at_trim] at this
        exact absurd this h0
      · have h1 := trim_len r
        rcases Nat.eq_or_lt_of_le h1 with z | z
        · exact z
        · have : at_ (trim r) (r.length - 1) = 0 := at_out (by omega)
          rw [at_trim] at this
          exact absurd this hz
    obtain ⟨c, hc, e⟩ := plain_times h0
    cases hst : stepOf (plain r) with
    | none =>
      rw [downs_none hst, hlen] at hd
      have : r.length = 1 := by simpa using hd
      omega
    | some q =>
      obtain ⟨_, s2, s3, _⟩ := stepOf_some hst
      have t1 := (smaller_iff _).mp s2
      rw [hlen] at t1
      have hs : smaller r = true := (smaller_iff r).mpr (by
        rw [e, e 0, Int.natAbs_mul, Int.natAbs_mul]
        exact Nat.mul_lt_mul_of_pos_left t1 (by omega))
      refine ⟨hs, ?_⟩
      rw [downs_some hst] at hd
      have r0 := reduced_pos hl hs
      have p0 := reduced_pos (r := plain r) (by omega) s2
      have e2 : ∀ i, at_ (reduced r) i = (c * c) * at_ (reduced (plain r)) i := fun i => by
        by_cases hi : i < r.length - 1
        · rw [at_reduced hi, at_reduced (by omega), hlen, e 0, e i, e (r.length - 1), e (r.length - 1 - i)]
          grind
        · rw [at_out (by rw [reduced_len]; omega), at_out (by rw [reduced_len]; omega), Int.mul_zero]
      rw [quiet_scale (Int.mul_ne_zero hc hc) (by omega) e2, quiet_downs, ← s3, hd, decide_eq_true (by omega)]
      rfl

/-! ### proofs -/
theorem redu_plain {r : Row} (h : 0 < at_ r 0) : redu r = plain r := by
  rw [plain_redu]
  have h0 : at_ r 0 ≠ 0 := by omega
  have : ¬ at_ (redu r) 0 < 0 := by
    rw [at_redu]
    have := Int.ediv_nonneg (Int.le_of_lt h) (Int.natCast_nonneg (common (trim r)))
    omega
  rw [if_neg this]
theorem alongside_iff {a r : Row} (hr : 0 < at_ r 0) : alongside a r = true ↔ redu a = plain r := by
  have r0 : at_ r 0 ≠ 0 := by omega
  unfold alongside
  simp only [Bool.and_eq_true, beq_iff_eq, decide_eq_true_eq, List.all_eq_true, List.mem_range, at_trim]
  constructor
  · rintro ⟨h1, h2, h3⟩
    have a0 : 0 < at_ a 0 := by
      rcases Int.lt_or_le 0 (at_ a 0) with z | z
      · exact z
      · have := Int.mul_nonpos_of_nonpos_of_nonneg z (Int.le_of_lt hr)
        omega
    rw [redu_plain a0]
    obtain ⟨c, hc, e1⟩ := plain_times (r := a) (by omega)
    obtain ⟨d, hd, e2⟩ := plain_times r0
    have all : ∀ i, at_ a i * at_ r 0 = at_ r i * at_ a 0 := fun i => by
      by_cases hi : i < (trim a).length
      · exact h3 i hi
      · rw [← at_trim a i, ← at_trim r i, at_out (a := trim a) (by omega), at_out (a := trim r) (by omega), Int.zero_mul, Int.zero_mul]
    refine plain_unique (plain_is (by omega)) (plain_is r0) (c := c * at_ r 0) (d := d * at_ a 0) (Int.mul_ne_zero hc r0) fun i => ?_
    have := all i
    rw [e1 i, e2 i] at this
    grind
  · intro h
    have p0 := (plain_is r0).pos
    have a0 : at_ a 0 ≠ 0 := fun z => by
      rw [← h, at_redu, z] at p0
      simp at p0
    have a1 : 0 < at_ a 0 := by
      rw [redu_times, h]
      exact Int.mul_pos (by have := common_trim_pos a0; omega) p0
    have r1 := redu_plain hr
    refine ⟨?_, Int.mul_pos a1 hr, fun i hi => ?_⟩
    · rw [← redu_len, ← redu_len, h, r1]
    · rw [redu_times a i, redu_times a 0, redu_times r i, redu_times r 0, h, r1]
      grind
theorem isProof_iff : ∀ (rows : List Row) (r : Row), 0 < at_ r 0 → (isProof r rows = true ↔ downs (plain r) = true ∧ rows.map redu = tolds (plain r))
  | [], r, hr => by
    constructor
    · intro h
      cases h
    · rintro ⟨_, h⟩
      exact absurd h.symm (tolds_ne _)
  | a :: l, r, hr => by
    have r0 : at_ r 0 ≠ 0 := by omega
    have hp := plain_is r0
    unfold isProof
    rw [Bool.and_eq_true, alongside_iff hr]
    constructor
    · rintro ⟨h1, h2⟩
      have hlen : (trim a).length = (plain r).length := by rw [← redu_len, h1]
      by_cases hl : (trim a).length = 1
      · rw [if_pos (by simpa using hl)] at h2
        have : l = [] := by simpa using h2
        subst this
        have hs : stepOf (plain r) = none := by
          unfold stepOf
          rw [if_pos (.inl (by omega))]
        rw [downs_none hs, tolds_none hs]
        exact ⟨by simpa using by omega, by simp [h1]⟩
      · rw [if_neg (by simpa using hl), Bool.and_eq_true] at h2
        obtain ⟨h2, h3⟩ := h2
        have pl := plain_pos_len hp
        have e : ∀ i, at_ (trim a) i = (common (trim a) : Int) * at_ (plain r) i := fun i => by rw [at_trim, redu_times, h1]
        have cp : 0 < common (trim a) := by
          refine Nat.pos_of_ne_zero fun z => ?_
          have e0 := e 0
          rw [z] at e0
          have := (smaller_iff _).mp h2
          rw [e0] at this
          simp at this
        have s1 : smaller (plain r) = true := (smaller_iff _).mpr (by
          have := (smaller_iff _).mp h2
          rw [e, e 0, Int.natAbs_mul, Int.natAbs_mul, hlen] at this
          exact Nat.lt_of_mul_lt_mul_left this)
        have hst : stepOf (plain r) = some (plain (reduced (plain r))) := by
          unfold stepOf
          have := (smaller_iff _).mp s1
          rw [if_neg (by omega)]
        have q0 := reduced_pos (r := plain r) (by omega) s1
        have e2 : ∀ i, at_ (reduced (trim a)) i = ((common (trim a) : Int) * common (trim a)) * at_ (reduced (plain r)) i := fun i => by
          by_cases hi : i < (trim a).length - 1
          · rw [at_reduced hi, at_reduced (by omega), hlen, e 0, e i, e ((plain r).length - 1), e ((plain r).length - 1 - i)]
            grind
          · rw [at_out (by rw [reduced_len]; omega), at_out (by rw [reduced_len]; omega), Int.mul_zero]
        have b0 : 0 < at_ (reduced (trim a)) 0 := reduced_pos (by omega) h2
        have e3 : plain (reduced (trim a)) = plain (reduced (plain r)) := plain_scale (by
          have : (common (trim a) : Int) ≠ 0 := by omega
          exact Int.mul_ne_zero this this) (by omega) e2
        have ih := (isProof_iff l (reduced (trim a)) b0).mp h3
        rw [e3] at ih
        rw [downs_some hst, tolds_some hst]
        exact ⟨ih.1, by rw [List.map_cons, h1, ih.2]⟩
    · rintro ⟨h1, h2⟩
      rw [List.map_cons] at h2
      cases hst : stepOf (plain r) with
      | none =>
        rw [tolds_none hst] at h2
        obtain ⟨h3, h4⟩ := List.cons.inj h2
        have hlen : (trim a).length = (plain r).length := by rw [← redu_len, h3]
        rw [downs_none hst] at h1
        have h1 : (plain r).length = 1 := by simpa using h1
        refine ⟨h3, ?_⟩
        rw [if_pos (by simpa using by omega)]
        simpa using h4
      | some q =>
        rw [tolds_some hst] at h2
        obtain ⟨h3, h4⟩ := List.cons.inj h2
        have hlen : (trim a).length = (plain r).length := by rw [← redu_len, h3]
        obtain ⟨s0, s1, s2, _⟩ := stepOf_some hst
        refine ⟨h3, ?_⟩
        rw [if_neg (by simpa using by omega), Bool.and_eq_true]
        have p0 := hp.pos
        have e : ∀ i, at_ (trim a) i = (common (trim a) : Int) * at_ (plain r) i := fun i => by rw [at_trim, redu_times, h3]
        have a0 : at_ a 0 ≠ 0 := fun z => by
          rw [← h3, at_redu, z] at p0
          simp at p0
        have cp := common_trim_pos a0
        have h5 : smaller (trim a) = true := (smaller_iff _).mpr (by
          rw [e, e 0, Int.natAbs_mul, Int.natAbs_mul, hlen]
          exact Nat.mul_lt_mul_of_pos_left ((smaller_iff _).mp s1) (by omega))
        refine ⟨h5, ?_⟩
        have q0 := reduced_pos (r := plain r) (by omega) s1
        have e2 : ∀ i, at_ (reduced (trim a)) i = ((common (trim a) : Int) * common (trim a)) * at_ (reduced (plain r)) i := fun i => by
          by_cases hi : i < (trim a).length - 1
          · rw [at_reduced hi, at_reduced (by omega), hlen, e 0, e i, e ((plain r).length - 1), e ((plain r).length - 1 - i)]
            grind
          · rw [at_out (by rw [reduced_len]; omega), at_out (by rw [reduced_len]; omega), Int.mul_zero]
        have b0 : 0 < at_ (reduced (trim a)) 0 := reduced_pos (by omega) h5
        have e3 : plain (reduced (trim a)) = plain (reduced (plain r)) := plain_scale (by
          have : (common (trim a) : Int) ≠ 0 := by omega
          exact Int.mul_ne_zero this this) (by omega) e2
        rw [isProof_iff l (reduced (trim a)) b0, e3, ← s2]
        rw [downs_some hst] at h1
        exact ⟨h1, h4⟩
/-- every step's numbers, by how many steps are ahead of it -/
theorem Sz.stepOf {B : Nat} {p q : Row} (h : Sz B p) (e : stepOf p = some q) : Sz (2 * B + 1) q := by
  obtain ⟨_, _, rfl, _⟩ := stepOf_some e
  exact h.step.plain
end Qm
set_option linter.all false
/-! Mathematics: sounds played. -/
namespace Qm
open Vbhlae

def rs (f : Nat → Rat) : Nat → Rat
  | 0 => 0
  | n + 1 => rs f n + f n
theorem rs_congr {f g : Nat → Rat} : ∀ n, (∀ i, i < n → f i = g i) → rs f n = rs g n
  | 0, _ => rfl
  | n + 1, h => by
    show rs f n + f n = rs g n + g n
    rw [rs_congr n fun i hi => h i (by omega), h n (by omega)]
theorem rs_tail {f : Nat → Rat} {m : Nat} (h : ∀ i, m ≤ i → f i = 0) : ∀ n, m ≤ n → rs f n = rs f m
  | 0, hn => by
    have : m = 0 := by omega
    rw [this]
  | n + 1, hn => by
    rcases Nat.eq_or_lt_of_le hn with e | hl
    · rw [e]
    · show rs f n + f n = _
      rw [rs_tail h n (by omega), h n (by omega), Rat.add_zero]
theorem rs_mul (f : Nat → Rat) (c : Rat) : ∀ n, rs (fun i => f i * c) n = rs f n * c
  | 0 => by
    show (0 : Rat) = 0 * c
    rw [Rat.zero_mul]
  | n + 1 => by
    show rs (fun i => f i * c) n + f n * c = (rs f n + f n) * c
    rw [rs_mul f c n, Rat.add_mul]
theorem rs_int (f : Nat → Int) : ∀ n, rs (fun i => (f i : Rat)) n = ((((List.range n).map f).sum : Int) : Rat)
  | 0 => rfl
  | n + 1 => by
    rw [sum_range_succ, Rat.intCast_add, ← rs_int f n]
    rfl
theorem qsum (f : Nat → Rat) : ∀ n, Q.sum ((List.range n).map fun i => qOf (f i)) = qOf (rs f n)
  | 0 => rfl
  | n + 1 => by
    have ih := qsum f n
    unfold Q.sum at ih ⊢
    rw [List.range_succ, List.map_append, List.foldl_append, ih]
    show (qOf (rs f n)).add (qOf (f n)) = _
    rw [q_add]
    rfl
/-- the next answer, in Lean's own fractions -/
def nextR (up low : Row) (ins outs : List Rat) : Rat := (rs (fun i => (at_ up i : Rat) * ins.getD i 0) up.length - rs (fun i => (at_ low (i + 1) : Rat) * outs.getD i 0) (low.length - 1)) / (at_ low 0 : Rat)
theorem nextOut_q (up low : Row) (ins outs : List Rat) : nextOut up low (ins.map qOf) (outs.map qOf) = qOf (nextR up low ins outs) := by
  unfold nextOut nextR
  dsimp only
  have e1 : ((List.range up.length).map fun i => (Q.whole (at_ up i)).mul ((ins.map qOf).getD i ⟨0, 1⟩)) = (List.range up.length).map fun i => qOf ((at_ up i : Rat) * ins.getD i 0) := List.map_congr_left fun i _ => by rw [getD_q, q_whole, q_mul]
  have e2 : ((List.range (low.length - 1)).map fun i => (Q.whole (at_ low (i + 1))).mul ((outs.map qOf).getD i ⟨0, 1⟩)) = (List.range (low.length - 1)).map fun i => qOf ((at_ low (i + 1) : Rat) * outs.getD i 0) := List.map_congr_left fun i _ => by rw [getD_q, q_whole, q_mul]
  rw [e1, e2, qsum, qsum, q_sub, q_whole, q_div]
def playR (up low : Row) : List Rat → List Rat → List Rat → List Rat
  | _, _, [] => []
  | ins, outs, x :: r => nextR up low (x :: ins) outs :: playR up low (x :: ins) (nextR up low (x :: ins) outs :: outs) r
theorem playFrom_q (up low : Row) : ∀ (xs ins outs : List Rat), playFrom up low (ins.map qOf) (outs.map qOf) (xs.map qOf) = (playR up low ins outs xs).map qOf
  | [], _, _ => rfl
  | x :: xs, ins, outs => by
    show (nextOut up low (qOf x :: ins.map qOf) (outs.map qOf) :: playFrom up low (qOf x :: ins.map qOf) (nextOut up low (qOf x :: ins.map qOf) (outs.map qOf) :: outs.map qOf) (xs.map qOf)) = _
    have e : nextOut up low (qOf x :: ins.map qOf) (outs.map qOf) = qOf (nextR up low (x :: ins) outs) := nextOut_q up low (x :: ins) outs
    rw [e]
    show _ :: playFrom up low ((x :: ins).map qOf) ((nextR up low (x :: ins) outs :: outs).map qOf) (xs.map qOf) = _
    rw [playFrom_q up low xs (x :: ins) (nextR up low (x :: ins) outs :: outs)]
    rfl
theorem playR_len (up low : Row) : ∀ (xs ins outs : List Rat), (playR up low ins outs xs).length = xs.length
  | [], _, _ => rfl
  | x :: xs, ins, outs => congrArg (· + 1) (playR_len up low xs _ _)
/-- each answer from those ahead of it -/
theorem playR_at (up low : Row) : ∀ (xs ins outs : List Rat) (t : Nat), t < xs.length → (playR up low ins outs xs)[t]? = some (nextR up low ((xs.take (t + 1)).reverse ++ ins) (((playR up low ins outs xs).take t).reverse ++ outs))
  | [], _, _, t, h => by simp at h
  | x :: xs, ins, outs, 0, h => by
    show some _ = some _
    simp
  | x :: xs, ins, outs, t + 1, h => by
    have ih := playR_at up low xs (x :: ins) (nextR up low (x :: ins) outs :: outs) t (by simpa using h)
    show (playR up low (x :: ins) (nextR up low (x :: ins) outs :: outs) xs)[t]? = _
    rw [ih]
    show some _ = some _
    congr 1
    show nextR up low _ _ = nextR up low _ ((nextR up low (x :: ins) outs :: ((playR up low (x :: ins) (nextR up low (x :: ins) outs :: outs) xs).take t)).reverse ++ outs)
    rw [List.take_succ_cons, List.reverse_cons, List.reverse_cons, List.append_assoc, List.append_assoc]
    rfl
/-- what the program calls weighed -/
def weigh (row : Row) (start : Nat) (values : Row) (t : Nat) : Int := ((List.range (min row.length (t + 1) - start)).map fun k => at_ row (start + k) * at_ values (t - (start + k))).sum
theorem getD_rev (l : List Rat) (i : Nat) : l.reverse.getD i 0 = if i < l.length then l.getD (l.length - 1 - i) 0 else 0 := by
  rw [List.getD_eq_getElem?_getD, List.getD_eq_getElem?_getD]
  by_cases h : i < l.length
  · rw [if_pos h, List.getElem?_reverse h]
  · rw [if_neg h, List.getElem?_eq_none (by simpa using h)]
    rfl
theorem getD_map_int (l : List Int) (i : Nat) : (l.map fun x : Int => (x : Rat)).getD i 0 = (at_ l i : Rat) := by
  unfold at_
  rw [List.getD_eq_getElem?_getD, List.getD_eq_getElem?_getD, List.getElem?_map]
  cases l[i]? <;> rfl
theorem getD_take (l : List Rat) (n i : Nat) (h : i < n) : (l.take n).getD i 0 = l.getD i 0 := by
  rw [List.getD_eq_getElem?_getD, List.getD_eq_getElem?_getD, List.getElem?_take_of_lt h]
theorem rs_same {f : Nat → Rat} {m n : Nat} (h1 : ∀ i, m ≤ i → f i = 0) (h2 : ∀ i, n ≤ i → f i = 0) : rs f m = rs f n := by
  rcases Nat.le_total m n with h | h
  · exact (rs_tail h1 n h).symm
  · exact rs_tail h2 m h
/-- what is heard of the inputs -/
theorem heard_eq (up xs : Row) {t : Nat} (ht : t < xs.length) : rs (fun i => (at_ up i : Rat) * (((xs.map fun x : Int => (x : Rat)).take (t + 1)).reverse).getD i 0) up.length = (weigh up 0 xs t : Rat) := by
  have hl : ((xs.map fun x : Int => (x : Rat)).take (t + 1)).length = t + 1 := by
    rw [List.length_take, List.length_map]
    omega
  unfold weigh
  rw [← rs_int, Nat.sub_zero]
  rw [rs_same (m := up.length) (n := min up.length (t + 1)) (fun i hi => by rw [at_out hi]; simp) (fun i hi => by
    by_cases h : up.length ≤ i
    · rw [at_out h]
      simp
    · rw [getD_rev, hl, if_neg (by omega), Rat.mul_zero])]
  refine rs_congr _ fun i hi => ?_
  rw [getD_rev, hl, if_pos (by omega), getD_take _ _ _ (by omega), getD_map_int, Nat.zero_add, Rat.intCast_mul]
  congr 3
/-- what comes of the answers ahead, over one lower number -/
theorem own_eq (low : Row) (ys : List Rat) (tops : Row) (c : Rat) (hl : tops.length = ys.length) (h : ∀ i, i < ys.length → (at_ tops i : Rat) = ys.getD i 0 * c) :
    rs (fun i => (at_ low (i + 1) : Rat) * (ys.reverse).getD i 0) (low.length - 1) * c = (weigh low 1 tops ys.length : Rat) := by
  unfold weigh
  rw [← rs_int, ← rs_mul]
  have e : min low.length (ys.length + 1) - 1 = min (low.length - 1) ys.length := by omega
  rw [e, rs_same (m := low.length - 1) (n := min (low.length - 1) ys.length) (fun i hi => by rw [at_out (by omega)]; simp) (fun i hi => by
    by_cases h : low.length - 1 ≤ i
    · rw [at_out (by omega)]
      simp
    · rw [getD_rev, if_neg (by omega), Rat.mul_zero, Rat.zero_mul])]
  refine rs_congr _ fun i hi => ?_
  have e2 : ys.length - (1 + i) = ys.length - 1 - i := by omega
  rw [getD_rev, if_pos (by omega), Rat.intCast_mul, e2, h _ (by omega), Nat.add_comm 1 i, Rat.mul_assoc]
theorem weigh_sz {A B : Nat} {row values : Row} (ha : Sz A row) (hb : Sz B values) (hl : row.length ≤ 16) (s t : Nat) : (weigh row s values t).natAbs < 2 ^ (A + B + 4) := by
  unfold weigh
  have h := sum_le (M := 2 ^ A * 2 ^ B - 1) (min row.length (t + 1) - s) (f := fun k => at_ row (s + k) * at_ values (t - (s + k))) fun i _ => by
    rw [Int.natAbs_mul]
    have := Nat.mul_lt_mul'' (ha.at (s + i)) (hb.at (t - (s + i)))
    omega
  have p3 := Nat.mul_pos (Nat.two_pow_pos A) (Nat.two_pow_pos B)
  have : 2 ^ (A + B + 4) = 2 ^ A * 2 ^ B * 16 := by rw [Nat.pow_add, Nat.pow_add]
  have : (min row.length (t + 1) - s) * (2 ^ A * 2 ^ B - 1) ≤ 16 * (2 ^ A * 2 ^ B - 1) := Nat.mul_le_mul_right _ (by omega)
  omega
end Qm
set_option linter.all false
/-! Mathematics: rows as polynomials; the bands together, in whatever order. -/
namespace Qm
open Vbhlae

def ev (r : Row) (x : Int) : Int := match r with
  | [] => 0
  | c :: r => c + x * ev r x
theorem at_cons0 (c : Int) (r : Row) : at_ (c :: r) 0 = c := rfl
theorem at_consS (c : Int) (r : Row) (i : Nat) : at_ (c :: r) (i + 1) = at_ r i := rfl
theorem ev_zero (x : Int) : ∀ r : Row, (∀ i, at_ r i = 0) → ev r x = 0
  | [], _ => rfl
  | c :: r, h => by
    have h0 : c = 0 := h 0
    have := ev_zero x r fun i => h (i + 1)
    unfold ev
    rw [h0, this, Int.mul_zero]
    rfl
theorem ev_congr (x : Int) : ∀ a b : Row, (∀ i, at_ a i = at_ b i) → ev a x = ev b x
  | [], b, h => (ev_zero x b fun i => by rw [← h i, at_nil]).symm
  | a, [], h => ev_zero x a fun i => by rw [h i, at_nil]
  | c :: a, d :: b, h => by
    have h0 : c = d := h 0
    have := ev_congr x a b fun i => h (i + 1)
    unfold ev
    rw [h0, this]
theorem ev_times (k x : Int) : ∀ a : Row, ev (times k a) x = k * ev a x
  | [] => by
    show (0 : Int) = k * 0
    rw [Int.mul_zero]
  | c :: a => by
    have := ev_times k x a
    show k * c + x * ev (times k a) x = k * (c + x * ev a x)
    rw [this]
    grind
theorem ev_plus (x : Int) : ∀ a b : Row, ev (plus a b) x = ev a x + ev b x
  | [], b => by
    rw [ev_congr x (plus [] b) b fun i => by rw [at_plus, at_nil, Int.zero_add]]
    show _ = 0 + _
    rw [Int.zero_add]
  | a, [] => by
    rw [ev_congr x (plus a []) a fun i => by rw [at_plus, at_nil, Int.add_zero]]
    show _ = _ + 0
    rw [Int.add_zero]
  | c :: a, d :: b => by
    have ih := ev_plus x a b
    rw [ev_congr x (plus (c :: a) (d :: b)) ((c + d) :: plus a b) fun i => by
      rw [at_plus]
      cases i with
      | zero => rfl
      | succ i => rw [at_consS, at_consS, at_consS, at_plus]]
    show c + d + x * ev (plus a b) x = c + x * ev a x + (d + x * ev b x)
    rw [ih]
    grind
theorem sum_range_front (f : Nat → Int) : ∀ n, ((List.range (n + 1)).map f).sum = f 0 + ((List.range n).map fun i => f (i + 1)).sum
  | 0 => by simp
  | n + 1 => by
    rw [sum_range_succ, sum_range_front f n, sum_range_succ]
    omega
theorem at_chain_cons (c : Int) (a b : Row) (n : Nat) : at_ (chain (c :: a) b) n = c * at_ b n + (match n with | 0 => 0 | n + 1 => at_ (chain a b) n) := by
  rw [at_chain, sum_range_front, at_cons0, Nat.sub_zero]
  cases n with
  | zero => simp
  | succ n =>
    show _ = c * at_ b (n + 1) + at_ (chain a b) n
    rw [at_chain]
    congr 1
    exact sum_congr fun i hi => by
      rw [at_consS]
      congr 2
      omega
theorem ev_chain (x : Int) : ∀ a b : Row, ev (chain a b) x = ev a x * ev b x
  | [], b => by
    have : chain [] b = [] := by
      unfold chain
      rw [if_pos (.inl rfl)]
    rw [this]
    show (0 : Int) = 0 * _
    rw [Int.zero_mul]
  | c :: a, b => by
    have ih := ev_chain x a b
    rw [ev_congr x (chain (c :: a) b) (plus (times c b) (0 :: chain a b)) fun i => by
      rw [at_chain_cons, at_plus, at_times]
      cases i with
      | zero => rfl
      | succ i => rfl, ev_plus, ev_times]
    show c * ev b x + (0 + x * ev (chain a b) x) = (c + x * ev a x) * ev b x
    rw [ih]
    grind
theorem ev_inj0 : ∀ (r : Row) (N : Int), (∀ x, N ≤ x → ev r x = 0) → ∀ i, at_ r i = 0
  | [], _, _, i => at_nil i
  | c :: r, N, h, i => by
    have hx := h (max N ((c.natAbs : Int) + 1)) (by omega)
    have hc : c = 0 := by
      have e : c + max N ((c.natAbs : Int) + 1) * ev r (max N ((c.natAbs : Int) + 1)) = 0 := hx
      have hd : max N ((c.natAbs : Int) + 1) ∣ c := ⟨- ev r (max N ((c.natAbs : Int) + 1)), by rw [Int.mul_neg]; omega⟩
      have := Int.natAbs_dvd_natAbs.mpr hd
      rcases Nat.eq_zero_or_pos c.natAbs with z | z
      · omega
      · have := Nat.le_of_dvd z this
        omega
    cases i with
    | zero => exact hc
    | succ i =>
      rw [at_consS]
      refine ev_inj0 r (max N 1) (fun x hx => ?_) i
      have e : c + x * ev r x = 0 := h x (by omega)
      rw [hc, Int.zero_add] at e
      rcases Int.mul_eq_zero.mp e with z | z
      · omega
      · exact z
theorem ev_inj {a b : Row} (h : ∀ x, ev a x = ev b x) (i : Nat) : at_ a i = at_ b i := by
  have := ev_inj0 (plus a (times (-1) b)) 0 (fun x _ => by rw [ev_plus, ev_times, h x]; omega) i
  rw [at_plus, at_times] at this
  omega

/-! ### the bands together -/
/-- one band more, as the program takes it in: g is its gain -/
def addB (t : Row × Row) (b : Q × Row × Row) : Row × Row := (plus (chain t.1 (times (b.1.den : Int) b.2.2)) (chain (times b.1.num b.2.1) t.2), chain t.2 (times (b.1.den : Int) b.2.2))
def withGain (v : Q) (b : Band) : Q × Row × Row := (v.mul b.gain, b.up, b.low)
/-- from any start: upper and lower row at a place -/
theorem fold_ev (v : Q) (x : Int) : ∀ (l : List Band) (t : Row × Row), ev ((l.map (withGain v)).foldl addB t).1 x = ev t.1 x * ev (together v l).2 x + ev t.2 x * ev (together v l).1 x ∧ ev ((l.map (withGain v)).foldl addB t).2 x = ev t.2 x * ev (together v l).2 x
  | [], t => by
    show ev t.1 x = ev t.1 x * (1 + x * 0) + ev t.2 x * (0 + x * 0) ∧ ev t.2 x = ev t.2 x * (1 + x * 0)
    constructor <;> grind
  | b :: l, t => by
    obtain ⟨h1, h2⟩ := fold_ev v x l (addB t (withGain v b))
    show ev ((l.map (withGain v)).foldl addB (addB t (withGain v b))).1 x = _ ∧ ev ((l.map (withGain v)).foldl addB (addB t (withGain v b))).2 x = _
    rw [h1, h2]
    have e1 : ev (together v (b :: l)).1 x = (v.mul b.gain).num * (ev b.up x * ev (together v l).2 x) + ((v.mul b.gain).den : Int) * (ev (together v l).1 x * ev b.low x) := by
      show ev (plus (times (v.mul b.gain).num (chain b.up (together v l).2)) (times ((v.mul b.gain).den : Int) (chain (together v l).1 b.low))) x = _
      rw [ev_plus, ev_times, ev_times, ev_chain, ev_chain]
    have e2 : ev (together v (b :: l)).2 x = ((v.mul b.gain).den : Int) * (ev b.low x * ev (together v l).2 x) := by
      show ev (times ((v.mul b.gain).den : Int) (chain b.low (together v l).2)) x = _
      rw [ev_times, ev_chain]
    have e3 : ev (addB t (withGain v b)).1 x = ev t.1 x * (((v.mul b.gain).den : Int) * ev b.low x) + (v.mul b.gain).num * ev b.up x * ev t.2 x := by
      show ev (plus (chain t.1 (times ((v.mul b.gain).den : Int) b.low)) (chain (times (v.mul b.gain).num b.up) t.2)) x = _
      rw [ev_plus, ev_chain, ev_chain, ev_times, ev_times]
    have e4 : ev (addB t (withGain v b)).2 x = ev t.2 x * (((v.mul b.gain).den : Int) * ev b.low x) := by
      show ev (chain t.2 (times ((v.mul b.gain).den : Int) b.low)) x = _
      rw [ev_chain, ev_times]
    rw [e1, e2, e3, e4]
    constructor <;> grind
/-- what the program makes of the bands -/
def togP (v : Q) (l : List Band) : Row × Row := (l.map (withGain v)).foldl addB ([0], [1])
theorem togP_ev (v : Q) (x : Int) (l : List Band) : ev (togP v l).1 x = ev (together v l).1 x ∧ ev (togP v l).2 x = ev (together v l).2 x := by
  obtain ⟨h1, h2⟩ := fold_ev v x l ([0], [1])
  unfold togP
  rw [h1, h2]
  have e0 : ev [0] x = 0 := by
    show 0 + x * 0 = 0
    omega
  have e1 : ev [1] x = 1 := by
    show 1 + x * 0 = 1
    omega
  simp only [e0, e1]
  constructor <;> grind
theorem togP_at (v : Q) (l : List Band) (i : Nat) : at_ (togP v l).1 i = at_ (together v l).1 i ∧ at_ (togP v l).2 i = at_ (together v l).2 i :=
  ⟨ev_inj (fun x => (togP_ev v x l).1) i, ev_inj (fun x => (togP_ev v x l).2) i⟩
/-- rows that are made of rows with the same numbers have the same numbers -/
theorem chain_congr {a b c d : Row} (h1 : ∀ i, at_ a i = at_ c i) (h2 : ∀ i, at_ b i = at_ d i) (i : Nat) : at_ (chain a b) i = at_ (chain c d) i := by
  rw [at_chain, at_chain]
  exact sum_congr fun j _ => by rw [h1, h2]
end Qm
set_option linter.all false
set_option maxHeartbeats 1000000
/-! Mathematics: the rows of an aid, their lengths and sizes. -/
namespace Qm
open Vbhlae

theorem plus_len (a b : Row) : (plus a b).length = max a.length b.length := by simp [plus]
theorem times_len (k : Int) (a : Row) : (times k a).length = a.length := by simp [times]
theorem times_ne {k : Int} {a : Row} (h : a ≠ []) : times k a ≠ [] := fun e => h (by simpa [times] using e)
theorem len_pos {a : Row} (h : a ≠ []) : 0 < a.length := List.length_pos_iff.mpr h
theorem ne_len {a : Row} (h : 0 < a.length) : a ≠ [] := List.length_pos_iff.mp h
/-- rows that are there -/
def Full (b : Band) : Prop := b.up ≠ [] ∧ b.low ≠ []
theorem tog_len (v : Q) : ∀ l : List Band, (∀ b ∈ l, Full b) → 0 < (together v l).2.length ∧ (together v l).2.length ≤ (together v l).1.length
  | [], _ => ⟨by show 0 < 1; decide, by show 1 ≤ 1; decide⟩
  | b :: l, h => by
    obtain ⟨i1, i2⟩ := tog_len v l fun b hb => h b (List.mem_cons_of_mem _ hb)
    obtain ⟨hu, hl⟩ := h b List.mem_cons_self
    have lu := len_pos hu
    have ll := len_pos hl
    have e2 : (together v (b :: l)).2.length = b.low.length + (together v l).2.length - 1 := by
      show (times _ (chain b.low (together v l).2)).length = _
      rw [times_len, chain_len hl (ne_len i1)]
    have e1 : (together v (b :: l)).1.length = max (b.up.length + (together v l).2.length - 1) ((together v l).1.length + b.low.length - 1) := by
      show (plus (times _ (chain b.up (together v l).2)) (times _ (chain (together v l).1 b.low))).length = _
      rw [plus_len, times_len, times_len, chain_len hu (ne_len i1), chain_len (ne_len (by omega)) hl]
    rw [e1, e2]
    omega
theorem tog_len1 (v : Q) (b : Band) (l : List Band) (h : ∀ c ∈ b :: l, Full c) : (together v (b :: l)).1.length = max (b.up.length + (together v l).2.length - 1) ((together v l).1.length + b.low.length - 1) ∧ (together v (b :: l)).2.length = b.low.length + (together v l).2.length - 1 := by
  obtain ⟨i1, i2⟩ := tog_len v l fun b hb => h b (List.mem_cons_of_mem _ hb)
  obtain ⟨hu, hl⟩ := h b List.mem_cons_self
  constructor
  · show (plus (times _ (chain b.up (together v l).2)) (times _ (chain (together v l).1 b.low))).length = _
    rw [plus_len, times_len, times_len, chain_len hu (ne_len i1), chain_len (ne_len (by omega)) hl]
  · show (times _ (chain b.low (together v l).2)).length = _
    rw [times_len, chain_len hl (ne_len i1)]
theorem fold_len (v : Q) : ∀ (l : List Band) (t : Row × Row), (∀ b ∈ l, Full b) → 0 < t.2.length → t.2.length ≤ t.1.length →
    ((l.map (withGain v)).foldl addB t).1.length = max (t.1.length + (together v l).2.length - 1) (t.2.length + (together v l).1.length - 1) ∧ ((l.map (withGain v)).foldl addB t).2.length = t.2.length + (together v l).2.length - 1
  | [], t, _, h1, h2 => by
    show t.1.length = max (t.1.length + 1 - 1) (t.2.length + 1 - 1) ∧ t.2.length = t.2.length + 1 - 1
    omega
  | b :: l, t, h, h1, h2 => by
    have hl := fun c hc => h c (List.mem_cons_of_mem b hc)
    obtain ⟨i1, i2⟩ := tog_len v l hl
    obtain ⟨hu, hw⟩ := h b List.mem_cons_self
    have lu := len_pos hu
    have lw := len_pos hw
    obtain ⟨e1, e2⟩ := tog_len1 v b l h
    have a1 : (addB t (withGain v b)).1.length = max (t.1.length + b.low.length - 1) (b.up.length + t.2.length - 1) := by
      show (plus (chain t.1 (times _ b.low)) (chain (times _ b.up) t.2)).length = _
      rw [plus_len, chain_len (ne_len (by omega)) (times_ne hw), chain_len (times_ne hu) (ne_len h1), times_len, times_len]
    have a2 : (addB t (withGain v b)).2.length = t.2.length + b.low.length - 1 := by
      show (chain t.2 (times _ b.low)).length = _
      rw [chain_len (ne_len h1) (times_ne hw), times_len]
    show ((l.map (withGain v)).foldl addB (addB t (withGain v b))).1.length = _ ∧ ((l.map (withGain v)).foldl addB (addB t (withGain v b))).2.length = _
    obtain ⟨f1, f2⟩ := fold_len v l (addB t (withGain v b)) hl (by rw [a2]; omega) (by rw [a1, a2]; omega)
    rw [f1, f2, a1, a2, e1, e2]
    omega
/-- **the bands together**: the program's rows are the specification's -/
theorem togP_eq (v : Q) (l : List Band) (h : ∀ b ∈ l, Full b) : togP v l = together v l := by
  obtain ⟨i1, i2⟩ := tog_len v l h
  have hl : (togP v l).1.length = (together v l).1.length ∧ (togP v l).2.length = (together v l).2.length := by
    obtain ⟨f1, f2⟩ := fold_len v l ([0], [1]) h (by show 0 < 1; decide) (by show 1 ≤ 1; decide)
    have z1 : ([0] : Row).length = 1 := rfl
    have z2 : ([1] : Row).length = 1 := rfl
    unfold togP
    rw [f1, f2]
    dsimp only
    omega
  exact Prod.ext (row_ext hl.1 fun i _ => (togP_at v l i).1) (row_ext hl.2 fun i _ => (togP_at v l i).2)

/-! ### aids as the calls make them -/
structure WfB (b : Band) : Prop where
  g : ∃ r : Rat, b.gain = qOf r ∧ r.num.natAbs < 2 ^ 10 ∧ r.den < 2 ^ 10
  up : isUp b.up = true
  low : isLow b.low = true
structure Wf (m : Aid) : Prop where
  up : isUp m.leakUp = true
  low : isLow m.leakLow = true
  n : m.bands.length = 3
  b : ∀ b, some b ∈ m.bands → WfB b
theorem up_is {l : Row} (h : isUp l = true) : l ≠ [] ∧ l.length ≤ 4 ∧ Sz 7 l := by
  unfold isUp MOST inr at h
  simp only [Bool.and_eq_true, decide_eq_true_eq, List.all_eq_true] at h
  obtain ⟨h1, h2, h3⟩ := h
  refine ⟨ne_len (by omega), h2, fun x hx => ?_⟩
  have := h3 x hx
  show x.natAbs < 128
  omega
theorem low_is {l : Row} (h : isLow l = true) : l ≠ [] ∧ l.length ≤ 3 ∧ Sz 7 l ∧ at_ l 0 ≠ 0 := by
  unfold isLow inr at h
  simp only [Bool.and_eq_true, decide_eq_true_eq, List.all_eq_true] at h
  obtain ⟨h1, h2, h3, h4⟩ := h
  refine ⟨ne_len (by omega), h2, fun x hx => ?_, h4⟩
  have := h3 x hx
  show x.natAbs < 128
  omega
theorem WfB.full {b : Band} (h : WfB b) : Full b := ⟨(up_is h.up).1, (low_is h.low).1⟩
/-- the bands of a list of places -/
def pres (l : List (Option Band)) : List Band := l.filterMap fun b => b
theorem present_pres (m : Aid) : present m = pres m.bands := rfl
theorem mem_pres {l : List (Option Band)} {b : Band} (h : b ∈ pres l) : some b ∈ l := by
  unfold pres at h
  obtain ⟨a, h1, h2⟩ := List.mem_filterMap.mp h
  rw [← h2]
  exact h1
theorem pres_len (l : List (Option Band)) : (pres l).length ≤ l.length := List.length_filterMap_le ..
theorem pres_none {l : List (Option Band)} {i : Nat} (h : l[i]? = some none) : pres (l.take (i + 1)) = pres (l.take i) := by
  unfold pres
  rw [List.take_add_one, h, List.filterMap_append]
  simp
theorem pres_some {l : List (Option Band)} {i : Nat} {b : Band} (h : l[i]? = some (some b)) : pres (l.take (i + 1)) = pres (l.take i) ++ [b] := by
  unfold pres
  rw [List.take_add_one, h, List.filterMap_append]
  simp
theorem togP_none {v : Q} {l : List (Option Band)} {i : Nat} (h : l[i]? = some none) : togP v (pres (l.take (i + 1))) = togP v (pres (l.take i)) := by rw [pres_none h]
theorem togP_some {v : Q} {l : List (Option Band)} {i : Nat} {b : Band} (h : l[i]? = some (some b)) : togP v (pres (l.take (i + 1))) = addB (togP v (pres (l.take i))) (withGain v b) := by
  rw [pres_some h]
  unfold togP
  rw [List.map_append, List.foldl_append]
  rfl
/-- a volume as it may be asked -/
def Vol (v : Q) : Prop := ∃ r : Rat, v = qOf r ∧ r.num.natAbs < 2 ^ 10 ∧ r.den < 2 ^ 10
theorem rat_mul_sz {r s : Rat} (h1 : r.num.natAbs < 2 ^ 10 ∧ r.den < 2 ^ 10) (h2 : s.num.natAbs < 2 ^ 10 ∧ s.den < 2 ^ 10) : (r * s).num.natAbs < 2 ^ 20 ∧ (r * s).den < 2 ^ 20 := by
  have hn : (r * s).num.natAbs ≤ r.num.natAbs * s.num.natAbs := by
    rw [Rat.num_mul, ← Int.natAbs_mul]
    exact Int.natAbs_ediv_le_natAbs ..
  have hd : (r * s).den ≤ r.den * s.den := by
    rw [Rat.den_mul]
    exact Nat.div_le_self ..
  have e : (2 : Nat) ^ 20 = 2 ^ 10 * 2 ^ 10 := by decide
  exact ⟨by rw [e]; exact Nat.lt_of_le_of_lt hn (Nat.mul_lt_mul'' h1.1 h2.1), by rw [e]; exact Nat.lt_of_le_of_lt hd (Nat.mul_lt_mul'' h1.2 h2.2)⟩
theorem gain_sz {v : Q} {b : Band} (hv : Vol v) (hb : WfB b) : (v.mul b.gain).num.natAbs < 2 ^ 20 ∧ (v.mul b.gain).den < 2 ^ 20 := by
  obtain ⟨r, rfl, h1⟩ := hv
  obtain ⟨s, e, h2⟩ := hb.g
  rw [e, q_mul]
  exact rat_mul_sz h1 h2
theorem tog_sz {v : Q} (hv : Vol v) : ∀ l : List Band, (∀ b ∈ l, WfB b) → l.length ≤ 3 → (together v l).1.length ≤ 2 * l.length + 2 ∧ (together v l).2.length ≤ 2 * l.length + 1 ∧ Sz (32 * l.length + 1) (together v l).1 ∧ Sz (31 * l.length + 1) (together v l).2
  | [], _, _ => ⟨by show 1 ≤ 2; decide, by show 1 ≤ 1; decide, fun x hx => by
      have : x = 0 := by simpa [together] using hx
      subst this
      decide, fun x hx => by
      have : x = 1 := by simpa [together] using hx
      subst this
      decide⟩
  | b :: l, h, hn => by
    have hl := fun c hc => h c (List.mem_cons_of_mem b hc)
    simp only [List.length_cons] at hn ⊢
    obtain ⟨i1, i2, i3, i4⟩ := tog_sz hv l hl (by omega)
    have wb := h b List.mem_cons_self
    obtain ⟨u1, u2, u3⟩ := up_is wb.up
    obtain ⟨w1, w2, w3, _⟩ := low_is wb.low
    obtain ⟨g1, g2⟩ := gain_sz hv wb
    obtain ⟨e1, e2⟩ := tog_len1 v b l fun c hc => (h c hc).full
    have g3 : (((v.mul b.gain).den : Int)).natAbs < 2 ^ 20 := by rw [Int.natAbs_natCast]; exact g2
    refine ⟨by rw [e1]; omega, by rw [e2]; omega, ?_, ?_⟩
    · show Sz _ (plus (times (v.mul b.gain).num (chain b.up (together v l).2)) (times ((v.mul b.gain).den : Int) (chain (together v l).1 b.low)))
      have s1 : Sz (32 * l.length + 32) (times (v.mul b.gain).num (chain b.up (together v l).2)) := (Sz.times g1 (u3.chain i4 (by omega))).mono (by omega)
      have s2 : Sz (32 * l.length + 32) (times ((v.mul b.gain).den : Int) (chain (together v l).1 b.low)) := (Sz.times g3 (i3.chain w3 (by omega))).mono (by omega)
      exact (s1.plus s2).mono (by omega)
    · show Sz _ (times ((v.mul b.gain).den : Int) (chain b.low (together v l).2))
      exact (Sz.times g3 (w3.chain i4 (by omega))).mono (by omega)
theorem Wf.some {m : Aid} (h : Wf m) {b : Band} (hb : b ∈ pres m.bands) : WfB b := h.b b (mem_pres hb)
theorem Wf.tog {m : Aid} (h : Wf m) {v : Q} (hv : Vol v) (i : Nat) : let t := together v (pres (m.bands.take i)); t.1.length ≤ 8 ∧ t.2.length ≤ 7 ∧ Sz 97 t.1 ∧ Sz 94 t.2 ∧ 0 < t.1.length ∧ 0 < t.2.length := by
  have hb : ∀ b ∈ pres (m.bands.take i), WfB b := fun b hb => h.b b (List.mem_of_mem_take (mem_pres hb))
  have hl : (pres (m.bands.take i)).length ≤ 3 := by
    have h1 := pres_len (m.bands.take i)
    have h2 : (m.bands.take i).length ≤ m.bands.length := List.length_take_le' ..
    have := h.n
    omega
  obtain ⟨a1, a2, a3, a4⟩ := tog_sz hv _ hb hl
  obtain ⟨c1, c2⟩ := tog_len v _ fun b hb' => (hb b hb').full
  exact ⟨by omega, by omega, a3.mono (by omega), a4.mono (by omega), by omega, c1⟩
theorem Wf.togP {m : Aid} (h : Wf m) (v : Q) (i : Nat) : togP v (pres (m.bands.take i)) = together v (pres (m.bands.take i)) :=
  togP_eq v _ fun b hb => (h.b b (List.mem_of_mem_take (mem_pres hb))).full
theorem Wf.tog' {m : Aid} (h : Wf m) {v : Q} (hv : Vol v) : let t := together v (present m); t.1.length ≤ 8 ∧ t.2.length ≤ 7 ∧ Sz 97 t.1 ∧ Sz 94 t.2 ∧ 0 < t.1.length ∧ 0 < t.2.length := by
  have := h.tog hv m.bands.length
  rw [List.take_length] at this
  exact this
theorem Wf.ring {m : Aid} (h : Wf m) {v : Q} (hv : Vol v) : (ringRow m v).length ≤ 11 ∧ 0 < (ringRow m v).length ∧ Sz 110 (ringRow m v) := by
  obtain ⟨a1, a2, a3, a4, a5, a6⟩ := h.tog' hv
  obtain ⟨u1, u2, u3⟩ := up_is h.up
  obtain ⟨w1, w2, w3, _⟩ := low_is h.low
  have lu := len_pos u1
  have lw := len_pos w1
  have e : (ringRow m v).length = max (m.leakLow.length + (together v (present m)).2.length - 1) (m.leakUp.length + (together v (present m)).1.length - 1) := by
    show (plus (chain m.leakLow (together v (present m)).2) (times (-1) (chain m.leakUp (together v (present m)).1))).length = _
    rw [plus_len, times_len, chain_len w1 (ne_len a6), chain_len u1 (ne_len a5)]
  refine ⟨by rw [e]; omega, by rw [e]; omega, ?_⟩
  show Sz _ (plus (chain m.leakLow (together v (present m)).2) (times (-1) (chain m.leakUp (together v (present m)).1)))
  have s1 : Sz 109 (chain m.leakLow (together v (present m)).2) := (w3.chain a4 (by omega)).mono (by omega)
  have s2 : Sz 109 (times (-1) (chain m.leakUp (together v (present m)).1)) := (Sz.times (B := 1) (by decide) (u3.chain a3 (by omega))).mono (by omega)
  exact s1.plus s2
theorem Wf.upr {m : Aid} (h : Wf m) {v : Q} (hv : Vol v) : (upRow m v).length ≤ 10 ∧ 0 < (upRow m v).length ∧ Sz 110 (upRow m v) := by
  obtain ⟨a1, a2, a3, a4, a5, a6⟩ := h.tog' hv
  obtain ⟨w1, w2, w3, _⟩ := low_is h.low
  have lw := len_pos w1
  have e : (upRow m v).length = m.leakLow.length + (together v (present m)).1.length - 1 := chain_len w1 (ne_len a5)
  exact ⟨by rw [e]; omega, by rw [e]; omega, (w3.chain a3 (by omega)).mono (by omega)⟩
theorem vol_one : Vol one := ⟨1, rfl, by decide, by decide⟩
theorem vol_frac {n : Int} {d : Nat} (hn : n.natAbs ≤ 1000) (hd : d ≤ 1000) (h0 : d ≠ 0) : Vol (frac n d) := by
  have e := q_frac n h0
  have e2 : frac n d = ⟨n / ((Nat.gcd n.natAbs d : Nat) : Int), d / Nat.gcd n.natAbs d⟩ := if_neg h0
  refine ⟨mkRat n d, e, ?_, ?_⟩
  · have e3 : (mkRat n d).num = n / ((Nat.gcd n.natAbs d : Nat) : Int) := congrArg Q.num (e.symm.trans e2)
    rw [e3]
    have := Int.natAbs_ediv_le_natAbs n ((Nat.gcd n.natAbs d : Nat) : Int)
    omega
  · have e3 : (mkRat n d).den = d / Nat.gcd n.natAbs d := congrArg Q.den (e.symm.trans e2)
    rw [e3]
    have := Nat.div_le_self d (Nat.gcd n.natAbs d)
    omega
theorem frac_one : frac 1 1 = one := by decide
end Qm
set_option linter.all false
set_option maxHeartbeats 1000000
/-! Mathematics: let go, volumes, ends, shares, clicks. -/
namespace Qm
open Vbhlae

/-! ### let go -/
theorem rs_add (f g : Nat → Rat) : ∀ n, rs (fun i => f i + g i) n = rs f n + rs g n
  | 0 => by show (0 : Rat) = 0 + 0; rw [Rat.add_zero]
  | n + 1 => by
    show rs (fun i => f i + g i) n + (f n + g n) = (rs f n + f n) + (rs g n + g n)
    rw [rs_add f g n]
    grind
theorem rs_shift (h : Nat → Rat) (t : Nat) : ∀ n, rs (fun i => if t ≤ i then h (i - t) else 0) n = rs h (n - t)
  | 0 => by rw [Nat.zero_sub]; rfl
  | n + 1 => by
    show rs (fun i => if t ≤ i then h (i - t) else 0) n + (if t ≤ n then h (n - t) else 0) = _
    rw [rs_shift h t n]
    by_cases c : t ≤ n
    · rw [if_pos c, show n + 1 - t = (n - t) + 1 by omega]
      rfl
    · rw [if_neg c, show n + 1 - t = n - t by omega, Rat.add_zero]
theorem rs_single (f : Nat → Rat) (t : Nat) (h : ∀ i, i ≠ t → f i = 0) : ∀ n, rs f n = if t < n then f t else 0
  | 0 => by rw [if_neg (by omega)]; rfl
  | n + 1 => by
    show rs f n + f n = _
    rw [rs_single f t h n]
    by_cases c : t < n
    · rw [if_pos c, if_pos (by omega), h n (by omega), Rat.add_zero]
    · rw [if_neg c, Rat.zero_add]
      by_cases c2 : t = n
      · rw [if_pos (by omega), c2]
      · rw [if_neg (by omega), h n (by omega)]
theorem rat_neg_int (x : Int) : (((-x : Int)) : Rat) = -(x : Rat) := Rat.intCast_neg ..
theorem at_upperOf (low start : Row) (t : Nat) : (at_ (upperOf low start) t : Rat) = if t < low.length - 1 then -rs (fun j => (at_ low (t + j + 1) : Rat) * (at_ start j : Rat)) (low.length - 1 - t) else 0 := by
  by_cases h : t < low.length - 1
  · rw [if_pos h]
    have e : at_ (upperOf low start) t = -((List.range (low.length - 1 - t)).map fun j => at_ low (t + j + 1) * at_ start j).sum := at_range h
    rw [e, rat_neg_int, ← rs_int]
    congr 1
    exact rs_congr _ fun i _ => Rat.intCast_mul ..
  · rw [if_neg h]
    have e : at_ (upperOf low start) t = 0 := at_range_out (by omega)
    rw [e]
    rfl
theorem upperOf_len (low start : Row) : (upperOf low start).length = low.length - 1 := by simp [upperOf]
/-- one answer: behind a click with this upper row, and let go -/
theorem next_freed (low start : Row) (ins ins' outs : List Rat) (h : ∀ i, ins.getD i 0 = if i = outs.length then 1 else 0) :
    nextR (upperOf low start) low ins outs = nextR [] low ins' (outs ++ start.map fun x : Int => (x : Rat)) := by
  unfold nextR
  have e1 : rs (fun i => (at_ (upperOf low start) i : Rat) * ins.getD i 0) (upperOf low start).length = (at_ (upperOf low start) outs.length : Rat) := by
    rw [rs_single _ outs.length (fun i hi => by rw [h, if_neg hi, Rat.mul_zero])]
    rw [h, if_pos rfl, Rat.mul_one]
    by_cases c : outs.length < (upperOf low start).length
    · rw [if_pos c]
    · rw [if_neg c, at_out (by omega)]
      rfl
  have e2 : rs (fun i => (at_ ([] : Row) i : Rat) * ins'.getD i 0) ([] : Row).length = 0 := rfl
  have e3 : rs (fun i => (at_ low (i + 1) : Rat) * (outs ++ start.map fun x : Int => (x : Rat)).getD i 0) (low.length - 1) = rs (fun i => (at_ low (i + 1) : Rat) * outs.getD i 0) (low.length - 1) + rs (fun j => (at_ low (outs.length + j + 1) : Rat) * (at_ start j : Rat)) (low.length - 1 - outs.length) := by
    rw [← rs_shift (fun j => (at_ low (outs.length + j + 1) : Rat) * (at_ start j : Rat)) outs.length, ← rs_add]
    refine rs_congr _ fun i _ => ?_
    by_cases c : outs.length ≤ i
    · rw [if_pos c]
      have a1 : (outs ++ start.map fun x : Int => (x : Rat)).getD i 0 = (at_ start (i - outs.length) : Rat) := by
        rw [← getD_map_int, List.getD_eq_getElem?_getD, List.getD_eq_getElem?_getD, List.getElem?_append_right c]
      have a2 : outs.getD i 0 = 0 := by
        rw [List.getD_eq_getElem?_getD, List.getElem?_eq_none c]
        rfl
      rw [a1, a2, Rat.mul_zero, Rat.zero_add, show outs.length + (i - outs.length) + 1 = i + 1 by omega]
    · rw [if_neg c, Rat.add_zero]
      have a1 : (outs ++ start.map fun x : Int => (x : Rat)).getD i 0 = outs.getD i 0 := by
        rw [List.getD_eq_getElem?_getD, List.getD_eq_getElem?_getD, List.getElem?_append_left (by omega)]
      rw [a1]
  rw [e1, e2, e3, at_upperOf]
  by_cases c : outs.length < low.length - 1
  · rw [if_pos c]
    congr 1
    grind
  · rw [if_neg c, show low.length - 1 - outs.length = 0 by omega]
    congr 1
    show _ = (0 : Rat) - (_ + 0)
    rw [Rat.add_zero]
theorem play_freed (low start : Row) : ∀ (k : Nat) (ins ins' outs : List Rat), 1 ≤ outs.length → (∀ i, ins.getD i 0 = if i + 1 = outs.length then 1 else 0) → 
    playR (upperOf low start) low ins outs (List.replicate k 0) = playR [] low ins' (outs ++ start.map fun x : Int => (x : Rat)) (List.replicate k 0)
  | 0, _, _, _, _, _ => rfl
  | k + 1, ins, ins', outs, h1, h => by
    have hi : ∀ i, ((0 : Rat) :: ins).getD i 0 = if i = outs.length then 1 else 0 := by
      intro i
      cases i with
      | zero =>
        rw [if_neg (by omega)]
        rfl
      | succ i =>
        show ins.getD i 0 = _
        rw [h i]
    show (nextR (upperOf low start) low (0 :: ins) outs :: playR (upperOf low start) low (0 :: ins) (nextR (upperOf low start) low (0 :: ins) outs :: outs) (List.replicate k 0)) = (nextR [] low (0 :: ins') (outs ++ _) :: playR [] low (0 :: ins') (nextR [] low (0 :: ins') (outs ++ _) :: (outs ++ _)) (List.replicate k 0))
    rw [next_freed low start (0 :: ins) (0 :: ins') outs hi]
    congr 1
    refine play_freed low start k (0 :: ins) (0 :: ins') (_ :: outs) (by simp) fun i => ?_
    rw [hi i]
    simp
/-- a click's first inputs -/
def clicks (n : Nat) : Row := (List.range n).map fun t => if t = 0 then 1 else 0
theorem clicks_len (n : Nat) : (clicks n).length = n := by simp [clicks]
theorem clicks_succ (n : Nat) : clicks (n + 1) = 1 :: List.replicate n 0 := by
  unfold clicks
  rw [List.range_succ_eq_map, List.map_cons, List.map_map]
  congr 1
  apply List.ext_getElem (by simp)
  intro i h1 h2
  simp
theorem freed_eq (low start : Row) (n : Nat) : playR (upperOf low start) low [] [] ((clicks n).map fun x : Int => (x : Rat)) = playR [] low [] (start.map fun x : Int => (x : Rat)) (List.replicate n 0) := by
  cases n with
  | zero => rfl
  | succ n =>
    have e : (clicks (n + 1)).map (fun x : Int => (x : Rat)) = 1 :: List.replicate n 0 := by
      rw [clicks_succ, List.map_cons, List.map_replicate]
      rfl
    rw [e]
    have h0 : ∀ i, ((1 : Rat) :: []).getD i 0 = if i = ([] : List Rat).length then 1 else 0 := by
      intro i
      cases i with
      | zero => rfl
      | succ i => rw [if_neg (by simp)]; rfl
    have a := next_freed low start [1] [0] [] h0
    show (nextR (upperOf low start) low [1] [] :: playR (upperOf low start) low [1] [nextR (upperOf low start) low [1] []] (List.replicate n 0)) = (nextR [] low [0] (start.map fun x : Int => (x : Rat)) :: playR [] low [0] (nextR [] low [0] (start.map fun x : Int => (x : Rat)) :: start.map fun x : Int => (x : Rat)) (List.replicate n 0))
    rw [a]
    congr 1
    refine play_freed low start n [1] [0] [_] (by simp) fun i => ?_
    cases i with
    | zero => rfl
    | succ i => rw [if_neg (by simp)]; rfl
theorem freed_spec (low start : Row) (n : Nat) : Vbhlae.freed low (start.map Q.whole) n = (playR (upperOf low start) low [] [] ((clicks n).map fun x : Int => (x : Rat))).map qOf := by
  rw [freed_eq]
  have := playFrom_q [] low (List.replicate n 0) [] (start.map fun x : Int => (x : Rat))
  rw [← this]
  unfold Vbhlae.freed
  congr 1
  · rw [List.map_map]
    rfl
  · rw [List.map_replicate]
    rfl
theorem play_spec (up low : Row) (l : Row) : Vbhlae.play up low (l.map Q.whole) = (playR up low [] [] (l.map fun x : Int => (x : Rat))).map qOf := by
  rw [← playFrom_q]
  unfold Vbhlae.play
  congr 1
  rw [List.map_map]
  rfl
theorem click_spec {n : Nat} (h : 1 ≤ n) : Q.whole 1 :: List.replicate (n - 1) (Q.whole 0) = (clicks n).map Q.whole := by
  obtain ⟨k, rfl⟩ : ∃ k, n = k + 1 := ⟨n - 1, by omega⟩
  rw [clicks_succ, List.map_cons, List.map_replicate]
  rfl
/-! ### volumes -/
theorem great_end {a : Aid} {d m v : Nat} (hv : v ≤ m) (hq : quietAt a (frac v d) = false) : greatest a d (m - v) v = if v = 0 then none else some (v - 1) := by
  cases e : m - v with
  | zero =>
    show (if quietAt a (frac v d) = true then some v else if v = 0 then none else some (v - 1)) = _
    rw [if_neg (by rw [hq]; decide)]
  | succ f =>
    show (if quietAt a (frac v d) = true then greatest a d f (v + 1) else if v = 0 then none else some (v - 1)) = _
    rw [if_neg (by rw [hq]; decide)]
theorem great_next {a : Aid} {d m v : Nat} (hv : v ≤ m) (hq : quietAt a (frac v d) = true) : greatest a d (m - v) v = if v = m then some m else greatest a d (m - (v + 1)) (v + 1) := by
  by_cases c : v = m
  · subst c
    rw [if_pos rfl, Nat.sub_self]
    show (if quietAt a (frac v d) = true then some v else _) = _
    rw [if_pos hq]
  · rw [if_neg c, show m - v = (m - (v + 1)) + 1 by omega]
    show (if quietAt a (frac v d) = true then greatest a d (m - (v + 1)) (v + 1) else _) = _
    rw [if_pos hq]
/-- all up to v - 1 are quiet -/
def VolAt (a : Aid) (d m v : Nat) : Prop := v ≤ m + 1 ∧ Vbhlae.volume a d m = if v = m + 1 then some m else greatest a d (m - v) v
theorem vol_start (a : Aid) (d m : Nat) : VolAt a d m 0 := ⟨by omega, by rw [if_neg (by omega)]; rfl⟩
theorem vol_next {a : Aid} {d m v : Nat} (h : VolAt a d m v) (hv : v ≤ m) (hq : quietAt a (frac v d) = true) : VolAt a d m (v + 1) := by
  refine ⟨by omega, ?_⟩
  rw [h.2, if_neg (by omega), great_next hv hq]
  by_cases c : v = m
  · rw [if_pos c, if_pos (by omega)]
  · rw [if_neg c, if_neg (by omega)]
theorem vol_end {a : Aid} {d m v : Nat} (h : VolAt a d m v) (he : v = m + 1 ∨ quietAt a (frac v d) = false) : Vbhlae.volume a d m = if v = 0 then none else some (v - 1) := by
  have := h.1
  rw [h.2]
  by_cases c : v = m + 1
  · rw [if_pos c, if_neg (by omega), c]
    rfl
  · rw [if_neg c]
    rcases he with e | e
    · exact absurd e c
    · exact great_end (by omega) e
/-! ### ends -/
theorem sum_pair (f : Nat → Int) : ∀ n, ((List.range (2 * n)).map f).sum = ((List.range n).map fun k => f (2 * k)).sum + ((List.range n).map fun k => f (2 * k + 1)).sum
  | 0 => rfl
  | n + 1 => by
    rw [show 2 * (n + 1) = 2 * n + 1 + 1 by omega, sum_range_succ, sum_range_succ, sum_pair f n, sum_range_succ, sum_range_succ]
    omega
theorem sum_neg (f : Nat → Int) : ∀ n, ((List.range n).map fun k => -f k).sum = -((List.range n).map f).sum
  | 0 => rfl
  | n + 1 => by
    rw [sum_range_succ, sum_range_succ, sum_neg f n]
    omega
theorem foldl_sum (f : Nat → Int) (n : Nat) : (List.range n).foldl (fun s i => s + f i) 0 = ((List.range n).map f).sum := by
  induction n with
  | zero => rfl
  | succ n ih =>
    rw [List.range_succ, List.foldl_append, ih, List.map_append, sum_app]
    simp
theorem row_sum (r : Row) : r.sum = ((List.range r.length).map fun i => at_ r i).sum := by
  congr 1
  exact row_ext (by simp) fun i hi => (at_range hi).symm
theorem value_one (r : Row) : valueAt r 1 = r.sum := by
  unfold valueAt
  rw [foldl_sum, row_sum r]
  exact sum_congr fun i _ => by rw [if_neg (by omega)]
/-- every second number, from the one at k on -/
def second (r : Row) (k : Nat) : Row := (List.range ((r.length + 1 - k) / 2)).map fun i => at_ r (k + 2 * i)
theorem value_turned (r : Row) : valueAt r (-1) = (second r 0).sum - (second r 1).sum := by
  unfold valueAt
  rw [foldl_sum]
  have e0 : ((List.range r.length).map fun i => if (-1 : Int) = -1 ∧ i % 2 = 1 then -(at_ r i) else at_ r i).sum = ((List.range (2 * r.length)).map fun i => if (-1 : Int) = -1 ∧ i % 2 = 1 then -(at_ r i) else at_ r i).sum :=
    (sum_tail (m := r.length) (fun i hi => by rw [at_out hi]; split <;> rfl) (2 * r.length) (by omega)).symm
  rw [e0, sum_pair]
  have e1 : ((List.range r.length).map fun k => if (-1 : Int) = -1 ∧ (2 * k) % 2 = 1 then -(at_ r (2 * k)) else at_ r (2 * k)).sum = (second r 0).sum := by
    unfold second
    rw [← sum_tail (g := fun i => at_ r (0 + 2 * i)) (m := (r.length + 1 - 0) / 2) (fun i hi => at_out (by omega)) r.length (by omega)]
    exact sum_congr fun i _ => by rw [if_neg (by omega), Nat.zero_add]
  have e2 : ((List.range r.length).map fun k => if (-1 : Int) = -1 ∧ (2 * k + 1) % 2 = 1 then -(at_ r (2 * k + 1)) else at_ r (2 * k + 1)).sum = -(second r 1).sum := by
    unfold second
    rw [← sum_tail (g := fun i => at_ r (1 + 2 * i)) (m := (r.length + 1 - 1) / 2) (fun i hi => at_out (by omega)) r.length (by omega), ← sum_neg]
    exact sum_congr fun i _ => by rw [if_pos ⟨rfl, by omega⟩, Nat.add_comm]
  rw [e1, e2]
  omega
/-! ### shares, steps, answers -/
theorem qRow_flat (l : List Rat) : (l.map qOf).flatMap qRow = l.flatMap fun r => [r.num, (r.den : Int)] := by
  rw [List.flatMap_map]
  rfl
theorem shares_eq (r : Row) : shares r = (((steps r).filter fun x => decide (1 < x.length)).map fun x => ((at_ x (x.length - 1) : Rat) / (at_ x 0 : Rat))).map qOf := by
  unfold shares
  induction steps r with
  | nil => rfl
  | cons x l ih =>
    rw [List.filterMap_cons]
    by_cases h : x.length ≤ 1
    · rw [if_pos h, List.filter_cons_of_neg (by simp; omega)]
      exact ih
    · rw [if_neg h, List.filter_cons_of_pos (by simp; omega), List.map_cons, List.map_cons]
      dsimp only
      rw [ih, q_whole, q_whole, q_div]
end Qm
set_option Elab.async false
set_option linter.all false
set_option maxRecDepth 100000
set_option maxHeartbeats 2000000
/-! Rules of my own over the hand layer: division and product of numbers of any length. -/
namespace Qa
open PySem PySem.Spec PyProof.Rows L2

/-- where a long division may go by Python's own module: nothing watches, and there is room -/
structure PyRm (X : Cx) : Prop where
  seer : X.base.NoSeer
  tree : X.prog.given.tree = none
  deep : X.A.depth + Builtin.pylongFrames < recursionLimit
  top : ∃ env l, X.stack = env :: l ∧ env.scope.isGenerator = false ∧ env.scope.isCoroutine = false ∧ env.builtins = builtinsNs ∧ env.globals = mainGlobals

section
variable {X : Cx} {pins : List (Addr × Obj)} {σ : L2.St} {H : Hp} {s : Shared}
theorem PyRm.room (hp : PyRm X) (I : Inv X pins σ H s) : PylongRoom (model X.prog X.w) X.A s := by
  obtain ⟨env, l, e, g, c, b, gl⟩ := hp.top
  have hs : SeerAt (model X.prog X.w) X.A s.heap :=
    SeerAt.of (env := env) (l := l) (hp.seer.keeps I.bk) hp.tree (I.ok.frames.trans (congrArg some e)) g c b gl
  exact PylongRoom.of I.nolimit hp.deep hs
theorem op_div (hp : PyRm X) : OpR X (binaryOp .FloorDiv) (rI (fun _ j => j ≠ 0) fun i j => .int (i.fdiv j)) := by
  intro pins s σ H x y v u Q I rx ry h
  obtain ⟨i, j, rfl, rfl, hc, q⟩ := h
  obtain ⟨t, rfl⟩ := rx
  obtain ⟨t', rfl⟩ := ry
  exact floordiv_int hc ⟨.int (i.fdiv j), H, I.tok _, ⟨_, rfl⟩, q⟩ (.inr (hp.room I))
/-- two factors of together fewer than a hundred million bits -/
def CMulB (i j : Int) : Prop := i.natAbs.log2 + j.natAbs.log2 < 100000000
theorem CMulB.ok {i j : Int} (h : CMulB i j) : IntMulOk i j := by
  have b : ∀ x : Int, Builtin.Int.intBits x ≤ x.natAbs.log2 + 1 := fun x => by
    unfold Builtin.Int.intBits
    split <;> omega
  have := b i
  have := b j
  have h3 : i.natAbs.log2 + j.natAbs.log2 < 100000000 := h
  intro z
  have z2 := of_decide_eq_true (Bool.and_eq_true_iff.mp z).2
  have e : bitsLine = 134217728 := by decide
  omega
theorem op_mulB : OpR X (binaryOp .Mult) (rI CMulB fun i j => .int (i * j)) := opI fun _ _ _ _ _ _ _ hc q => mul_int q hc.ok
end
end Qa
set_option Elab.async false
set_option linter.all false
set_option maxRecDepth 100000
set_option maxHeartbeats 2000000
/-! any of a list of whole numbers; xs[j] read on the way to xs[j] += e. -/
namespace Qa
open PySem PySem.Spec PyProof.Rows L2
section
variable {X : Cx}
def rGetN (K : PySem.W.Frag) : V → V → Hp → VK → Prop := fun o i H Q => ∃ p xs j v, o = .ref p ∧ i = .int (j : Nat) ∧ SqL K H p xs ∧ xs[j]? = some v ∧ Q v H
theorem get_list : PGet X (rGetN X.K) := by
  intro pins s σ H o i ov iv Q I ro ri h
  obtain ⟨p, xs, j, v, rfl, rfl, hq, hx, q⟩ := h
  cases ro
  obtain ⟨t, rfl⟩ := ri
  obtain ⟨its, r, pl, hz⟩ := I.list hq
  obtain ⟨u, eu, ru⟩ := r.get hx
  have := line63
  have hj := (List.getElem?_eq_some_iff.mp hx).1
  exact wpAny_getItem_list pl.isList (by omega) (by omega) (by simpa using eu) ⟨v, H, I, ru, q⟩
/-- any of whole numbers -/
def rAnyI (K : PySem.W.Frag) : List V → Hp → VK → Prop := fun vs H Q => ∃ (a : Addr) (ns : List Int), vs = [V.ref a] ∧ SqL K H a (ns.map V.int) ∧ Q (.bl (ns.any fun n => n != 0)) H
theorem truth_ints {prog : Program} {w : World} {A : Around} {ns : List Int} {its : List Value} (r : Vals (ns.map V.int) its) : TruthOf prog w A (fun i v => its.toArray[i]? = some v) (fun i => ns.getD i 0 != 0) := fun i v s Q E hv hq => by
  have hv' : its[i]? = some v := by simpa using hv
  have hi : i < ns.length := by
    have h1 := r.length
    rw [List.length_map] at h1
    have h2 := (List.getElem?_eq_some_iff.mp hv').1
    omega
  obtain ⟨u, eu, t, ru⟩ := r.get (i := i) (x := V.int ns[i]) (by rw [List.getElem?_map, List.getElem?_eq_getElem hi]; rfl)
  rw [hv'] at eu
  cases eu
  subst ru
  have e : ns.getD i 0 = ns[i] := by rw [List.getD_eq_getElem?_getD, List.getElem?_eq_getElem hi]; rfl
  have hq' : Q (ns.getD i 0 != 0) s := hq
  rw [e] at hq'
  exact PySem.P.truthy_int hq'
theorem any_ints (ns : List Int) : (List.range ns.length).any (fun i => ns.getD i 0 != 0) = ns.any fun n => n != 0 := by
  induction ns with
  | nil => rfl
  | cons n ns ih =>
    rw [List.length_cons, List.range_succ_eq_map, List.any_cons, List.any_map, List.any_cons, ← ih]
    rfl
theorem call_anyI (hc : X.calm = true) : CallR X (.builtin "any") (rAnyI X.K) := by
  intro pins s σ H vs us Q I r h
  obtain ⟨a, ns, rfl, hs, q⟩ := h
  obtain ⟨its, rv, hl, _⟩ := I.list hs
  rw [Vals.ref1 r]
  refine call_any_walk (iter_any hl.isList fun s2 e2 st hne => ?_)
  subst e2
  refine ⟨_, _, _, _, _, _, _, rfl, Walks.list (A := X.A.in1) (I.ok.hd hc) _ a hne its.toArray, st, truth_ints rv, fun h' tk hk => ⟨.bl _, H, ?_, ?_, q⟩⟩
  · refine I.kept fun b o eo => hk b o (fun hm => ?_) (Heap.get?_push_of_some _ eo)
    rcases List.mem_cons.mp hm with e1 | hm
    · exact absurd (e1 ▸ Heap.lt_size eo) (Nat.lt_irrefl _)
    · cases hm
  · show Value.bool _ = Value.bool _
    have e1 := rv.length
    rw [List.length_map] at e1
    rw [← any_ints, List.size_toArray, e1]
/-! the same rules with the written part named: within a comprehension -/
theorem ix_listK {K : PySem.W.Frag} (h : X.K = K) : IxR X (rIxL K) := h ▸ ix_list
theorem ix_tupK {K : PySem.W.Frag} (h : X.K = K) : IxR X (rIxT K) := h ▸ ix_tup
theorem sl_listK {K : PySem.W.Frag} (h : X.K = K) : SlR X (rSlL K) := h ▸ sl_list
def rLenK (K : PySem.W.Frag) : List V → Hp → VK → Prop := fun xs H Q => ∃ p ys, xs = [.ref p] ∧ (SqL K H p ys ∨ SqT K H p ys) ∧ Q (.int ys.length) H
theorem len_K {K : PySem.W.Frag} (h : X.K = K) : CallR X (.builtin "len") (rLenK K) := h ▸ call_len_seq
theorem sum_K {K : PySem.W.Frag} (h : X.K = K) (hc : X.calm = true) : CallR X (.builtin "sum") (rSum K) := h ▸ cr_sum hc
theorem any_K {K : PySem.W.Frag} (h : X.K = K) (hc : X.calm = true) : CallR X (.builtin "any") (rAnyI K) := h ▸ call_anyI hc
theorem get_K {K : PySem.W.Frag} (h : X.K = K) : PGet X (rGetN K) := h ▸ get_list
end
end Qa
set_option Elab.async false
set_option linter.all false
set_option maxRecDepth 100000
set_option maxHeartbeats 2000000
/-! The end of a Spec row where the bodies also want to know that nothing watches long divisions: what tells it lies in five objects of the heap, and these are put behind the written part. -/
namespace Qa
open PySem PySem.Spec PyProof.Rows L2
open PySem.W (Codec OpenSpec WData)

theorem look_app {a : Addr} : ∀ (K L : PySem.W.Frag), (K ++ L).lookup a = (K.lookup a).or (L.lookup a)
  | [], L => by simp
  | (b, o) :: K, L => by
    show List.lookup a ((b, o) :: (K ++ L)) = _
    rw [List.lookup_cons, List.lookup_cons]
    cases (a == b) with
    | true => rfl
    | false => exact look_app K L
theorem look_mem {h : Heap} {a : Addr} {o : Obj} : ∀ (L : PySem.W.Frag), (∀ p ∈ L, h.get? p.1 = some p.2) → (a, o) ∈ L → L.lookup a = some o
  | [], _, m => by cases m
  | (b, u) :: L, hc, m => by
    rw [List.lookup_cons]
    cases e : (a == b) with
    | true =>
      obtain rfl : a = b := by simpa using e
      have h1 := hc (a, u) List.mem_cons_self
      have h2 := hc (a, o) m
      rw [h1] at h2
      exact h2
    | false =>
      refine look_mem L (fun p hp => hc p (List.mem_cons_of_mem _ hp)) ?_
      rcases List.mem_cons.mp m with z | z
      · cases z
        simp at e
      · exact z
theorem mem_look {a : Addr} {o : Obj} : ∀ (L : PySem.W.Frag), L.lookup a = some o → (a, o) ∈ L
  | [], e => by cases e
  | (b, u) :: L, e => by
    rw [List.lookup_cons] at e
    cases q : (a == b) with
    | true =>
      rw [q] at e
      obtain rfl : a = b := by simpa using q
      cases e
      exact List.mem_cons_self
    | false =>
      rw [q] at e
      exact List.mem_cons_of_mem _ (mem_look L e)
/-- no list -/
def NoL (o : Obj) : Prop := o.cls = .type "list" → ∀ its n, o.data = .seq its n → False
theorem seen {h : Heap} (N : h.NoSeer) : ∃ ex : PySem.W.Frag, (∀ p ∈ ex, h.get? p.1 = some p.2) ∧ (∀ p ∈ ex, NoL p.2) ∧ ∀ h' : Heap, ex.In h' → h'.NoSeer := by
  obtain ⟨mc, ⟨o1, es1, ep1, e1, d1, r1⟩, c1, c2⟩ := N.statics
  obtain ⟨mm, ⟨o2, es2, ep2, e2, d2, r2⟩, m1⟩ := N.mods
  obtain ⟨mb, ⟨o3, es3, ep3, e3, d3, r3⟩, b1⟩ := N.imp
  obtain ⟨mg, bm, ob, ⟨o4, es4, ep4, e4, d4, r4⟩, g1, e5, g3, g4⟩ := N.main
  have hc : ∀ p ∈ [(cStatics, o1), (sysModules, o2), (builtinsNs, o3), (mainGlobals, o4), (bm, ob)], h.get? p.1 = some p.2 := by
    intro p hp
    simp only [List.mem_cons, List.not_mem_nil, or_false] at hp
    rcases hp with rfl | rfl | rfl | rfl | rfl
    · exact e1
    · exact e2
    · exact e3
    · exact e4
    · exact e5
  refine ⟨[(cStatics, o1), (sysModules, o2), (builtinsNs, o3), (mainGlobals, o4), (bm, ob)], hc, ?_, fun h' K' => ?_⟩
  · intro p hp
    simp only [List.mem_cons, List.not_mem_nil, or_false] at hp
    rcases hp with rfl | rfl | rfl | rfl | rfl
    · intro _ its n q
      rw [d1] at q
      cases q
    · intro _ its n q
      rw [d2] at q
      cases q
    · intro _ its n q
      rw [d3] at q
      cases q
    · intro _ its n q
      rw [d4] at q
      cases q
    · intro z
      have z2 : ob.cls = .type "list" := z
      rw [g3] at z2
      injection z2 with z3
      simp at z3
  · have at_ : ∀ {a : Addr} {o : Obj}, (a, o) ∈ [(cStatics, o1), (sysModules, o2), (builtinsNs, o3), (mainGlobals, o4), (bm, ob)] → h'.get? a = some o := fun m => K' _ _ (look_mem _ hc m)
    exact ⟨⟨mc, ⟨o1, es1, ep1, at_ (by simp), d1, r1⟩, c1, c2⟩, ⟨mm, ⟨o2, es2, ep2, at_ (by simp), d2, r2⟩, m1⟩, ⟨mb, ⟨o3, es3, ep3, at_ (by simp), d3, r3⟩, b1⟩, ⟨mg, bm, ob, ⟨o4, es4, ep4, at_ (by simp), d4, r4⟩, g1, at_ (by simp), g3, g4⟩⟩
/-- a promise over a smaller written part -/
theorem fn_more {P : Program} {w : World} {K L : PySem.W.Frag} {mg : Str → Option Value} {base : Heap} {CX : CXT} {k : Nat} {f : Addr} {fd : FuncData} {ps : List Str} {sp : Sp} (hK : L.In base → K.In base) (F : L.In base → FnOk P w K mg base CX k f fd ps sp) (len : ∀ vs H Q E, sp vs H Q E → vs.length = ps.length) :
    FnOk P w L mg base CX k f fd ps sp :=
  ⟨len, fun A outer s H args us vs Q E hr e0 hb r q =>
    (F e0.mod.kin).run A outer s H args us vs Q E hr ⟨e0.frames, ⟨hK e0.mod.kin, e0.mod.glob, e0.mod.blt, e0.mod.nolimit⟩, e0.bs, e0.bsz, e0.funs, e0.frf, e0.hok, e0.bare⟩ hb r q⟩
theorem app_in {K L : PySem.W.Frag} {h : Heap} (KX : K.In h) (LX : ∀ p ∈ L, h.get? p.1 = some p.2) : (K ++ L).In h := fun a o e => by
  rw [look_app] at e
  cases q : K.lookup a with
  | some u =>
    rw [q] at e
    cases e
    exact KX a _ q
  | none =>
    rw [q] at e
    exact LX (a, o) (mem_look L e)
theorem in_left {K L : PySem.W.Frag} {h : Heap} (x : (K ++ L).In h) : K.In h := fun a o e => x a o (by rw [look_app, e]; rfl)
theorem in_right {K L : PySem.W.Frag} {g h : Heap} (KX : K.In g) (LX : ∀ p ∈ L, g.get? p.1 = some p.2) (x : (K ++ L).In h) : L.In h := fun a o e => by
  cases q : K.lookup a with
  | none => exact x a o (by rw [look_app, q, e]; rfl)
  | some u =>
    have h1 := KX a u q
    have h2 := LX (a, o) (mem_look L e)
    rw [h1] at h2
    cases h2
    exact x a _ (by rw [look_app, q]; rfl)
theorem sq_back {K L : PySem.W.Frag} {H : Hp} {a : Addr} {xs : List V} (hL : ∀ p ∈ L, NoL p.2) (h : SqL (K ++ L) H a xs) : SqL K H a xs := by
  rcases h with h | ⟨o, its, n, hk, hc, hd, hs, hz, r⟩
  · exact .inl h
  · rw [look_app] at hk
    cases q : K.lookup a with
    | some u =>
      rw [q] at hk
      cases hk
      exact .inr ⟨_, its, n, q, hc, hd, hs, hz, r⟩
    | none =>
      rw [q] at hk
      exact (hL (a, o) (mem_look L hk) hc its n hs).elim

theorem walk_seen {r : OpenSpec} {k : Nat} {q : Program} {loose : List Str} {XP : (Str → Option Value) → Heap → Prop} {YP : World → Heap → Prop} {d : DefRec} {K : Params → PySem.W.Frag} {CX : CXT} {ps : List Str} {sp : PySem.W.Frag → Sp}
    (hwell : r.wellSaid = true) (himp : importsNone q = true) (hlen : r.args.length = ps.length) (hr : Room k callerA)
    (hY : ∀ (w : World) (h : Heap), YP w h → (K w.params).In h)
    (len : ∀ K vs H Q E, sp K vs H Q E → vs.length = ps.length)
    (F : ∀ (w : World) (mg : Str → Option Value) (fa : Addr) (h : Heap), YP w h → (K w.params).In h → h.Ns mainGlobals mg → mg d.name = some (.ref fa) →
      ∃ fd : FuncData, (∀ (s : Shared) (us : List Value), us.length = ps.length → BindsTo s fd ⟨us, []⟩ (ps.zip us)) ∧
        ∀ base : Heap, (K w.params).In base → base.Ns mainGlobals mg → base.NoSeer → FnOk r.prog w (K w.params) mg base CX k fa fd ps (sp (K w.params)))
    (hsp : ∀ (K L : PySem.W.Frag) (H : Hp) (xs : List V) (a : Codec.denoteAll r.args), (∀ b ys, SqL L H b ys → SqL K H b ys) → Codec.withinAll r.args a = true → Codec.app r.args r.asked a = true →
      DwAll L H xs (Codec.encAll r.args a) → sp K xs H (fun v H' => Dw L H' v (r.ret.enc (Codec.app r.args r.f a))) fun _ _ _ => False)
    (hCX : ∀ (H : Hp) (s : Shared) (e : Value) (s' : Shared), CX [] H s (fun _ _ _ => False) e s' → False) :
    PySem.W.WalkOS q loose XP YP r d [] (fun f vs => PySem.call f vs) := by
  intro w s0 s1 mg mb G Y fa o pm cd doc dV kV ho hd hcd hD hmg hg args vals as hpre hlay hrd hwl hlo
  obtain ⟨a, ea, hask⟩ := PySem.W.os_pre_some hpre
  obtain ⟨rfl, hwi⟩ := Codec.encAll_of_decAll r.args args a ea
  have KX := hY w _ Y
  obtain ⟨ex, hc, hn, hs⟩ := seen (G.T.seer himp)
  obtain ⟨fd, hb, hF⟩ := F w mg fa _ Y KX G.T.g hmg
  have hF2 : ∀ base : Heap, (K w.params ++ ex).In base → base.Ns mainGlobals mg → FnOk r.prog w (K w.params ++ ex) mg base CX k fa fd ps (sp (K w.params)) := fun base x1 x2 =>
    fn_more (fun _ => in_left x1) (fun z => hF base (in_left x1) x2 (hs base (in_right KX hc z))) (len _)
  have go := spec_call (R := []) (cl := classAt s0.heap) (d0 := r.ret.enc (Codec.app r.args r.f a)) (app_in KX hc) G.T.g G.T.b G.T.builtins G.T.nolimit hg hwl (pl_encAll _ _) (layable_weight hlay) hr hF2 hb
    ((encAll_len _ _).trans hlen) (fun H xs _ hS => hsp (K w.params) _ H xs a (fun b ys z => sq_back hn z) hwi hask hS) fun H e s' => hCX H s1 e s'
  refine PySem.W.enter_call (codeAny_mono go fun _ s' hq => ?_)
  obtain ⟨u, as', rfl, h1, h2, h3, h4⟩ := hq
  exact ⟨.inl ⟨u, _, as', rfl, fun _ => rfl, h1, (OpenSpec.post_iff hwell hwi _ _).mpr rfl, fun z => Bool.noConfusion (show false = true from z)⟩, h2, h3, h4⟩
end Qa
set_option Elab.async false
set_option linter.all false
set_option maxRecDepth 100000
set_option maxHeartbeats 2000000
/-! What an expression is worth, told by a predicate of the heap and the value; G: what is known of the heap H, whatever else lies there stays as it is. -/
namespace Qa
open PySem PySem.Spec PyProof.Rows L2

abbrev Pr := Hp → V → Prop
/-- what is known may grow -/
class Mo (P : Pr) : Prop where
  up : ∀ {G G' : Hp} {v : V}, Same G G' → P G v → P G' v

theorem same_refl (H : Hp) : Same H H := fun _ _ h => h
theorem same_trans {A B C : Hp} (x : Same A B) (y : Same B C) : Same A C := fun a o h => y a o (x a o h)
theorem same_new {H : Hp} {p : Addr} {o : HO} (h : H p = none) : Same H (upd H p o) := fun a u e => by
  rw [upd_ne (ne_of_none e h)]
  exact e

/-- G, H: known and there; G2, H2: the same behind -/
structure Gr (G H G2 H2 : Hp) : Prop where
  gg : Same G G2
  gh : Same G2 H2
  hh : Same H H2
  fr : ∀ a, G a = none → H a ≠ none → G2 a = none
theorem Gr.refl {G H : Hp} (s : Same G H) : Gr G H G H := ⟨same_refl G, s, same_refl H, fun _ h _ => h⟩
theorem Gr.trans {G H G2 H2 G3 H3 : Hp} (x : Gr G H G2 H2) (y : Gr G2 H2 G3 H3) : Gr G H G3 H3 :=
  ⟨same_trans x.gg y.gg, y.gh, same_trans x.hh y.hh, fun a h1 h2 => y.fr a (x.fr a h1 h2) fun z => by
    cases q : H a with
    | none => exact h2 q
    | some o =>
      rw [x.hh a o q] at z
      cases z⟩
theorem Gr.new {G H : Hp} {p : Addr} {o : HO} (s : Same G H) (hp : H p = none) : Gr G H (upd G p o) (upd H p o) := by
  have gp : G p = none := by
    cases q : G p with
    | none => rfl
    | some u =>
      rw [s p u q] at hp
      cases hp
  refine ⟨same_new gp, fun a u e => ?_, same_new hp, fun a h1 h2 => ?_⟩
  · by_cases h : a = p
    · subst h
      rw [upd_same] at e ⊢
      exact e
    · rw [upd_ne h] at e ⊢
      exact s a u e
  · have h : a ≠ p := fun z => h2 (z ▸ hp)
    rw [upd_ne h]
    exact h1
/-- both known parts -/
def uni (A B : Hp) : Hp := fun a => match A a with
  | some o => some o
  | none => B a
theorem uni_l {A B : Hp} : Same A (uni A B) := fun a o h => by
  unfold uni
  rw [h]
theorem uni_r {A B H : Hp} (sa : Same A H) (sb : Same B H) : Same B (uni A B) := fun a o h => by
  unfold uni
  cases q : A a with
  | none => exact h
  | some u =>
    have h1 := sa a u q
    have h2 := sb a o h
    rw [h1] at h2
    exact h2
theorem uni_s {A B H : Hp} (sa : Same A H) (sb : Same B H) : Same (uni A B) H := fun a o h => by
  unfold uni at h
  cases q : A a with
  | none =>
    rw [q] at h
    exact sb a o h
  | some u =>
    rw [q] at h
    cases h
    exact sa a _ q
theorem uni_none {A B : Hp} {a : Addr} (h1 : A a = none) (h2 : B a = none) : uni A B a = none := by
  unfold uni
  rw [h1]
  exact h2
/-- more is known ahead: more is known behind -/
theorem Gr.more {G G' H G2 H2 : Hp} (s : Same G G') (s' : Same G' H) (x : Gr G H G2 H2) : Gr G' H (uni G' G2) H2 ∧ Same G2 (uni G' G2) := by
  have a1 : Same G' H2 := same_trans s' x.hh
  refine ⟨⟨uni_l, uni_s a1 x.gh, x.hh, fun a h1 h2 => uni_none h1 (x.fr a ?_ h2)⟩, uni_r a1 x.gh⟩
  cases q : G a with
  | none => rfl
  | some o =>
    rw [s a o q] at h1
    cases h1

/-! ### the judgements -/
def Ev (te : TE) (σ : L2.St) (G : Hp) (P : Pr) : Prop := ∀ H, Same G H → ∀ Q : VK, (∀ v G2 H2, Gr G H G2 H2 → P G2 v → Q v H2) → te σ H Q
def EvT (t : TT) (σ : L2.St) (G : Hp) (b : Bool) : Prop := ∀ H, Same G H → ∀ Q : Bool → Hp → Prop, (∀ G2 H2, Gr G H G2 H2 → Q b H2) → t σ H Q
def Al2 (G : Hp) : List V → List Pr → Prop
  | [], [] => True
  | v :: vs, P :: Ps => P G v ∧ Al2 G vs Ps
  | _, _ => False
def MoAll : List Pr → Prop
  | [] => True
  | P :: Ps => Mo P ∧ MoAll Ps
def EvA (t : TA) (σ : L2.St) (G : Hp) (Ps : List Pr) : Prop := ∀ H, Same G H → ∀ Q : List V → Hp → Prop, (∀ vs G2 H2, Gr G H G2 H2 → Al2 G2 vs Ps → Q vs H2) → t σ H Q
def EvO (t : TO) (σ : L2.St) (G : Hp) (o : Option Int) : Prop := ∀ H, Same G H → ∀ Q : Option Int → Hp → Prop, (∀ G2 H2, Gr G H G2 H2 → Q o H2) → t σ H Q

section
variable {te ta tb : TE} {t u : TT} {σ : L2.St} {G G' : Hp} {P P' R : Pr} {Ps : List Pr}
theorem Ev.mono [Mo P] (s : Same G G') (h : Ev te σ G P) : Ev te σ G' P := fun H s' Q k => h H (same_trans s s') Q fun v G2 H2 g p =>
  let ⟨g', e⟩ := g.more s s'
  k v _ H2 g' (Mo.up e p)
theorem EvT.mono {b : Bool} (s : Same G G') (h : EvT t σ G b) : EvT t σ G' b := fun H s' Q k => h H (same_trans s s') Q fun G2 H2 g => k _ H2 (g.more s s').1
theorem EvO.mono {o : Option Int} {t : TO} (s : Same G G') (h : EvO t σ G o) : EvO t σ G' o := fun H s' Q k => h H (same_trans s s') Q fun G2 H2 g => k _ H2 (g.more s s').1
theorem Al2.mono (s : Same G G') : ∀ {vs : List V} {Ps : List Pr}, MoAll Ps → Al2 G vs Ps → Al2 G' vs Ps
  | [], [], _, _ => trivial
  | _ :: _, _ :: _, ⟨m, ms⟩, ⟨p, r⟩ => ⟨m.up s p, Al2.mono s ms r⟩
  | [], _ :: _, _, h => h
  | _ :: _, [], _, h => h
theorem EvA.mono {t : TA} (m : MoAll Ps) (s : Same G G') (h : EvA t σ G Ps) : EvA t σ G' Ps := fun H s' Q k => h H (same_trans s s') Q fun v G2 H2 g p =>
  let ⟨g', e⟩ := g.more s s'
  k v _ H2 g' (Al2.mono e m p)
theorem Ev.imp (h : Ev te σ G P) (i : ∀ G2 v, Same G G2 → P G2 v → R G2 v) : Ev te σ G R := fun H s Q k => h H s Q fun v G2 H2 g p => k v G2 H2 g (i G2 v g.gg p)
theorem EvT.is {a b : Bool} (h : EvT t σ G a) (e : a = b) : EvT t σ G b := e ▸ h
end

/-! ### what values are -/
def PI (i : Int) : Pr := fun _ v => v = .int i
def PB (b : Bool) : Pr := fun _ v => v = .bl b
def PN : Pr := fun _ v => v = .non
def PV (w : V) : Pr := fun _ v => v = w
instance {i : Int} : Mo (PI i) := ⟨fun _ h => h⟩
instance {b : Bool} : Mo (PB b) := ⟨fun _ h => h⟩
instance : Mo PN := ⟨fun _ h => h⟩
instance {w : V} : Mo (PV w) := ⟨fun _ h => h⟩
section
variable {α β : Type}
/-- item by item -/
def Al (p : α → V → Prop) : List α → List V → Prop
  | [], [] => True
  | x :: l, v :: vs => p x v ∧ Al p l vs
  | _, _ => False
theorem Al.imp {p q : α → V → Prop} (h : ∀ x v, p x v → q x v) : ∀ {l : List α} {vs : List V}, Al p l vs → Al q l vs
  | [], [], _ => trivial
  | _ :: _, _ :: _, ⟨a, b⟩ => ⟨h _ _ a, Al.imp h b⟩
  | [], _ :: _, x => x
  | _ :: _, [], x => x
theorem Al.length {p : α → V → Prop} : ∀ {l : List α} {vs : List V}, Al p l vs → vs.length = l.length
  | [], [], _ => rfl
  | _ :: _, _ :: _, ⟨_, b⟩ => congrArg (· + 1) (Al.length b)
  | [], _ :: _, x => x.elim
  | _ :: _, [], x => x.elim
theorem Al.get {p : α → V → Prop} : ∀ {l : List α} {vs : List V} {i : Nat} {x : α}, Al p l vs → l[i]? = some x → ∃ v, vs[i]? = some v ∧ p x v
  | [], [], _, _, _, e => by simp at e
  | _ :: _, w :: _, 0, _, ⟨a, _⟩, e => by
    simp at e
    subst e
    exact ⟨w, rfl, a⟩
  | _ :: l, _ :: vs, i + 1, x, ⟨_, b⟩, e => Al.get (l := l) (vs := vs) (i := i) (x := x) b (by simpa using e)
  | [], _ :: _, _, _, x, _ => x.elim
  | _ :: _, [], _, _, x, _ => x.elim
theorem Al.tell {p : α → V → Prop} : ∀ {l : List α} {vs : List V} {i : Nat} {v : V}, Al p l vs → vs[i]? = some v → ∃ x, l[i]? = some x ∧ p x v
  | [], [], _, _, _, e => by simp at e
  | y :: _, _ :: _, 0, _, ⟨a, _⟩, e => by
    simp at e
    subst e
    exact ⟨y, rfl, a⟩
  | _ :: l, _ :: vs, i + 1, v, ⟨_, b⟩, e => Al.tell (l := l) (vs := vs) (i := i) (v := v) b (by simpa using e)
  | [], _ :: _, _, _, x, _ => x.elim
  | _ :: _, [], _, _, x, _ => x.elim
theorem Al.append {p : α → V → Prop} : ∀ {l m : List α} {vs us : List V}, Al p l vs → Al p m us → Al p (l ++ m) (vs ++ us)
  | [], _, [], _, _, h => h
  | _ :: _, _, _ :: _, _, ⟨a, b⟩, h => ⟨a, Al.append b h⟩
  | [], _, _ :: _, _, x, _ => x.elim
  | _ :: _, _, [], _, x, _ => x.elim
theorem al_one {p : α → V → Prop} {x : α} {v : V} (h : p x v) : Al p [x] [v] := ⟨h, trivial⟩
theorem Al.take {p : α → V → Prop} : ∀ {l : List α} {vs : List V} (n : Nat), Al p l vs → Al p (l.take n) (vs.take n)
  | _, _, 0, _ => trivial
  | [], [], _ + 1, _ => trivial
  | _ :: _, _ :: _, n + 1, ⟨a, b⟩ => ⟨a, Al.take n b⟩
  | [], _ :: _, _ + 1, x => x.elim
  | _ :: _, [], _ + 1, x => x.elim
theorem Al.drop {p : α → V → Prop} : ∀ {l : List α} {vs : List V} (n : Nat), Al p l vs → Al p (l.drop n) (vs.drop n)
  | _, _, 0, h => h
  | [], [], _ + 1, _ => trivial
  | _ :: _, _ :: _, n + 1, ⟨_, b⟩ => Al.drop n b
  | [], _ :: _, _ + 1, x => x.elim
  | _ :: _, [], _ + 1, x => x.elim
theorem Al.set {p : α → V → Prop} {x : α} {v : V} (h : p x v) : ∀ {l : List α} {vs : List V} (n : Nat), Al p l vs → Al p (l.set n x) (vs.set n v)
  | [], [], _, _ => trivial
  | _ :: _, _ :: _, 0, ⟨_, b⟩ => ⟨h, b⟩
  | _ :: _, _ :: _, n + 1, ⟨a, b⟩ => ⟨a, Al.set h n b⟩
  | [], _ :: _, _, x => x.elim
  | _ :: _, [], _, x => x.elim
theorem al_ints : ∀ l : List Int, Al (fun i v => v = .int i) l (l.map V.int)
  | [] => trivial
  | _ :: l => ⟨rfl, al_ints l⟩
theorem ints_al : ∀ {l : List Int} {vs : List V}, Al (fun i v => v = .int i) l vs → vs = l.map V.int
  | [], [], _ => rfl
  | i :: l, v :: vs, ⟨a, b⟩ => by rw [show v = .int i from a, ints_al b, List.map_cons]
  | [], _ :: _, x => x.elim
  | _ :: _, [], x => x.elim
/-- a list of such -/
def Ls (p : α → Pr) (l : List α) : Pr := fun H v => ∃ a xs, v = .ref a ∧ H a = some (.lst xs) ∧ Al (fun x v => p x H v) l xs
instance {p : α → Pr} {l : List α} [m : ∀ x, Mo (p x)] : Mo (Ls p l) := ⟨fun s ⟨a, xs, e, h, al⟩ => ⟨a, xs, e, s a _ h, al.imp fun x _ q => (m x).up s q⟩⟩
/-- a tuple of such -/
def Tp (Ps : List Pr) : Pr := fun H v => ∃ a xs, v = .ref a ∧ H a = some (.tup xs) ∧ Al2 H xs Ps
theorem Tp.mo {Ps : List Pr} (m : MoAll Ps) : Mo (Tp Ps) := ⟨fun s ⟨a, xs, e, h, al⟩ => ⟨a, xs, e, s a _ h, al.mono s m⟩⟩
end
abbrev Row (r : List Int) : Pr := Ls PI r
abbrev Rows (rs : List (List Int)) : Pr := Ls (fun r => Row r) rs
/-- a pair of whole numbers -/
def Pair (q : Int × Int) : Pr := Tp [PI q.1, PI q.2]
instance {q : Int × Int} : Mo (Pair q) := Tp.mo ⟨inferInstance, inferInstance, trivial⟩
/-- a pair of rows -/
def TwoRows (q : List Int × List Int) : Pr := Tp [Row q.1, Row q.2]
instance {q : List Int × List Int} : Mo (TwoRows q) := Tp.mo ⟨inferInstance, inferInstance, trivial⟩
/-- a row or None -/
def ORow : Option (List Int) → Pr
  | none => PN
  | some r => Row r
instance {o : Option (List Int)} : Mo (ORow o) := by
  cases o
  · exact inferInstanceAs (Mo PN)
  · exact inferInstanceAs (Mo (Row _))
theorem row_at {r : List Int} {H : Hp} {v : V} (h : Row r H v) : ∃ a, v = .ref a ∧ H a = some (.lst (r.map V.int)) := by
  obtain ⟨a, xs, e, h1, al⟩ := h
  exact ⟨a, e, by rw [h1, ints_al al]⟩
theorem row_of {r : List Int} {H : Hp} {a : Addr} (h : H a = some (.lst (r.map V.int))) : Row r H (.ref a) := ⟨a, _, rfl, h, al_ints r⟩

section
variable {te ta tb : TE} {t u : TT} {σ : L2.St} {G G' : Hp} {P P' R : Pr} {Ps : List Pr} {K : PySem.W.Frag}
/-! ### expressions -/
theorem e_var {i : Nat} {v : V} (h : σ[i]? = some (some v)) (p : P G v) : Ev (tVar i) σ G P := fun H s _ k => ⟨v, h, k v G H (.refl s) p⟩
theorem e_int {i : Int} : Ev (tC (.int i)) σ G (PI i) := fun H s _ k => k _ G H (.refl s) rfl
theorem e_non : Ev (tC .non) σ G PN := fun H s _ k => k _ G H (.refl s) rfl
theorem e_c {v : V} : Ev (tC v) σ G (PV v) := fun H s _ k => k _ G H (.refl s) rfl
/-- two values, then something of them -/
theorem e_two [Mo P] [Mo P'] {r : R2} (ha : Ev ta σ G P) (hb : Ev tb σ G P') (hr : ∀ G2 H2 x y, Same G G2 → Same G2 H2 → P G2 x → P' G2 y → ∀ Q : VK, (∀ v G3 H3, Gr G2 H2 G3 H3 → R G3 v → Q v H3) → r x y H2 Q) :
    Ev (tOp r ta tb) σ G R := fun H s _ k => ha H s _ fun x G1 H1 g1 p1 => (hb.mono g1.gg) H1 g1.gh _ fun y G2 H2 g2 p2 =>
  hr G2 H2 x y (same_trans g1.gg g2.gg) g2.gh (Mo.up g2.gg p1) p2 _ fun v G3 H3 g3 q => k v G3 H3 ((g1.trans g2).trans g3) q
theorem e_i0 {g : Int → Int → V} {i j : Int} (ha : Ev ta σ G (PI i)) (hb : Ev tb σ G (PI j)) (hv : ∀ G2, R G2 (g i j)) : Ev (tOp (rI0 g) ta tb) σ G R :=
  e_two ha hb fun G2 H2 x y _ s2 px py Q k => ⟨i, j, px, py, k _ G2 H2 (.refl s2) (hv G2)⟩
theorem e_iC {C : Int → Int → Prop} {g : Int → Int → V} {i j : Int} (ha : Ev ta σ G (PI i)) (hb : Ev tb σ G (PI j)) (hc : C i j) (hv : ∀ G2, R G2 (g i j)) : Ev (tOp (rI C g) ta tb) σ G R :=
  e_two ha hb fun G2 H2 x y _ s2 px py Q k => ⟨i, j, px, py, hc, k _ G2 H2 (.refl s2) (hv G2)⟩
theorem e_add {i j : Int} (ha : Ev ta σ G (PI i)) (hb : Ev tb σ G (PI j)) : Ev (tOp (rI0 fun i j => .int (i + j)) ta tb) σ G (PI (i + j)) := e_i0 ha hb fun _ => rfl
theorem e_sub {i j : Int} (ha : Ev ta σ G (PI i)) (hb : Ev tb σ G (PI j)) : Ev (tOp (rI0 fun i j => .int (i - j)) ta tb) σ G (PI (i - j)) := e_i0 ha hb fun _ => rfl
theorem e_mul {i j : Int} (ha : Ev ta σ G (PI i)) (hb : Ev tb σ G (PI j)) (hc : CMulB i j) : Ev (tOp (rI CMulB fun i j => .int (i * j)) ta tb) σ G (PI (i * j)) := e_iC ha hb hc fun _ => rfl
theorem e_div {i j : Int} (ha : Ev ta σ G (PI i)) (hb : Ev tb σ G (PI j)) (hc : j ≠ 0) : Ev (tOp (rI (fun _ j => j ≠ 0) fun i j => .int (i.fdiv j)) ta tb) σ G (PI (i.fdiv j)) := e_iC ha hb hc fun _ => rfl
theorem e_mod {i j : Int} (ha : Ev ta σ G (PI i)) (hb : Ev tb σ G (PI j)) (hc : j ≠ 0) : Ev (tOp (rI (fun _ j => j ≠ 0) fun i j => .int (i.fmod j)) ta tb) σ G (PI (i.fmod j)) := e_iC ha hb hc fun _ => rfl
theorem e_neg {i : Int} (ha : Ev ta σ G (PI i)) : Ev (tUn (rU fun i => .int (-i)) ta) σ G (PI (-i)) := fun H s _ k => ha H s _ fun x G2 H2 g p => ⟨i, p, k _ G2 H2 g rfl⟩
theorem e_lt {i j : Int} (ha : Ev ta σ G (PI i)) (hb : Ev tb σ G (PI j)) : Ev (tOp (rI0 fun i j => .bl (decide (i < j))) ta tb) σ G (PB (decide (i < j))) := e_i0 ha hb fun _ => rfl
theorem e_le {i j : Int} (ha : Ev ta σ G (PI i)) (hb : Ev tb σ G (PI j)) : Ev (tOp (rI0 fun i j => .bl (decide (i ≤ j))) ta tb) σ G (PB (decide (i ≤ j))) := e_i0 ha hb fun _ => rfl
theorem e_gt {i j : Int} (ha : Ev ta σ G (PI i)) (hb : Ev tb σ G (PI j)) : Ev (tOp (rI0 fun i j => .bl (decide (j < i))) ta tb) σ G (PB (decide (j < i))) := e_i0 ha hb fun _ => rfl
theorem e_ge {i j : Int} (ha : Ev ta σ G (PI i)) (hb : Ev tb σ G (PI j)) : Ev (tOp (rI0 fun i j => .bl (decide (j ≤ i))) ta tb) σ G (PB (decide (j ≤ i))) := e_i0 ha hb fun _ => rfl
theorem dec_int {i j : Int} : decide (V.int i = V.int j) = decide (i = j) := by
  by_cases h : i = j
  · subst h
    simp
  · rw [decide_eq_false h, decide_eq_false fun z => h (V.int.inj z)]
theorem e_eq {i j : Int} (ha : Ev ta σ G (PI i)) (hb : Ev tb σ G (PI j)) : Ev (tOp rEq ta tb) σ G (PB (decide (i = j))) :=
  e_two ha hb fun G2 H2 x y _ s2 px py Q k => by
    obtain rfl : x = .int i := px
    obtain rfl : y = .int j := py
    exact ⟨rfl, k _ G2 H2 (.refl s2) (congrArg V.bl dec_int)⟩
theorem e_ne {i j : Int} (ha : Ev ta σ G (PI i)) (hb : Ev tb σ G (PI j)) : Ev (tOp rNe ta tb) σ G (PB (!decide (i = j))) :=
  e_two ha hb fun G2 H2 x y _ s2 px py Q k => by
    obtain rfl : x = .int i := px
    obtain rfl : y = .int j := py
    exact ⟨rfl, k _ G2 H2 (.refl s2) (congrArg (fun b => V.bl (!b)) dec_int)⟩
/-- is None, is not None: what is not None is an address or a number -/
theorem e_isN {b : Bool} [Mo P] (ha : Ev ta σ G P) (h : ∀ G2 v, P G2 v → decide (v = V.non) = b) : Ev (tOp (fun x y H Q => y = .non ∧ Q (.bl (decide (x = .non))) H) ta (tC .non)) σ G (PB b) :=
  e_two ha e_non fun G2 H2 x y _ s2 px py Q k => ⟨py, k _ G2 H2 (.refl s2) (congrArg V.bl (h G2 x px))⟩
theorem e_notN {b : Bool} [Mo P] (ha : Ev ta σ G P) (h : ∀ G2 v, P G2 v → (!decide (v = V.non)) = b) : Ev (tOp (fun x y H Q => y = .non ∧ Q (.bl (!decide (x = .non))) H) ta (tC .non)) σ G (PB b) :=
  e_two ha e_non fun G2 H2 x y _ s2 px py Q k => ⟨py, k _ G2 H2 (.refl s2) (congrArg V.bl (h G2 x px))⟩

/-! ### tests -/
theorem t_test {b : Bool} (h : Ev te σ G (PB b)) : EvT (tTest te) σ G b := fun H s _ k => h H s _ fun v G2 H2 g p => ⟨b, p, k G2 H2 g⟩
theorem t_B {b : Bool} (h : Ev te σ G (PB b)) : EvT (tB te) σ G b := fun H s _ k => h H s _ fun v G2 H2 g p => ⟨b, p, k G2 H2 g⟩
theorem t_not {b : Bool} (h : EvT t σ G b) : EvT (tNot t) σ G (!b) := fun H s _ k => h H s _ fun G2 H2 g => k G2 H2 g
theorem t_and {a b : Bool} (h1 : EvT t σ G a) (h2 : a = true → EvT u σ G b) : EvT (tAnd t u) σ G (a && b) := fun H s Q k => h1 H s _ fun G2 H2 g => by
  cases a with
  | true => exact ((h2 rfl).mono g.gg) H2 g.gh Q fun G3 H3 g3 => k G3 H3 (g.trans g3)
  | false => exact k G2 H2 g
theorem t_or {a b : Bool} (h1 : EvT t σ G a) (h2 : a = false → EvT u σ G b) : EvT (tOr t u) σ G (a || b) := fun H s Q k => h1 H s _ fun G2 H2 g => by
  cases a with
  | true => exact k G2 H2 g
  | false => exact ((h2 rfl).mono g.gg) H2 g.gh Q fun G3 H3 g3 => k G3 H3 (g.trans g3)
theorem t_yes : EvT tYes σ G true := fun H s _ k => k G H (.refl s)
theorem e_andV {a b : Bool} (h1 : Ev ta σ G (PB a)) (h2 : a = true → Ev tb σ G (PB b)) : Ev (tAndV ta tb) σ G (PB (a && b)) := fun H s Q k => h1 H s _ fun v G2 H2 g p => ⟨a, p, by
  cases a with
  | true => exact ((h2 rfl).mono g.gg) H2 g.gh Q fun w G3 H3 g3 q => k w G3 H3 (g.trans g3) q
  | false => exact k _ G2 H2 g rfl⟩
theorem e_if [Mo P] {b : Bool} (h : EvT t σ G b) (h1 : b = true → Ev ta σ G P) (h2 : b = false → Ev tb σ G P) : Ev (tIf t ta tb) σ G P := fun H s Q k => h H s _ fun G2 H2 g => by
  cases b with
  | true => exact ((h1 rfl).mono g.gg) H2 g.gh Q fun w G3 H3 g3 q => k w G3 H3 (g.trans g3) q
  | false => exact ((h2 rfl).mono g.gg) H2 g.gh Q fun w G3 H3 g3 q => k w G3 H3 (g.trans g3) q

/-! ### argument lists, displays -/
theorem a_nil : EvA tNil σ G [] := fun H s _ k => k [] G H (.refl s) trivial
theorem a_cons {tr : TA} [Mo P] (m : MoAll Ps) (h : Ev te σ G P) (hr : EvA tr σ G Ps) : EvA (tCons te tr) σ G (P :: Ps) := fun H s _ k => h H s _ fun x G1 H1 g1 p1 =>
  (hr.mono m g1.gg) H1 g1.gh _ fun xs G2 H2 g2 p2 => k _ G2 H2 (g1.trans g2) ⟨Mo.up g2.gg p1, p2⟩
theorem a_one [Mo P] (h : Ev te σ G P) : EvA (tCons te tNil) σ G [P] := a_cons trivial h a_nil
theorem a_two [Mo P] [Mo P'] (h : Ev ta σ G P) (h' : Ev tb σ G P') : EvA (tCons ta (tCons tb tNil)) σ G [P, P'] := a_cons ⟨inferInstance, trivial⟩ h (a_one h')
theorem Al2.length : ∀ {vs : List V} {Ps : List Pr} {H : Hp}, Al2 H vs Ps → vs.length = Ps.length
  | [], [], _, _ => rfl
  | _ :: vs, _ :: Ps, H, ⟨_, b⟩ => congrArg (· + 1) (Al2.length (vs := vs) (Ps := Ps) (H := H) b)
  | [], _ :: _, _, x => x.elim
  | _ :: _, [], _, x => x.elim
theorem e_tup {t : TA} (m : MoAll Ps) (hl : Ps.length ≤ 1000) (h : EvA t σ G Ps) : Ev (tTup t) σ G (Tp Ps) := fun H s _ k => h H s _ fun vs G2 H2 g al =>
  ⟨by rw [al.length]; exact Nat.le_trans hl (by decide), fun p hp => k _ _ _ (g.trans (.new g.gh hp)) ⟨p, vs, rfl, upd_same, al.mono (same_new (by
    cases q : G2 p with
    | none => rfl
    | some o =>
      rw [g.gh p o q] at hp
      cases hp)) m⟩⟩
theorem e_lst0 {α : Type} {p : α → Pr} : Ev (tLst tNil) σ G (Ls p []) := fun H s _ k => ⟨Nat.zero_le _, fun q hq => k _ _ _ (.new s hq) ⟨q, [], rfl, upd_same, trivial⟩⟩
theorem gone {G H : Hp} {p : Addr} (s : Same G H) (h : H p = none) : G p = none := by
  cases q : G p with
  | none => rfl
  | some o =>
    rw [s p o q] at h
    cases h
theorem e_lst1 {α : Type} {p : α → Pr} {x : α} [∀ x, Mo (p x)] (h : Ev te σ G (p x)) : Ev (tLst (tCons te tNil)) σ G (Ls p [x]) := fun H s _ k => h H s _ fun v G2 H2 g q =>
  ⟨by show 1 ≤ sizeLine; decide, fun a ha => k _ _ _ (g.trans (.new g.gh ha)) ⟨a, [v], rfl, upd_same, ⟨Mo.up (same_new (gone g.gh ha)) q, trivial⟩⟩⟩

/-! ### lists and tuples read -/
theorem atI_nat' {α : Type} {xs : List α} {i : Nat} {x : α} (h : xs[i]? = some x) : atI xs (i : Int) = some x := by
  have hl : i < xs.length := (List.getElem?_eq_some_iff.mp h).1
  unfold atI ixN
  rw [if_pos (by omega), if_pos (by omega)]
  simpa using h
theorem atI_end {α : Type} {xs : List α} {x : α} (h : xs[xs.length - 1]? = some x) : atI xs (-1) = some x := by
  have hl : xs.length - 1 < xs.length := (List.getElem?_eq_some_iff.mp h).1
  unfold atI ixN
  rw [if_neg (by omega), if_pos (by omega)]
  have e : ((-1 : Int) + (xs.length : Int)).toNat = xs.length - 1 := by omega
  rw [e]
  exact h
theorem al_atI {α : Type} {p : α → V → Prop} {l : List α} {vs : List V} {i : Int} {x : α} (al : Al p l vs) (h : atI l i = some x) : ∃ v, atI vs i = some v ∧ p x v := by
  unfold atI at h ⊢
  rw [al.length]
  cases q : ixN l.length i with
  | none =>
    rw [q] at h
    cases h
  | some j =>
    rw [q] at h
    exact al.get h
theorem e_ix {α : Type} {p : α → Pr} {l : List α} {i : Int} {x : α} [∀ x, Mo (p x)] (ha : Ev ta σ G (Ls p l)) (hb : Ev tb σ G (PI i)) (h : atI l i = some x) : Ev (tOp (rIxL K) ta tb) σ G (p x) :=
  e_two ha hb fun G2 H2 y z _ s2 ⟨a, xs, e, h1, al⟩ pz Q k => by
    obtain ⟨v, h2, h3⟩ := al_atI al h
    exact ⟨a, xs, i, v, e, pz, SqL.of (s2 a _ h1), h2, k _ G2 H2 (.refl s2) h3⟩
/-- a pair's two -/
theorem e_fst {Ps : List Pr} (m : MoAll (P :: Ps)) (ha : Ev ta σ G (Tp (P :: Ps))) : Ev (tOp (rIxT K) ta (tC (.int 0))) σ G P := by
  haveI := Tp.mo m
  exact e_two ha e_int fun G2 H2 y z _ s2 ⟨a, xs, e, h1, al⟩ pz Q k => by
    match xs, al with
    | x :: xs, ⟨p, _⟩ => exact ⟨a, _, 0, x, e, pz, SqT.of (s2 a _ h1), atI_nat' (i := 0) rfl, k _ G2 H2 (.refl s2) p⟩
theorem e_snd {Ps : List Pr} (m : MoAll (P' :: P :: Ps)) (ha : Ev ta σ G (Tp (P' :: P :: Ps))) : Ev (tOp (rIxT K) ta (tC (.int 1))) σ G P := by
  haveI := Tp.mo m
  exact e_two ha e_int fun G2 H2 y z _ s2 ⟨a, xs, e, h1, al⟩ pz Q k => by
    match xs, al with
    | _ :: x :: xs, ⟨_, p, _⟩ => exact ⟨a, _, 1, x, e, pz, SqT.of (s2 a _ h1), atI_nat' (i := 1) rfl, k _ G2 H2 (.refl s2) p⟩
theorem e_fstI {q : Int × Int} (ha : Ev ta σ G (Pair q)) : Ev (tOp (rIxT K) ta (tC (.int 0))) σ G (PI q.1) := e_fst (P := PI q.1) (Ps := [PI q.2]) ⟨inferInstance, inferInstance, trivial⟩ ha
theorem e_sndI {q : Int × Int} (ha : Ev ta σ G (Pair q)) : Ev (tOp (rIxT K) ta (tC (.int 1))) σ G (PI q.2) := e_snd (P' := PI q.1) (P := PI q.2) (Ps := []) ⟨inferInstance, inferInstance, trivial⟩ ha
theorem e_fstR {q : List Int × List Int} (ha : Ev ta σ G (TwoRows q)) : Ev (tOp (rIxT K) ta (tC (.int 0))) σ G (Row q.1) := e_fst (P := Row q.1) (Ps := [Row q.2]) ⟨inferInstance, inferInstance, trivial⟩ ha
theorem e_sndR {q : List Int × List Int} (ha : Ev ta σ G (TwoRows q)) : Ev (tOp (rIxT K) ta (tC (.int 1))) σ G (Row q.2) := e_snd (P' := Row q.1) (P := Row q.2) (Ps := []) ⟨inferInstance, inferInstance, trivial⟩ ha
/-! ### calls of built-ins -/
theorem e_len {α : Type} {p : α → Pr} {l : List α} [∀ x, Mo (p x)] (ha : Ev ta σ G (Ls p l)) :
    Ev (tCB (rLenK K) (tCons ta tNil)) σ G (PI (l.length : Int)) := fun H s _ k =>
  a_one ha H s _ fun vs G2 H2 g al => by
    match vs, al with
    | [v], ⟨⟨a, xs, e, h1, al⟩, _⟩ => exact ⟨a, xs, by rw [e], .inl (SqL.of (g.gh a _ h1)), k _ G2 H2 g (by rw [al.length]; rfl)⟩
theorem e_max {i j : Int} (ha : Ev ta σ G (PI i)) (hb : Ev tb σ G (PI j)) : Ev (tCB (fun xs H Q => ∃ i j, xs = [.int i, .int j] ∧ Q (.int (if j > i then j else i)) H) (tCons ta (tCons tb tNil))) σ G (PI (max i j)) := fun H s _ k =>
  a_two ha hb H s _ fun vs G2 H2 g al => by
    match vs, al with
    | [v, w], ⟨e1, e2, _⟩ =>
      obtain rfl : v = .int i := e1
      obtain rfl : w = .int j := e2
      refine ⟨i, j, rfl, k _ G2 H2 g (congrArg V.int ?_)⟩
      by_cases h : j > i
      · rw [if_pos h, Int.max_eq_right (by omega)]
      · rw [if_neg h, Int.max_eq_left (by omega)]
theorem e_min {i j : Int} (ha : Ev ta σ G (PI i)) (hb : Ev tb σ G (PI j)) : Ev (tCB (fun xs H Q => ∃ i j, xs = [.int i, .int j] ∧ Q (.int (if j < i then j else i)) H) (tCons ta (tCons tb tNil))) σ G (PI (min i j)) := fun H s _ k =>
  a_two ha hb H s _ fun vs G2 H2 g al => by
    match vs, al with
    | [v, w], ⟨e1, e2, _⟩ =>
      obtain rfl : v = .int i := e1
      obtain rfl : w = .int j := e2
      refine ⟨i, j, rfl, k _ G2 H2 g (congrArg V.int ?_)⟩
      by_cases h : j < i
      · rw [if_pos h, Int.min_eq_right (by omega)]
      · rw [if_neg h, Int.min_eq_left (by omega)]
theorem e_abs {i : Int} (ha : Ev ta σ G (PI i)) : Ev (tCB (fun xs H Q => ∃ i, xs = [.int i] ∧ Q (.int (if i < 0 then -i else i)) H) (tCons ta tNil)) σ G (PI (i.natAbs : Int)) := fun H s _ k =>
  a_one ha H s _ fun vs G2 H2 g al => by
    match vs, al with
    | [v], ⟨e1, _⟩ =>
      obtain rfl : v = .int i := e1
      refine ⟨i, rfl, k _ G2 H2 g (congrArg V.int ?_)⟩
      by_cases h : i < 0
      · rw [if_pos h]
        omega
      · rw [if_neg h]
        omega
theorem e_sum {r : List Int} (ha : Ev ta σ G (Row r)) : Ev (tCB (rSum K) (tCons ta tNil)) σ G (PI r.sum) := fun H s _ k =>
  a_one ha H s _ fun vs G2 H2 g al => by
    match vs, al with
    | [v], ⟨h, _⟩ =>
      obtain ⟨a, rfl, h1⟩ := row_at h
      exact ⟨a, r, rfl, SqL.of (g.gh a _ h1), k _ G2 H2 g rfl⟩
/-! ### lists made of lists -/
theorem e_cat {α : Type} {p : α → Pr} {l m : List α} [mo : ∀ x, Mo (p x)] (ha : Ev ta σ G (Ls p l)) (hb : Ev tb σ G (Ls p m)) (hz : l.length + m.length ≤ 1000000) : Ev (tOp rCat ta tb) σ G (Ls p (l ++ m)) :=
  e_two ha hb fun G2 H2 y z _ s2 ⟨a, xs, e, h1, al⟩ ⟨b, ys, e', h1', al'⟩ Q k => ⟨a, b, xs, ys, e, e', s2 a _ h1, s2 b _ h1', by rw [al.length, al'.length]; exact Nat.le_trans hz (by decide), fun q hq =>
    k _ _ _ (.new s2 hq) ⟨q, _, rfl, upd_same, (al.append al').imp fun x _ w => (mo x).up (same_new (gone s2 hq)) w⟩⟩
theorem flat_rep {α : Type} (x : α) : ∀ n : Nat, (List.replicate n [x]).flatten = List.replicate n x
  | 0 => rfl
  | n + 1 => by rw [List.replicate_succ, List.flatten_cons, flat_rep x n]; rfl
end
end Qa
set_option Elab.async false
set_option linter.all false
set_option maxRecDepth 100000
set_option maxHeartbeats 2000000
namespace Qa
open PySem PySem.Spec PyProof.Rows L2

/-- what was owned is known from now on -/
theorem Gr.own {G H G2 H2 : Hp} {D : Addr} {o : HO} (x : Gr G H G2 H2) (h : H D = none) (h1 : G2 D = none) (h2 : H2 D = some o) : Gr G H (upd G2 D o) H2 := by
  refine ⟨same_trans x.gg (same_new h1), fun a u e => ?_, x.hh, fun a e1 e2 => ?_⟩
  · by_cases z : a = D
    · subst z
      rw [upd_same] at e
      rw [h2]
      exact e
    · rw [upd_ne z] at e
      exact x.gh a u e
  · have z : a ≠ D := fun z => e2 (z ▸ h)
    rw [upd_ne z]
    exact x.fr a e1 e2
/-- an owned thing is written -/
theorem Gr.put {G H G2 H2 : Hp} {D : Addr} {o : HO} (x : Gr G H G2 H2) (h : H D = none) (h1 : G2 D = none) : Gr G H G2 (upd H2 D o) := by
  refine ⟨x.gg, fun a u e => ?_, fun a u e => ?_, x.fr⟩
  · rw [upd_ne (ne_of_none e h1)]
    exact x.gh a u e
  · rw [upd_ne (ne_of_none e h)]
    exact x.hh a u e
theorem same_put {G H : Hp} {D : Addr} {o : HO} (s : Same G H) (h : G D = none) : Same G (upd H D o) := fun a u e => by
  rw [upd_ne (ne_of_none e h)]
  exact s a u e
/-- a new thing that is owned, not known -/
theorem Gr.hold {G H G2 H2 : Hp} {D : Addr} {o : HO} (x : Gr G H G2 H2) (h : H2 D = none) : Gr G H G2 (upd H2 D o) := x.put (gone x.hh h) (gone x.gh h)

section
variable {te ta tb tl : TE} {t u tt : TT} {σ : L2.St} {G G' : Hp} {P P' R : Pr} {Ps : List Pr} {K : PySem.W.Frag}
theorem e_rep {α : Type} {p : α → Pr} {x : α} {n : Int} [mo : ∀ x, Mo (p x)] (ha : Ev ta σ G (Ls p [x])) (hb : Ev tb σ G (PI n)) (hn : -1000000 ≤ n ∧ n ≤ 1000000) : Ev (tOp rRep ta tb) σ G (Ls p (List.replicate n.toNat x)) :=
  e_two ha hb fun G2 H2 y z _ s2 ⟨a, xs, e, h1, al⟩ pz Q k => by
    match xs, al with
    | [v], ⟨pv, _⟩ =>
      have z1 : [v].length * n.toNat ≤ sizeLine := by
        have : (1000000 : Nat) ≤ sizeLine := by decide
        show 1 * n.toNat ≤ sizeLine
        omega
      refine ⟨a, n, _, e, pz, s2 a _ h1, by omega, by omega, z1, fun q hq => ?_⟩
      rw [flat_rep]
      refine k _ _ _ (.new s2 hq) ⟨q, _, rfl, upd_same, ?_⟩
      have : ∀ m : Nat, Al (fun x w => p x (upd G2 q (.lst (List.replicate n.toNat v))) w) (List.replicate m x) (List.replicate m v) := by
        intro m
        induction m with
        | zero => trivial
        | succ m ih => exact ⟨(mo x).up (same_new (gone s2 hq)) pv, ih⟩
      exact this _
theorem o_none : EvO tNoPart σ G none := fun H s _ k => k G H (.refl s)
theorem o_some {i : Int} (h : Ev te σ G (PI i)) : EvO (tPart te) σ G (some i) := fun H s _ k => h H s _ fun v G2 H2 g p => ⟨i, p, k G2 H2 g⟩
/-- the items of l[lo:hi] -/
def cut {α : Type} (l : List α) (lo hi : Option Int) : List α := (l.drop (HT.sIx l.length 0 lo)).take (HT.sIx l.length l.length hi - HT.sIx l.length 0 lo)
theorem e_cut {α : Type} {p : α → Pr} {l : List α} {lo hi : Option Int} {t1 t2 : TO} [mo : ∀ x, Mo (p x)] (h : Ev te σ G (Ls p l)) (h1 : EvO t1 σ G lo) (h2 : EvO t2 σ G hi) : Ev (tSl (rSlL K) te t1 t2) σ G (Ls p (cut l lo hi)) := fun H s _ k =>
  h H s _ fun v G2 H2 g2 ⟨a, xs, e, ha, al⟩ => (h1.mono g2.gg) H2 g2.gh _ fun G3 H3 g3 => (h2.mono (same_trans g2.gg g3.gg)) H3 g3.gh _ fun G4 H4 g4 =>
    ⟨a, xs, e, SqL.of (g4.gh a _ (g4.gg a _ (g3.gg a _ ha))), fun q hq => k _ _ _ (((g2.trans g3).trans g4).trans (.new g4.gh hq)) ⟨q, _, rfl, upd_same, by
      have e : cutV xs lo hi = (xs.drop (HT.sIx l.length 0 lo)).take (HT.sIx l.length l.length hi - HT.sIx l.length 0 lo) := by
        unfold cutV
        rw [al.length]
      have s5 : Same G2 (upd G4 q (.lst (cutV xs lo hi))) := same_trans (same_trans g3.gg g4.gg) (same_new (gone g4.gh hq))
      have al2 := ((al.drop (HT.sIx l.length 0 lo)).take (HT.sIx l.length l.length hi - HT.sIx l.length 0 lo)).imp fun x w z => (mo x).up s5 z
      rw [← e] at al2
      exact al2⟩⟩
/-! ### comprehensions -/
theorem lc_go {J : It} {n : Nat} {Gd : Hp → Prop} {Y : Nat → Hp → V → Hp → Prop} (w : Walk J n Gd Y) {g : TG} {vs : List Nat} {G1 H1 : Hp} (s1 : Same G1 H1) {D : Addr} (hD : H1 D = none) {β : Type} {q : β → Pr} [mo : ∀ x, Mo (q x)] (out : Nat → List β) (h0 : out 0 = [])
    (hn : n ≤ 1000000) (hG : ∀ H, Same G1 H → Gd H)
    (hs : ∀ i x Gi H H', i < n → Same G1 Gi → Same Gi H → Y i H x H' → g x (wipe σ vs) H' fun σ2 H2 => wipe σ2 vs = wipe σ vs ∧ ∃ G2, Gr Gi H G2 H2 ∧ ∃ b, EvT tt σ2 G2 b ∧ (b = true → ∃ y, Ev te σ2 G2 (q y) ∧ out (i + 1) = out i ++ [y]) ∧ (b = false → out (i + 1) = out i))
    (gm : ∀ x σ H Q Q', (∀ σ2 H2, Q σ2 H2 → Q' σ2 H2) → g x σ H Q → g x σ H Q')
    {Qd : Hp → Prop} (k : ∀ G2 H2, Gr G1 H1 G2 H2 → Ls q (out n) G2 (.ref D) → Qd H2) :
    ∃ W : Nat → Nat → Hp → Prop, (∃ m, W 0 m (upd H1 D (.lst []))) ∧ ∀ i m H, W i m H →
      (J.stop i H ∧ Qd H) ∨ (J.go i H ∧ ∃ Nx : Hp → Prop, (∀ H', Nx H' → ∃ m', m' < m ∧ W (i + 1) m' H') ∧ ∀ x H', J.yld i H x H' → g x (wipe σ vs) H' fun σ2 H2 => wipe σ2 vs = wipe σ vs ∧ tt σ2 H2 fun b H3 =>
        if b = true then te σ2 H3 fun y H4 => ∃ acc, H4 D = some (.lst acc) ∧ acc.length < sizeLine ∧ Nx (upd H4 D (.lst (acc ++ [y]))) else Nx H3) := by
  refine lc_it w (fun i H => ∃ Gi acc, Gr G1 H1 Gi H ∧ Gi D = none ∧ H D = some (.lst acc) ∧ acc.length ≤ i ∧ Al (fun y v => q y Gi v) (out i) acc) ?_ ?_ ?_ ?_
  · refine ⟨G1, [], (Gr.refl s1).hold hD, gone s1 hD, upd_same, Nat.le_refl _, ?_⟩
    rw [h0]
    trivial
  · rintro i H _ ⟨Gi, acc, g1, _⟩
    exact hG H (same_trans g1.gg g1.gh)
  · rintro i x H H' hi ⟨Gi, acc, g1, gD, hD', hl, al⟩ y
    refine gm _ _ _ _ _ (fun σ2 H2 z => ?_) (hs i x Gi H H' hi g1.gg g1.gh y)
    obtain ⟨hw, G2, g2, b, hb, hy, hn'⟩ := z
    refine ⟨hw, hb H2 g2.gh _ fun G3 H3 g3 => ?_⟩
    have gD3 : G3 D = none := (g2.trans g3).fr D gD (by rw [hD']; simp)
    cases b with
    | false =>
      refine ⟨G3, acc, (g1.trans g2).trans g3, gD3, g3.hh D _ (g2.hh D _ hD'), by omega, ?_⟩
      rw [hn' rfl]
      exact al.imp fun y v z => (mo y).up (g2.trans g3).gg z
    | true =>
      obtain ⟨y', hy1, hy2⟩ := hy rfl
      refine ((hy1.mono g3.gg) H3 g3.gh _ fun v G4 H4 g4 p4 => ?_)
      have g24 := (g2.trans g3).trans g4
      refine ⟨acc, g24.hh D _ hD', by have : (1000001 : Nat) ≤ sizeLine := by decide
                                      omega, G4, acc ++ [v], (g1.trans g24).put hD (g24.fr D gD (by rw [hD']; simp)), g24.fr D gD (by rw [hD']; simp), upd_same, by simp; omega, ?_⟩
      rw [hy2]
      exact (al.imp fun y v z => (mo y).up g24.gg z).append (al_one p4)
  · rintro H ⟨Gi, acc, g1, gD, hD', hl, al⟩
    exact k _ H (g1.own hD gD hD') ⟨D, acc, rfl, upd_same, al.imp fun y v z => (mo y).up (same_new gD) z⟩
theorem gm_name {j : Nat} : ∀ x σ H Q Q', (∀ σ2 H2, Q σ2 H2 → Q' σ2 H2) → gName j x σ H Q → gName j x σ H Q' := fun _ _ _ _ _ h q => h _ _ q
theorem take_more {α : Type} {l : List α} {i : Nat} {x : α} (h : l[i]? = some x) : l.take (i + 1) = l.take i ++ [x] := by
  rw [List.take_add_one, h]
  rfl
theorem e_lcF {α β : Type} {p : α → Pr} {q : β → Pr} [mp : ∀ x, Mo (p x)] [mq : ∀ x, Mo (q x)] {l : List α} {j : Nat} {vs : List Nat} (f : α → β) (c : α → Bool) (hl : Ev tl σ G (Ls p l)) (hz : l.length ≤ 1000000) (hw : ∀ x, wipe ((wipe σ vs).set j (some x)) vs = wipe σ vs)
    (ht : ∀ (i : Nat) x v G', l[i]? = some x → Same G G' → p x G' v → EvT tt ((wipe σ vs).set j (some v)) G' (c x))
    (he : ∀ (i : Nat) x v G', l[i]? = some x → Same G G' → p x G' v → c x = true → Ev te ((wipe σ vs).set j (some v)) G' (q (f x))) : Ev (tLc (iList K tl) (gName j) tt te vs) σ G (Ls q ((l.filter c).map f)) := fun H s Q k =>
  hl H s _ fun v G1 H1 g1 ⟨a, xs, e, h1, al⟩ => ⟨a, e, ⟨xs, SqL.of (g1.gh a _ h1)⟩, fun D hD => lc_go (walk_list (xs := xs)) g1.gh hD (q := q) (fun i => ((l.take i).filter c).map f) (by simp) (by rw [al.length]; exact hz)
    (fun H' s' => SqL.of (s' a _ h1)) (fun i x Gi Hi H' hi sg sh y => by
      obtain ⟨rfl, hx⟩ := y
      obtain ⟨z, hz, pz⟩ := al.tell hx
      have pz' : p z Gi x := (mp z).up sg pz
      refine ⟨hw x, Gi, .refl sh, c z, ht i z x Gi hz (same_trans g1.gg sg) pz', fun hc => ⟨f z, he i z x Gi hz (same_trans g1.gg sg) pz' hc, ?_⟩, fun hc => ?_⟩
      · rw [take_more hz, List.filter_append, List.map_append]
        simp [hc]
      · rw [take_more hz, List.filter_append, List.map_append]
        simp [hc]) gm_name fun G2 H2 g2 z => k _ G2 H2 (g1.trans g2) (by rw [al.length, List.take_length] at z; exact z)⟩
theorem e_lc {α β : Type} {p : α → Pr} {q : β → Pr} [mp : ∀ x, Mo (p x)] [mq : ∀ x, Mo (q x)] {l : List α} {j : Nat} {vs : List Nat} (f : α → β) (hl : Ev tl σ G (Ls p l)) (hz : l.length ≤ 1000000) (hw : ∀ x, wipe ((wipe σ vs).set j (some x)) vs = wipe σ vs)
    (he : ∀ (i : Nat) x v G', l[i]? = some x → Same G G' → p x G' v → Ev te ((wipe σ vs).set j (some v)) G' (q (f x))) : Ev (tLc (iList K tl) (gName j) tYes te vs) σ G (Ls q (l.map f)) := by
  have h := e_lcF (K := K) (tt := tYes) (te := te) f (fun _ => true) hl hz hw (fun _ _ _ _ _ _ _ => t_yes) (fun i x v G' h1 h2 h3 _ => he i x v G' h1 h2 h3)
  rw [List.filter_eq_self.mpr (fun _ _ => rfl)] at h
  exact h
theorem e_lcR2 {β : Type} {q : β → Pr} [mq : ∀ x, Mo (q x)] {j : Nat} {vs : List Nat} {lo hi : Int} (f : Nat → β) (hl : Ev tl σ G (PI lo)) (hh : Ev ta σ G (PI hi)) (hz : -1000000 ≤ lo ∧ lo ≤ 1000000 ∧ -1000000 ≤ hi ∧ hi ≤ 1000000 ∧ hi - lo ≤ 1000000) (hw : ∀ x, wipe ((wipe σ vs).set j (some x)) vs = wipe σ vs)
    (he : ∀ (i : Nat) G', lo + (i : Int) < hi → Same G G' → Ev te ((wipe σ vs).set j (some (.int (lo + i)))) G' (q (f i))) : Ev (tLc (iRng2 (tCons tl (tCons ta tNil))) (gName j) tYes te vs) σ G (Ls q ((List.range (hi - lo).toNat).map f)) := fun H s Q k => by
    unfold tLc iRng2
    refine a_two hl hh H s _ fun ws G1 H1 g1 al => ?_
    match ws, al with
    | [v, w], ⟨e1, e2, _⟩ =>
      obtain rfl : v = .int lo := e1
      obtain rfl : w = .int hi := e2
      refine ⟨lo, hi, rfl, by omega, fun D hD => lc_go (walk_range) g1.gh hD (q := q) (fun i => (List.range i).map f) (by simp) (by omega) (fun _ _ => trivial) (fun i x Gi Hi H' hi' sg sh y => ?_) gm_name fun G2 H2 g2 z => k _ G2 H2 (g1.trans g2) z⟩
      obtain ⟨rfl, rfl⟩ := y
      refine ⟨hw _, Gi, .refl sh, true, t_yes, fun _ => ⟨f i, he i Gi (by omega) (same_trans g1.gg sg), ?_⟩, fun z => by cases z⟩
      rw [List.range_succ, List.map_append]
      rfl
theorem e_lcR1 {β : Type} {q : β → Pr} [mq : ∀ x, Mo (q x)] {j : Nat} {vs : List Nat} {hi : Int} (f : Nat → β) (hh : Ev ta σ G (PI hi)) (hz : -1000000 ≤ hi ∧ hi ≤ 1000000) (hw : ∀ x, wipe ((wipe σ vs).set j (some x)) vs = wipe σ vs)
    (he : ∀ (i : Nat) G', (i : Int) < hi → Same G G' → Ev te ((wipe σ vs).set j (some (.int i))) G' (q (f i))) : Ev (tLc (iRng1 (tCons ta tNil)) (gName j) tYes te vs) σ G (Ls q ((List.range hi.toNat).map f)) := fun H s Q k => by
    unfold tLc iRng1
    refine a_one hh H s _ fun ws G1 H1 g1 al => ?_
    match ws, al with
    | [w], ⟨e2, _⟩ =>
      obtain rfl : w = .int hi := e2
      refine ⟨hi, rfl, by omega, by omega, fun D hD => lc_go (walk_range) g1.gh hD (q := q) (fun i => (List.range i).map f) (by simp) (by omega) (fun _ _ => trivial) (fun i x Gi Hi H' hi' sg sh y => ?_) gm_name fun G2 H2 g2 z => k _ G2 H2 (g1.trans g2) z⟩
      obtain ⟨rfl, hx⟩ := y
      have e0 : x = .int (i : Int) := hx.trans (congrArg V.int (Int.zero_add _))
      subst e0
      refine ⟨hw _, Gi, .refl sh, true, t_yes, fun _ => ⟨f i, he i Gi (by omega) (same_trans g1.gg sg), ?_⟩, fun z => by cases z⟩
      rw [List.range_succ, List.map_append]
      rfl
/-- for x, y in zip(a, b) of two rows -/
theorem e_lcZ {K' : PySem.W.Frag} {β : Type} {q : β → Pr} [mq : ∀ x, Mo (q x)] {j k : Nat} {vs : List Nat} {r s : List Int} (f : Int → Int → β) (hl : Ev tl σ G (Row r)) (hh : Ev ta σ G (Row s)) (hz : r.length ≤ 1000000) (hw : ∀ x y, wipe (((wipe σ vs).set j (some x)).set k (some y)) vs = wipe σ vs)
    (he : ∀ (i : Nat) x y G', r[i]? = some x → s[i]? = some y → Same G G' → Ev te (((wipe σ vs).set j (some (.int x))).set k (some (.int y))) G' (q (f x y))) :
    Ev (tLc (iZip K (tCons tl (tCons ta tNil))) (gTup K' 2 (gCons (gName j) (gCons (gName k) gNil))) tYes te vs) σ G (Ls q (List.zipWith f r s)) := fun H s0 Q kk => by
    unfold tLc iZip
    refine a_two hl hh H s0 _ fun ws G1 H1 g1 al => ?_
    match ws, al with
    | [v, w], ⟨e1, e2, _⟩ =>
      obtain ⟨a, rfl, ha⟩ := row_at e1
      obtain ⟨b, rfl, hb⟩ := row_at e2
      refine ⟨a, b, _, _, rfl, SqL.of (g1.gh a _ ha), SqL.of (g1.gh b _ hb), fun D hD => lc_go (walk_zip rfl) g1.gh hD (q := q) (fun i => List.zipWith f (r.take i) (s.take i)) (by simp) (by simp; omega) (fun H' s' => ⟨SqL.of (s' a _ ha), SqL.of (s' b _ hb)⟩) (fun i x Gi Hi H' hi sg sh y => ?_) (fun x σ H Q Q' h z => ?_) fun G2 H2 g2 z => kk _ G2 H2 (g1.trans g2) ?_⟩
      · obtain ⟨T, x1, y1, rfl, hT, rfl, hx, hy⟩ := y
        replace hx : (r.map V.int)[i]? = some x1 := hx
        replace hy : (s.map V.int)[i]? = some y1 := hy
        rw [List.getElem?_map] at hx hy
        cases ex : r[i]? with
        | none =>
          rw [ex] at hx
          cases hx
        | some x2 =>
          cases ey : s[i]? with
          | none =>
            rw [ey] at hy
            cases hy
          | some y2 =>
            rw [ex] at hx
            rw [ey] at hy
            cases hx
            cases hy
            refine ⟨T, _, rfl, SqT.of upd_same, rfl, _, _, rfl, _, _, rfl, rfl, hw _ _, Gi, (Gr.refl sh).hold hT, true, t_yes, fun _ => ⟨f x2 y2, he i x2 y2 Gi ex ey (same_trans g1.gg sg), ?_⟩, fun z => by cases z⟩
            rw [take_more ex, take_more ey, List.zipWith_append]
            · rfl
            · rw [List.length_take, List.length_take]
              have := (List.getElem?_eq_some_iff.mp ex).1
              have := (List.getElem?_eq_some_iff.mp ey).1
              omega
      · obtain ⟨a, xs, h1, h2, h3, x1, l1, h4, x2, l2, h5, h6, h7⟩ := z
        exact ⟨a, xs, h1, h2, h3, x1, l1, h4, x2, l2, h5, h6, h _ _ h7⟩
      · simp only [List.length_map] at z
        have e : List.zipWith f (r.take (min r.length s.length)) (s.take (min r.length s.length)) = List.zipWith f r s := by
          apply List.ext_getElem?
          intro n
          simp only [List.getElem?_zipWith, List.getElem?_take]
          by_cases hn : n < min r.length s.length
          · simp [hn]
          · rw [if_neg hn, if_neg hn]
            rcases Nat.lt_or_ge n r.length with h1 | h1
            · have h2 : s.length ≤ n := by omega
              rw [List.getElem?_eq_none (l := s) h2]
              cases r[n]? <;> rfl
            · rw [List.getElem?_eq_none (l := r) h1]
        rw [e] at z
        exact z
/-! ### calls of defs -/
def spP {α : Type} (As : α → List Pr) (pre : α → Prop) (R : α → Pr) : Sp := fun vs H Q _ => ∃ (x : α) (G : Hp), Same G H ∧ Al2 G vs (As x) ∧ pre x ∧ ∀ v G2 H2, Gr G H G2 H2 → R x G2 v → Q v H2
theorem e_call {α : Type} {As : α → List Pr} {pre : α → Prop} {R : α → Pr} {E : XK} {ta : TA} (x : α) (h : EvA ta σ G (As x)) (hp : pre x) : Ev (tCall (spP As pre R) [] E ta) σ G (R x) := fun H s _ k =>
  h H s _ fun vs G1 H1 g1 al => ⟨x, G1, g1.gh, by rw [List.append_nil]; exact al, hp, fun v G2 H2 g2 r => k v G2 H2 (g1.trans g2) r⟩
theorem sp_len {α : Type} {As : α → List Pr} {pre : α → Prop} {R : α → Pr} {n : Nat} (h : ∀ x, (As x).length = n) : ∀ vs H Q E, spP As pre R vs H Q E → vs.length = n := fun vs H Q E ⟨x, G, _, al, _⟩ => al.length.trans (h x)
end

/-! ### statements -/
section
variable {te ta tb tl : TE} {t u tt : TT} {σ : L2.St} {G H G' : Hp} {P P' R : Pr} {Ps : List Pr} {K : PySem.W.Frag} {D : Ends} {tu tw tz : TS}
theorem sq (h : tu { D with nx := tz D } σ H) : tSeq tu tz D σ H := h
theorem s_asg {i : Nat} (h : Ev te σ G P) (s : Same G H) (k : ∀ v G2 H2, Gr G H G2 H2 → P G2 v → D.nx (σ.set i (some v)) H2) : tAsg te (gName i) D σ H := h H s _ k
theorem s_ret (h : Ev te σ G P) (s : Same G H) (k : ∀ v G2 H2, Gr G H G2 H2 → P G2 v → D.rt v H2) : tRet te D σ H := h H s _ k
theorem s_drop (h : Ev te σ G P) (s : Same G H) (k : ∀ G2 H2, Gr G H G2 H2 → D.nx σ H2) : tDrop te D σ H := h H s _ fun _ G2 H2 g _ => k G2 H2 g
theorem s_if {b : Bool} (h : EvT t σ G b) (s : Same G H) (h1 : b = true → ∀ G2 H2, Gr G H G2 H2 → tu D σ H2) (h2 : b = false → ∀ G2 H2, Gr G H G2 H2 → tw D σ H2) : tIfS t tu tw D σ H := h H s _ fun G2 H2 g => by
  cases b with
  | true => exact h1 rfl G2 H2 g
  | false => exact h2 rfl G2 H2 g
theorem s_for {α : Type} {p : α → Pr} [mp : ∀ x, Mo (p x)] {l : List α} {j : Nat} (Iv : Nat → L2.St → Hp → Hp → Prop) (hl : Ev tl σ G (Ls p l)) (s : Same G H) (h0 : ∀ G1 H1, Gr G H G1 H1 → Iv 0 σ G1 H1)
    (turn : ∀ G1 H1 (i : Nat) x v σ' Gi Hi, Gr G H G1 H1 → l[i]? = some x → Same G1 Gi → Same Gi Hi → p x Gi v → Iv i σ' Gi Hi →
      tu { D with nx := fun σ2 H2 => ∃ G2, Same G1 G2 ∧ Same G2 H2 ∧ Iv (i + 1) σ2 G2 H2, ct := fun σ2 H2 => ∃ G2, Same G1 G2 ∧ Same G2 H2 ∧ Iv (i + 1) σ2 G2 H2, bk := D.nx } (σ'.set j (some v)) Hi)
    (done : ∀ G1 H1 σ' Gi Hi, Gr G H G1 H1 → Same G1 Gi → Same Gi Hi → Iv l.length σ' Gi Hi → D.nx σ' Hi) : tFor (iList K tl) (gName j) tu D σ H :=
  hl H s _ fun v G1 H1 g1 ⟨a, xs, e, h1, al⟩ => ⟨a, e, ⟨xs, SqL.of (g1.gh a _ h1)⟩, for_list (xs := xs) (fun i σ' Hi => ∃ Gi, Same G1 Gi ∧ Same Gi Hi ∧ Iv i σ' Gi Hi) ⟨G1, same_refl _, g1.gh, h0 G1 H1 g1⟩
    (fun i σ' Hi _ ⟨Gi, s1, s2, _⟩ => SqL.of (s2 a _ (s1 a _ h1)))
    (fun i x σ' Hi hx ⟨Gi, s1, s2, iv⟩ => by
      obtain ⟨z, hz, pz⟩ := al.tell hx
      exact turn G1 H1 i z x σ' Gi Hi g1 hz s1 s2 ((mp z).up s1 pz) iv)
    (fun σ' Hi ⟨Gi, s1, s2, iv⟩ => done G1 H1 σ' Gi Hi g1 s1 s2 (by rw [al.length] at iv; exact iv))⟩
theorem s_forR {j : Nat} {n : Int} (Iv : Nat → L2.St → Hp → Hp → Prop) (hl : Ev tl σ G (PI n)) (hn : -1000000 ≤ n ∧ n ≤ 1000000) (s : Same G H) (h0 : ∀ G1 H1, Gr G H G1 H1 → Iv 0 σ G1 H1)
    (turn : ∀ G1 H1 (i : Nat) σ' Gi Hi, Gr G H G1 H1 → (i : Int) < n → Same G1 Gi → Same Gi Hi → Iv i σ' Gi Hi →
      tu { D with nx := fun σ2 H2 => ∃ G2, Same G1 G2 ∧ Same G2 H2 ∧ Iv (i + 1) σ2 G2 H2, ct := fun σ2 H2 => ∃ G2, Same G1 G2 ∧ Same G2 H2 ∧ Iv (i + 1) σ2 G2 H2, bk := D.nx } (σ'.set j (some (.int i))) Hi)
    (done : ∀ G1 H1 σ' Gi Hi, Gr G H G1 H1 → Same G1 Gi → Same Gi Hi → Iv n.toNat σ' Gi Hi → D.nx σ' Hi) : tFor (iRng1 (tCons tl tNil)) (gName j) tu D σ H := by
    unfold tFor iRng1
    refine a_one hl H s _ fun ws G1 H1 g1 al => ?_
    match ws, al with
    | [w], ⟨e2, _⟩ =>
      obtain rfl : w = .int n := e2
      refine ⟨n, rfl, by omega, by omega, for_range (n := n.toNat) (fun i σ' Hi => ∃ Gi, Same G1 Gi ∧ Same Gi Hi ∧ Iv i σ' Gi Hi) ⟨G1, same_refl _, g1.gh, h0 G1 H1 g1⟩ (fun i σ' Hi hi iv => ?_) (fun σ' Hi ⟨Gi, s1, s2, iv⟩ => done G1 H1 σ' Gi Hi g1 s1 s2 iv)⟩
      obtain ⟨Gi, s1, s2, iv⟩ := iv
      have e0 : (0 : Int) + (i : Int) = (i : Int) := Int.zero_add _
      show tu _ (σ'.set j (some (.int ((0 : Int) + (i : Int))))) Hi
      rw [e0]
      exact turn G1 H1 i σ' Gi Hi g1 (by omega) s1 s2 iv
/-- for i, x in enumerate(row) -/
theorem s_forE {K' : PySem.W.Frag} {j k : Nat} {r : List Int} (Iv : Nat → L2.St → Hp → Hp → Prop) (hl : Ev tl σ G (Row r)) (s : Same G H) (h0 : ∀ G1 H1, Gr G H G1 H1 → Iv 0 σ G1 H1)
    (turn : ∀ G1 H1 (i : Nat) x σ' Gi Hi T, Gr G H G1 H1 → r[i]? = some x → Same G1 Gi → Same Gi Hi → Iv i σ' Gi Hi → Hi T = none →
      tu { D with nx := fun σ2 H2 => ∃ G2, Same G1 G2 ∧ Same G2 H2 ∧ Iv (i + 1) σ2 G2 H2, ct := fun σ2 H2 => ∃ G2, Same G1 G2 ∧ Same G2 H2 ∧ Iv (i + 1) σ2 G2 H2, bk := D.nx } ((σ'.set j (some (.int i))).set k (some (.int x))) (upd Hi T (.tup [.int i, .int x])))
    (done : ∀ G1 H1 σ' Gi Hi, Gr G H G1 H1 → Same G1 Gi → Same Gi Hi → Iv r.length σ' Gi Hi → D.nx σ' Hi) : tFor (iEnum K (tCons tl tNil)) (gTup K' 2 (gCons (gName j) (gCons (gName k) gNil))) tu D σ H := by
    unfold tFor iEnum
    refine a_one hl H s _ fun ws G1 H1 g1 al => ?_
    match ws, al with
    | [w], ⟨e2, _⟩ =>
      obtain ⟨a, rfl, ha⟩ := row_at e2
      refine ⟨a, _, rfl, SqL.of (g1.gh a _ ha), for_it (walk_enum (xs := r.map V.int)) (fun i σ' Hi => ∃ Gi, Same G1 Gi ∧ Same Gi Hi ∧ Iv i σ' Gi Hi) ⟨G1, same_refl _, g1.gh, h0 G1 H1 g1⟩
        (fun i σ' Hi _ ⟨Gi, s1, s2, _⟩ => SqL.of (s2 a _ (s1 a _ ha))) (fun i x σ' Hi H' hi iv y => ?_) (fun σ' Hi ⟨Gi, s1, s2, iv⟩ => done G1 H1 σ' Gi Hi g1 s1 s2 (by rw [List.length_map] at iv; exact iv))⟩
      obtain ⟨Gi, s1, s2, iv⟩ := iv
      obtain ⟨T, x1, y1, rfl, hT, rfl, hx, hy⟩ := y
      cases hx
      replace hy : (r.map V.int)[i]? = some y1 := hy
      rw [List.getElem?_map] at hy
      cases ey : r[i]? with
      | none =>
        rw [ey] at hy
        cases hy
      | some y2 =>
        rw [ey] at hy
        cases hy
        exact ⟨T, _, rfl, SqT.of upd_same, rfl, _, _, rfl, _, _, rfl, rfl, turn G1 H1 i y2 σ' Gi Hi T g1 ey s1 s2 iv hT⟩
theorem s_while (Iv : Nat → L2.St → Hp → Hp → Prop) (m0 : Nat) (s : Same G H) (h0 : Iv m0 σ G H)
    (turn : ∀ m σ' Gi Hi, Same Gi Hi → Iv m σ' Gi Hi → ∃ b, EvT t σ' Gi b ∧
      (b = true → ∀ G2 H2, Gr Gi Hi G2 H2 → tu { D with nx := fun σ2 H2 => ∃ m' G2, m' < m ∧ Same G2 H2 ∧ Iv m' σ2 G2 H2, ct := fun σ2 H2 => ∃ m' G2, m' < m ∧ Same G2 H2 ∧ Iv m' σ2 G2 H2, bk := D.nx } σ' H2) ∧
      (b = false → ∀ G2 H2, Gr Gi Hi G2 H2 → D.nx σ' H2)) : tWhile t tu D σ H :=
  ⟨fun m σ' Hi => ∃ Gi, Same Gi Hi ∧ Iv m σ' Gi Hi, ⟨m0, G, s, h0⟩, fun m σ' Hi ⟨Gi, s1, iv⟩ => by
    obtain ⟨b, hb, h1, h2⟩ := turn m σ' Gi Hi s1 iv
    refine hb Hi s1 _ fun G2 H2 g => ?_
    cases b with
    | true => exact ⟨_, fun σ2 H3 ⟨m', G3, hm, s3, iv3⟩ => ⟨m', hm, G3, s3, iv3⟩, h1 rfl G2 H2 g⟩
    | false => exact h2 rfl G2 H2 g⟩
/-- l.append(e), l owned -/
theorem s_app {L : Addr} {acc : List V} {i : Nat} (hs : σ[i]? = some (some (.ref L))) (hL : H L = some (.lst acc)) (hz : acc.length < 1000000) (h : Ev te σ G P) (s : Same G H) (k : ∀ v G2 H2, Gr G H G2 H2 → P G2 v → D.nx σ (upd H2 L (.lst (acc ++ [v])))) :
    tDrop (tBM K "list" rAppend (tVar i) (tCons te tNil)) D σ H :=
  ⟨_, hs, Or.inl ⟨rfl, acc, SqL.of hL⟩, h H s _ fun v G2 H2 g p => ⟨L, acc, v, rfl, rfl, g.hh L _ hL, Nat.lt_of_lt_of_le hz (by decide), k v G2 H2 g p⟩⟩
/-- l.extend(row), l owned -/
theorem s_ext {α : Type} {p : α → Pr} {l : List α} {L : Addr} {acc : List V} {i : Nat} (hs : σ[i]? = some (some (.ref L))) (hL : H L = some (.lst acc)) (hz : acc.length + l.length ≤ 1000000) (h : Ev te σ G (Ls p l)) (s : Same G H)
    (k : ∀ xs G2 H2, Gr G H G2 H2 → Al (fun x v => p x G2 v) l xs → D.nx σ (upd H2 L (.lst (acc ++ xs)))) : tDrop (tBM K "list" rExtend (tVar i) (tCons te tNil)) D σ H :=
  ⟨_, hs, Or.inl ⟨rfl, acc, SqL.of hL⟩, h H s _ fun v G2 H2 g ⟨b, xs, e, h1, al⟩ => ⟨L, b, acc, xs, rfl, by rw [e], g.hh L _ hL, g.gh b _ h1, by rw [al.length]; exact Nat.le_trans hz (by decide), k xs G2 H2 g al⟩⟩
/-! the same with something behind -/
theorem q_asg {i : Nat} (h : Ev te σ G P) (s : Same G H) (k : ∀ v G2 H2, Gr G H G2 H2 → P G2 v → tz D (σ.set i (some v)) H2) : tSeq (tAsg te (gName i)) tz D σ H := s_asg (D := { D with nx := tz D }) h s k
theorem q_drop (h : Ev te σ G P) (s : Same G H) (k : ∀ G2 H2, Gr G H G2 H2 → tz D σ H2) : tSeq (tDrop te) tz D σ H := s_drop (D := { D with nx := tz D }) h s k
theorem q_if {b : Bool} (h : EvT t σ G b) (s : Same G H) (h1 : b = true → ∀ G2 H2, Gr G H G2 H2 → tu { D with nx := tz D } σ H2) (h2 : b = false → ∀ G2 H2, Gr G H G2 H2 → tw { D with nx := tz D } σ H2) : tSeq (tIfS t tu tw) tz D σ H := s_if (D := { D with nx := tz D }) h s h1 h2
theorem q_for {α : Type} {p : α → Pr} [mp : ∀ x, Mo (p x)] {l : List α} {j : Nat} (Iv : Nat → L2.St → Hp → Hp → Prop) (hl : Ev tl σ G (Ls p l)) (s : Same G H) (h0 : ∀ G1 H1, Gr G H G1 H1 → Iv 0 σ G1 H1)
    (turn : ∀ G1 H1 (i : Nat) x v σ' Gi Hi, Gr G H G1 H1 → l[i]? = some x → Same G1 Gi → Same Gi Hi → p x Gi v → Iv i σ' Gi Hi →
      tu { D with nx := fun σ2 H2 => ∃ G2, Same G1 G2 ∧ Same G2 H2 ∧ Iv (i + 1) σ2 G2 H2, ct := fun σ2 H2 => ∃ G2, Same G1 G2 ∧ Same G2 H2 ∧ Iv (i + 1) σ2 G2 H2, bk := tz D } (σ'.set j (some v)) Hi)
    (done : ∀ G1 H1 σ' Gi Hi, Gr G H G1 H1 → Same G1 Gi → Same Gi Hi → Iv l.length σ' Gi Hi → tz D σ' Hi) : tSeq (tFor (iList K tl) (gName j) tu) tz D σ H := s_for (D := { D with nx := tz D }) Iv hl s h0 turn done
theorem q_forR {j : Nat} {n : Int} (Iv : Nat → L2.St → Hp → Hp → Prop) (hl : Ev tl σ G (PI n)) (hn : -1000000 ≤ n ∧ n ≤ 1000000) (s : Same G H) (h0 : ∀ G1 H1, Gr G H G1 H1 → Iv 0 σ G1 H1)
    (turn : ∀ G1 H1 (i : Nat) σ' Gi Hi, Gr G H G1 H1 → (i : Int) < n → Same G1 Gi → Same Gi Hi → Iv i σ' Gi Hi →
      tu { D with nx := fun σ2 H2 => ∃ G2, Same G1 G2 ∧ Same G2 H2 ∧ Iv (i + 1) σ2 G2 H2, ct := fun σ2 H2 => ∃ G2, Same G1 G2 ∧ Same G2 H2 ∧ Iv (i + 1) σ2 G2 H2, bk := tz D } (σ'.set j (some (.int i))) Hi)
    (done : ∀ G1 H1 σ' Gi Hi, Gr G H G1 H1 → Same G1 Gi → Same Gi Hi → Iv n.toNat σ' Gi Hi → tz D σ' Hi) : tSeq (tFor (iRng1 (tCons tl tNil)) (gName j) tu) tz D σ H := s_forR (D := { D with nx := tz D }) Iv hl hn s h0 turn done
theorem q_forE {K' : PySem.W.Frag} {j k : Nat} {r : List Int} (Iv : Nat → L2.St → Hp → Hp → Prop) (hl : Ev tl σ G (Row r)) (s : Same G H) (h0 : ∀ G1 H1, Gr G H G1 H1 → Iv 0 σ G1 H1)
    (turn : ∀ G1 H1 (i : Nat) x σ' Gi Hi T, Gr G H G1 H1 → r[i]? = some x → Same G1 Gi → Same Gi Hi → Iv i σ' Gi Hi → Hi T = none →
      tu { D with nx := fun σ2 H2 => ∃ G2, Same G1 G2 ∧ Same G2 H2 ∧ Iv (i + 1) σ2 G2 H2, ct := fun σ2 H2 => ∃ G2, Same G1 G2 ∧ Same G2 H2 ∧ Iv (i + 1) σ2 G2 H2, bk := tz D } ((σ'.set j (some (.int i))).set k (some (.int x))) (upd Hi T (.tup [.int i, .int x])))
    (done : ∀ G1 H1 σ' Gi Hi, Gr G H G1 H1 → Same G1 Gi → Same Gi Hi → Iv r.length σ' Gi Hi → tz D σ' Hi) : tSeq (tFor (iEnum K (tCons tl tNil)) (gTup K' 2 (gCons (gName j) (gCons (gName k) gNil))) tu) tz D σ H := s_forE (D := { D with nx := tz D }) Iv hl s h0 turn done
theorem q_while (Iv : Nat → L2.St → Hp → Hp → Prop) (m0 : Nat) (s : Same G H) (h0 : Iv m0 σ G H)
    (turn : ∀ m σ' Gi Hi, Same Gi Hi → Iv m σ' Gi Hi → ∃ b, EvT t σ' Gi b ∧
      (b = true → ∀ G2 H2, Gr Gi Hi G2 H2 → tu { D with nx := fun σ2 H2 => ∃ m' G2, m' < m ∧ Same G2 H2 ∧ Iv m' σ2 G2 H2, ct := fun σ2 H2 => ∃ m' G2, m' < m ∧ Same G2 H2 ∧ Iv m' σ2 G2 H2, bk := tz D } σ' H2) ∧
      (b = false → ∀ G2 H2, Gr Gi Hi G2 H2 → tz D σ' H2)) : tSeq (tWhile t tu) tz D σ H := s_while (D := { D with nx := tz D }) Iv m0 s h0 turn
theorem q_app {L : Addr} {acc : List V} {i : Nat} (hs : σ[i]? = some (some (.ref L))) (hL : H L = some (.lst acc)) (hz : acc.length < 1000000) (h : Ev te σ G P) (s : Same G H) (k : ∀ v G2 H2, Gr G H G2 H2 → P G2 v → tz D σ (upd H2 L (.lst (acc ++ [v])))) : tSeq (tDrop (tBM K "list" rAppend (tVar i) (tCons te tNil))) tz D σ H := s_app (D := { D with nx := tz D }) hs hL hz h s k
theorem q_ext {α : Type} {p : α → Pr} {l : List α} {L : Addr} {acc : List V} {i : Nat} (hs : σ[i]? = some (some (.ref L))) (hL : H L = some (.lst acc)) (hz : acc.length + l.length ≤ 1000000) (h : Ev te σ G (Ls p l)) (s : Same G H)
    (k : ∀ xs G2 H2, Gr G H G2 H2 → Al (fun x v => p x G2 v) l xs → tz D σ (upd H2 L (.lst (acc ++ xs)))) : tSeq (tDrop (tBM K "list" rExtend (tVar i) (tCons te tNil))) tz D σ H := s_ext (D := { D with nx := tz D }) hs hL hz h s k
end
end Qa
set_option Elab.async false
set_option linter.all false
set_option maxRecDepth 100000
set_option maxHeartbeats 2000000
/-! A def of the program by its name, for its callers. -/
namespace Qa
open PySem PySem.Spec PyProof.Rows L2

/-- the def called x keeps the promise sp where k rooms are left -/
def Dfn (P : Program) (w : World) (K : PySem.W.Frag) (mg : Str → Option Value) (base : Heap) (CX : CXT) (k : Nat) (x : Str) (ps : List Str) (sp : Sp) : Prop :=
  ∃ f fd, FnOk P w K mg base CX k f fd ps sp ∧ mg x = some (.ref f) ∧ PySem.W.keepIn K (.ref f) = true ∧ Binds K fd ps []
section
variable {X : Cx} {k : Nat} {x : Str} {ps : List Str} {sp : Sp} {e : Expr} {es : List Expr} {t : TA} {p pos : Pos}
theorem pe_def (D : Dfn X.prog X.w X.K X.mg X.base CX0 k x ps sp) (hr : Room k X.A) (ha : PA X (e :: es) t) (hg : Gl X x := by rfl) (hdb : (x == ("__debug__" : Str)) = false := by decide) (he : starEach (e :: es) X.env = (false, eval e X.env) :: starEach es X.env := by rfl)
    (hpl : (backTo pos (starEach es X.env)).any (·.1) = false := by rfl) : PE X (.Call (.Name x p) (e :: es) [] pos) (tCall sp [] E0 t) := by
  obtain ⟨f, fd, F, m, kp, b⟩ := D
  exact pe_call F hr hg m kp b .nil pass0 ha hdb he hpl
theorem rm_of {P : Program} {w : World} {K : PySem.W.Frag} {mg : Str → Option Value} {base : Heap} {N ps : List Str} {qual : Str} {scope : Scope} {f : Addr} {cd : Value} {A : Around} {outer : List Env} {s : Shared} {H : Hp} {E : XK} {CX : CXT} {k : Nat}
    (hS : base.NoSeer) (hT : P.given.tree = none) (S : FnScope N ps scope) (hr : Room k (A.deeper (envOfC qual scope s.heap.objs.size f cd))) (hk : 35 ≤ k) : PyRm (cxOf CX P w K mg base N qual scope f cd A outer s H E) :=
  ⟨hS, hT, by have := hr.dp; show (A.deeper (envOfC qual scope s.heap.objs.size f cd)).depth + 100 < _; omega, _, _, rfl, S.gen, S.co, rfl, rfl⟩
end
/-- how the def stands -/
structure At (K : PySem.W.Frag) (mg : Str → Option Value) (x : Str) (st : Stmt) (ps : List Str) (f : Addr) (fd : FuncData) : Prop where
  fn : Fun K x x st f fd
  mg : mg x = some (.ref f)
  b : Binds K fd ps []
theorem At.dfn {P : Program} {w : World} {K : PySem.W.Frag} {mg : Str → Option Value} {base : Heap} {CX : CXT} {k : Nat} {x : Str} {st : Stmt} {ps : List Str} {f : Addr} {fd : FuncData} {sp : Sp} (A : At K mg x st ps f fd) (F : FnOk P w K mg base CX k f fd ps sp) :
    Dfn P w K mg base CX k x ps sp := ⟨f, fd, F, A.mg, A.fn.kp, A.b⟩
/-- the i-th statement of the program -/
def top (i : Nat) : Stmt := PySem.Challenge.pw_quietaids_s01_answers.main.body.getD i (.Pass ⟨0, 0, 0, 0⟩)
end Qa
set_option Elab.async false
set_option linter.all false
set_option maxRecDepth 100000
set_option maxHeartbeats 2000000
namespace Qa
open PySem PySem.Spec PyProof.Rows L2
/-- the built-in names that nobody has given another meaning -/
structure Txt (mg : Str → Option Value) : Prop where
  len : mg "len" = none
  abs : mg "abs" = none
  max : mg "max" = none
  min : mg "min" = none
  sum : mg "sum" = none
  any : mg "any" = none
  range : mg "range" = none
  zip : mg "zip" = none
  enumerate : mg "enumerate" = none

theorem fmod_lt {a b : Int} (h : b ≠ 0) : (a.fmod b).natAbs < b.natAbs := by
  rw [Int.fmod_eq_emod]
  have h1 := Int.emod_nonneg a h
  have h2 : a % b < (b.natAbs : Int) := Int.emod_lt a h
  split
  · omega
  · rename_i z
    have h3 : a % b ≠ 0 := fun e => z (.inr (Int.dvd_of_emod_eq_zero e))
    omega
theorem gcd_fmod (a b : Int) : Int.gcd b (a.fmod b) = Int.gcd a b := by
  have e : a.fmod b = a - b * a.fdiv b := by
    have := Int.mul_fdiv_add_fmod a b
    omega
  rw [e, Int.gcd_comm a b]
  have : a - b * a.fdiv b = a + b * (- a.fdiv b) := by
    rw [Int.mul_neg]
    omega
  rw [this, Int.gcd_add_mul_left_right]
section
variable {P : Program} {w : World} {K : PySem.W.Frag} {mg : Str → Option Value} {base : Heap} {f : Addr} {fd : FuncData}
abbrev st_common_of_two : Stmt := top 1
theorem sc_common_of_two : FnScope ["one", "other", "rest"] ["one", "other"] (defScope st_common_of_two) := ⟨rfl, rfl, rfl, by decide +kernel, rfl, by decide +kernel, by decide +kernel⟩
def sp_common_of_two : Sp := spP (fun (x : Int × Int) => [PI x.1, PI x.2]) (fun _ => True) (fun x => PI (Int.gcd x.1 x.2))
theorem ok_common_of_two (A : At K mg "common_of_two" st_common_of_two ["one", "other"] f fd) (T : Txt mg) : FnOk P w K mg base CX0 41 f fd ["one", "other"] sp_common_of_two := by
  refine A.fn.ok sc_common_of_two (sp_len fun _ => rfl) (fun cdv Ar outer s H vs Q E hr h => ⟨_,
    (pss_cons (ps_while PassesOwn.never (pt_cmpR op_ne (pv 1) pe_int (nomark _))
   (pss_cons (ps_set (i := 2) sc_common_of_two.nd rfl (Or.inl rfl) (pe_op op_modN (pv 0) (pv 1)))
  (pss_cons (ps_set (i := 0) sc_common_of_two.nd rfl (Or.inl rfl) (pv 1))
  (pss_one (ps_set (i := 1) sc_common_of_two.nd rfl (Or.inl rfl) (pv 2))))))
  (pss_one (ps_ret (pe_callB call_abs (by rfl) T.abs (by decide +kernel) (pa_cons (pv 0) pa_nil))))), ?_⟩)
  obtain ⟨⟨one, other⟩, G, sG, al, _, k⟩ := h
  match vs, al with
  | [_, _], ⟨rfl, rfl, _⟩ =>
    refine (q_while (fun m σ Gi Hi => ∃ (a b : Int) (r : Option V), σ = [some (.int a), some (.int b), r] ∧ Int.gcd a b = Int.gcd one other ∧ m = b.natAbs ∧ Gr G H Gi Hi) other.natAbs sG ⟨one, other, none, rfl, rfl, rfl, .refl sG⟩ ?_)
    rintro m σ' Gi Hi si ⟨a, b, r, rfl, hg, rfl, g⟩
    refine ⟨_, t_test (e_ne (e_var rfl rfl) e_int), fun hb G2 H2 g2 => ?_, fun hb G2 H2 g2 => ?_⟩
    · have hb0 : b ≠ 0 := by simpa using hb
      refine (q_asg (e_mod (e_var rfl rfl) (e_var rfl rfl) hb0) g2.gh fun v G3 H3 g3 p3 => ?_)
      obtain rfl := p3
      refine (q_asg (P := PI b) (e_var rfl rfl) g3.gh fun v4 G4 H4 g4 p4 => ?_)
      obtain rfl := p4
      refine s_asg (P := PI (a.fmod b)) (e_var rfl rfl) g4.gh fun v5 G5 H5 g5 p5 => ?_
      obtain rfl := p5
      exact ⟨_, G5, fmod_lt hb0, g5.gh, b, a.fmod b, _, rfl, (gcd_fmod a b).trans hg, rfl, (((g.trans g2).trans g3).trans g4).trans g5⟩
    · have hb0 : b = 0 := by simpa using hb
      subst hb0
      refine s_ret (e_abs (e_var rfl rfl)) g2.gh fun v G3 H3 g3 p3 => k v G3 H3 ((g.trans g2).trans g3) ?_
      show PI (Int.gcd one other : Int) G3 v
      rw [← hg, Int.gcd_zero]
      exact p3
abbrev st_scaled : Stmt := top 3
theorem sc_scaled : FnScope ["row", "factor", "number"] ["row", "factor"] (defScope st_scaled) := ⟨rfl, rfl, rfl, by decide +kernel, rfl, by decide +kernel, by decide +kernel⟩
def sp_scaled : Sp := spP (fun (x : List Int × Int) => [Row x.1, PI x.2]) (fun x => x.1.length ≤ 1000 ∧ ∀ y ∈ x.1, CMulB x.2 y) (fun x => Row (x.1.map (x.2 * ·)))
theorem ok_scaled (A : At K mg "scaled" st_scaled ["row", "factor"] f fd) : FnOk P w K mg base CX0 41 f fd ["row", "factor"] sp_scaled := by
  refine A.fn.ok sc_scaled (sp_len fun _ => rfl) (fun cdv Ar outer s H vs Q E hr h => ⟨_,
    (pss_one (ps_ret (pe_lc (own := [("number", 2)]) rfl sc_scaled.nd (pi_list (pv 0)) (blkOk_by (N := ["row", "factor", "number"]) (sc := defScope st_scaled) (by decide +kernel)) (fun _ _ _ _ _ => (pg_name (i := 2) sc_scaled.nd rfl (Or.inl rfl))) (fun _ _ _ _ _ => pts_nil) (fun _ _ _ _ _ => (pe_op op_mulB (pv 1) (pv 2)))))), ?_⟩)
  obtain ⟨⟨row, factor⟩, G, sG, al, ⟨hz, hm⟩, k⟩ := h
  match vs, al with
  | [_, _], ⟨p1, rfl, _⟩ =>
    refine s_ret (e_lc (factor * ·) (e_var rfl p1) (by omega) (fun _ => rfl) fun i x v G' hx _ pv => ?_) sG k
    exact e_mul (e_var rfl rfl) (e_var rfl pv) (hm x (List.mem_of_getElem? hx))
abbrev st_divided : Stmt := top 4
theorem sc_divided : FnScope ["row", "divisor", "number"] ["row", "divisor"] (defScope st_divided) := ⟨rfl, rfl, rfl, by decide +kernel, rfl, by decide +kernel, by decide +kernel⟩
def sp_divided : Sp := spP (fun (x : List Int × Int) => [Row x.1, PI x.2]) (fun x => x.1.length ≤ 1000 ∧ (x.1 ≠ [] → x.2 ≠ 0)) (fun x => Row (x.1.map (·.fdiv x.2)))
theorem ok_divided (A : At K mg "divided" st_divided ["row", "divisor"] f fd) (hS : base.NoSeer) (hT : P.given.tree = none) : FnOk P w K mg base CX0 41 f fd ["row", "divisor"] sp_divided := by
  refine A.fn.ok sc_divided (sp_len fun _ => rfl) (fun cdv Ar outer s H vs Q E hr h => ⟨_,
    (have hp := rm_of (K := K) (mg := mg) (w := w) (CX := CX0) (outer := outer) (H := H) (E := E) hS hT sc_divided hr (by decide)
     (pss_one (ps_ret (pe_lc (own := [("number", 2)]) rfl sc_divided.nd (pi_list (pv 0)) (blkOk_by (N := ["row", "divisor", "number"]) (sc := defScope st_divided) (by decide +kernel)) (fun _ _ _ _ _ => (pg_name (i := 2) sc_divided.nd rfl (Or.inl rfl))) (fun _ _ _ _ _ => pts_nil) (fun _ _ _ _ _ => (pe_op (op_div ⟨hp.seer, hp.tree, hp.deep, hp.top⟩) (pv 2) (pv 1))))))), ?_⟩)
  obtain ⟨⟨row, divisor⟩, G, sG, al, ⟨hz, hm⟩, k⟩ := h
  match vs, al with
  | [_, _], ⟨p1, rfl, _⟩ =>
    refine s_ret (e_lc (·.fdiv divisor) (e_var rfl p1) (by omega) (fun _ => rfl) fun i x v G' hx _ pv => ?_) sG k
    exact e_div (e_var rfl pv) (e_var rfl rfl) (hm (List.ne_nil_of_mem (List.mem_of_getElem? hx)))
end
end Qa
set_option Elab.async false
set_option linter.all false
set_option maxRecDepth 100000
set_option maxHeartbeats 2000000
namespace Qa
open PySem PySem.Spec PyProof.Rows L2 Qm
open Vbhlae (at_ trim common plain chain plus times)
theorem log_lt {x : Int} {a : Nat} (h : x.natAbs < 2 ^ a) : x.natAbs.log2 ≤ a := by
  by_cases h0 : x.natAbs = 0
  · rw [h0]
    simp
  · exact Nat.le_of_lt ((Nat.log2_lt h0).mpr h)
theorem mulB {i j : Int} {a b : Nat} (h1 : i.natAbs < 2 ^ a) (h2 : j.natAbs < 2 ^ b) (h : a + b < 100000000) : CMulB i j := by
  have := log_lt h1
  have := log_lt h2
  unfold CMulB
  omega
theorem row_get {r : List Int} {i : Nat} (h : i < r.length) : atI r (i : Int) = some (at_ r i) := atI_nat' (get_at h)
section
variable {te ta tb tl : TE} {t u tt : TT} {σ : L2.St} {G H G' : Hp} {P P' R : Pr} {Ps : List Pr} {K : PySem.W.Frag} {D : Ends} {tu tw tz : TS}
theorem e_any {r : List Int} (ha : Ev ta σ G (Row r)) : Ev (tCB (rAnyI K) (tCons ta tNil)) σ G (PB (r.any fun n => n != 0)) := fun H s _ k =>
  a_one ha H s _ fun vs G2 H2 g al => by
    match vs, al with
    | [v], ⟨h, _⟩ =>
      obtain ⟨a, rfl, h1⟩ := row_at h
      exact ⟨a, r, rfl, SqL.of (g.gh a _ h1), k _ G2 H2 g rfl⟩
/-- l[j] += e, l owned -/
theorem s_augL {L : Addr} {acc : List Int} {i j : Nat} {x : Int} (hs : σ[i]? = some (some (.ref L))) (hL : H L = some (.lst (acc.map V.int))) (hj : j < acc.length) (h1 : Ev tb σ G (PI (j : Nat))) (h : Ev te σ G (PI x)) (s : Same G H)
    (k : ∀ G2 H2, Gr G H G2 H2 → D.nx σ (upd H2 L (.lst ((acc.set j (at_ acc j + x)).map V.int)))) : tAugS (tVar i) tb te (rGetN K) (ipI fun i j => i + j) rSetL D σ H :=
  ⟨_, hs, h1 H s _ fun v G2 H2 g p => by
    obtain rfl : v = .int (j : Nat) := p
    refine ⟨L, _, j, .int (at_ acc j), rfl, rfl, SqL.of (g.hh L _ hL), by rw [List.getElem?_map, get_at hj]; rfl, (h.mono g.gg) H2 g.gh _ fun w G3 H3 g3 p3 => ?_⟩
    obtain rfl : w = .int x := p3
    refine ⟨_, _, rfl, rfl, L, _, (j : Int), j, rfl, rfl, g3.hh L _ (g.hh L _ hL), ?_, ?_⟩
    · unfold ixN
      rw [List.length_map, if_pos (by omega), if_pos (by omega)]
      simp
    · have q := k G3 H3 (g.trans g3)
      rw [List.map_set] at q
      exact q⟩
theorem s_augI {i : Nat} {a b : Int} {f : Int → Int → Int} (hs : σ[i]? = some (some (.int a))) (h : Ev te σ G (PI b)) (s : Same G H) (k : ∀ G2 H2, Gr G H G2 H2 → D.nx (σ.set i (some (.int (f a b)))) H2) : tAug i te (ipI f) D σ H :=
  ⟨_, hs, h H s _ fun v G2 H2 g p => ⟨a, b, rfl, p, k G2 H2 g⟩⟩
end
section
variable {P : Program} {w : World} {K : PySem.W.Frag} {mg : Str → Option Value} {base : Heap} {f : Addr} {fd : FuncData}
abbrev st_common_divisor : Stmt := top 2
theorem sc_common_divisor : FnScope ["row", "found", "number"] ["row"] (defScope st_common_divisor) := ⟨rfl, rfl, rfl, by decide +kernel, rfl, by decide +kernel, by decide +kernel⟩
def sp_common_divisor : Sp := spP (fun (x : List Int) => [Row x]) (fun _ => True) (fun x => PI (common x : Int))
theorem ok_common_divisor (A : At K mg "common_divisor" st_common_divisor ["row"] f fd) (D_common_of_two : Dfn P w K mg base CX0 41 "common_of_two" ["one", "other"] sp_common_of_two) : FnOk P w K mg base CX0 42 f fd ["row"] sp_common_divisor := by
  refine A.fn.ok sc_common_divisor (sp_len fun _ => rfl) (fun cdv Ar outer s H vs Q E hr h => ⟨_,
    (pss_cons (ps_set (i := 1) sc_common_divisor.nd rfl (Or.inl rfl) pe_int)
  (pss_cons (ps_for PassesOwn.never rfl (pi_list (pv 0)) (pg_name (i := 2) sc_common_divisor.nd rfl (Or.inl rfl))
   (pss_one (ps_set (i := 1) sc_common_divisor.nd rfl (Or.inl rfl) (pe_def D_common_of_two (hr.mono (by decide)) (pa_cons (pv 2) (pa_cons (pv 1) pa_nil))))))
  (pss_one (ps_ret (pv 1))))), ?_⟩)
  obtain ⟨row, G, sG, al, _, k⟩ := h
  match vs, al with
  | [v1], ⟨p1, _⟩ =>
    refine (q_asg e_int sG fun v G1 H1 g1 p => ?_)
    obtain rfl := p
    refine (q_for (fun i σ Gi Hi => ∃ (r : Option V), σ = [some v1, some (.int (common (row.take i) : Nat)), r] ∧ Gr G H Gi Hi) (e_var (P := Row row) rfl (Mo.up g1.gg p1)) g1.gh (fun G2 H2 g2 => ⟨none, rfl, g1.trans g2⟩) ?_ ?_)
    · rintro G2 H2 i x v σ' Gi Hi g2 hx s1 s2 px ⟨r, rfl, gi⟩
      obtain rfl : v = .int x := px
      refine s_asg (e_call (x, (common (row.take i) : Int)) (a_two (e_var rfl rfl) (e_var rfl rfl)) trivial) s2 fun v G3 H3 g3 p3 => ⟨G3, same_trans s1 g3.gg, g3.gh, some (.int x), ?_, gi.trans g3⟩
      obtain rfl : v = .int _ := p3
      show [some v1, some (V.int (Int.gcd x (common (row.take i) : Int) : Nat)), some (V.int x)] = _
      have e : Int.gcd x (common (row.take i) : Int) = common (row.take (i + 1)) := by
        rw [take_more hx, common_app]
        show Nat.gcd x.natAbs _ = Nat.gcd _ _
        rw [Nat.gcd_comm]
        rfl
      rw [e]
    · rintro G2 H2 σ' Gi Hi g2 s1 s2 ⟨r, rfl, gi⟩
      rw [List.take_length]
      exact s_ret (e_var rfl rfl) s2 fun v G3 H3 g3 p3 => k v G3 H3 (gi.trans g3) p3
abbrev st_padded : Stmt := top 5
theorem sc_padded : FnScope ["row", "size"] ["row", "size"] (defScope st_padded) := ⟨rfl, rfl, rfl, by decide +kernel, rfl, by decide +kernel, by decide +kernel⟩
def pad (r : List Int) (n : Int) : List Int := r ++ List.replicate (n - r.length).toNat 0
def sp_padded : Sp := spP (fun (x : List Int × Int) => [Row x.1, PI x.2]) (fun x => x.1.length ≤ 1000 ∧ -1000 ≤ x.2 ∧ x.2 ≤ 2000) (fun x => Row (pad x.1 x.2))
theorem ok_padded (A : At K mg "padded" st_padded ["row", "size"] f fd) (T : Txt mg) : FnOk P w K mg base CX0 41 f fd ["row", "size"] sp_padded := by
  refine A.fn.ok sc_padded (sp_len fun _ => rfl) (fun cdv Ar outer s H vs Q E hr h => ⟨_,
    (pss_one (ps_ret (pe_op op_cat (pv 0) (pe_op op_rep (pe_lst (pa_cons pe_int pa_nil)) (pe_op op_sub (pv 1) (pe_callB (len_K (K := K) rfl) (by rfl) T.len (by decide +kernel) (pa_cons (pv 0) pa_nil))))))), ?_⟩)
  obtain ⟨⟨row, size⟩, G, sG, al, ⟨hz, h1, h2⟩, k⟩ := h
  match vs, al with
  | [v1, _], ⟨p1, rfl, _⟩ =>
    dsimp only at hz h1 h2
    refine s_ret (e_cat (p := PI) (m := List.replicate (size - row.length).toNat 0) (e_var rfl p1) (e_rep (p := PI) (x := (0 : Int)) (e_lst1 (p := PI) e_int) (e_sub (e_var rfl rfl) (e_len (e_var rfl p1))) (by omega)) ?_) sG k
    rw [List.length_replicate]
    dsimp only
    omega
abbrev st_added : Stmt := top 6
theorem sc_added : FnScope ["one", "other", "size", "left", "right"] ["one", "other"] (defScope st_added) := ⟨rfl, rfl, rfl, by decide +kernel, rfl, by decide +kernel, by decide +kernel⟩
def sp_added : Sp := spP (fun (x : List Int × List Int) => [Row x.1, Row x.2]) (fun x => x.1.length ≤ 1000 ∧ x.2.length ≤ 1000) (fun x => Row (plus x.1 x.2))
theorem pad_at (r : List Int) (n : Int) (i : Nat) : at_ (pad r n) i = at_ r i := by
  unfold pad
  by_cases h : i < r.length
  · rw [at_app_l h]
  · rw [at_app_r (by omega), at_rep, at_out (by omega)]
theorem pad_len (r : List Int) (n : Nat) (h : r.length ≤ n) : (pad r n).length = n := by
  unfold pad
  rw [List.length_append, List.length_replicate]
  omega
theorem at_zip {g : Int → Int → Int} {a b : List Int} {i : Nat} (h1 : i < a.length) (h2 : i < b.length) : at_ (List.zipWith g a b) i = g (at_ a i) (at_ b i) := by
  apply at_get
  rw [List.getElem?_zipWith, get_at h1, get_at h2]
theorem added_eq (a b : List Int) : List.zipWith (fun x y => x + y) (pad a (max (a.length : Int) (b.length : Int))) (pad b (max (a.length : Int) (b.length : Int))) = plus a b := by
  have e : max (a.length : Int) (b.length : Int) = ((max a.length b.length : Nat) : Int) := by omega
  rw [e]
  have l1 := pad_len a (max a.length b.length) (by omega)
  have l2 := pad_len b (max a.length b.length) (by omega)
  have l3 : (plus a b).length = max a.length b.length := by simp [plus]
  refine row_ext (by rw [List.length_zipWith, l1, l2, l3]; omega) fun i hi => ?_
  rw [List.length_zipWith, l1, l2] at hi
  rw [at_zip (by omega) (by omega), pad_at, pad_at, at_plus]
theorem ok_added (A : At K mg "added" st_added ["one", "other"] f fd) (T : Txt mg) (D_padded : Dfn P w K mg base CX0 41 "padded" ["row", "size"] sp_padded) : FnOk P w K mg base CX0 42 f fd ["one", "other"] sp_added := by
  refine A.fn.ok sc_added (sp_len fun _ => rfl) (fun cdv Ar outer s H vs Q E hr h => ⟨_,
    (pss_cons (ps_set (i := 2) sc_added.nd rfl (Or.inl rfl) (pe_callB (call_max2 rfl) (by rfl) T.max (by decide +kernel) (pa_cons (pe_callB (len_K (K := K) rfl) (by rfl) T.len (by decide +kernel) (pa_cons (pv 0) pa_nil)) (pa_cons (pe_callB (len_K (K := K) rfl) (by rfl) T.len (by decide +kernel) (pa_cons (pv 1) pa_nil)) pa_nil))))
  (pss_one (ps_ret (pe_lc (g := gTup K 2 (gCons (gName 3) (gCons (gName 4) gNil))) (own := [("left", 3), ("right", 4)]) rfl sc_added.nd (pi_zip rfl T.zip (pa_cons (pe_def D_padded (hr.mono (by decide)) (pa_cons (pv 0) (pa_cons (pv 2) pa_nil))) (pa_cons (pe_def D_padded (hr.mono (by decide)) (pa_cons (pv 1) (pa_cons (pv 2) pa_nil))) pa_nil))) (blkOk_by (N := ["one", "other", "size", "left", "right"]) (sc := defScope st_added) (by decide +kernel)) (fun _ _ _ _ _ => (by exact (pg_tup rfl (pgs_cons (pg_name (i := 3) sc_added.nd rfl (Or.inl rfl)) (pgs_cons (pg_name (i := 4) sc_added.nd rfl (Or.inl rfl)) pgs_nil))))) (fun _ _ _ _ _ => pts_nil) (fun _ _ _ _ _ => (pe_op op_add (pv 3) (pv 4))))))), ?_⟩)
  obtain ⟨⟨one, other⟩, G, sG, al, ⟨h1, h2⟩, k⟩ := h
  match vs, al with
  | [v1, v2], ⟨p1, p2, _⟩ =>
    dsimp only at h1 h2
    refine (q_asg (e_max (e_len (p := PI) (e_var rfl p1)) (e_len (p := PI) (e_var rfl p2))) sG fun v G1 H1 g1 p => ?_)
    obtain rfl := p
    have b1 : (max (one.length : Int) (other.length : Int)) ≤ 1000 := by omega
    have b0 : 0 ≤ (max (one.length : Int) (other.length : Int)) := by omega
    refine s_ret (P := Row (List.zipWith (fun x y => x + y) (pad one (max (one.length : Int) (other.length : Int))) (pad other (max (one.length : Int) (other.length : Int))))) ?_ g1.gh fun v G2 H2 g2 p => ?_
    refine e_lcZ (q := PI) (r := pad one (max (one.length : Int) (other.length : Int))) (s := pad other (max (one.length : Int) (other.length : Int))) (fun x y => x + y) ?_ ?_ ?_ ?_ ?_
    · exact e_call (one, (max (one.length : Int) (other.length : Int))) (a_two (P := Row one) (e_var rfl (Mo.up g1.gg p1)) (e_var rfl rfl)) ⟨h1, by dsimp only; omega, by dsimp only; omega⟩
    · exact e_call (other, (max (one.length : Int) (other.length : Int))) (a_two (P := Row other) (e_var rfl (Mo.up g1.gg p2)) (e_var rfl rfl)) ⟨h2, by dsimp only; omega, by dsimp only; omega⟩
    · have e : max (one.length : Int) (other.length : Int) = ((max one.length other.length : Nat) : Int) := by omega
      rw [e, pad_len _ _ (by omega)]
      omega
    · exact fun _ _ => rfl
    · exact fun i x y G' hx hy _ => e_add (e_var rfl rfl) (e_var rfl rfl)
    · refine k v G2 H2 (g1.trans g2) ?_
      rw [added_eq] at p
      exact p
end
end Qa
set_option Elab.async false
set_option linter.all false
set_option maxRecDepth 100000
set_option maxHeartbeats 2000000
namespace Qa
open PySem PySem.Spec PyProof.Rows L2 Qm
open Vbhlae (at_ trim common plain chain plus times)
section
variable {te ta tb tl : TE} {t u tt : TT} {σ : L2.St} {G H G' : Hp} {P P' R : Pr} {Ps : List Pr} {K : PySem.W.Frag} {D : Ends} {tu tw tz : TS}
theorem q_when {b : Bool} (h : EvT t σ G b) (s : Same G H) (h1 : b = true → ∀ G2 H2, Gr G H G2 H2 → tu { D with nx := tz D } σ H2) (h2 : b = false → ∀ G2 H2, Gr G H G2 H2 → tz D σ H2) : tSeq (tIfS t tu tNext) tz D σ H := q_if h s h1 h2
theorem s_when {b : Bool} (h : EvT t σ G b) (s : Same G H) (h1 : b = true → ∀ G2 H2, Gr G H G2 H2 → tu D σ H2) (h2 : b = false → ∀ G2 H2, Gr G H G2 H2 → D.nx σ H2) : tIfS t tu tNext D σ H := s_if h s h1 h2
theorem e_pair {i j : Int} (ha : Ev ta σ G (PI i)) (hb : Ev tb σ G (PI j)) : Ev (tTup (tCons ta (tCons tb tNil))) σ G (Pair (i, j)) := e_tup (Ps := [PI i, PI j]) ⟨inferInstance, inferInstance, trivial⟩ (Nat.le_of_ble_eq_true rfl) (a_two ha hb)
theorem e_tworows {a b : List Int} (ha : Ev ta σ G (Row a)) (hb : Ev tb σ G (Row b)) : Ev (tTup (tCons ta (tCons tb tNil))) σ G (TwoRows (a, b)) := e_tup (Ps := [Row a, Row b]) ⟨inferInstance, inferInstance, trivial⟩ (Nat.le_of_ble_eq_true rfl) (a_two ha hb)
theorem e_to {i j : Int} (h : Ev te σ G (PI i)) (e : i = j) : Ev te σ G (PI j) := e ▸ h
theorem e_toR {α : Type} {p : α → Pr} {l m : List α} (h : Ev te σ G (Ls p l)) (e : l = m) : Ev te σ G (Ls p m) := e ▸ h
/-- a new list that nobody knows of -/
def EvN {α : Type} (te : TE) (σ : L2.St) (G : Hp) (p : α → Pr) (l : List α) : Prop := ∀ H, Same G H → ∀ Q : VK,
  (∀ L xs G2 H2, Gr G H G2 H2 → H L = none → G2 L = none → H2 L = some (.lst xs) → Al (fun x v => p x G2 v) l xs → Q (.ref L) H2) → te σ H Q
theorem n_lst0 {α : Type} {p : α → Pr} : EvN (tLst tNil) σ G p [] := fun H s _ k => ⟨Nat.zero_le _, fun q hq => k q [] G _ ((Gr.refl s).hold hq) hq (gone s hq) upd_same trivial⟩
theorem n_lst1 {α : Type} {p : α → Pr} {x : α} (h : Ev te σ G (p x)) : EvN (tLst (tCons te tNil)) σ G p [x] := fun H s _ k => h H s _ fun v G2 H2 g q =>
  ⟨by show 1 ≤ sizeLine; decide, fun a ha => k a [v] G2 _ (g.hold ha) (gone g.hh ha) (gone g.gh ha) upd_same ⟨q, trivial⟩⟩
theorem n_rep {x n : Int} (hb : Ev tb σ G (PI n)) (hn : -1000000 ≤ n ∧ n ≤ 1000000) : EvN (tOp rRep (tLst (tCons (tC (.int x)) tNil)) tb) σ G PI (List.replicate n.toNat x) := fun H s _ k =>
  e_lst1 (p := PI) e_int H s _ fun v G1 H1 g1 p1 => (hb.mono g1.gg) H1 g1.gh _ fun w G2 H2 g2 p2 => by
    obtain ⟨a, rfl, ha⟩ := row_at (r := [x]) p1
    obtain rfl : w = .int n := p2
    have z1 : ([x].map V.int).length * n.toNat ≤ sizeLine := by
      have : (1000000 : Nat) ≤ sizeLine := by decide
      show 1 * n.toNat ≤ sizeLine
      omega
    refine ⟨a, n, _, rfl, rfl, g2.hh a _ (g1.gh a _ ha), by omega, by omega, z1, fun q hq => ?_⟩
    show _
    refine k q _ G2 _ ((g1.trans g2).hold hq) (gone (g1.trans g2).hh hq) (gone g2.gh hq) upd_same ?_
    have e : (List.replicate n.toNat ([x].map V.int)).flatten = (List.replicate n.toNat x).map V.int := by
      show (List.replicate n.toNat [V.int x]).flatten = _
      rw [flat_rep, List.map_replicate]
    rw [e]
    exact al_ints _
/-- x = a new list that is owned from now on -/
theorem q_own {α : Type} {p : α → Pr} {l : List α} {i : Nat} (h : EvN te σ G p l) (s : Same G H)
    (k : ∀ L xs G2 H2, Gr G H G2 H2 → H L = none → G2 L = none → H2 L = some (.lst xs) → Al (fun x v => p x G2 v) l xs → tz D (σ.set i (some (.ref L))) H2) : tSeq (tAsg te (gName i)) tz D σ H := h H s _ k
/-- what was owned is handed back -/
theorem s_give {α : Type} {p : α → Pr} [mo : ∀ x, Mo (p x)] {l : List α} {G0 H0 : Hp} {L : Addr} {xs : List V} {i : Nat} (hs : σ[i]? = some (some (.ref L))) (g : Gr G0 H0 G H) (h0 : H0 L = none) (h1 : G L = none) (h2 : H L = some (.lst xs)) (al : Al (fun x v => p x G v) l xs)
    (k : ∀ v G2 H2, Gr G0 H0 G2 H2 → Ls p l G2 v → D.rt v H2) : tRet (tVar i) D σ H :=
  ⟨_, hs, k _ _ _ (g.own h0 h1 h2) ⟨L, xs, rfl, upd_same, al.imp fun x _ q => (mo x).up (same_new h1) q⟩⟩
end
section
variable {P : Program} {w : World} {K : PySem.W.Frag} {mg : Str → Option Value} {base : Heap} {f : Addr} {fd : FuncData}
abbrev st_product : Stmt := top 7
theorem sc_product : FnScope ["one", "other", "made", "i", "left", "j", "right"] ["one", "other"] (defScope st_product) := ⟨rfl, rfl, rfl, by decide +kernel, rfl, by decide +kernel, by decide +kernel⟩
def sp_product : Sp := spP (fun (x : List Int × List Int) => [Row x.1, Row x.2]) (fun x => x.1 ≠ [] ∧ x.2 ≠ [] ∧ x.1.length ≤ 1000 ∧ x.2.length ≤ 1000 ∧ ∃ B, Sz B x.1 ∧ Sz B x.2 ∧ B ≤ 40000000) (fun x => Row (chain x.1 x.2))
theorem ok_product (A : At K mg "product" st_product ["one", "other"] f fd) (T : Txt mg) : FnOk P w K mg base CX0 41 f fd ["one", "other"] sp_product := by
  refine A.fn.ok sc_product (sp_len fun _ => rfl) (fun cdv Ar outer s H vs Q E hr h => ⟨_,
    (pss_cons (ps_set (i := 2) sc_product.nd rfl (Or.inl rfl) (pe_op op_rep (pe_lst (pa_cons pe_int pa_nil)) (pe_op op_sub (pe_op op_add (pe_callB (len_K (K := K) rfl) (by rfl) T.len (by decide +kernel) (pa_cons (pv 0) pa_nil)) (pe_callB (len_K (K := K) rfl) (by rfl) T.len (by decide +kernel) (pa_cons (pv 1) pa_nil))) pe_int)))
  (pss_cons (ps_for PassesOwn.never rfl (pi_enum rfl T.enumerate (pa_cons (pv 0) pa_nil)) (pg_tup rfl (pgs_cons (pg_name (i := 3) sc_product.nd rfl (Or.inl rfl)) (pgs_cons (pg_name (i := 4) sc_product.nd rfl (Or.inl rfl)) pgs_nil)))
   (pss_one (ps_for PassesOwn.never rfl (pi_enum rfl T.enumerate (pa_cons (pv 1) pa_nil)) (pg_tup rfl (pgs_cons (pg_name (i := 5) sc_product.nd rfl (Or.inl rfl)) (pgs_cons (pg_name (i := 6) sc_product.nd rfl (Or.inl rfl)) pgs_nil)))
   (pss_one (ps_augS (pv 2) (pe_op op_add (pv 3) (pv 5)) (get_K (K := K) rfl) (pe_op op_mulB (pv 4) (pv 6)) ip_add set_list)))))
  (pss_one (ps_ret (pv 2))))), ?_⟩)
  obtain ⟨⟨one, other⟩, G, sG, al, ⟨n1, n2, z1, z2, B, hB1, hB2, hB⟩, k⟩ := h
  dsimp only at n1 n2 z1 z2 hB1 hB2
  have l1 : 0 < one.length := List.length_pos_iff.mpr n1
  have l2 : 0 < other.length := List.length_pos_iff.mpr n2
  match vs, al with
  | [v1, v2], ⟨p1, p2, _⟩ =>
    have e0 : one.length + other.length - 1 = ((one.length : Int) + (other.length : Int) - 1).toNat := by omega
    refine q_own (n_rep (x := 0) (n := (one.length : Int) + (other.length : Int) - 1) (e_sub (e_add (e_len (p := PI) (e_var rfl p1)) (e_len (p := PI) (e_var rfl p2))) e_int) (by omega)) sG fun L xs G1 H1 g1 hL gL hL1 al => ?_
    obtain rfl := ints_al al
    rw [← e0, ← cvRow_start] at hL1
    refine q_forE (fun i σ Gi Hi => ∃ (a b c d : Option V), σ = [some v1, some v2, some (.ref L), a, b, c, d] ∧ Gr G H Gi Hi ∧ Gi L = none ∧ Hi L = some (.lst ((cvRow one other i 0).map V.int))) (e_var rfl (Mo.up g1.gg p1)) g1.gh
      (fun G2 H2 g2 => ⟨none, none, none, none, rfl, g1.trans g2, g2.fr L gL (by rw [hL1]; simp), g2.hh L _ hL1⟩) ?_ ?_
    · rintro G2 H2 i x σ' Gi Hi T2 g2 hx s1 s2 ⟨a, b, c, d, rfl, gi, giL, hiL⟩ hT
      have hi : i < one.length := (List.getElem?_eq_some_iff.mp hx).1
      have gT : Gr G H Gi (upd Hi T2 (.tup [.int i, .int x])) := gi.hold hT
      have hT2 : upd Hi T2 (.tup [.int i, .int x]) L = some (.lst ((cvRow one other i 0).map V.int)) := by
        rw [upd_ne (ne_of_none hiL hT)]
        exact hiL
      refine s_forE (fun j σ Gj Hj => ∃ (c d : Option V), σ = [some v1, some v2, some (.ref L), some (.int i), some (.int x), c, d] ∧ Gr G H Gj Hj ∧ Same Gi Gj ∧ Gj L = none ∧ Hj L = some (.lst ((cvRow one other i j).map V.int))) (e_var rfl (Mo.up gi.gg p2)) gT.gh
        (fun G3 H3 g3 => ⟨c, d, rfl, gT.trans g3, g3.gg, g3.fr L giL (by rw [hT2]; simp), g3.hh L _ hT2⟩) ?_ ?_
      · rintro G3 H3 j y σ2 Gj Hj T3 g3 hy s3 s4 ⟨c, d, rfl, gj, sij, gjL, hjL⟩ hT3
        have hj : j < other.length := (List.getElem?_eq_some_iff.mp hy).1
        have gT3 : Gr G H Gj (upd Hj T3 (.tup [.int j, .int y])) := gj.hold hT3
        have hT4 : upd Hj T3 (.tup [.int j, .int y]) L = some (.lst ((cvRow one other i j).map V.int)) := by
          rw [upd_ne (ne_of_none hjL hT3)]
          exact hjL
        refine s_augL (G := Gj) (j := i + j) (x := x * y) rfl hT4 (by rw [cvRow_len]; omega) (e_to (e_add (e_var rfl rfl) (e_var rfl rfl)) (by omega)) (e_mul (e_var rfl rfl) (e_var rfl rfl) ?_) gT3.gh fun G5 H5 g5 => ?_
        · exact mulB (hB1 x (List.mem_of_getElem? hx)) (hB2 y (List.mem_of_getElem? hy)) (by omega)
        · have g6 : G5 L = none := g5.fr L gjL (by rw [hT4]; simp)
          refine ⟨G5, same_trans s3 g5.gg, same_put g5.gh g6, _, _, rfl, (gT3.trans g5).put hL g6, same_trans sij g5.gg, g6, ?_⟩
          rw [upd_same, ← cvRow_turn one other hi hj, at_get hx, at_get hy]
      · rintro G3 H3 σ2 Gj Hj g3 s3 s4 ⟨c, d, rfl, gj, sij, gjL, hjL⟩
        refine ⟨Gj, same_trans s1 sij, s4, _, _, _, _, rfl, gj, gjL, ?_⟩
        rw [hjL, cvRow_next]
    · rintro G2 H2 σ' Gi Hi g2 s1 s2 ⟨a, b, c, d, rfl, gi, giL, hiL⟩
      rw [cvRow_end n1 n2] at hiL
      exact s_give (p := PI) rfl gi hL giL hiL (al_ints _) k
abbrev st_without_end_zeros : Stmt := top 8
theorem sc_without_end_zeros : FnScope ["row", "size"] ["row"] (defScope st_without_end_zeros) := ⟨rfl, rfl, rfl, by decide +kernel, rfl, by decide +kernel, by decide +kernel⟩
def sp_without_end_zeros : Sp := spP (fun (x : List Int) => [Row x]) (fun x => x.length ≤ 1000) (fun x => Row (trim x))
theorem cut_take {α : Type} (l : List α) (n : Nat) : cut l none (some (n : Int)) = l.take n := by
  unfold cut
  rw [HT.sIx_none, HT.sIx_nat]
  simp
theorem ok_without_end_zeros (A : At K mg "without_end_zeros" st_without_end_zeros ["row"] f fd) (T : Txt mg) : FnOk P w K mg base CX0 41 f fd ["row"] sp_without_end_zeros := by
  refine A.fn.ok sc_without_end_zeros (sp_len fun _ => rfl) (fun cdv Ar outer s H vs Q E hr h => ⟨_,
    (pss_cons (ps_set (i := 1) sc_without_end_zeros.nd rfl (Or.inl rfl) (pe_callB (len_K (K := K) rfl) (by rfl) T.len (by decide +kernel) (pa_cons (pv 0) pa_nil)))
  (pss_cons (ps_while PassesOwn.never (PW.pt (pw_and (pt_cmpR op_gt (pv 1) pe_int (nomark _)) (pw_and1 (pt_cmpR op_eq (pe_ix (ix_listK (K := K) rfl) (pv 0) (pe_op op_sub (pv 1) pe_int) (fun _ _ => rfl)) pe_int (nomark _)))))
   (pss_one (ps_aug (i := 1) sc_without_end_zeros.nd rfl (Or.inl rfl) pe_int ip_sub)))
  (pss_one (ps_ret (pe_slice (sl_listK (K := K) rfl) (pv 0) po_none (po_some (pv 1))))))), ?_⟩)
  obtain ⟨row, G, sG, al, hz, k⟩ := h
  match vs, al with
  | [v1], ⟨p1, _⟩ =>
    refine q_asg (e_len (p := PI) (e_var rfl p1)) sG fun v G1 H1 g1 p => ?_
    obtain rfl := p
    refine q_while (fun m σ Gi Hi => σ = [some v1, some (.int (m : Nat))] ∧ m ≤ row.length ∧ trim (row.take m) = trim row ∧ Gr G H Gi Hi) row.length g1.gh ⟨rfl, Nat.le_refl _, by rw [List.take_length], g1⟩ ?_
    rintro m σ' Gi Hi si ⟨rfl, hm, ht, g⟩
    have p1' : Row row Gi v1 := Mo.up g.gg p1
    refine ⟨_, t_and (t_test (e_gt (e_var rfl rfl) e_int)) (b := decide (at_ row (m - 1) = 0)) (fun hb => ?_), fun hb G2 H2 g2 => ?_, fun hb G2 H2 g2 => ?_⟩
    · have h0 : 0 < m := by simpa using hb
      have e : ((m : Int) - 1) = ((m - 1 : Nat) : Int) := by omega
      exact t_test (e_eq (e_ix (p := PI) (l := row) (e_var rfl p1') (e_sub (e_var rfl rfl) e_int) (by rw [e]; exact row_get (by omega))) e_int)
    · have hb' : 0 < m ∧ at_ row (m - 1) = 0 := by simpa using hb
      refine s_augI rfl e_int g2.gh fun G3 H3 g3 => ⟨m - 1, G3, by omega, g3.gh, ?_, by omega, ?_, (g.trans g2).trans g3⟩
      · show [some v1, some (V.int ((m : Int) - 1))] = _
        rw [show ((m : Int) - 1) = ((m - 1 : Nat) : Int) by omega]
      · have e : row.take m = row.take (m - 1) ++ [0] := by
          have := take_more (get_at (a := row) (i := m - 1) (by omega))
          rw [hb'.2, show m - 1 + 1 = m by omega] at this
          exact this
        rw [← ht, e, trim_zero]
    · have e : trim row = row.take m := by
        rw [← ht]
        by_cases h0 : m = 0
        · subst h0
          rfl
        · have hne : at_ row (m - 1) ≠ 0 := fun z => by
            have : (decide ((0 : Int) < (m : Int)) && decide (at_ row (m - 1) = 0)) = true := by
              simp [z]
              omega
            rw [this] at hb
            cases hb
          have := take_more (get_at (a := row) (i := m - 1) (by omega))
          rw [show m - 1 + 1 = m by omega] at this
          rw [this, trim_ne _ hne]
      refine s_ret (e_cut (p := PI) (l := row) (e_var rfl (Mo.up g2.gg p1')) o_none (o_some (e_var rfl rfl))) g2.gh fun v G3 H3 g3 p3 => k v G3 H3 ((g.trans g2).trans g3) ?_
      rw [cut_take] at p3
      show Row (trim row) G3 v
      rw [e]
      exact p3
end
end Qa
set_option Elab.async false
set_option linter.all false
set_option maxRecDepth 100000
set_option maxHeartbeats 2000000
namespace Qa
open PySem PySem.Spec PyProof.Rows L2 Qm
open Vbhlae (at_ trim common plain chain plus times)
/-! ### lowest terms -/
/-- a fraction as the program keeps it -/
def prq (r : Rat) : Int × Int := (r.num, (r.den : Int))
theorem low_pos {u l : Int} (h : 0 < l) : (u.fdiv (Int.gcd u l : Int), l.fdiv (Int.gcd u l : Int)) = prq ((u : Rat) / (l : Rat)) := by
  rw [← Rat.divInt_eq_div]
  unfold prq
  rw [Rat.num_divInt, Rat.den_divInt, if_neg (by omega), Int.sign_eq_one_of_pos h, Int.one_mul, Int.gcd_comm l u]
  have hg : (0 : Int) ≤ (Int.gcd u l : Int) := Int.natCast_nonneg _
  rw [Int.fdiv_eq_ediv_of_nonneg _ hg, Int.fdiv_eq_ediv_of_nonneg _ hg]
  have e : (((l.natAbs / Int.gcd u l : Nat)) : Int) = l / (Int.gcd u l : Int) := by
    rw [Int.natCast_ediv]
    have : ((l.natAbs : Nat) : Int) = l := by omega
    rw [this]
  rw [e]
theorem low_neg {u l : Int} (h : l < 0) : (u.fdiv (-(Int.gcd u l : Int)), l.fdiv (-(Int.gcd u l : Int))) = prq ((u : Rat) / (l : Rat)) := by
  have g0 : (Int.gcd u l : Int) ≠ 0 := by
    have : Int.gcd u l ≠ 0 := fun z => by
      have := (Int.gcd_eq_zero_iff.mp z).2
      omega
    omega
  obtain ⟨k, hk⟩ : (Int.gcd u l : Int) ∣ u := Int.gcd_dvd_left ..
  obtain ⟨m, hm⟩ : (Int.gcd u l : Int) ∣ l := Int.gcd_dvd_right ..
  have e1 : u.fdiv (-(Int.gcd u l : Int)) = -k := by
    have : u = (-(Int.gcd u l : Int)) * (-k) := by rw [Int.neg_mul_neg]; exact hk
    conv => lhs; arg 1; rw [this]
    exact Int.mul_fdiv_cancel_left _ (by omega)
  have e2 : l.fdiv (-(Int.gcd u l : Int)) = -m := by
    have : l = (-(Int.gcd u l : Int)) * (-m) := by rw [Int.neg_mul_neg]; exact hm
    conv => lhs; arg 1; rw [this]
    exact Int.mul_fdiv_cancel_left _ (by omega)
  rw [e1, e2, ← Rat.divInt_eq_div]
  unfold prq
  rw [Rat.num_divInt, Rat.den_divInt, if_neg (by omega), Int.sign_eq_neg_one_of_neg h, Int.gcd_comm l u]
  have e3 : -1 * u / (Int.gcd u l : Int) = -k := by
    have : -1 * u = (Int.gcd u l : Int) * (-k) := by
      rw [Int.mul_neg, ← hk]
      omega
    rw [this]
    exact Int.mul_ediv_cancel_left _ g0
  have e4 : (((l.natAbs / Int.gcd u l : Nat)) : Int) = -m := by
    rw [Int.natCast_ediv]
    have : ((l.natAbs : Nat) : Int) = (Int.gcd u l : Int) * (-m) := by
      rw [Int.mul_neg, ← hm]
      omega
    rw [this]
    exact Int.mul_ediv_cancel_left _ g0
  rw [e3, e4]
section
variable {P : Program} {w : World} {K : PySem.W.Frag} {mg : Str → Option Value} {base : Heap} {f : Addr} {fd : FuncData}
abbrev st_reduced : Stmt := top 9
theorem sc_reduced : FnScope ["row", "kept"] ["row"] (defScope st_reduced) := ⟨rfl, rfl, rfl, by decide +kernel, rfl, by decide +kernel, by decide +kernel⟩
def sp_reduced : Sp := spP (fun (x : List Int) => [Row x]) (fun x => x.length ≤ 1000) (fun x => Row (redu x))
theorem trim_common {r : List Int} (h : trim r ≠ []) : (common (trim r) : Int) ≠ 0 := by
  rcases trim_last r with e | ⟨m, x, e, hx⟩
  · exact absurd e h
  · have : 0 < common (trim r) := common_pos (x := x) (by rw [e]; simp) hx
    omega
theorem ok_reduced (A : At K mg "reduced" st_reduced ["row"] f fd) (D_without_end_zeros : Dfn P w K mg base CX0 41 "without_end_zeros" ["row"] sp_without_end_zeros) (D_divided : Dfn P w K mg base CX0 41 "divided" ["row", "divisor"] sp_divided)
    (D_common_divisor : Dfn P w K mg base CX0 42 "common_divisor" ["row"] sp_common_divisor) : FnOk P w K mg base CX0 43 f fd ["row"] sp_reduced := by
  refine A.fn.ok sc_reduced (sp_len fun _ => rfl) (fun cdv Ar outer s H vs Q E hr h => ⟨_,
    (pss_cons (ps_set (i := 1) sc_reduced.nd rfl (Or.inl rfl) (pe_def D_without_end_zeros (hr.mono (by decide)) (pa_cons (pv 0) pa_nil)))
  (pss_one (ps_ret (pe_def D_divided (hr.mono (by decide)) (pa_cons (pv 1) (pa_cons (pe_def D_common_divisor (hr.mono (by decide)) (pa_cons (pv 1) pa_nil)) pa_nil)))))), ?_⟩)
  obtain ⟨row, G, sG, al, hz, k⟩ := h
  match vs, al with
  | [v1], ⟨p1, _⟩ =>
    refine q_asg (e_call row (a_one (e_var rfl p1)) hz) sG fun v G1 H1 g1 p => ?_
    have hl := trim_len row
    refine s_ret (e_call (trim row, (common (trim row) : Int)) (a_two (P := Row (trim row)) (e_var rfl p) (e_call (trim row) (a_one (P := Row (trim row)) (e_var rfl p)) trivial)) ⟨by dsimp only; omega, trim_common⟩) g1.gh fun v2 G2 H2 g2 p2 => k v2 G2 H2 (g1.trans g2) ?_
    have e : redu row = (trim row).map (·.fdiv (common (trim row) : Int)) := List.map_congr_left fun x _ => (Int.fdiv_eq_ediv_of_nonneg _ (Int.natCast_nonneg _)).symm
    show Row (redu row) G2 v2
    rw [e]
    exact p2
abbrev st_plain : Stmt := top 10
theorem sc_plain : FnScope ["row", "kept"] ["row"] (defScope st_plain) := ⟨rfl, rfl, rfl, by decide +kernel, rfl, by decide +kernel, by decide +kernel⟩
def sp_plain : Sp := spP (fun (x : List Int) => [Row x]) (fun x => x.length ≤ 1000 ∧ at_ x 0 ≠ 0 ∧ Sz 40000000 x) (fun x => Row (plain x))
theorem ok_plain (A : At K mg "plain" st_plain ["row"] f fd) (D_reduced : Dfn P w K mg base CX0 43 "reduced" ["row"] sp_reduced) (D_scaled : Dfn P w K mg base CX0 41 "scaled" ["row", "factor"] sp_scaled) : FnOk P w K mg base CX0 44 f fd ["row"] sp_plain := by
  refine A.fn.ok sc_plain (sp_len fun _ => rfl) (fun cdv Ar outer s H vs Q E hr h => ⟨_,
    (pss_cons (ps_set (i := 1) sc_plain.nd rfl (Or.inl rfl) (pe_def D_reduced (hr.mono (by decide)) (pa_cons (pv 0) pa_nil)))
  (pss_cons (ps_if (pt_cmpR op_lt (pe_ix (ix_listK (K := K) rfl) (pv 1) pe_int (fun _ _ => rfl)) pe_int (nomark _)) (pss_one (ps_ret (pe_def D_scaled (hr.mono (by decide)) (pa_cons (pv 1) (pa_cons (pe_un un_neg pe_int) pa_nil))))) pss_nil)
  (pss_one (ps_ret (pv 1))))), ?_⟩)
  obtain ⟨row, G, sG, al, ⟨hz, h0, hB⟩, k⟩ := h
  match vs, al with
  | [v1], ⟨p1, _⟩ =>
    refine q_asg (e_call row (a_one (e_var rfl p1)) hz) sG fun v G1 H1 g1 p => ?_
    have hlen : 0 < (redu row).length := List.length_pos_iff.mpr (redu_nil h0)
    have hl2 : (redu row).length ≤ row.length := by rw [redu_len]; exact trim_len row
    refine q_when (t_test (e_lt (e_ix (p := PI) (l := redu row) (x := at_ (redu row) 0) (e_var rfl p) e_int (row_get hlen)) e_int)) g1.gh (fun hb G2 H2 g2 => ?_) (fun hb G2 H2 g2 => ?_)
    · have hb : at_ (redu row) 0 < 0 := by simpa using hb
      refine s_ret (e_call (redu row, -1) (a_two (P := Row (redu row)) (e_var rfl (Mo.up g2.gg p)) (e_neg e_int)) ⟨by dsimp only; omega, fun y hy => ?_⟩) g2.gh fun v2 G3 H3 g3 p3 => k v2 G3 H3 ((g1.trans g2).trans g3) ?_
      · exact mulB (a := 1) (b := 40000000) (by show (1 : Nat) < 2 ^ 1; decide) (hB.redu y hy) (by omega)
      · show Row (plain row) G3 v2
        rw [plain_redu, if_pos hb]
        have e : (redu row).map (fun x => -x) = (redu row).map fun x => -1 * x := List.map_congr_left fun x _ => by omega
        rw [e]
        exact p3
    · have hb : ¬ at_ (redu row) 0 < 0 := by simpa using hb
      refine s_ret (P := Row (redu row)) (e_var rfl (Mo.up g2.gg p)) g2.gh fun v2 G3 H3 g3 p3 => k v2 G3 H3 ((g1.trans g2).trans g3) ?_
      show Row (plain row) G3 v2
      rw [plain_redu, if_neg hb]
      exact p3
abbrev st_lowest : Stmt := top 13
theorem sc_lowest : FnScope ["upper", "lower", "divisor"] ["upper", "lower"] (defScope st_lowest) := ⟨rfl, rfl, rfl, by decide +kernel, rfl, by decide +kernel, by decide +kernel⟩
def sp_lowest : Sp := spP (fun (x : Int × Int) => [PI x.1, PI x.2]) (fun x => x.2 ≠ 0) (fun x => Pair (prq ((x.1 : Rat) / (x.2 : Rat))))
theorem ok_lowest (A : At K mg "lowest" st_lowest ["upper", "lower"] f fd) (hS : base.NoSeer) (hT : P.given.tree = none) (D_common_of_two : Dfn P w K mg base CX0 41 "common_of_two" ["one", "other"] sp_common_of_two) : FnOk P w K mg base CX0 42 f fd ["upper", "lower"] sp_lowest := by
  refine A.fn.ok sc_lowest (sp_len fun _ => rfl) (fun cdv Ar outer s H vs Q E hr h => ⟨_,
    (have hp := rm_of (K := K) (mg := mg) (w := w) (CX := CX0) (outer := outer) (H := H) (E := E) hS hT sc_lowest hr (by decide)
    (pss_cons (ps_set (i := 2) sc_lowest.nd rfl (Or.inl rfl) (pe_def D_common_of_two (hr.mono (by decide)) (pa_cons (pv 0) (pa_cons (pv 1) pa_nil))))
  (pss_cons (ps_if (pt_cmpR op_lt (pv 1) pe_int (nomark _)) (pss_one (ps_set (i := 2) sc_lowest.nd rfl (Or.inl rfl) (pe_un un_neg (pv 2)))) pss_nil)
  (pss_one (ps_ret (pe_tup (pa_cons (pe_op (op_div ⟨hp.seer, hp.tree, hp.deep, hp.top⟩) (pv 0) (pv 2)) (pa_cons (pe_op (op_div ⟨hp.seer, hp.tree, hp.deep, hp.top⟩) (pv 1) (pv 2)) pa_nil)))))))), ?_⟩)
  obtain ⟨⟨u, l⟩, G, sG, al, hl, k⟩ := h
  dsimp only at hl
  have hg : (Int.gcd u l : Int) ≠ 0 := by
    have : Int.gcd u l ≠ 0 := fun z => hl (Int.gcd_eq_zero_iff.mp z).2
    omega
  match vs, al with
  | [_, _], ⟨rfl, rfl, _⟩ =>
    refine q_asg (e_call (u, l) (a_two (e_var rfl rfl) (e_var rfl rfl)) trivial) sG fun v G1 H1 g1 p => ?_
    obtain rfl := p
    refine q_when (t_test (e_lt (e_var rfl rfl) e_int)) g1.gh (fun hb G2 H2 g2 => ?_) (fun hb G2 H2 g2 => ?_)
    · have hb : l < 0 := by simpa using hb
      refine s_asg (e_neg (e_var rfl rfl)) g2.gh fun v G3 H3 g3 p => ?_
      obtain rfl := p
      refine s_ret (e_pair (i := u.fdiv (-(Int.gcd u l : Int))) (j := l.fdiv (-(Int.gcd u l : Int))) (e_div (e_var rfl rfl) (e_var rfl rfl) (by omega)) (e_div (e_var rfl rfl) (e_var rfl rfl) (by omega))) g3.gh fun v4 G4 H4 g4 p4 => k v4 G4 H4 (((g1.trans g2).trans g3).trans g4) ?_
      show Pair (prq ((u : Rat) / (l : Rat))) G4 v4
      rw [← low_neg hb]
      exact p4
    · have hb : 0 < l := by
        have : ¬ l < 0 := by simpa using hb
        omega
      refine s_ret (e_pair (i := u.fdiv (Int.gcd u l : Int)) (j := l.fdiv (Int.gcd u l : Int)) (e_div (e_var rfl rfl) (e_var rfl rfl) hg) (e_div (e_var rfl rfl) (e_var rfl rfl) hg)) g2.gh fun v4 G4 H4 g4 p4 => k v4 G4 H4 ((g1.trans g2).trans g4) ?_
      show Pair (prq ((u : Rat) / (l : Rat))) G4 v4
      rw [← low_pos hb]
      exact p4
end
end Qa
set_option Elab.async false
set_option linter.all false
set_option maxRecDepth 100000
set_option maxHeartbeats 2000000
/-! Errors of the program's own: raised, let through, taken. -/
namespace Qa
open PySem PySem.Spec PyProof.Rows L2 Qm
section
variable {X : Cx} {C : Addr} {bmB : List Value} {B newId initId : String}
/-- raise X(): an error without arguments -/
theorem pmk_own0 {x : Str} {p pos : Pos} (F : ExcBaseFacts B newId initId bmB) (q : PySem.W.excIn X.K C bmB newId = true) (gC : X.mg x = some (.ref C)) (kC : PySem.W.keepIn X.K (.ref C) = true) (r : Raises X (.ref C)) (hg : Gl X x)
    (hdb : (x == ("__debug__" : Str)) = false := by decide) : PMk X (.Call (.Name x p) [] [] pos) (fun _ H Q => Q (.ref C) none H) := by
  intro pins s σ H Q I h
  refine wpAny_Call_Name_kw (ld_glob I hg gC ?_ hdb)
  refine PySem.W.callWith_K0 I.kIn kC ?_
  obtain ⟨bm, N, nm, qn, bs, hdct, sn, sub, ab, col, dd, k0, k1, k2, k3, k5, mN, hC, hN, hni, T⟩ := exc_obj I.kIn q
  refine wpAny_call_exc_subT F T hC hN hni (fun h' e hm => ?_) (by show 0 ≤ sizeLine; omega)
  exact mk_of I hm r h (I.hok.gone hm.new)
end
/-- an error class of the program: Exception is its base, it has nothing of its own -/
structure Err (K : PySem.W.Frag) (mg : Str → Option Value) (x : Str) (C : Addr) : Prop where
  g : mg x = some (.ref C)
  x : PySem.W.excIn K C [.type "Exception", .type "BaseException", .type "object"] "Exception.__new__" = true
  k : PySem.W.keepIn K (.ref C) = true
  b : PySem.W.subIn K (.ref C) (.type "BaseException") = some true
  t : PySem.W.typeIn K (.ref C) = some (.type "type")
section
variable {X : Cx} {k : Nat} {x : Str} {ps : List Str} {sp : Sp} {e : Expr} {es : List Expr} {t : TA} {p pos : Pos} {E : XK} {C : Addr}
theorem ps_err {W : WX} (T : Err X.K X.mg x C) (tk : Takes X W) (hc : X.calm = true := by rfl) (hg : Gl X x := by rfl) (hdb : (x == ("__debug__" : Str)) = false := by decide) {pos' : Pos} : PS X (.Raise (some (.Call (.Name x p) [] [] pos)) none pos') (fun _ σ H => W (.ref C) none σ H) :=
  ps_raise hc tk (pmk_own0 PySem.F.excBase_Exception T.x T.g T.k (raises_own T.b T.t) hg hdb)
/-- a def that may raise, called where what it raises goes on to E -/
theorem pe_defX (D : Dfn X.prog X.w X.K X.mg X.base (L2.CX X.prog X.w) k x ps sp) (hr : Room k X.A) (hx : Passes (L2.CX X.prog X.w) X E) (ha : PA X (e :: es) t) (hg : Gl X x := by rfl) (hdb : (x == ("__debug__" : Str)) = false := by decide)
    (he : starEach (e :: es) X.env = (false, eval e X.env) :: starEach es X.env := by rfl) (hpl : (backTo pos (starEach es X.env)).any (·.1) = false := by rfl) : PE X (.Call (.Name x p) (e :: es) [] pos) (tCall sp [] E t) := by
  obtain ⟨f, fd, F, m, kp, b⟩ := D
  exact pe_call F hr hg m kp b .nil hx ha hdb he hpl
/-- the same in a try: what it raises is wished for at the slots as they stand -/
theorem pe_defS {E : L2.St → XK} (D : Dfn X.prog X.w X.K X.mg X.base (L2.CX X.prog X.w) k x ps sp) (hr : Room k X.A) (hx : ∀ σ, PassesAt (L2.CX X.prog X.w) X σ (E σ)) (ha : PA X (e :: es) t) (hg : Gl X x := by rfl) (hdb : (x == ("__debug__" : Str)) = false := by decide)
    (he : starEach (e :: es) X.env = (false, eval e X.env) :: starEach es X.env := by rfl) (hpl : (backTo pos (starEach es X.env)).any (·.1) = false := by rfl) : PE X (.Call (.Name x p) (e :: es) [] pos) (tCallS sp E t) := by
  obtain ⟨f, fd, F, m, kp, b⟩ := D
  exact pe_callS F hr hg m kp b hx ha hdb he hpl
/-- a def that lets nothing out, called where errors are let out -/
theorem pe_defN (D : Dfn X.prog X.w X.K X.mg X.base CX0 k x ps sp) (hr : Room k X.A) (ha : PA X (e :: es) t) (hg : Gl X x := by rfl) (hdb : (x == ("__debug__" : Str)) = false := by decide) (he : starEach (e :: es) X.env = (false, eval e X.env) :: starEach es X.env := by rfl)
    (hpl : (backTo pos (starEach es X.env)).any (·.1) = false := by rfl) : PE X (.Call (.Name x p) (e :: es) [] pos) (tCall sp [] E0 t) := pe_def D hr ha hg hdb he hpl
/-- of several defs that a slot may hold, each of which may raise -/
def HeldX (P : Program) (w : World) (K : PySem.W.Frag) (mg : Str → Option Value) (base : Heap) (k : Nat) (f : Addr) (sp : Sp) : Prop :=
  ∃ (fd : FuncData) (ps : List Str), FnOk P w K mg base (L2.CX P w) k f fd ps sp ∧ PySem.W.keepIn K (.ref f) = true ∧ Binds K fd ps []
def tCallAX (i : Nat) (S : Addr → Option Sp) (E : XK) (t : TA) : TE := fun σ H Q => ∃ f sp, σ[i]? = some (some (.ref f)) ∧ S f = some sp ∧ t σ H fun vs H1 => sp vs H1 Q E
theorem pe_callAX {i : Nat} {S : Addr → Option Sp} (A : ∀ f sp, S f = some sp → HeldX X.prog X.w X.K X.mg X.base k f sp) (hr : Room k X.A) (hN : X.N[i]? = some x) (hv : Vis X.env.scope x) (hx : Passes (L2.CX X.prog X.w) X E) (ha : PA X (e :: es) t)
    (hdb : (x == ("__debug__" : Str)) = false := by decide) (hcd : (x == ("__classdict__" : Str)) = false := by decide)
    (he : starEach (e :: es) X.env = (false, eval e X.env) :: starEach es X.env := by rfl) (hpl : (backTo pos (starEach es X.env)).any (·.1) = false := by rfl) : PE X (.Call (.Name x p) (e :: es) [] pos) (tCallAX i S E t) := by
  refine ⟨fun pins s σ H Q I h => ?_⟩
  obtain ⟨f, sp, hs, hS, ht⟩ := h
  obtain ⟨fd, ps, F, hk, hb⟩ := A f sp hS
  refine (pe_callL (i := i) (f := f) (sp := sp) (dvs := []) (E := E) F hr hN hv hk hb .nil hx ha hdb hcd he hpl).run pins s σ H Q I ⟨hs, ?_⟩
  simpa only [List.append_nil] using ht
end
/-! ### promises of defs that may raise -/
/-- .ok: what is handed back; .error: the class of what is raised -/
def spX {α : Type} (As : α → List Pr) (pre : α → Prop) (R : α → Except Addr Pr) : Sp := fun vs H Q E => ∃ (x : α) (G : Hp), Same G H ∧ Al2 G vs (As x) ∧ pre x ∧
  (∀ P, R x = .ok P → ∀ v G2 H2, Gr G H G2 H2 → P G2 v → Q v H2) ∧ (∀ c, R x = .error c → ∀ G2 H2, Gr G H G2 H2 → E (.ref c) none H2)
theorem spX_len {α : Type} {As : α → List Pr} {pre : α → Prop} {R : α → Except Addr Pr} {n : Nat} (h : ∀ x, (As x).length = n) : ∀ vs H Q E, spX As pre R vs H Q E → vs.length = n := fun vs H Q E ⟨x, G, _, al, _⟩ => al.length.trans (h x)
section
variable {te ta tb tl : TE} {σ : L2.St} {G H G' : Hp} {P P' R : Pr} {D : Ends} {tu tw tz : TS} {E : XK} {c : Addr}
theorem e_callX {α : Type} {As : α → List Pr} {pre : α → Prop} {R : α → Except Addr Pr} {E : XK} {ta : TA} (x : α) (h : EvA ta σ G (As x)) (hp : pre x) (hR : R x = .ok P) : Ev (tCall (spX As pre R) [] E ta) σ G P := fun H s _ k =>
  h H s _ fun vs G1 H1 g1 al => ⟨x, G1, g1.gh, by rw [List.append_nil]; exact al, hp, fun P' e v G2 H2 g2 r => by
    rw [hR] at e
    cases e
    exact k v G2 H2 (g1.trans g2) r, fun c e => by
    rw [hR] at e
    cases e⟩
/-- it raises an error of the class at c -/
def Throws (te : TE) (σ : L2.St) (G : Hp) (c : Addr) (E : XK) : Prop := ∀ H, Same G H → (∀ G2 H2, Gr G H G2 H2 → E (.ref c) none H2) → ∀ Q : VK, te σ H Q
theorem th_call {α : Type} {As : α → List Pr} {pre : α → Prop} {R : α → Except Addr Pr} {ta : TA} (x : α) (h : EvA ta σ G (As x)) (hp : pre x) (hR : R x = .error c) : Throws (tCall (spX As pre R) [] E ta) σ G c E := fun H s k Q =>
  h H s _ fun vs G1 H1 g1 al => ⟨x, G1, g1.gh, by rw [List.append_nil]; exact al, hp, (fun P' e => by
    rw [hR] at e
    cases e), (fun c' e G2 H2 g2 => by
    rw [hR] at e
    cases e
    exact k G2 H2 (g1.trans g2))⟩
theorem th_arg {sp : Sp} {tr : TA} {E' : XK} (h : Throws te σ G c E) : Throws (tCall sp [] E' (tCons te tr)) σ G c E := fun H s k _ => h H s k _
theorem s_thDrop (h : Throws te σ G c E) (s : Same G H) (k : ∀ G2 H2, Gr G H G2 H2 → E (.ref c) none H2) : tDrop te D σ H := h H s k _
theorem q_thDrop (h : Throws te σ G c E) (s : Same G H) (k : ∀ G2 H2, Gr G H G2 H2 → E (.ref c) none H2) : tSeq (tDrop te) tz D σ H := h H s k _
theorem s_thAsg {i : Nat} (h : Throws te σ G c E) (s : Same G H) (k : ∀ G2 H2, Gr G H G2 H2 → E (.ref c) none H2) : tAsg te (gName i) D σ H := h H s k _
theorem q_thAsg {i : Nat} (h : Throws te σ G c E) (s : Same G H) (k : ∀ G2 H2, Gr G H G2 H2 → E (.ref c) none H2) : tSeq (tAsg te (gName i)) tz D σ H := h H s k _
theorem s_thRet (h : Throws te σ G c E) (s : Same G H) (k : ∀ G2 H2, Gr G H G2 H2 → E (.ref c) none H2) : tRet te D σ H := h H s k _
end
section
variable {P : Program} {w : World} {K : PySem.W.Frag} {mg : Str → Option Value} {base : Heap} {f : Addr} {fd : FuncData} {cO cB cR cQ : Addr}
abbrev st_want_between : Stmt := top 59
theorem sc_want_between : FnScope ["number", "least", "most"] ["number", "least", "most"] (defScope st_want_between) := ⟨rfl, rfl, rfl, by decide +kernel, rfl, by decide +kernel, by decide +kernel⟩
/-- all is well, or -1 is due -/
def okOr (cO : Addr) (b : Bool) : Except Addr Pr := if b = true then .ok PN else .error cO
def sp_want_between (cO : Addr) : Sp := spX (fun (x : Int × Int × Int) => [PI x.1, PI x.2.1, PI x.2.2]) (fun _ => True) (fun x => okOr cO (Vbhlae.inr x.1 x.2.1 x.2.2))
theorem ok_want_between (A : At K mg "want_between" st_want_between ["number", "least", "most"] f fd) (T : Err K mg "OutOfRange" cO) : FnOk P w K mg base (L2.CX P w) 41 f fd ["number", "least", "most"] (sp_want_between cO) := by
  refine A.fn.okX sc_want_between (spX_len fun _ => rfl) (fun cdv Ar outer s H vs Q E hr h => ⟨_,
    (pss_one (ps_if (PW.pt (pw_or (pt_cmpR op_lt (pv 0) (pv 1) (nomark _)) (pw_or1 (pt_cmpR op_gt (pv 0) (pv 2) (nomark _))))) (pss_one (ps_err T (takes_of rfl rfl rfl rfl))) pss_nil)), ?_⟩)
  obtain ⟨⟨n, lo, hi⟩, G, sG, al, _, k1, k2⟩ := h
  match vs, al with
  | [_, _, _], ⟨rfl, rfl, rfl, _⟩ =>
    refine s_when (t_or (t_test (e_lt (e_var rfl rfl) (e_var rfl rfl))) fun _ => t_test (e_gt (e_var rfl rfl) (e_var rfl rfl))) sG (fun hb G2 H2 g2 => ?_) (fun hb G2 H2 g2 => ?_)
    · have : Vbhlae.inr n lo hi = false := by
        unfold Vbhlae.inr
        simp only [Bool.or_eq_true, decide_eq_true_eq] at hb
        simp only [Bool.and_eq_false_iff, decide_eq_false_iff_not]
        omega
      exact k2 cO (by show okOr cO (Vbhlae.inr n lo hi) = _; rw [this]; rfl) G2 H2 g2
    · have : Vbhlae.inr n lo hi = true := by
        unfold Vbhlae.inr
        simp only [Bool.or_eq_false_iff, decide_eq_false_iff_not] at hb
        simp only [Bool.and_eq_true, decide_eq_true_eq]
        omega
      exact k1 PN (by show okOr cO (Vbhlae.inr n lo hi) = _; rw [this]; rfl) .non G2 H2 g2 rfl
end
end Qa
set_option Elab.async false
set_option linter.all false
set_option maxRecDepth 100000
set_option maxHeartbeats 2000000
namespace Qa
open PySem PySem.Spec PyProof.Rows L2 Qm
open Vbhlae (at_ trim common plain chain plus times)
/-- both numbers of a fraction below 2 ^ B -/
def RSz (B : Nat) (r : Rat) : Prop := r.num.natAbs < 2 ^ B ∧ r.den < 2 ^ B
theorem RSz.mono {B C : Nat} {r : Rat} (h : RSz B r) (l : B ≤ C) : RSz C r := ⟨Nat.lt_of_lt_of_le h.1 (Nat.pow_le_pow_right (by decide) l), Nat.lt_of_lt_of_le h.2 (Nat.pow_le_pow_right (by decide) l)⟩
theorem rsz_div {B : Nat} {u l : Int} (hu : u.natAbs < 2 ^ B) (hl : l.natAbs < 2 ^ B) (h0 : l ≠ 0) : RSz B ((u : Rat) / (l : Rat)) := by
  rw [← Rat.divInt_eq_div]
  have g0 : 0 < Int.gcd l u := Nat.pos_of_ne_zero fun z => h0 (Int.gcd_eq_zero_iff.mp z).1
  refine ⟨?_, ?_⟩
  · rw [Rat.num_divInt]
    have h1 : (l.sign * u).natAbs ≤ u.natAbs := by
      rw [Int.natAbs_mul, Int.natAbs_sign]
      split <;> omega
    have h2 : (Int.gcd l u : Int) ∣ l.sign * u := Int.dvd_trans (Int.gcd_dvd_right ..) (Int.dvd_mul_left ..)
    obtain ⟨k, hk⟩ := h2
    rw [hk, Int.mul_ediv_cancel_left _ (by omega)]
    rw [hk, Int.natAbs_mul, Int.natAbs_natCast] at h1
    have : k.natAbs ≤ Int.gcd l u * k.natAbs := Nat.le_mul_of_pos_left _ g0
    omega
  · rw [Rat.den_divInt, if_neg h0]
    have := Nat.div_le_self l.natAbs (Int.gcd l u)
    omega
theorem prq_mk (u : Int) (d : Nat) : ((u : Rat) / ((d : Int) : Rat)) = mkRat u d := by
  rw [Rat.mkRat_eq_div]
  rfl
theorem rat_add' (r s : Rat) : (((r.num * (s.den : Int) + s.num * (r.den : Int) : Int) : Rat) / (((r.den : Int) * (s.den : Int) : Int) : Rat)) = r + s := by
  rw [← Int.natCast_mul, prq_mk, Rat.add_def']
theorem rat_scale (r : Rat) (k : Int) : (((r.num * k : Int) : Rat) / ((r.den : Int) : Rat)) = r * (k : Rat) := by
  rw [prq_mk, Rat.mul_def']
  show mkRat (r.num * k) r.den = mkRat (r.num * k) (r.den * 1)
  rw [Nat.mul_one]
theorem rat_times (r : Rat) (x y : Int) : (((r.num * x : Int) : Rat) / (((r.den : Int) * y : Int) : Rat)) = r * ((x : Rat) / (y : Rat)) := by
  have e := rat_scale r x
  have e2 : ((((r.den : Int) * y : Int) : Rat)) = (((r.den : Int) : Rat)) * (y : Rat) := Rat.intCast_mul ..
  rw [e2, Rat.div_def, rat_inv_mul]
  rw [Rat.div_def] at e
  rw [Rat.div_def, ← Rat.mul_assoc, e, Rat.mul_assoc]
section
variable {P : Program} {w : World} {K : PySem.W.Frag} {mg : Str → Option Value} {base : Heap} {f : Addr} {fd : FuncData}
variable {te ta tb tl : TE} {σ : L2.St} {G : Hp}
theorem e_num {r : Rat} (h : Ev ta σ G (Pair (prq r))) : Ev (tOp (rIxT K) ta (tC (.int 0))) σ G (PI r.num) := e_fstI h
theorem e_den {r : Rat} (h : Ev ta σ G (Pair (prq r))) : Ev (tOp (rIxT K) ta (tC (.int 1))) σ G (PI (r.den : Int)) := e_sndI h
abbrev st_sum_of_two : Stmt := top 14
theorem sc_sum_of_two : FnScope ["one", "other"] ["one", "other"] (defScope st_sum_of_two) := ⟨rfl, rfl, rfl, by decide +kernel, rfl, by decide +kernel, by decide +kernel⟩
def sp_sum_of_two : Sp := spP (fun (x : Rat × Rat) => [Pair (prq x.1), Pair (prq x.2)]) (fun x => RSz 40000000 x.1 ∧ RSz 40000000 x.2) (fun x => Pair (prq (x.1 + x.2)))
theorem den_sz {B : Nat} {r : Rat} (h : RSz B r) : ((r.den : Int)).natAbs < 2 ^ B := by
  rw [Int.natAbs_natCast]
  exact h.2
theorem ok_sum_of_two (A : At K mg "sum_of_two" st_sum_of_two ["one", "other"] f fd) (D_lowest : Dfn P w K mg base CX0 42 "lowest" ["upper", "lower"] sp_lowest) : FnOk P w K mg base CX0 43 f fd ["one", "other"] sp_sum_of_two := by
  refine A.fn.ok sc_sum_of_two (sp_len fun _ => rfl) (fun cdv Ar outer s H vs Q E hr h => ⟨_,
    (pss_one (ps_ret (pe_def D_lowest (hr.mono (by decide)) (pa_cons (pe_op op_add (pe_op op_mulB (pe_ix (ix_tupK (K := K) rfl) (pv 0) pe_int (fun _ _ => rfl)) (pe_ix (ix_tupK (K := K) rfl) (pv 1) pe_int (fun _ _ => rfl))) (pe_op op_mulB (pe_ix (ix_tupK (K := K) rfl) (pv 1) pe_int (fun _ _ => rfl)) (pe_ix (ix_tupK (K := K) rfl) (pv 0) pe_int (fun _ _ => rfl)))) (pa_cons (pe_op op_mulB (pe_ix (ix_tupK (K := K) rfl) (pv 0) pe_int (fun _ _ => rfl)) (pe_ix (ix_tupK (K := K) rfl) (pv 1) pe_int (fun _ _ => rfl))) pa_nil))))), ?_⟩)
  obtain ⟨⟨r, q⟩, G, sG, al, ⟨h1, h2⟩, k⟩ := h
  dsimp only at h1 h2
  have d1 := r.den_nz
  have d2 := q.den_nz
  match vs, al with
  | [v1, v2], ⟨p1, p2, _⟩ =>
    refine s_ret (e_call (r.num * (q.den : Int) + q.num * (r.den : Int), (r.den : Int) * (q.den : Int)) (a_two ?_ ?_) ?_) sG fun v G2 H2 g2 p => k v G2 H2 g2 ?_
    · exact e_add (e_mul (e_num (e_var rfl p1)) (e_den (e_var rfl p2)) (mulB h1.1 (den_sz h2) (by omega))) (e_mul (e_num (e_var rfl p2)) (e_den (e_var rfl p1)) (mulB h2.1 (den_sz h1) (by omega)))
    · exact e_mul (e_den (e_var rfl p1)) (e_den (e_var rfl p2)) (mulB (den_sz h1) (den_sz h2) (by omega))
    · exact Int.mul_ne_zero (by omega) (by omega)
    · dsimp only at p
      rw [rat_add'] at p
      exact p
abbrev st_product_of_two : Stmt := top 15
theorem sc_product_of_two : FnScope ["one", "other"] ["one", "other"] (defScope st_product_of_two) := ⟨rfl, rfl, rfl, by decide +kernel, rfl, by decide +kernel, by decide +kernel⟩
def sp_product_of_two : Sp := spP (fun (x : Rat × Int × Int) => [Pair (prq x.1), Pair x.2]) (fun x => x.2.2 ≠ 0 ∧ RSz 40000000 x.1 ∧ x.2.1.natAbs < 2 ^ 40000000 ∧ x.2.2.natAbs < 2 ^ 40000000) (fun x => Pair (prq (x.1 * ((x.2.1 : Rat) / (x.2.2 : Rat)))))
theorem ok_product_of_two (A : At K mg "product_of_two" st_product_of_two ["one", "other"] f fd) (D_lowest : Dfn P w K mg base CX0 42 "lowest" ["upper", "lower"] sp_lowest) : FnOk P w K mg base CX0 43 f fd ["one", "other"] sp_product_of_two := by
  refine A.fn.ok sc_product_of_two (sp_len fun _ => rfl) (fun cdv Ar outer s H vs Q E hr h => ⟨_,
    (pss_one (ps_ret (pe_def D_lowest (hr.mono (by decide)) (pa_cons (pe_op op_mulB (pe_ix (ix_tupK (K := K) rfl) (pv 0) pe_int (fun _ _ => rfl)) (pe_ix (ix_tupK (K := K) rfl) (pv 1) pe_int (fun _ _ => rfl))) (pa_cons (pe_op op_mulB (pe_ix (ix_tupK (K := K) rfl) (pv 0) pe_int (fun _ _ => rfl)) (pe_ix (ix_tupK (K := K) rfl) (pv 1) pe_int (fun _ _ => rfl))) pa_nil))))), ?_⟩)
  obtain ⟨⟨r, x, y⟩, G, sG, al, ⟨h0, h1, h2, h3⟩, k⟩ := h
  dsimp only at h0 h1 h2 h3
  have d1 := r.den_nz
  match vs, al with
  | [v1, v2], ⟨p1, p2, _⟩ =>
    refine s_ret (e_call (r.num * x, (r.den : Int) * y) (a_two ?_ ?_) ?_) sG fun v G2 H2 g2 p => k v G2 H2 g2 ?_
    · exact e_mul (e_num (e_var rfl p1)) (e_fstI (q := (x, y)) (e_var rfl p2)) (mulB h1.1 h2 (by omega))
    · exact e_mul (e_den (e_var rfl p1)) (e_sndI (q := (x, y)) (e_var rfl p2)) (mulB (den_sz h1) h3 (by omega))
    · exact Int.mul_ne_zero (by omega) h0
    · dsimp only at p
      rw [rat_times] at p
      exact p
abbrev st_scaled_ratio : Stmt := top 16
theorem sc_scaled_ratio : FnScope ["ratio", "factor"] ["ratio", "factor"] (defScope st_scaled_ratio) := ⟨rfl, rfl, rfl, by decide +kernel, rfl, by decide +kernel, by decide +kernel⟩
def sp_scaled_ratio : Sp := spP (fun (x : Rat × Int) => [Pair (prq x.1), PI x.2]) (fun x => RSz 40000000 x.1 ∧ x.2.natAbs < 2 ^ 40000000) (fun x => Pair (prq (x.1 * (x.2 : Rat))))
theorem ok_scaled_ratio (A : At K mg "scaled_ratio" st_scaled_ratio ["ratio", "factor"] f fd) (D_lowest : Dfn P w K mg base CX0 42 "lowest" ["upper", "lower"] sp_lowest) : FnOk P w K mg base CX0 43 f fd ["ratio", "factor"] sp_scaled_ratio := by
  refine A.fn.ok sc_scaled_ratio (sp_len fun _ => rfl) (fun cdv Ar outer s H vs Q E hr h => ⟨_,
    (pss_one (ps_ret (pe_def D_lowest (hr.mono (by decide)) (pa_cons (pe_op op_mulB (pe_ix (ix_tupK (K := K) rfl) (pv 0) pe_int (fun _ _ => rfl)) (pv 1)) (pa_cons (pe_ix (ix_tupK (K := K) rfl) (pv 0) pe_int (fun _ _ => rfl)) pa_nil))))), ?_⟩)
  obtain ⟨⟨r, x⟩, G, sG, al, ⟨h1, h2⟩, k⟩ := h
  dsimp only at h1 h2
  have d1 := r.den_nz
  match vs, al with
  | [v1, _], ⟨p1, rfl, _⟩ =>
    refine s_ret (e_call (r.num * x, (r.den : Int)) (a_two ?_ ?_) ?_) sG fun v G2 H2 g2 p => k v G2 H2 g2 ?_
    · exact e_mul (e_num (e_var rfl p1)) (e_var rfl rfl) (mulB h1.1 h2 (by omega))
    · exact e_den (e_var rfl p1)
    · show (r.den : Int) ≠ 0
      omega
    · dsimp only at p
      rw [rat_scale] at p
      exact p
abbrev st_spread : Stmt := top 17
theorem sc_spread : FnScope ["ratios", "numbers", "ratio"] ["ratios"] (defScope st_spread) := ⟨rfl, rfl, rfl, by decide +kernel, rfl, by decide +kernel, by decide +kernel⟩
abbrev Ratios (l : List Rat) : Pr := Ls (fun r => Pair (prq r)) l
def flatQ (l : List Rat) : List Int := l.flatMap fun r => [r.num, (r.den : Int)]
def sp_spread : Sp := spP (fun (x : List Rat) => [Ratios x]) (fun x => x.length ≤ 1000) (fun x => Row (flatQ x))
theorem flatQ_len (l : List Rat) : (flatQ l).length = 2 * l.length := by
  induction l with
  | nil => rfl
  | cons x l ih =>
    show ([x.num, (x.den : Int)] ++ flatQ l).length = _
    rw [List.length_append, ih, List.length_cons]
    simp
    omega
theorem flatQ_snoc (l : List Rat) (r : Rat) : flatQ (l ++ [r]) = flatQ l ++ [r.num, (r.den : Int)] := by
  unfold flatQ
  rw [List.flatMap_append]
  rfl
theorem ok_spread (A : At K mg "spread" st_spread ["ratios"] f fd) : FnOk P w K mg base CX0 41 f fd ["ratios"] sp_spread := by
  refine A.fn.ok sc_spread (sp_len fun _ => rfl) (fun cdv Ar outer s H vs Q E hr h => ⟨_,
    (pss_cons (ps_set (i := 1) sc_spread.nd rfl (Or.inl rfl) (pe_lst pa_nil))
  (pss_cons (ps_for PassesOwn.never rfl (pi_list (pv 0)) (pg_name (i := 2) sc_spread.nd rfl (Or.inl rfl))
   (pss_cons (ps_expr (pe_bm PySem.F.plainAttrs_list PySem.F.slot_list_append PySem.F.type_list_append mt_append (pv 1) (pa_cons (pe_ix (ix_tupK (K := K) rfl) (pv 2) pe_int (fun _ _ => rfl)) pa_nil)))
  (pss_one (ps_expr (pe_bm PySem.F.plainAttrs_list PySem.F.slot_list_append PySem.F.type_list_append mt_append (pv 1) (pa_cons (pe_ix (ix_tupK (K := K) rfl) (pv 2) pe_int (fun _ _ => rfl)) pa_nil))))))
  (pss_one (ps_ret (pv 1))))), ?_⟩)
  obtain ⟨l, G, sG, al, hz, k⟩ := h
  match vs, al with
  | [v1], ⟨p1, _⟩ =>
    refine q_own (n_lst0 (p := PI)) sG fun L xs G1 H1 g1 hL gL hL1 al => ?_
    obtain rfl := ints_al al
    refine q_for (fun i σ Gi Hi => ∃ a : Option V, σ = [some v1, some (.ref L), a] ∧ Gr G H Gi Hi ∧ Gi L = none ∧ Hi L = some (.lst ((flatQ (l.take i)).map V.int))) (e_var (P := Ratios l) rfl (Mo.up g1.gg p1)) g1.gh
      (fun G2 H2 g2 => ⟨none, rfl, g1.trans g2, g2.fr L gL (by rw [hL1]; simp), g2.hh L _ hL1⟩) ?_ ?_
    · rintro G2 H2 i r v σ' Gi Hi g2 hx s1 s2 pr ⟨a, rfl, gi, giL, hiL⟩
      have hl : (flatQ (l.take i)).length ≤ 2 * l.length := by
        rw [flatQ_len, List.length_take]
        omega
      refine q_app (G := Gi) rfl hiL (by rw [List.length_map]; omega) (e_num (e_var rfl pr)) s2 fun w1 G3 H3 g3 e3 => ?_
      obtain rfl := e3
      have g3L : G3 L = none := g3.fr L giL (by rw [hiL]; simp)
      refine s_app (G := G3) rfl upd_same (by rw [List.length_append, List.length_map]; simp; omega) (e_den (e_var rfl (Mo.up g3.gg pr))) (same_put g3.gh g3L) fun w2 G4 H4 g4 e4 => ?_
      obtain rfl := e4
      have g4L : G4 L = none := g4.fr L g3L (by rw [upd_same]; simp)
      have gg : Gr G H G4 (upd H4 L (.lst ((flatQ (l.take i)).map V.int ++ [.int r.num] ++ [.int (r.den : Int)]))) := (((gi.trans g3).put hL g3L).trans g4).put hL g4L
      refine ⟨G4, same_trans (same_trans s1 g3.gg) g4.gg, gg.gh, some v, rfl, gg, g4L, ?_⟩
      rw [upd_same, take_more hx, flatQ_snoc, List.map_append, List.append_assoc]
      rfl
    · rintro G2 H2 σ' Gi Hi g2 s1 s2 ⟨a, rfl, gi, giL, hiL⟩
      rw [List.take_length] at hiL
      exact s_give (p := PI) rfl gi hL giL hiL (al_ints _) k
end
end Qa
set_option Elab.async false
set_option linter.all false
set_option maxRecDepth 100000
set_option maxHeartbeats 2000000
namespace Qa
open PySem PySem.Spec PyProof.Rows L2 Qm
open Vbhlae (at_ trim common plain chain plus times reduced smaller)
/-! ### == of lists of rows -/
def dRow (r : List Int) : PyData := .list (r.map PyData.int)
def dRows (rs : List (List Int)) : PyData := .list (rs.map dRow)
theorem lay_ints : ∀ r : List Int, PyData.canLayAll0 (r.map PyData.int) = true
  | [] => by simp [PyData.canLayAll0]
  | _ :: r => by simp [PyData.canLayAll0, PyData.canLay0, lay_ints r]
theorem lay_rows : ∀ rs : List (List Int), PyData.canLayAll0 (rs.map dRow) = true
  | [] => by simp [PyData.canLayAll0]
  | r :: rs => by simp [PyData.canLayAll0, dRow, PyData.canLay0, lay_ints r, lay_rows rs]
theorem depth_ints : ∀ r : List Int, PyData.depthAll (r.map PyData.int) ≤ 1
  | [] => by simp [PyData.depthAll]
  | _ :: r => by
    have := depth_ints r
    simp [PyData.depthAll, PyData.depth]
    omega
theorem depth_rows : ∀ rs : List (List Int), PyData.depthAll (rs.map dRow) ≤ 2
  | [] => by simp [PyData.depthAll]
  | r :: rs => by
    have h1 := depth_rows rs
    have h2 := depth_ints r
    simp only [List.map_cons, PyData.depthAll, dRow, PyData.depth]
    omega
theorem shaped_rows (rs : List (List Int)) : SeqAt.shaped (dRows rs) = true := by
  unfold SeqAt.shaped dRows
  have h1 := lay_rows rs
  have h2 := depth_rows rs
  refine Bool.and_eq_true_iff.mpr ⟨by simpa [PyData.canLay0] using h1, decide_eq_true ?_⟩
  simp only [PyData.depth]
  omega
theorem eqv_ints : ∀ a b : List Int, PyData.eqvAll (a.map PyData.int) (b.map PyData.int) = decide (a = b)
  | [], [] => by simp [PyData.eqvAll]
  | [], _ :: _ => by simp [PyData.eqvAll]
  | _ :: _, [] => by simp [PyData.eqvAll]
  | x :: a, y :: b => by
    simp only [List.map_cons, PyData.eqvAll, PyData.eqv, eqv_ints a b]
    by_cases h1 : x = y <;> by_cases h2 : a = b <;> simp [h1, h2]
theorem eqv_rows : ∀ a b : List (List Int), PyData.eqvAll (a.map dRow) (b.map dRow) = decide (a = b)
  | [], [] => by simp [PyData.eqvAll]
  | [], _ :: _ => by simp [PyData.eqvAll]
  | _ :: _, [] => by simp [PyData.eqvAll]
  | x :: a, y :: b => by
    simp only [List.map_cons, PyData.eqvAll, dRow, PyData.eqv, eqv_ints x y]
    rw [eqv_rows a b]
    by_cases h1 : x = y <;> by_cases h2 : a = b <;> simp [h1, h2]
theorem dp_ints {K : PySem.W.Frag} {H : Hp} : ∀ r : List Int, DpAll K H (r.map V.int) (r.map PyData.int)
  | [] => .nil
  | i :: r => .cons (.int i) (dp_ints r)
theorem dp_rows {K : PySem.W.Frag} {G H : Hp} (s : Same G H) : ∀ {rs : List (List Int)} {vs : List V}, Al (fun r v => Row r G v) rs vs → DpAll K H vs (rs.map dRow)
  | [], [], _ => .nil
  | r :: rs, v :: vs, ⟨h, t⟩ => by
    obtain ⟨a, rfl, e⟩ := row_at h
    exact .cons (.lst (SqL.of (s a _ e)) (dp_ints r)) (dp_rows s t)
  | [], _ :: _, x => x.elim
  | _ :: _, [], x => x.elim
section
variable {P : Program} {w : World} {K : PySem.W.Frag} {mg : Str → Option Value} {base : Heap} {f : Addr} {fd : FuncData}
variable {te ta tb tl : TE} {σ : L2.St} {G : Hp}
theorem e_eqRows {a b : List (List Int)} (ha : Ev ta σ G (Rows a)) (hb : Ev tb σ G (Rows b)) : Ev (tOp (rEqD K) ta tb) σ G (PB (decide (a = b))) :=
  e_two ha hb fun G2 H2 x y _ s2 ⟨p, xs, e1, h1, al1⟩ ⟨q, ys, e2, h2, al2⟩ Q k => by
    subst e1 e2
    refine ⟨dRows a, dRows b, .lst (SqL.of (s2 p _ h1)) (dp_rows s2 al1), .lst (SqL.of (s2 q _ h2)) (dp_rows s2 al2), shaped_rows a, shaped_rows b, k _ G2 H2 (.refl s2) (congrArg V.bl ?_)⟩
    show PyData.eqv (.list _) (.list _) = _
    simp only [PyData.eqv]
    exact eqv_rows a b
abbrev st_step_of : Stmt := top 26
theorem sc_step_of : FnScope ["row", "n", "first", "last", "i"] ["row"] (defScope st_step_of) := ⟨rfl, rfl, rfl, by decide +kernel, rfl, by decide +kernel, by decide +kernel⟩
def sp_step_of : Sp := spP (fun (x : List Int) => [Row x]) (fun x => 1 ≤ x.length ∧ x.length ≤ 1000 ∧ Sz 19000000 x) (fun x => ORow (stepOf x))
theorem ok_step_of (A : At K mg "step_of" st_step_of ["row"] f fd) (T : Txt mg) (D_plain : Dfn P w K mg base CX0 44 "plain" ["row"] sp_plain) : FnOk P w K mg base CX0 45 f fd ["row"] sp_step_of := by
  refine A.fn.ok sc_step_of (sp_len fun _ => rfl) (fun cdv Ar outer s H vs Q E hr h => ⟨_,
    (pss_cons (ps_set (i := 1) sc_step_of.nd rfl (Or.inr rfl) (pe_op op_sub (pe_callB (len_K (K := K) rfl) (by rfl) T.len (by decide +kernel) (pa_cons (pv 0) pa_nil)) pe_int))
  (pss_cons (ps_set (i := 2) sc_step_of.nd rfl (Or.inr rfl) (pe_ix (ix_listK (K := K) rfl) (pv 0) pe_int (fun _ _ => rfl)))
  (pss_cons (ps_set (i := 3) sc_step_of.nd rfl (Or.inr rfl) (pe_ix (ix_listK (K := K) rfl) (pv 0) (pv 1) (fun _ _ => rfl)))
  (pss_cons (ps_if (PW.pt (pw_or (pt_cmpR op_lt (pv 1) pe_int (nomark _)) (pw_or1 (pt_cmpR op_ge (pe_callB call_abs (by rfl) T.abs (by decide +kernel) (pa_cons (pv 3) pa_nil)) (pe_callB call_abs (by rfl) T.abs (by decide +kernel) (pa_cons (pv 2) pa_nil)) (nomark _))))) (pss_one (ps_ret pe_non)) pss_nil)
  (pss_one (ps_ret (pe_def D_plain (hr.mono (by decide)) (pa_cons (pe_lc (own := [("i", 4)]) rfl sc_step_of.nd (pi_range1 rfl T.range (pa_cons (pv 1) pa_nil)) (blkOk_by (N := ["row", "n", "first", "last", "i"]) (sc := defScope st_step_of) (by decide +kernel)) (fun _ _ _ _ _ => (pg_name (i := 4) sc_step_of.nd rfl (Or.inl rfl))) (fun _ _ _ _ _ => pts_nil) (fun _ _ _ _ _ => (pe_op op_sub (pe_op op_mulB (pv 2) (pe_ix (ix_listK (K := K) rfl) (pv 0) (pv 4) (fun _ _ => rfl))) (pe_op op_mulB (pv 3) (pe_ix (ix_listK (K := K) rfl) (pv 0) (pe_op op_sub (pv 1) (pv 4)) (fun _ _ => rfl)))))) pa_nil)))))))), ?_⟩)
  obtain ⟨r, G, sG, al, ⟨hl, hz, hB⟩, k⟩ := h
  match vs, al with
  | [v1], ⟨p1, _⟩ =>
    refine q_asg (e_sub (e_len (p := PI) (e_var rfl p1)) e_int) sG fun v G1 H1 g1 e => ?_
    obtain rfl := e
    have p1a : Row r G1 v1 := Mo.up g1.gg p1
    refine q_asg (P := PI (at_ r 0)) (e_ix (p := PI) (l := r) (e_var rfl p1a) e_int (row_get (i := 0) (by omega))) g1.gh fun v G2 H2 g2 e => ?_
    obtain rfl := e
    have p1b : Row r G2 v1 := Mo.up g2.gg p1a
    have en : ((r.length : Int) - 1) = ((r.length - 1 : Nat) : Int) := by omega
    refine q_asg (P := PI (at_ r (r.length - 1))) (e_ix (p := PI) (l := r) (e_var rfl p1b) (e_var rfl rfl) (by rw [en]; exact row_get (by omega))) g2.gh fun v G3 H3 g3 e => ?_
    obtain rfl := e
    have p1c : Row r G3 v1 := Mo.up g3.gg p1b
    refine q_when (t_or (t_test (e_lt (e_var rfl rfl) e_int)) fun _ => t_test (e_ge (e_abs (e_var rfl rfl)) (e_abs (e_var rfl rfl)))) g3.gh (fun hb G4 H4 g4 => ?_) (fun hb G4 H4 g4 => ?_)
    · have hs : stepOf r = none := by
        unfold stepOf
        simp only [Bool.or_eq_true, decide_eq_true_eq] at hb
        rw [if_pos (by omega)]
      refine s_ret e_non g4.gh fun v G5 H5 g5 p => k v G5 H5 ((((g1.trans g2).trans g3).trans g4).trans g5) ?_
      show ORow (stepOf r) G5 v
      rw [hs]
      exact p
    · simp only [Bool.or_eq_false_iff, decide_eq_false_iff_not] at hb
      have hs : stepOf r = some (plain (reduced r)) := by
        unfold stepOf
        rw [if_neg (by omega)]
      obtain ⟨s1, s2, _, _⟩ := stepOf_some hs
      have r0 := reduced_pos s1 s2
      refine s_ret (e_call (reduced r) (a_one (P := Row (reduced r)) ?_) ⟨by rw [reduced_len]; omega, by omega, hB.step.mono (by omega)⟩) g4.gh fun v G5 H5 g5 p => k v G5 H5 ((((g1.trans g2).trans g3).trans g4).trans g5) ?_
      · have er : reduced r = (List.range ((r.length : Int) - 1).toNat).map fun i => at_ r 0 * at_ r i - at_ r (r.length - 1) * at_ r (r.length - 1 - i) := by
          have : ((r.length : Int) - 1).toNat = r.length - 1 := by omega
          rw [this]
          rfl
        rw [er]
        refine e_lcR1 (q := PI) _ (e_var rfl rfl) (by omega) (fun _ => rfl) fun i G' hi sg => ?_
        have ei : ((r.length : Int) - 1 - (i : Int)) = ((r.length - 1 - i : Nat) : Int) := by omega
        have p1d : Row r G' v1 := Mo.up (same_trans g4.gg sg) p1c
        exact e_sub (e_mul (e_var rfl rfl) (e_ix (p := PI) (l := r) (e_var rfl p1d) (e_var rfl rfl) (row_get (by omega))) (mulB (hB.at 0) (hB.at i) (by omega)))
          (e_mul (e_var rfl rfl) (e_ix (p := PI) (l := r) (e_var rfl p1d) (e_sub (e_var rfl rfl) (e_var rfl rfl)) (by rw [ei]; exact row_get (by omega))) (mulB (hB.at _) (hB.at _) (by omega)))
      · show ORow (stepOf r) G5 v
        rw [hs]
        exact p
abbrev st_told_steps : Stmt := top 27
theorem sc_told_steps : FnScope ["row", "current", "steps", "following"] ["row"] (defScope st_told_steps) := ⟨rfl, rfl, rfl, by decide +kernel, rfl, by decide +kernel, by decide +kernel⟩
/-- a row that may be asked for its steps -/
def Askd (x : List Int) : Prop := at_ x 0 ≠ 0 ∧ x.length ≤ 12 ∧ Sz 128 x
def sp_told_steps : Sp := spP (fun (x : List Int) => [Row x]) Askd (fun x => Rows (tolds (plain x)))
theorem orow_some {o : Option (List Int)} {G : Hp} {v : V} (h : ORow o G v) : (!decide (v = V.non)) = o.isSome := by
  cases o with
  | none =>
    obtain rfl : v = .non := h
    rfl
  | some r =>
    obtain ⟨a, rfl, _⟩ := row_at h
    simp
/-- how great a row's numbers may be, by its length -/
def Bdd (r : List Int) : Prop := ∃ B, Sz B r ∧ (B + 1) * 2 ^ r.length ≤ 129 * 2 ^ 12
theorem Bdd.le {r : List Int} (h : Bdd r) (hl : 1 ≤ r.length) : Sz 600000 r := by
  obtain ⟨B, h1, h2⟩ := h
  refine h1.mono ?_
  have : 2 ≤ 2 ^ r.length := Nat.le_trans (by decide : 2 ≤ 2 ^ 1) (Nat.pow_le_pow_right (by decide) hl)
  have : (B + 1) * 2 ≤ (B + 1) * 2 ^ r.length := Nat.mul_le_mul_left _ this
  omega
theorem Bdd.next {p q : List Int} (h : Bdd p) (e : stepOf p = some q) : Bdd q := by
  obtain ⟨B, h1, h2⟩ := h
  obtain ⟨_, _, _, hl⟩ := stepOf_some e
  refine ⟨2 * B + 1, h1.stepOf e, ?_⟩
  have h3 : 2 ^ q.length * 2 ≤ 2 ^ p.length := by
    rw [← Nat.pow_succ]
    exact Nat.pow_le_pow_right (by decide) hl
  have h4 : (2 * B + 1 + 1) * 2 ^ q.length = (B + 1) * (2 ^ q.length * 2) := by
    rw [show 2 * B + 1 + 1 = (B + 1) * 2 by omega, Nat.mul_assoc, Nat.mul_comm 2]
  rw [h4]
  exact Nat.le_trans (Nat.mul_le_mul_left _ h3) h2
theorem Askd.bdd {x : List Int} (h : Askd x) : Bdd (plain x) := by
  refine ⟨128, h.2.2.plain, ?_⟩
  have := plain_length_le x
  have h2 := h.2.1
  exact Nat.mul_le_mul_left 129 (Nat.pow_le_pow_right (by decide) (by omega))
theorem ok_told_steps (A : At K mg "told_steps" st_told_steps ["row"] f fd) (D_plain : Dfn P w K mg base CX0 44 "plain" ["row"] sp_plain) (D_step_of : Dfn P w K mg base CX0 45 "step_of" ["row"] sp_step_of) : FnOk P w K mg base CX0 46 f fd ["row"] sp_told_steps := by
  refine A.fn.ok sc_told_steps (sp_len fun _ => rfl) (fun cdv Ar outer s H vs Q E hr h => ⟨_,
    (pss_cons (ps_set (i := 1) sc_told_steps.nd rfl (Or.inl rfl) (pe_def D_plain (hr.mono (by decide)) (pa_cons (pv 0) pa_nil)))
  (pss_cons (ps_set (i := 2) sc_told_steps.nd rfl (Or.inl rfl) (pe_lst (pa_cons (pv 1) pa_nil)))
  (pss_cons (ps_set (i := 3) sc_told_steps.nd rfl (Or.inl rfl) (pe_def D_step_of (hr.mono (by decide)) (pa_cons (pv 1) pa_nil)))
  (pss_cons (ps_while PassesOwn.never (pt_cmpR op_notN (pv 3) pe_non (nomark _))
   (pss_cons (ps_expr (pe_bm PySem.F.plainAttrs_list PySem.F.slot_list_append PySem.F.type_list_append mt_append (pv 2) (pa_cons (pv 3) pa_nil)))
  (pss_one (ps_set (i := 3) sc_told_steps.nd rfl (Or.inl rfl) (pe_def D_step_of (hr.mono (by decide)) (pa_cons (pv 3) pa_nil))))))
  (pss_one (ps_ret (pv 2))))))), ?_⟩)
  obtain ⟨x, G, sG, al, ha, k⟩ := h
  obtain ⟨h0, hl, hB⟩ := id ha
  have hp := plain_is h0
  have hpl := plain_pos_len hp
  have hpx := plain_length_le x
  match vs, al with
  | [v1], ⟨p1, _⟩ =>
    refine q_asg (e_call x (a_one (e_var rfl p1)) ⟨by omega, h0, hB.mono (by omega)⟩) sG fun v2 G1 H1 g1 p2 => ?_
    refine q_own (n_lst1 (p := fun r => Row r) (x := plain x) (e_var rfl p2)) g1.gh fun L xs G2 H2 g2 hL gL hL2 al2 => ?_
    have b0 := (ha.bdd.le (by omega)).mono (show 600000 ≤ 19000000 by omega)
    refine q_asg (e_call (plain x) (a_one (P := Row (plain x)) (e_var rfl (Mo.up g2.gg p2))) ⟨by omega, by omega, b0⟩) g2.gh fun v3 G3 H3 g3 p3 => ?_
    have hL0 : H L = none := gone g1.hh hL
    refine q_while (fun m σ Gi Hi => ∃ (cur : List Int) (acc : List (List Int)) (v : V) (xs : List V), σ = [some v1, some v2, some (.ref L), some v] ∧ ORow (stepOf cur) Gi v ∧ Bdd cur ∧ 1 ≤ cur.length ∧ cur.length ≤ 12 ∧ m = (match stepOf cur with | none => 0 | some q => q.length) ∧
        acc ++ (match stepOf cur with | none => [] | some q => tolds q) = tolds (plain x) ∧ acc.length + cur.length ≤ 20 ∧ Gr G H Gi Hi ∧ Gi L = none ∧ Hi L = some (.lst xs) ∧ Al (fun r v => Row r Gi v) acc xs)
      _ g3.gh ⟨plain x, [plain x], v3, xs, rfl, p3, ha.bdd, by omega, by omega, rfl, ?_, by simp; omega, (g1.trans g2).trans g3, g3.fr L gL (by rw [hL2]; simp), g3.hh L _ hL2, al2.imp fun r v z => Mo.up (P := Row r) g3.gg z⟩ ?_
    · cases e : stepOf (plain x) with
      | none =>
        rw [tolds_none e]
        rfl
      | some q =>
        rw [tolds_some e]
        rfl
    · rintro m σ' Gi Hi si ⟨cur, acc, v, xs, rfl, pv, hb, l1, l2, rfl, htl, hlen, gi, giL, hiL, ali⟩
      refine ⟨_, t_test (e_notN (P := ORow (stepOf cur)) (e_var rfl pv) fun G2 v h => orow_some h), fun hs G4 H4 g4 => ?_, fun hs G4 H4 g4 => ?_⟩
      · cases e : stepOf cur with
        | none =>
          rw [e] at hs
          cases hs
        | some q =>
          rw [e] at pv htl
          have pq : Row q Gi v := pv
          have g4L : G4 L = none := g4.fr L giL (by rw [hiL]; simp)
          have hq := stepOf_some e
          have hqp := plain_pos_len (stepOf_plain e)
          refine q_app (G := G4) (P := Row q) rfl (g4.hh L _ hiL) (by rw [ali.length]; omega) (e_var rfl (Mo.up g4.gg pq)) g4.gh fun v5 G5 H5 g5 p5 => ?_
          have g5L : G5 L = none := g5.fr L g4L (by rw [g4.hh L _ hiL]; simp)
          have sz := ((hb.next e).le (by omega)).mono (show 600000 ≤ 19000000 by omega)
          refine s_asg (e_call q (a_one (P := Row q) (e_var rfl (Mo.up (same_trans g4.gg g5.gg) pq))) ⟨by omega, by omega, sz⟩) (same_put g5.gh g5L) fun v6 G6 H6 g6 p6 => ?_
          have gg : Gr G H G6 H6 := (((gi.trans g4).trans g5).put hL0 g5L).trans g6
          have g6L : G6 L = none := g6.fr L g5L (by rw [upd_same]; simp)
          refine ⟨_, G6, ?_, g6.gh, q, acc ++ [q], v6, xs ++ [v5], rfl, p6, hb.next e, by omega, by omega, rfl, ?_, by simp; omega, gg, g6L, g6.hh L _ upd_same, ?_⟩
          · show (match stepOf q with | none => 0 | some z => z.length) < q.length
            cases e2 : stepOf q with
            | none => exact hqp
            | some z => exact (stepOf_some e2).2.2.2
          · rw [← htl, List.append_assoc]
            congr 1
            show _ = tolds q
            cases e2 : stepOf q with
            | none =>
              rw [tolds_none e2]
              rfl
            | some z =>
              rw [tolds_some e2]
              rfl
          · have s46 := same_trans (same_trans g4.gg g5.gg) g6.gg
            exact (ali.imp fun r v z => Mo.up (P := Row r) s46 z).append (al_one (p := fun r v => Row r G6 v) (Mo.up g6.gg p5))
      · cases e : stepOf cur with
        | some q =>
          rw [e] at hs
          cases hs
        | none =>
          rw [e, List.append_nil] at htl
          have g4L : G4 L = none := g4.fr L giL (by rw [hiL]; simp)
          replace k : ∀ (v : V) (G2 H2 : Hp), Gr G H G2 H2 → Rows (tolds (plain x)) G2 v → Q v H2 := k
          rw [← htl] at k
          exact s_give (p := fun r => Row r) rfl (gi.trans g4) hL0 g4L (g4.hh L _ hiL) (ali.imp fun r v z => Mo.up (P := Row r) g4.gg z) k
abbrev st_come_to_one_number : Stmt := top 28
theorem sc_come_to_one_number : FnScope ["steps"] ["steps"] (defScope st_come_to_one_number) := ⟨rfl, rfl, rfl, by decide +kernel, rfl, by decide +kernel, by decide +kernel⟩
def sp_come_to_one_number : Sp := spP (fun (x : List (List Int)) => [Rows x]) (fun x => x ≠ []) (fun x => PB (x.getLast?.any fun r => r.length == 1))
theorem ok_come_to_one_number (A : At K mg "come_to_one_number" st_come_to_one_number ["steps"] f fd) (T : Txt mg) : FnOk P w K mg base CX0 41 f fd ["steps"] sp_come_to_one_number := by
  refine A.fn.ok sc_come_to_one_number (sp_len fun _ => rfl) (fun cdv Ar outer s H vs Q E hr h => ⟨_,
    (pss_one (ps_ret (pe_cmpR op_eq (pe_callB (len_K (K := K) rfl) (by rfl) T.len (by decide +kernel) (pa_cons (pe_ix (ix_listK (K := K) rfl) (pv 0) (pe_un un_neg pe_int) (fun _ _ => rfl)) pa_nil)) pe_int (nomark _)))), ?_⟩)
  obtain ⟨x, G, sG, al, h0, k⟩ := h
  match vs, al with
  | [v1], ⟨p1, _⟩ =>
    have hl : 0 < x.length := List.length_pos_iff.mpr h0
    obtain ⟨r, hr⟩ : ∃ r, x[x.length - 1]? = some r := ⟨x[x.length - 1]'(by omega), by rw [List.getElem?_eq_getElem]⟩
    have e : x.getLast? = some r := by rw [List.getLast?_eq_getElem?, hr]
    refine s_ret (e_eq (e_len (p := PI) (l := r) (e_ix (p := fun r => Row r) (l := x) (e_var rfl p1) (e_neg e_int) (atI_end hr))) e_int) sG fun v G2 H2 g2 p => k v G2 H2 g2 ?_
    show PB (x.getLast?.any fun r => r.length == 1) G2 v
    rw [e]
    have e2 : decide ((r.length : Int) = 1) = (r.length == 1) := by
      by_cases h1 : r.length = 1
      · simp [h1]
      · have : ¬ (r.length : Int) = 1 := by omega
        simp [h1, this]
    rw [e2] at p
    exact p
abbrev st_is_quiet : Stmt := top 29
theorem sc_is_quiet : FnScope ["row"] ["row"] (defScope st_is_quiet) := ⟨rfl, rfl, rfl, by decide +kernel, rfl, by decide +kernel, by decide +kernel⟩
def sp_is_quiet : Sp := spP (fun (x : List Int) => [Row x]) Askd (fun x => PB (Vbhlae.quiet x))
theorem quiet_of {x : List Int} (h : at_ x 0 ≠ 0) : Vbhlae.quiet x = ((tolds (plain x)).getLast?.any fun r => r.length == 1) := by
  rw [quiet_downs, decide_eq_true h, Bool.true_and]
  rfl
theorem ok_is_quiet (A : At K mg "is_quiet" st_is_quiet ["row"] f fd) (D_told_steps : Dfn P w K mg base CX0 46 "told_steps" ["row"] sp_told_steps) (D_come_to_one_number : Dfn P w K mg base CX0 41 "come_to_one_number" ["steps"] sp_come_to_one_number) : FnOk P w K mg base CX0 47 f fd ["row"] sp_is_quiet := by
  refine A.fn.ok sc_is_quiet (sp_len fun _ => rfl) (fun cdv Ar outer s H vs Q E hr h => ⟨_,
    (pss_one (ps_ret (pe_def D_come_to_one_number (hr.mono (by decide)) (pa_cons (pe_def D_told_steps (hr.mono (by decide)) (pa_cons (pv 0) pa_nil)) pa_nil)))), ?_⟩)
  obtain ⟨x, G, sG, al, h0, k⟩ := h
  match vs, al with
  | [v1], ⟨p1, _⟩ =>
    refine s_ret (e_call (tolds (plain x)) (a_one (P := Rows (tolds (plain x))) (e_call x (a_one (e_var rfl p1)) h0)) (tolds_ne _)) sG fun v G2 H2 g2 p => k v G2 H2 g2 ?_
    show PB (Vbhlae.quiet x) G2 v
    rw [quiet_of h0.1]
    exact p
abbrev st_is_proof : Stmt := top 30
theorem sc_is_proof : FnScope ["rows", "row", "steps", "given"] ["rows", "row"] (defScope st_is_proof) := ⟨rfl, rfl, rfl, by decide +kernel, rfl, by decide +kernel, by decide +kernel⟩
def sp_is_proof : Sp := spP (fun (x : List (List Int) × List Int) => [Rows x.1, Row x.2]) (fun x => Askd x.2 ∧ x.1.length ≤ 1000 ∧ ∀ r ∈ x.1, r.length ≤ 1000) (fun x => PB (Vbhlae.isProof (plain x.2) x.1))
theorem ok_is_proof (A : At K mg "is_proof" st_is_proof ["rows", "row"] f fd) (D_told_steps : Dfn P w K mg base CX0 46 "told_steps" ["row"] sp_told_steps) (D_come_to_one_number : Dfn P w K mg base CX0 41 "come_to_one_number" ["steps"] sp_come_to_one_number)
    (D_reduced : Dfn P w K mg base CX0 43 "reduced" ["row"] sp_reduced) : FnOk P w K mg base CX0 47 f fd ["rows", "row"] sp_is_proof := by
  refine A.fn.ok sc_is_proof (sp_len fun _ => rfl) (fun cdv Ar outer s H vs Q E hr h => ⟨_,
    (pss_cons (ps_set (i := 2) sc_is_proof.nd rfl (Or.inl rfl) (pe_def D_told_steps (hr.mono (by decide)) (pa_cons (pv 1) pa_nil)))
  (pss_one (ps_ret (pe_and (pe_def D_come_to_one_number (hr.mono (by decide)) (pa_cons (pv 2) pa_nil)) (pe_one (pe_cmpR (op_eqD hr.units) (pe_lc (own := [("given", 3)]) rfl sc_is_proof.nd (pi_list (pv 0)) (blkOk_by (N := ["rows", "row", "steps", "given"]) (sc := defScope st_is_proof) (by decide +kernel)) (fun _ _ _ _ _ => (pg_name (i := 3) sc_is_proof.nd rfl (Or.inl rfl))) (fun _ _ _ _ _ => pts_nil) (fun _ _ _ _ _ => (pe_def D_reduced (hr.mono (by decide)) (pa_cons (pv 3) pa_nil)))) (pv 2) (nomark _))))))), ?_⟩)
  obtain ⟨⟨rows, x⟩, G, sG, al, ⟨h0, h1, h2⟩, k⟩ := h
  dsimp only at h0 h1 h2
  match vs, al with
  | [v1, v2], ⟨p1, p2, _⟩ =>
    refine q_asg (e_call x (a_one (e_var rfl p2)) h0) sG fun v3 G1 H1 g1 p3 => ?_
    refine s_ret (P := PB ((((tolds (plain x)).getLast?.any fun r => r.length == 1)) && decide (rows.map redu = tolds (plain x)))) ?_ g1.gh fun v G2 H2 g2 p => k v G2 H2 (g1.trans g2) ?_
    · refine e_andV (e_call (tolds (plain x)) (a_one (P := Rows (tolds (plain x))) (e_var rfl p3)) (tolds_ne _)) fun _ => ?_
      refine e_eqRows ?_ (e_var rfl p3)
      refine e_lc (p := fun r => Row r) (q := fun r => Row r) redu (e_var rfl (Mo.up (P := Rows rows) g1.gg p1)) (by omega) (fun _ => rfl) fun i r v G' hr sg pr => ?_
      exact e_call r (a_one (P := Row r) (e_var rfl pr)) (h2 r (List.mem_of_getElem? hr))
    · show PB (Vbhlae.isProof (plain x) rows) G2 v
      have hp := plain_is h0.1
      have e := isProof_iff rows (plain x) hp.pos
      rw [plain_plain hp] at e
      have e2 : Vbhlae.isProof (plain x) rows = (((tolds (plain x)).getLast?.any fun r => r.length == 1) && decide (rows.map redu = tolds (plain x))) := by
        rw [Bool.eq_iff_iff, e, Bool.and_eq_true, decide_eq_true_eq]
        rfl
      rw [e2]
      exact p
end
end Qa
set_option Elab.async false
set_option linter.all false
set_option maxRecDepth 100000
set_option maxHeartbeats 2000000
namespace Qa
open PySem PySem.Spec PyProof.Rows L2 Qm
open Vbhlae (at_ rowsIn)
theorem rowsIn_fuel : ∀ (f g : Nat) (l : List Int), l.length < f → l.length < g → rowsIn f l = rowsIn g l
  | f + 1, g + 1, [], _, _ => rfl
  | f + 1, g + 1, n :: r, hf, hg => by
    show (if n < 1 ∨ (r.length : Int) < n then none else (rowsIn f (r.drop n.toNat)).map fun l => r.take n.toNat :: l) = (if n < 1 ∨ (r.length : Int) < n then none else (rowsIn g (r.drop n.toNat)).map fun l => r.take n.toNat :: l)
    simp only [List.length_cons] at hf hg
    rw [rowsIn_fuel f g (r.drop n.toNat) (by rw [List.length_drop]; omega) (by rw [List.length_drop]; omega)]
/-- rows out of a list -/
def ri (l : List Int) : Option (List (List Int)) := rowsIn (l.length + 1) l
theorem ri_nil : ri [] = some [] := rfl
theorem ri_cons (n : Int) (r : List Int) : ri (n :: r) = if n < 1 ∨ (r.length : Int) < n then none else (ri (r.drop n.toNat)).map fun l => r.take n.toNat :: l := by
  show (if n < 1 ∨ (r.length : Int) < n then none else (rowsIn (n :: r).length (r.drop n.toNat)).map fun l => r.take n.toNat :: l) = _
  unfold ri
  rw [rowsIn_fuel (n :: r).length ((r.drop n.toNat).length + 1) (r.drop n.toNat) (by rw [List.length_drop, List.length_cons]; omega) (by omega)]
theorem ri_at {l : List Int} {p : Nat} {n : Int} (h : l[p]? = some n) : ri (l.drop p) = if n < 1 ∨ (l.length : Int) < (p : Int) + 1 + n then none else (ri (l.drop (p + 1 + n.toNat))).map fun rs => (l.drop (p + 1)).take n.toNat :: rs := by
  have hp := (List.getElem?_eq_some_iff.mp h).1
  have e : l.drop p = n :: l.drop (p + 1) := by
    rw [List.drop_eq_getElem_cons hp]
    rw [List.getElem?_eq_getElem hp] at h
    rw [Option.some.inj h]
  rw [e, ri_cons, List.drop_drop, List.length_drop]
  by_cases hc : n < 1 ∨ (l.length : Int) < (p : Int) + 1 + n
  · rw [if_pos hc, if_pos (by omega)]
  · rw [if_neg hc, if_neg (by omega)]
section
variable {P : Program} {w : World} {K : PySem.W.Frag} {mg : Str → Option Value} {base : Heap} {f : Addr} {fd : FuncData}
theorem cut_mid {α : Type} (l : List α) (a b : Nat) (h : b ≤ l.length) : cut l (some (a : Int)) (some (b : Int)) = (l.drop a).take (b - a) := by
  unfold cut
  rw [HT.sIx_nat, HT.sIx_nat, Nat.min_eq_left h]
  by_cases h2 : a ≤ l.length
  · rw [Nat.min_eq_left h2]
  · rw [Nat.min_eq_right (by omega), List.drop_eq_nil_of_le (Nat.le_refl _), List.drop_eq_nil_of_le (by omega)]
    simp
abbrev st_rows_told_in : Stmt := top 31
theorem sc_rows_told_in : FnScope ["numbers", "rows", "place", "size", "end"] ["numbers"] (defScope st_rows_told_in) := ⟨rfl, rfl, rfl, by decide +kernel, rfl, by decide +kernel, by decide +kernel⟩
def sp_rows_told_in : Sp := spP (fun (x : List Int) => [Row x]) (fun x => x.length ≤ 1000) (fun x => Rows ((ri x).getD []))
theorem ok_rows_told_in (A : At K mg "rows_told_in" st_rows_told_in ["numbers"] f fd) (T : Txt mg) : FnOk P w K mg base CX0 41 f fd ["numbers"] sp_rows_told_in := by
  refine A.fn.ok sc_rows_told_in (sp_len fun _ => rfl) (fun cdv Ar outer s H vs Q E hr h => ⟨_,
    (pss_cons (ps_set (i := 1) sc_rows_told_in.nd rfl (Or.inl rfl) (pe_lst pa_nil))
  (pss_cons (ps_set (i := 2) sc_rows_told_in.nd rfl (Or.inl rfl) pe_int)
  (pss_cons (ps_while PassesOwn.never (pt_cmpR op_lt (pv 2) (pe_callB (len_K (K := K) rfl) (by rfl) T.len (by decide +kernel) (pa_cons (pv 0) pa_nil)) (nomark _))
   (pss_cons (ps_set (i := 3) sc_rows_told_in.nd rfl (Or.inl rfl) (pe_ix (ix_listK (K := K) rfl) (pv 0) (pv 2) (fun _ _ => rfl)))
  (pss_cons (ps_set (i := 4) sc_rows_told_in.nd rfl (Or.inl rfl) (pe_op op_add (pe_op op_add (pv 2) pe_int) (pv 3)))
  (pss_cons (ps_if (PW.pt (pw_or (pt_cmpR op_lt (pv 3) pe_int (nomark _)) (pw_or1 (pt_cmpR op_gt (pv 4) (pe_callB (len_K (K := K) rfl) (by rfl) T.len (by decide +kernel) (pa_cons (pv 0) pa_nil)) (nomark _))))) (pss_one (ps_ret (pe_lst pa_nil))) pss_nil)
  (pss_cons (ps_expr (pe_bm PySem.F.plainAttrs_list PySem.F.slot_list_append PySem.F.type_list_append mt_append (pv 1) (pa_cons (pe_slice (sl_listK (K := K) rfl) (pv 0) (po_some (pe_op op_add (pv 2) pe_int)) (po_some (pv 4))) pa_nil)))
  (pss_one (ps_set (i := 2) sc_rows_told_in.nd rfl (Or.inl rfl) (pv 4))))))))
  (pss_one (ps_ret (pv 1)))))), ?_⟩)
  obtain ⟨l, G, sG, al, hz, k⟩ := h
  match vs, al with
  | [v1], ⟨p1, _⟩ =>
    refine q_own (n_lst0 (p := fun r => Row r)) sG fun L xs G1 H1 g1 hL gL hL1 al1 => ?_
    refine q_asg (e_int (i := 0)) g1.gh fun v G2 H2 g2 e => ?_
    obtain rfl := e
    refine q_while (fun m σ Gi Hi => ∃ (p : Nat) (acc : List (List Int)) (xs : List V) (a b : Option V), σ = [some v1, some (.ref L), some (.int (p : Nat)), a, b] ∧ p ≤ l.length ∧ m = l.length - p ∧ acc.length ≤ p ∧ ri l = (ri (l.drop p)).map (acc ++ ·) ∧ Gr G H Gi Hi ∧ Gi L = none ∧ Hi L = some (.lst xs) ∧ Al (fun r v => Row r Gi v) acc xs)
      l.length g2.gh ⟨0, [], xs, none, none, rfl, Nat.zero_le _, by omega, Nat.le_refl _, ?_, g1.trans g2, g2.fr L gL (by rw [hL1]; simp), g2.hh L _ hL1, al1.imp fun r v z => Mo.up (P := Row r) g2.gg z⟩ ?_
    · rw [List.drop_zero]
      cases ri l <;> rfl
    · rintro m σ' Gi Hi si ⟨p, acc, xs, a, b, rfl, hp, rfl, hac, hri, gi, giL, hiL, ali⟩
      have q1 : Row l Gi v1 := Mo.up gi.gg p1
      refine ⟨_, t_test (e_lt (e_var rfl rfl) (e_len (p := PI) (l := l) (e_var rfl q1))), fun hb G3 H3 g3 => ?_, fun hb G3 H3 g3 => ?_⟩
      · have hpl : p < l.length := by
          have : (p : Int) < (l.length : Int) := by simpa using hb
          omega
        have hat := get_at (a := l) hpl
        refine q_asg (P := PI (at_ l p)) (e_ix (p := PI) (l := l) (e_var rfl (Mo.up g3.gg q1)) (e_var rfl rfl) (row_get hpl)) g3.gh fun v G4 H4 g4 e => ?_
        obtain rfl := e
        refine q_asg (e_add (e_add (e_var rfl rfl) e_int) (e_var rfl rfl)) g4.gh fun v G5 H5 g5 e => ?_
        obtain rfl := e
        have s35 := same_trans (same_trans g3.gg g4.gg) g5.gg
        have q5 : Row l G5 v1 := Mo.up s35 q1
        have gg5 := ((gi.trans g3).trans g4).trans g5
        have g5L : G5 L = none := g5.fr L (g4.fr L (g3.fr L giL (by rw [hiL]; simp)) (by rw [g3.hh L _ hiL]; simp)) (by rw [g4.hh L _ (g3.hh L _ hiL)]; simp)
        have h5L := g5.hh L _ (g4.hh L _ (g3.hh L _ hiL))
        have hri2 := ri_at hat
        refine q_when (t_or (t_test (e_lt (e_var rfl rfl) e_int)) fun _ => t_test (e_gt (e_var rfl rfl) (e_len (p := PI) (l := l) (e_var rfl q5)))) g5.gh (fun hc G6 H6 g6 => ?_) (fun hc G6 H6 g6 => ?_)
        · simp only [Bool.or_eq_true, decide_eq_true_eq] at hc
          rw [if_pos (by omega)] at hri2
          rw [hri2] at hri
          refine s_ret (e_lst0 (p := fun r => Row r)) g6.gh fun v G7 H7 g7 p7 => k v G7 H7 ((gg5.trans g6).trans g7) ?_
          show Rows ((ri l).getD []) G7 v
          rw [hri]
          exact p7
        · simp only [Bool.or_eq_false_iff, decide_eq_false_iff_not] at hc
          rw [if_neg (by omega)] at hri2
          have g6L : G6 L = none := g6.fr L g5L (by rw [h5L]; simp)
          have e1 : ((p : Int) + 1) = ((p + 1 : Nat) : Int) := by omega
          have e2 : ((p : Int) + 1 + at_ l p) = ((p + 1 + (at_ l p).toNat : Nat) : Int) := by omega
          refine q_app (G := G6) (P := Row ((l.drop (p + 1)).take (at_ l p).toNat)) rfl (g6.hh L _ h5L) (by rw [ali.length]; omega) (e_toR (e_cut (p := PI) (l := l) (e_var rfl (Mo.up g6.gg q5)) (o_some (e_add (e_var rfl rfl) e_int)) (o_some (e_var rfl rfl))) ?_) g6.gh fun v7 G7 H7 g7 p7 => ?_
          · rw [e2, e1, cut_mid _ _ _ (by omega)]
            congr 1
            omega
          have g7L : G7 L = none := g7.fr L g6L (by rw [g6.hh L _ h5L]; simp)
          refine s_asg (P := PI ((p : Int) + 1 + at_ l p)) (e_var rfl rfl) (same_put g7.gh g7L) fun v8 G8 H8 g8 p8 => ?_
          obtain rfl := p8
          have gg : Gr G H G8 H8 := (((gg5.trans g6).trans g7).put hL g7L).trans g8
          refine ⟨l.length - (p + 1 + (at_ l p).toNat), G8, by omega, g8.gh, p + 1 + (at_ l p).toNat, acc ++ [(l.drop (p + 1)).take (at_ l p).toNat], xs ++ [v7], some (.int (at_ l p)), some (.int ((p : Int) + 1 + at_ l p)), ?_, by omega, rfl, by simp; omega, ?_, gg, g8.fr L g7L (by rw [upd_same]; simp), g8.hh L _ upd_same, ?_⟩
          · show [some v1, some (.ref L), some (V.int ((p : Int) + 1 + at_ l p)), _, _] = _
            rw [e2]
          · rw [hri, hri2, Option.map_map]
            congr 1
            funext rs
            simp
          · have s58 := same_trans (same_trans (same_trans s35 g6.gg) g7.gg) g8.gg
            exact (ali.imp fun r v z => Mo.up (P := Row r) s58 z).append (al_one (p := fun r v => Row r G8 v) (Mo.up g8.gg p7))
      · have hpl : p = l.length := by
          have : ¬ (p : Int) < (l.length : Int) := by simpa using hb
          omega
        rw [hpl, List.drop_length, ri_nil] at hri
        have e : (ri l).getD [] = acc := by
          rw [hri]
          simp
        replace k : ∀ (v : V) (G2 H2 : Hp), Gr G H G2 H2 → Rows ((ri l).getD []) G2 v → Q v H2 := k
        rw [e] at k
        exact s_give (p := fun r => Row r) rfl (gi.trans g3) hL (g3.fr L giL (by rw [hiL]; simp)) (g3.hh L _ hiL) (ali.imp fun r v z => Mo.up (P := Row r) g3.gg z) k
end
end Qa
set_option Elab.async false
set_option linter.all false
set_option maxRecDepth 100000
set_option maxHeartbeats 2000000
namespace Qa
open PySem PySem.Spec PyProof.Rows L2 Qm
open Vbhlae (at_ trim common plain chain plus times reduced smaller)
def pw (a : Int) : Nat → Int
  | 0 => 1
  | n + 1 => pw a n * a
theorem pw_ne {a : Int} (h : a ≠ 0) : ∀ n, pw a n ≠ 0
  | 0 => by show (1 : Int) ≠ 0; decide
  | n + 1 => Int.mul_ne_zero (pw_ne h n) h
theorem pw_sz {a : Int} {B : Nat} (h : a.natAbs < 2 ^ B) : ∀ n, (pw a n).natAbs < 2 ^ (B * n + 1)
  | 0 => by
    rw [Nat.mul_zero]
    show (1 : Nat) < 2 ^ (0 + 1)
    decide
  | n + 1 => by
    show (pw a n * a).natAbs < _
    rw [Int.natAbs_mul, show B * (n + 1) + 1 = (B * n + 1) + B by rw [Nat.mul_succ]; omega, Nat.pow_add]
    exact Nat.mul_lt_mul'' (pw_sz h n) h
section
variable {P : Program} {w : World} {K : PySem.W.Frag} {mg : Str → Option Value} {base : Heap} {f : Addr} {fd : FuncData}
variable {te ta tb tl : TE} {σ : L2.St} {G : Hp}
abbrev st_weighed : Stmt := top 19
theorem sc_weighed : FnScope ["row", "start", "values", "t", "i"] ["row", "start", "values", "t"] (defScope st_weighed) := ⟨rfl, rfl, rfl, by decide +kernel, rfl, by decide +kernel, by decide +kernel⟩
def sp_weighed : Sp := spP (fun (x : List Int × Nat × List Int × Nat) => [Row x.1, PI (x.2.1 : Int), Row x.2.2.1, PI (x.2.2.2 : Int)])
  (fun x => x.1.length ≤ 1000 ∧ x.2.1 ≤ 1000 ∧ x.2.2.1.length ≤ 1000 ∧ x.2.2.2 < x.2.2.1.length + x.2.1 ∧ ∃ B, Sz B x.1 ∧ Sz B x.2.2.1 ∧ B ≤ 40000000) (fun x => PI (weigh x.1 x.2.1 x.2.2.1 x.2.2.2))
theorem a_four {t1 t2 t3 t4 : TE} {P1 P2 P3 P4 : Pr} [Mo P1] [Mo P2] [Mo P3] [Mo P4] (h1 : Ev t1 σ G P1) (h2 : Ev t2 σ G P2) (h3 : Ev t3 σ G P3) (h4 : Ev t4 σ G P4) : EvA (tCons t1 (tCons t2 (tCons t3 (tCons t4 tNil)))) σ G [P1, P2, P3, P4] :=
  a_cons ⟨inferInstance, inferInstance, inferInstance, trivial⟩ h1 (a_cons ⟨inferInstance, inferInstance, trivial⟩ h2 (a_two h3 h4))
theorem ok_weighed (A : At K mg "weighed" st_weighed ["row", "start", "values", "t"] f fd) (T : Txt mg) : FnOk P w K mg base CX0 41 f fd ["row", "start", "values", "t"] sp_weighed := by
  refine A.fn.ok sc_weighed (sp_len fun _ => rfl) (fun cdv Ar outer s H vs Q E hr h => ⟨_,
    (pss_one (ps_ret (pe_callB (sum_K (K := K) rfl rfl) (by rfl) T.sum (by decide +kernel) (pa_cons (pe_lc (own := [("i", 4)]) rfl sc_weighed.nd (pi_range2 rfl T.range (pa_cons (pv 1) (pa_cons (pe_callB (call_min2 rfl) (by rfl) T.min (by decide +kernel) (pa_cons (pe_callB (len_K (K := K) rfl) (by rfl) T.len (by decide +kernel) (pa_cons (pv 0) pa_nil)) (pa_cons (pe_op op_add (pv 3) pe_int) pa_nil))) pa_nil))) (blkOk_by (N := ["row", "start", "values", "t", "i"]) (sc := defScope st_weighed) (by decide +kernel)) (fun _ _ _ _ _ => (pg_name (i := 4) sc_weighed.nd rfl (Or.inl rfl))) (fun _ _ _ _ _ => pts_nil) (fun _ _ _ _ _ => (pe_op op_mulB (pe_ix (ix_listK (K := K) rfl) (pv 0) (pv 4) (fun _ _ => rfl)) (pe_ix (ix_listK (K := K) rfl) (pv 2) (pe_op op_sub (pv 3) (pv 4)) (fun _ _ => rfl))))) pa_nil)))), ?_⟩)
  obtain ⟨⟨row, start, values, t⟩, G, sG, al, ⟨z1, z2, z3, ht, B, hB1, hB2, hB⟩, k⟩ := h
  dsimp only at z1 z2 z3 ht hB1 hB2
  match vs, al with
  | [v1, _, v3, _], ⟨p1, rfl, p3, rfl, _⟩ =>
    dsimp only at p1 p3
    refine s_ret (P := PI (weigh row start values t)) (e_sum (r := (List.range (min row.length (t + 1) - start)).map fun k => at_ row (start + k) * at_ values (t - (start + k))) ?_) sG k
    have e : min row.length (t + 1) - start = (min (row.length : Int) ((t : Int) + 1) - (start : Int)).toNat := by omega
    rw [e]
    refine e_lcR2 (q := PI) (lo := (start : Int)) (hi := min (row.length : Int) ((t : Int) + 1)) _ (e_var rfl rfl) (e_min (e_len (p := PI) (l := row) (e_var rfl p1)) (e_add (e_var rfl rfl) e_int)) (by omega) (fun _ => rfl) fun i G' hi sg => ?_
    have h1 : start + i < row.length := by omega
    have h2 : start + i ≤ t := by omega
    have e1 : ((start : Int) + (i : Int)) = ((start + i : Nat) : Int) := by omega
    have e2 : ((t : Int) - ((start : Int) + (i : Int))) = ((t - (start + i) : Nat) : Int) := by omega
    exact e_mul (e_ix (p := PI) (l := row) (e_var rfl (Mo.up sg p1)) (e_var rfl rfl) (by rw [e1]; exact row_get h1)) (e_ix (p := PI) (l := values) (e_var rfl (Mo.up sg p3)) (e_sub (e_var rfl rfl) (e_var rfl rfl)) (by rw [e2]; exact row_get (by omega))) (mulB (hB1.at _) (hB2.at _) (by omega))
abbrev st_answers_to : Stmt := top 20
theorem sc_answers_to : FnScope ["upper", "lower", "inputs", "first", "tops", "bottom", "ratios", "t", "top", "earlier"] ["upper", "lower", "inputs"] (defScope st_answers_to) := ⟨rfl, rfl, rfl, by decide +kernel, rfl, by decide +kernel, by decide +kernel⟩
def inR (l : List Int) : List Rat := l.map fun x : Int => (x : Rat)
def sp_answers_to : Sp := spP (fun (x : List Int × List Int × List Int) => [Row x.1, Row x.2.1, Row x.2.2])
  (fun x => at_ x.2.1 0 ≠ 0 ∧ x.1.length ≤ 16 ∧ x.2.1.length ≤ 16 ∧ x.2.2.length ≤ 16 ∧ Sz 128 x.1 ∧ Sz 128 x.2.1 ∧ Sz 128 x.2.2) (fun x => Ratios (playR x.1 x.2.1 [] [] (inR x.2.2)))
theorem len_pos_at {r : List Int} (h : at_ r 0 ≠ 0) : 0 < r.length := by
  rcases Nat.eq_zero_or_pos r.length with z | z
  · rw [at_out (by omega)] at h
    exact absurd rfl h
  · exact z
theorem ok_answers_to (A : At K mg "answers_to" st_answers_to ["upper", "lower", "inputs"] f fd) (T : Txt mg) (D_weighed : Dfn P w K mg base CX0 41 "weighed" ["row", "start", "values", "t"] sp_weighed)
    (D_lowest : Dfn P w K mg base CX0 42 "lowest" ["upper", "lower"] sp_lowest) : FnOk P w K mg base CX0 43 f fd ["upper", "lower", "inputs"] sp_answers_to := by
  refine A.fn.ok sc_answers_to (sp_len fun _ => rfl) (fun cdv Ar outer s H vs Q E hr h => ⟨_,
    (pss_cons (ps_set (i := 3) sc_answers_to.nd rfl (Or.inr rfl) (pe_ix (ix_listK (K := K) rfl) (pv 1) pe_int (fun _ _ => rfl)))
  (pss_cons (ps_set (i := 4) sc_answers_to.nd rfl (Or.inl rfl) (pe_lst pa_nil))
  (pss_cons (ps_set (i := 5) sc_answers_to.nd rfl (Or.inl rfl) pe_int)
  (pss_cons (ps_set (i := 6) sc_answers_to.nd rfl (Or.inl rfl) (pe_lst pa_nil))
  (pss_cons (ps_for PassesOwn.never rfl (pi_range1 rfl T.range (pa_cons (pe_callB (len_K (K := K) rfl) (by rfl) T.len (by decide +kernel) (pa_cons (pv 2) pa_nil)) pa_nil)) (pg_name (i := 7) sc_answers_to.nd rfl (Or.inl rfl))
   (pss_cons (ps_set (i := 8) sc_answers_to.nd rfl (Or.inl rfl) (pe_op op_sub (pe_op op_mulB (pv 5) (pe_def D_weighed (hr.mono (by decide)) (pa_cons (pv 0) (pa_cons pe_int (pa_cons (pv 2) (pa_cons (pv 7) pa_nil)))))) (pe_def D_weighed (hr.mono (by decide)) (pa_cons (pv 1) (pa_cons pe_int (pa_cons (pv 4) (pa_cons (pv 7) pa_nil)))))))
  (pss_cons (ps_set (i := 5) sc_answers_to.nd rfl (Or.inl rfl) (pe_op op_mulB (pv 5) (pv 3)))
  (pss_cons (ps_set (i := 4) sc_answers_to.nd rfl (Or.inl rfl) (pe_op op_cat (pe_lc (own := [("earlier", 9)]) rfl sc_answers_to.nd (pi_list (pv 4)) (blkOk_by (N := ["upper", "lower", "inputs", "first", "tops", "bottom", "ratios", "t", "top", "earlier"]) (sc := defScope st_answers_to) (by decide +kernel)) (fun _ _ _ _ _ => (pg_name (i := 9) sc_answers_to.nd rfl (Or.inl rfl))) (fun _ _ _ _ _ => pts_nil) (fun _ _ _ _ _ => (pe_op op_mulB (pv 3) (pv 9)))) (pe_lst (pa_cons (pv 8) pa_nil))))
  (pss_one (ps_expr (pe_bm PySem.F.plainAttrs_list PySem.F.slot_list_append PySem.F.type_list_append mt_append (pv 6) (pa_cons (pe_def D_lowest (hr.mono (by decide)) (pa_cons (pv 8) (pa_cons (pv 5) pa_nil))) pa_nil))))))))
  (pss_one (ps_ret (pv 6)))))))), ?_⟩)
  obtain ⟨⟨up, low, xs⟩, G, sG, al, ⟨h0, z1, z2, z3, b1, b2, b3⟩, k⟩ := h
  dsimp only at h0 z1 z2 z3 b1 b2 b3
  replace k : ∀ (v : V) (G2 H2 : Hp), Gr G H G2 H2 → Ratios (playR up low [] [] (inR xs)) G2 v → Q v H2 := k
  generalize hys : playR up low [] [] (inR xs) = ys at k
  have hyl : ys.length = xs.length := by
    rw [← hys, playR_len]
    simp [inR]
  match vs, al with
  | [v1, v2, v3], ⟨p1, p2, p3, _⟩ =>
    dsimp only at p1 p2 p3
    refine q_asg (P := PI (at_ low 0)) (e_ix (p := PI) (l := low) (e_var rfl p2) e_int (row_get (len_pos_at h0))) sG fun v G1 H1 g1 e => ?_
    obtain rfl := e
    refine q_asg (P := Row []) (e_lst0 (p := PI)) g1.gh fun v4 G2 H2 g2 p4 => ?_
    refine q_asg (e_int (i := 1)) g2.gh fun v G3 H3 g3 e => ?_
    obtain rfl := e
    refine q_own (n_lst0 (p := fun r => Pair (prq r))) g3.gh fun L es G4 H4 g4 hL gL hL4 al4 => ?_
    have hL0 : H L = none := gone ((g1.trans g2).trans g3).hh hL
    have g04 := ((g1.trans g2).trans g3).trans g4
    refine q_forR (fun t σ Gi Hi => ∃ (tops : List Int) (vt : V) (a b c : Option V) (es : List V), σ = [some v1, some v2, some v3, some (.int (at_ low 0)), some vt, some (.int (pw (at_ low 0) t)), some (.ref L), a, b, c] ∧ Row tops Gi vt ∧ tops.length = t ∧ t ≤ xs.length ∧
        (∀ i, i < t → (at_ tops i : Rat) = ys.getD i 0 * (pw (at_ low 0) t : Rat)) ∧ Sz (150 * t + 200) tops ∧ Gr G H Gi Hi ∧ Gi L = none ∧ Hi L = some (.lst es) ∧ Al (fun r v => Pair (prq r) Gi v) (ys.take t) es)
      (e_len (p := PI) (l := xs) (e_var rfl (Mo.up g04.gg p3))) (by omega) g4.gh
      (fun G5 H5 g5 => ⟨[], v4, none, none, none, es, rfl, Mo.up (same_trans (same_trans g3.gg g4.gg) g5.gg) p4, rfl, Nat.zero_le _, (fun i hi => by omega), (fun x hx => by cases hx), g04.trans g5, g5.fr L gL (by rw [hL4]; simp), g5.hh L _ hL4, al4.imp fun r v z => Mo.up (P := Pair (prq r)) g5.gg z⟩) ?_ ?_
    · rintro G5 H5 t σ' Gi Hi g5 ht s1 s2 ⟨tops, vt, a, b, c, es, rfl, pt, rfl, htl, htop, hsz, gi, giL, hiL, ali⟩
      have htx : tops.length < xs.length := by omega
      have q1 : Row up Gi v1 := Mo.up gi.gg p1
      have q2 : Row low Gi v2 := Mo.up gi.gg p2
      have q3 : Row xs Gi v3 := Mo.up gi.gg p3
      have bw : (weigh up 0 xs tops.length).natAbs < 2 ^ (128 + 128 + 4) := weigh_sz b1 b3 z1 _ _
      have bp := pw_sz (b2.at 0) tops.length
      have bo : (weigh low 1 tops tops.length).natAbs < 2 ^ (128 + (150 * tops.length + 200) + 4) := weigh_sz b2 hsz z2 _ _
      refine q_asg (P := PI (pw (at_ low 0) tops.length * weigh up 0 xs tops.length - weigh low 1 tops tops.length)) (e_sub (e_mul (e_var rfl rfl) (e_call (up, 0, xs, tops.length) (a_four (P1 := Row up) (P3 := Row xs) (e_var rfl q1) e_int (e_var rfl q3) (e_var rfl rfl)) ?_) ?_) (e_call (low, 1, tops, tops.length) (a_four (P1 := Row low) (P3 := Row tops) (e_var rfl q2) e_int (e_var rfl pt) (e_var rfl rfl)) ?_)) s2 fun v6 G6 H6 g6 e6 => ?_
      · exact ⟨by dsimp only; omega, by dsimp only; omega, by dsimp only; omega, by dsimp only; omega, 128, b1, b3, by omega⟩
      · exact mulB bp bw (by omega)
      · exact ⟨by dsimp only; omega, by dsimp only; omega, by dsimp only; omega, by dsimp only; omega, 150 * tops.length + 200, b2.mono (by omega), hsz, by omega⟩
      obtain rfl := e6
      generalize htp : pw (at_ low 0) tops.length * weigh up 0 xs tops.length - weigh low 1 tops tops.length = tp
      -- what is true of it
      have hy : ys[tops.length]? = some (nextR up low (((inR xs).take (tops.length + 1)).reverse ++ []) ((ys.take tops.length).reverse ++ [])) := by
        rw [← hys]
        exact playR_at up low (inR xs) [] [] tops.length (by simp [inR]; omega)
      obtain ⟨y, hyy⟩ : ∃ y, ys[tops.length]? = some y := ⟨_, hy⟩
      have hyv : y = nextR up low ((inR xs).take (tops.length + 1)).reverse (ys.take tops.length).reverse := by
        rw [hyy] at hy
        rw [Option.some.inj hy, List.append_nil, List.append_nil]
      have hyd : ys.getD tops.length 0 = y := by
        rw [List.getD_eq_getElem?_getD, hyy]
        rfl
      have hlt : (ys.take tops.length).length = tops.length := by
        rw [List.length_take]
        omega
      have lowR : (at_ low 0 : Rat) ≠ 0 := fun z => h0 (Rat.intCast_inj.mp z)
      have hq : (tp : Rat) = y * (pw (at_ low 0) (tops.length + 1) : Rat) := by
        have e1 := heard_eq up xs htx
        have e2 := own_eq low (ys.take tops.length) tops (pw (at_ low 0) tops.length : Rat) hlt.symm (fun i hi => by
          rw [hlt] at hi
          rw [getD_take _ _ _ hi]
          exact htop i hi)
        rw [hlt] at e2
        have e3 : (tp : Rat) = (pw (at_ low 0) tops.length : Rat) * (weigh up 0 xs tops.length : Rat) - (weigh low 1 tops tops.length : Rat) := by
          rw [← htp, Rat.intCast_sub, Rat.intCast_mul]
        have e4 : (pw (at_ low 0) (tops.length + 1) : Rat) = (pw (at_ low 0) tops.length : Rat) * (at_ low 0 : Rat) := Rat.intCast_mul ..
        rw [e3, e4, hyv]
        unfold nextR
        rw [← e2, ← e1]
        have i0 := Rat.mul_inv_cancel _ lowR
        simp only [Rat.div_def]
        unfold inR
        grind
      have tpsz : tp.natAbs < 2 ^ (150 * (tops.length + 1) + 200) := by
        rw [← htp]
        have m1 : (pw (at_ low 0) tops.length * weigh up 0 xs tops.length).natAbs < 2 ^ (150 * tops.length + 349) := by
          rw [Int.natAbs_mul]
          refine Nat.lt_of_lt_of_le (Nat.mul_lt_mul'' bp bw) ?_
          rw [← Nat.pow_add]
          exact Nat.pow_le_pow_right (by decide) (by omega)
        have m2 : (weigh low 1 tops tops.length).natAbs < 2 ^ (150 * tops.length + 349) := Nat.lt_of_lt_of_le bo (Nat.pow_le_pow_right (by decide) (by omega))
        have m3 : 2 ^ (150 * (tops.length + 1) + 200) = 2 ^ (150 * tops.length + 349) * 2 := by
          rw [← Nat.pow_succ]
          congr 1
        omega
      refine q_asg (P := PI (pw (at_ low 0) (tops.length + 1))) (e_mul (e_var rfl rfl) (e_var rfl rfl) (mulB bp (b2.at 0) (by omega))) g6.gh fun v7 G7 H7 g7 e7 => ?_
      obtain rfl := e7
      have s17 := same_trans g6.gg g7.gg
      refine q_asg (P := Row (tops.map (at_ low 0 * ·) ++ [tp])) (e_cat (p := PI) (l := tops.map (at_ low 0 * ·)) (m := [tp]) (e_lc (p := PI) (q := PI) (at_ low 0 * ·) (e_var (P := Row tops) rfl (Mo.up s17 pt)) (by omega) (fun _ => rfl) ?_) (e_lst1 (p := PI) (e_var rfl rfl)) ?_) g7.gh fun v8 G8 H8 g8 p8 => ?_
      · exact fun i x v G' hx sg px => e_mul (e_var rfl rfl) (e_var rfl px) (mulB (b2.at 0) (hsz x (List.mem_of_getElem? hx)) (by omega))
      · rw [List.length_map]
        simp
        omega
      have g8L : G8 L = none := g8.fr L (g7.fr L (g6.fr L giL (by rw [hiL]; simp)) (by rw [g6.hh L _ hiL]; simp)) (by rw [g7.hh L _ (g6.hh L _ hiL)]; simp)
      have h8L := g8.hh L _ (g7.hh L _ (g6.hh L _ hiL))
      have pne := pw_ne h0 (tops.length + 1)
      refine s_app (G := G8) (P := Pair (prq y)) rfl h8L (by rw [ali.length, hlt]; omega) ?_ g8.gh fun v9 G9 H9 g9 p9 => ?_
      · have e : (tp : Rat) / (pw (at_ low 0) (tops.length + 1) : Rat) = y := by
          have : (pw (at_ low 0) (tops.length + 1) : Rat) ≠ 0 := fun z => pne (Rat.intCast_inj.mp z)
          rw [hq, Rat.div_def, Rat.mul_assoc, Rat.mul_inv_cancel _ this, Rat.mul_one]
        have := e_call (As := fun (x : Int × Int) => [PI x.1, PI x.2]) (pre := fun x => x.2 ≠ 0) (R := fun x => Pair (prq ((x.1 : Rat) / (x.2 : Rat)))) (E := E0) (σ := [some v1, some v2, some v3, some (.int (at_ low 0)), some v8, some (.int (pw (at_ low 0) (tops.length + 1))), some (.ref L), some (.int (tops.length : Int)), some (.int tp), c]) (G := G8) (ta := tCons (tVar 8) (tCons (tVar 5) tNil)) (tp, pw (at_ low 0) (tops.length + 1)) (a_two (e_var rfl rfl) (e_var rfl rfl)) pne
        dsimp only at this
        rw [e] at this
        exact this
      · have g9L : G9 L = none := g9.fr L g8L (by rw [h8L]; simp)
        have gg : Gr G H G9 (upd H9 L (.lst (es ++ [v9]))) := ((((gi.trans g6).trans g7).trans g8).trans g9).put hL0 g9L
        have s69 := same_trans (same_trans s17 g8.gg) g9.gg
        refine ⟨G9, same_trans s1 s69, gg.gh, tops.map (at_ low 0 * ·) ++ [tp], v8, some (.int (tops.length : Int)), some (.int tp), c, es ++ [v9], rfl, Mo.up g9.gg p8, by simp, by omega, ?_, ?_, gg, g9L, upd_same, ?_⟩
        · intro i hi
          have e4 : (pw (at_ low 0) (tops.length + 1) : Rat) = (pw (at_ low 0) tops.length : Rat) * (at_ low 0 : Rat) := Rat.intCast_mul ..
          by_cases hi2 : i < tops.length
          · rw [at_app_l (by rw [List.length_map]; exact hi2), at_map (by simp), Rat.intCast_mul, htop i hi2, e4]
            grind
          · have : i = tops.length := by omega
            subst this
            rw [at_app_r (by rw [List.length_map]; exact Nat.le_refl _), List.length_map, Nat.sub_self, hyd, ← hq]
            rfl
        · intro x hx
          rcases List.mem_append.mp hx with hx | hx
          · obtain ⟨y2, hy2, rfl⟩ := List.mem_map.mp hx
            rw [Int.natAbs_mul]
            refine Nat.lt_of_lt_of_le (Nat.mul_lt_mul'' (b2.at 0) (hsz y2 hy2)) ?_
            rw [← Nat.pow_add]
            exact Nat.pow_le_pow_right (by decide) (by omega)
          · obtain rfl : x = tp := by simpa using hx
            exact tpsz
        · rw [take_more hyy]
          exact (ali.imp fun r v z => Mo.up (P := Pair (prq r)) s69 z).append (al_one (p := fun r v => Pair (prq r) G9 v) p9)
    · rintro G5 H5 σ' Gi Hi g5 s1 s2 ⟨tops, vt, a, b, c, es, rfl, pt, htl, _, htop, hsz, gi, giL, hiL, ali⟩
      have e : ys.take (xs.length : Int).toNat = ys := by
        rw [Int.toNat_natCast, ← hyl, List.take_length]
      rw [e] at ali
      exact s_give (p := fun r => Pair (prq r)) rfl gi hL0 giL hiL ali k
end
end Qa
set_option Elab.async false
set_option linter.all false
set_option maxRecDepth 100000
set_option maxHeartbeats 4000000
namespace Qa
open PySem PySem.Spec PyProof.Rows L2 Qm
open Vbhlae (at_ trim common plain chain plus times reduced smaller quiet)
/-! ### how great -/
theorem lt_mul {a b A B : Nat} (h1 : a < 2 ^ A) (h2 : b < 2 ^ B) : a * b < 2 ^ (A + B) := by
  rw [Nat.pow_add]
  exact Nat.mul_lt_mul'' h1 h2
theorem rsz_times {A B : Nat} {r : Rat} {x y : Int} (h : RSz A r) (hx : x.natAbs < 2 ^ B) (hy : y.natAbs < 2 ^ B) (h0 : y ≠ 0) : RSz (A + B) (r * ((x : Rat) / (y : Rat))) := by
  rw [← rat_times]
  have := r.den_nz
  refine rsz_div (by rw [Int.natAbs_mul]; exact lt_mul h.1 hx) (by rw [Int.natAbs_mul, Int.natAbs_natCast]; exact lt_mul h.2 hy) (Int.mul_ne_zero (by omega) h0)
theorem rsz_scale {A B : Nat} {r : Rat} {x : Int} (h : RSz A r) (hx : x.natAbs < 2 ^ B) : RSz (A + B) (r * (x : Rat)) := by
  rw [← rat_scale]
  have := r.den_nz
  refine rsz_div (by rw [Int.natAbs_mul]; exact lt_mul h.1 hx) (by rw [Int.natAbs_natCast]; exact Nat.lt_of_lt_of_le h.2 (Nat.pow_le_pow_right (by decide) (by omega))) (by omega)
theorem rsz_add {A B : Nat} {r s : Rat} (h1 : RSz A r) (h2 : RSz B s) : RSz (A + B + 1) (r + s) := by
  rw [← rat_add']
  have d1 := r.den_nz
  have d2 := s.den_nz
  have m1 := lt_mul h1.1 h2.2
  have m2 := lt_mul h2.1 h1.2
  have m3 := lt_mul h1.2 h2.2
  have e : 2 ^ (A + B + 1) = 2 ^ (A + B) * 2 := Nat.pow_succ ..
  rw [Nat.add_comm B A] at m2
  refine rsz_div ?_ ?_ (Int.mul_ne_zero (by omega) (by omega))
  · have a1 : (r.num * (s.den : Int)).natAbs < 2 ^ (A + B) := by
      rw [Int.natAbs_mul, Int.natAbs_natCast]
      exact m1
    have a2 : (s.num * (r.den : Int)).natAbs < 2 ^ (A + B) := by
      rw [Int.natAbs_mul, Int.natAbs_natCast]
      exact m2
    omega
  · rw [Int.natAbs_mul, Int.natAbs_natCast, Int.natAbs_natCast]
    omega
/-! ### one turn -/
/-- the rows of one number fewer -/
def lte (b a : List Int) : List Int := (List.range (b.length - 1)).map fun i => at_ a 0 * at_ b i - at_ b (b.length - 1) * at_ a (b.length - 1 - i)
theorem lte_self (a : List Int) : lte a a = reduced a := rfl
theorem lte_len (b a : List Int) : (lte b a).length = b.length - 1 := by simp [lte]
theorem at_lte {b a : List Int} {i : Nat} (h : i < b.length - 1) : at_ (lte b a) i = at_ a 0 * at_ b i - at_ b (b.length - 1) * at_ a (b.length - 1 - i) := at_range h
theorem Sz.lte {B : Nat} {a b : List Int} (ha : Sz B a) (hb : Sz B b) : Sz (2 * B + 1) (lte b a) := by
  intro x hx
  unfold Qa.lte at hx
  obtain ⟨i, _, rfl⟩ := List.mem_map.mp hx
  have m1 := lt_mul (ha.at 0) (hb.at i)
  have m2 := lt_mul (hb.at (b.length - 1)) (ha.at (b.length - 1 - i))
  rw [← Int.natAbs_mul] at m1 m2
  have e : 2 ^ (2 * B + 1) = 2 ^ (B + B) * 2 := by rw [← Nat.pow_succ, ← Nat.two_mul]
  rw [e]
  show (at_ a 0 * at_ b i - at_ b (b.length - 1) * at_ a (b.length - 1 - i)).natAbs < _
  omega
/-- how loud, for rows of one length -/
def restL (a b : List Int) : Rat := if a.length = 0 then 0 else loudR (a.length - 1) (fun i => (at_ a i : Rat)) (fun i => (at_ b i : Rat))
/-- a row divided by its greatest common divisor, its zeros kept -/
def dvd (r : List Int) : List Int := r.map (·.fdiv (common r : Int))
theorem dvd_len (r : List Int) : (dvd r).length = r.length := by simp [dvd]
theorem at_dvd (r : List Int) (i : Nat) : at_ r i = (common r : Int) * at_ (dvd r) i := by
  by_cases h : i < r.length
  · have e : at_ (dvd r) i = (at_ r i).fdiv (common r : Int) := at_get (by unfold dvd; rw [List.getElem?_map, get_at h]; rfl)
    rw [e, Int.fdiv_eq_ediv_of_nonneg _ (Int.natCast_nonneg _)]
    exact (Int.mul_ediv_cancel' (common_dvd (at_mem h))).symm
  · rw [at_out (by omega), at_out (by rw [dvd_len]; omega), Int.mul_zero]
theorem Sz.dvd {B : Nat} {r : List Int} (h : Sz B r) : Sz B (dvd r) := by
  intro x hx
  obtain ⟨i, hi, rfl⟩ := List.getElem_of_mem hx
  have e : at_ (Qa.dvd r) i = (Qa.dvd r)[i] := at_get (List.getElem?_eq_getElem hi)
  rw [← e]
  have h1 := h.at i
  have h2 := at_dvd r i
  rcases Nat.eq_zero_or_pos (common r) with z | z
  · have : at_ (Qa.dvd r) i = 0 := by
      unfold Qa.dvd
      rw [z]
      have : (r.map fun x => x.fdiv ((0 : Nat) : Int)) = r.map fun _ => 0 := List.map_congr_left fun x _ => by simp
      rw [this]
      by_cases hi : i < r.length
      · exact at_get (by rw [List.getElem?_map, get_at hi]; rfl)
      · exact at_out (by simpa using hi)
    rw [this]
    exact Nat.two_pow_pos B
  · rw [h2, Int.natAbs_mul, Int.natAbs_natCast] at h1
    have : (at_ (Qa.dvd r) i).natAbs ≤ common r * (at_ (Qa.dvd r) i).natAbs := Nat.le_mul_of_pos_left _ z
    omega
theorem common_sz {B : Nat} {r : List Int} {x : Int} (h : Sz B r) (hx : x ∈ r) (h0 : x ≠ 0) : ((common r : Int)).natAbs < 2 ^ B := by
  rw [Int.natAbs_natCast]
  have h1 := h x hx
  have : common r ≤ x.natAbs := Nat.le_of_dvd (by omega) ((foldl_gcd_dvd r 0).2 x hx)
  omega
theorem ne_cast {x : Int} (h : x ≠ 0) : (x : Rat) ≠ 0 := fun z => h (Rat.intCast_inj.mp z)
/-- **one turn**: total and weight go on alike -/
theorem turn_eq {a b : List Int} (hl : b.length = a.length) (hp : 0 < a.length) (hq : quiet a = true) (hb : common b ≠ 0) (total weight : Rat) :
    let a1 := dvd a
    let b1 := dvd b
    let w1 := weight * ((((common b : Int) * (common b : Int) : Int) : Rat) / (((common a : Int) * (common a : Int) * (at_ a1 0 * at_ a1 0) : Int) : Rat))
    total + weight * restL a b = (total + w1 * ((at_ b1 (b.length - 1) * at_ b1 (b.length - 1) : Int) : Rat)) + (w1 * ((at_ a1 0 * at_ a1 0 - at_ a1 (a.length - 1) * at_ a1 (a.length - 1) : Int) : Rat)) * restL (lte a1 a1) (lte b1 a1) := by
  intro a1 b1 w1
  have qa := hq
  rw [quiet_downs, Bool.and_eq_true] at hq
  have a0 : at_ a 0 ≠ 0 := of_decide_eq_true hq.1
  have ca : (common a : Int) ≠ 0 := fun z => a0 (by rw [at_dvd a 0, z, Int.zero_mul])
  have cb : (common b : Int) ≠ 0 := by omega
  have a10 : at_ a1 0 ≠ 0 := fun z => a0 (by rw [at_dvd a 0, z, Int.mul_zero])
  have rca := ne_cast ca
  have rcb := ne_cast cb
  have ra := ne_cast a10
  have la1 : a1.length = a.length := dvd_len a
  have lb1 : b1.length = b.length := dvd_len b
  have e0 : restL a b = (((common b : Int) : Rat) * ((common b : Int) : Rat)) / (((common a : Int) : Rat) * ((common a : Int) : Rat)) * loudR (a.length - 1) (fun i => (at_ a1 i : Rat)) (fun i => (at_ b1 i : Rat)) := by
    unfold restL
    rw [if_neg (by omega), ← loudR_scale _ _ _ _ rca]
    refine loudR_congr (fun i _ => ?_) (fun i _ => ?_)
    · rw [at_dvd a i, Rat.intCast_mul]
    · rw [at_dvd b i, Rat.intCast_mul]
  have iw := Rat.mul_inv_cancel _ ra
  have ia := Rat.mul_inv_cancel _ rca
  have ib := Rat.mul_inv_cancel _ rcb
  have ew : w1 = weight * (((common b : Int) : Rat) * ((common b : Int) : Rat) * ((((common a : Int) : Rat) * ((common a : Int) : Rat))⁻¹ * ((at_ a1 0 : Rat) * (at_ a1 0 : Rat))⁻¹)) := by
    show weight * _ = _
    rw [Rat.intCast_mul, Rat.intCast_mul, Rat.intCast_mul, Rat.intCast_mul, Rat.div_def, rat_inv_mul]
  by_cases h1 : a.length = 1
  · have r0 : restL (lte a1 a1) (lte b1 a1) = 0 := by
      unfold restL
      rw [if_pos (by rw [lte_len]; omega)]
    rw [r0, e0, ew, h1, hl, h1]
    show total + weight * (_ * (lou 0 _ _ / _)) = _
    unfold lou
    rw [Rat.intCast_mul]
    simp only [Rat.div_def, rat_inv_mul, Nat.sub_self]
    grind
  · obtain ⟨n, hn⟩ : ∃ n, a.length = n + 2 := ⟨a.length - 2, by omega⟩
    have q1 : quiet a1 = true := by
      rw [← quiet_scale (s := a) ca a10 (at_dvd a)]
      exact qa
    obtain ⟨s1, s2⟩ := quiet_step q1 (by omega)
    have d0 := sq_lt ((smaller_iff a1).mp s1)
    have dz : ((at_ a1 0 : Rat) * (at_ a1 0 : Rat) - (at_ a1 (n + 1) : Rat) * (at_ a1 (n + 1) : Rat)) ≠ 0 := by
      have := ne_cast (show at_ a1 0 * at_ a1 0 - at_ a1 (a1.length - 1) * at_ a1 (a1.length - 1) ≠ 0 by omega)
      rw [la1, hn, Rat.intCast_sub, Rat.intCast_mul, Rat.intCast_mul] at this
      exact this
    have st := loudR_step (n := n) (a := fun i => (at_ a1 i : Rat)) (b := fun i => (at_ b1 i : Rat)) ra dz
    have e5 : restL (lte a1 a1) (lte b1 a1) = loudR n (fun i => (at_ a1 0 : Rat) * (at_ a1 i : Rat) - (at_ a1 (n + 1) : Rat) * (at_ a1 (n + 1 - i) : Rat)) (fun i => (at_ a1 0 : Rat) * (at_ b1 i : Rat) - (at_ b1 (n + 1) : Rat) * (at_ a1 (n + 1 - i) : Rat)) := by
      unfold restL
      have ll : (lte a1 a1).length = n + 1 := by rw [lte_len]; omega
      rw [if_neg (by omega), ll]
      refine loudR_congr (fun i hi => ?_) (fun i hi => ?_)
      · rw [at_lte (by omega), Rat.intCast_sub, Rat.intCast_mul, Rat.intCast_mul, la1, hn]
        rfl
      · rw [at_lte (by omega), Rat.intCast_sub, Rat.intCast_mul, Rat.intCast_mul, lb1, hl, hn]
        rfl
    rw [e0, e5, ew, hl, hn]
    have e6 : n + 2 - 1 = n + 1 := rfl
    rw [e6, st]
    rw [Rat.intCast_sub, Rat.intCast_mul, Rat.intCast_mul, Rat.intCast_mul]
    simp only [Rat.div_def, rat_inv_mul]
    generalize loudR n _ _ = lr
    grind
end Qa
set_option Elab.async false
set_option linter.all false
set_option maxRecDepth 100000
set_option maxHeartbeats 4000000
namespace Qa
open PySem PySem.Spec PyProof.Rows L2 Qm
open Vbhlae (at_ trim common plain chain plus times reduced smaller quiet)
section
variable {P : Program} {w : World} {K : PySem.W.Frag} {mg : Str → Option Value} {base : Heap} {f : Addr} {fd : FuncData}
variable {te ta tb tl : TE} {σ : L2.St} {G : Hp}
theorem e_last {r : List Int} (h : 0 < r.length) (ha : Ev ta σ G (Row r)) : Ev (tOp (rIxL K) ta (tUn (rU fun i => .int (-i)) (tC (.int 1)))) σ G (PI (at_ r (r.length - 1))) :=
  e_ix (p := PI) (l := r) ha (e_neg e_int) (atI_end (get_at (by omega)))
theorem e_toQ {r s : Rat} (h : Ev te σ G (Pair (prq r))) (e : r = s) : Ev te σ G (Pair (prq s)) := e ▸ h
abbrev st_less_turned_end : Stmt := top 23
theorem sc_less_turned_end : FnScope ["row", "beside", "n", "i"] ["row", "beside"] (defScope st_less_turned_end) := ⟨rfl, rfl, rfl, by decide +kernel, rfl, by decide +kernel, by decide +kernel⟩
def sp_less_turned_end : Sp := spP (fun (x : List Int × List Int) => [Row x.1, Row x.2]) (fun x => 1 ≤ x.1.length ∧ x.1.length = x.2.length ∧ x.1.length ≤ 1000 ∧ ∃ B, Sz B x.1 ∧ Sz B x.2 ∧ B ≤ 40000000) (fun x => Row (lte x.1 x.2))
theorem ok_less_turned_end (A : At K mg "less_turned_end" st_less_turned_end ["row", "beside"] f fd) (T : Txt mg) : FnOk P w K mg base CX0 41 f fd ["row", "beside"] sp_less_turned_end := by
  refine A.fn.ok sc_less_turned_end (sp_len fun _ => rfl) (fun cdv Ar outer s H vs Q E hr h => ⟨_,
    (pss_cons (ps_set (i := 2) sc_less_turned_end.nd rfl (Or.inr rfl) (pe_op op_sub (pe_callB (len_K (K := K) rfl) (by rfl) T.len (by decide +kernel) (pa_cons (pv 0) pa_nil)) pe_int))
  (pss_one (ps_ret (pe_lc (own := [("i", 3)]) rfl sc_less_turned_end.nd (pi_range1 rfl T.range (pa_cons (pv 2) pa_nil)) (blkOk_by (N := ["row", "beside", "n", "i"]) (sc := defScope st_less_turned_end) (by decide +kernel)) (fun _ _ _ _ _ => (pg_name (i := 3) sc_less_turned_end.nd rfl (Or.inl rfl))) (fun _ _ _ _ _ => pts_nil) (fun _ _ _ _ _ => (pe_op op_sub (pe_op op_mulB (pe_ix (ix_listK (K := K) rfl) (pv 1) pe_int (fun _ _ => rfl)) (pe_ix (ix_listK (K := K) rfl) (pv 0) (pv 3) (fun _ _ => rfl))) (pe_op op_mulB (pe_ix (ix_listK (K := K) rfl) (pv 0) (pv 2) (fun _ _ => rfl)) (pe_ix (ix_listK (K := K) rfl) (pv 1) (pe_op op_sub (pv 2) (pv 3)) (fun _ _ => rfl))))))))), ?_⟩)
  obtain ⟨⟨b, a⟩, G, sG, al, ⟨hl, hab, hz, B, hB1, hB2, hB⟩, k⟩ := h
  dsimp only at hl hab hz hB1 hB2
  match vs, al with
  | [v1, v2], ⟨p1, p2, _⟩ =>
    dsimp only at p1 p2
    refine q_asg (e_sub (e_len (p := PI) (l := b) (e_var rfl p1)) e_int) sG fun v G1 H1 g1 e => ?_
    obtain rfl := e
    have en : ((b.length : Int) - 1) = ((b.length - 1 : Nat) : Int) := by omega
    refine s_ret (P := Row (lte b a)) ?_ g1.gh fun v G2 H2 g2 p => k v G2 H2 (g1.trans g2) p
    have er : lte b a = (List.range ((b.length : Int) - 1).toNat).map fun i => at_ a 0 * at_ b i - at_ b (b.length - 1) * at_ a (b.length - 1 - i) := by
      have : ((b.length : Int) - 1).toNat = b.length - 1 := by omega
      rw [this]
      rfl
    rw [er]
    refine e_lcR1 (q := PI) _ (e_var rfl rfl) (by omega) (fun _ => rfl) fun i G' hi sg => ?_
    have ei : ((b.length : Int) - 1 - (i : Int)) = ((b.length - 1 - i : Nat) : Int) := by omega
    have p1d : Row b G' v1 := Mo.up (same_trans g1.gg sg) p1
    have p2d : Row a G' v2 := Mo.up (same_trans g1.gg sg) p2
    exact e_sub (e_mul (e_ix (p := PI) (l := a) (e_var rfl p2d) e_int (row_get (i := 0) (by omega))) (e_ix (p := PI) (l := b) (e_var rfl p1d) (e_var rfl rfl) (row_get (by omega))) (mulB (hB2.at 0) (hB1.at i) (by omega)))
      (e_mul (e_ix (p := PI) (l := b) (e_var rfl p1d) (e_var rfl rfl) (by rw [en]; exact row_get (by omega))) (e_ix (p := PI) (l := a) (e_var rfl p2d) (e_sub (e_var rfl rfl) (e_var rfl rfl)) (by rw [ei]; exact row_get (by omega))) (mulB (hB1.at _) (hB2.at _) (by omega)))
abbrev st_loudness : Stmt := top 24
theorem sc_loudness : FnScope ["upper", "lower", "size", "b", "a", "total", "weight", "b_common", "a_common", "square"] ["upper", "lower"] (defScope st_loudness) := ⟨rfl, rfl, rfl, by decide +kernel, rfl, by decide +kernel, by decide +kernel⟩
/-- how loud the filter up over low is -/
def loudOf (up low : List Int) : Rat := loudR (max up.length low.length - 1) (fun i => (at_ low i : Rat)) (fun i => (at_ up i : Rat))
def sp_loudness : Sp := spP (fun (x : List Int × List Int) => [Row x.1, Row x.2]) (fun x => quiet x.2 = true ∧ x.1.length ≤ 12 ∧ x.2.length ≤ 12 ∧ Sz 128 x.1 ∧ Sz 128 x.2) (fun x => Pair (prq (loudOf x.1 x.2)))
theorem any_common {b : List Int} (h : (b.any fun n => n != 0) = true) : ∃ x ∈ b, x ≠ 0 := by
  obtain ⟨x, hx, h0⟩ := List.any_eq_true.mp h
  exact ⟨x, hx, by simpa using h0⟩
theorem any_none {b : List Int} (h : (b.any fun n => n != 0) = false) (i : Nat) : at_ b i = 0 := by
  by_cases hi : i < b.length
  · have := List.any_eq_false.mp h _ (at_mem hi)
    simpa using this
  · exact at_out (by omega)
theorem Sz.pad {B : Nat} {r : List Int} (h : Sz B r) (n : Int) : Sz B (pad r n) := by
  intro x hx
  unfold Qa.pad at hx
  rcases List.mem_append.mp hx with hx | hx
  · exact h x hx
  · have := (List.mem_replicate.mp hx).2
    rw [this]
    exact Nat.two_pow_pos B
theorem quiet0 {a : List Int} (h : quiet a = true) : at_ a 0 ≠ 0 := by
  rw [quiet_downs, Bool.and_eq_true] at h
  exact of_decide_eq_true h.1
theorem prq0 : prq 0 = (0, 1) := rfl
theorem prq1 : prq 1 = (1, 1) := rfl
theorem ok_loudness (A : At K mg "loudness" st_loudness ["upper", "lower"] f fd) (T : Txt mg) (D_padded : Dfn P w K mg base CX0 41 "padded" ["row", "size"] sp_padded) (D_common_divisor : Dfn P w K mg base CX0 42 "common_divisor" ["row"] sp_common_divisor)
    (D_divided : Dfn P w K mg base CX0 41 "divided" ["row", "divisor"] sp_divided) (D_product_of_two : Dfn P w K mg base CX0 43 "product_of_two" ["one", "other"] sp_product_of_two) (D_sum_of_two : Dfn P w K mg base CX0 43 "sum_of_two" ["one", "other"] sp_sum_of_two)
    (D_scaled_ratio : Dfn P w K mg base CX0 43 "scaled_ratio" ["ratio", "factor"] sp_scaled_ratio) (D_less_turned_end : Dfn P w K mg base CX0 41 "less_turned_end" ["row", "beside"] sp_less_turned_end) : FnOk P w K mg base CX0 44 f fd ["upper", "lower"] sp_loudness := by
  refine A.fn.ok sc_loudness (sp_len fun _ => rfl) (fun cdv Ar outer s H vs Q E hr h => ⟨_,
    (pss_cons (ps_set (i := 2) sc_loudness.nd rfl (Or.inl rfl) (pe_callB (call_max2 rfl) (by rfl) T.max (by decide +kernel) (pa_cons (pe_callB (len_K (K := K) rfl) (by rfl) T.len (by decide +kernel) (pa_cons (pv 0) pa_nil)) (pa_cons (pe_callB (len_K (K := K) rfl) (by rfl) T.len (by decide +kernel) (pa_cons (pv 1) pa_nil)) pa_nil))))
  (pss_cons (ps_set (i := 3) sc_loudness.nd rfl (Or.inl rfl) (pe_def D_padded (hr.mono (by decide)) (pa_cons (pv 0) (pa_cons (pv 2) pa_nil))))
  (pss_cons (ps_set (i := 4) sc_loudness.nd rfl (Or.inl rfl) (pe_def D_padded (hr.mono (by decide)) (pa_cons (pv 1) (pa_cons (pv 2) pa_nil))))
  (pss_cons (ps_set (i := 5) sc_loudness.nd rfl (Or.inl rfl) (pe_tup (pa_cons pe_int (pa_cons pe_int pa_nil))))
  (pss_cons (ps_set (i := 6) sc_loudness.nd rfl (Or.inl rfl) (pe_tup (pa_cons pe_int (pa_cons pe_int pa_nil))))
  (pss_cons (ps_while PassesOwn.never (pt_val (pe_callB (any_K (K := K) rfl rfl) (by rfl) T.any (by decide +kernel) (pa_cons (pv 3) pa_nil)))
   (pss_cons (ps_set (i := 7) sc_loudness.nd rfl (Or.inl rfl) (pe_def D_common_divisor (hr.mono (by decide)) (pa_cons (pv 3) pa_nil)))
  (pss_cons (ps_set (i := 8) sc_loudness.nd rfl (Or.inl rfl) (pe_def D_common_divisor (hr.mono (by decide)) (pa_cons (pv 4) pa_nil)))
  (pss_cons (ps_set (i := 3) sc_loudness.nd rfl (Or.inl rfl) (pe_def D_divided (hr.mono (by decide)) (pa_cons (pv 3) (pa_cons (pv 7) pa_nil))))
  (pss_cons (ps_set (i := 4) sc_loudness.nd rfl (Or.inl rfl) (pe_def D_divided (hr.mono (by decide)) (pa_cons (pv 4) (pa_cons (pv 8) pa_nil))))
  (pss_cons (ps_set (i := 9) sc_loudness.nd rfl (Or.inl rfl) (pe_op op_mulB (pe_ix (ix_listK (K := K) rfl) (pv 4) pe_int (fun _ _ => rfl)) (pe_ix (ix_listK (K := K) rfl) (pv 4) pe_int (fun _ _ => rfl))))
  (pss_cons (ps_set (i := 6) sc_loudness.nd rfl (Or.inl rfl) (pe_def D_product_of_two (hr.mono (by decide)) (pa_cons (pv 6) (pa_cons (pe_tup (pa_cons (pe_op op_mulB (pv 7) (pv 7)) (pa_cons (pe_op op_mulB (pe_op op_mulB (pv 8) (pv 8)) (pv 9)) pa_nil))) pa_nil))))
  (pss_cons (ps_set (i := 5) sc_loudness.nd rfl (Or.inl rfl) (pe_def D_sum_of_two (hr.mono (by decide)) (pa_cons (pv 5) (pa_cons (pe_def D_scaled_ratio (hr.mono (by decide)) (pa_cons (pv 6) (pa_cons (pe_op op_mulB (pe_ix (ix_listK (K := K) rfl) (pv 3) (pe_un un_neg pe_int) (fun _ _ => rfl)) (pe_ix (ix_listK (K := K) rfl) (pv 3) (pe_un un_neg pe_int) (fun _ _ => rfl))) pa_nil))) pa_nil))))
  (pss_cons (ps_set (i := 6) sc_loudness.nd rfl (Or.inl rfl) (pe_def D_scaled_ratio (hr.mono (by decide)) (pa_cons (pv 6) (pa_cons (pe_op op_sub (pv 9) (pe_op op_mulB (pe_ix (ix_listK (K := K) rfl) (pv 4) (pe_un un_neg pe_int) (fun _ _ => rfl)) (pe_ix (ix_listK (K := K) rfl) (pv 4) (pe_un un_neg pe_int) (fun _ _ => rfl)))) pa_nil))))
  (pss_cons (ps_set (i := 3) sc_loudness.nd rfl (Or.inl rfl) (pe_def D_less_turned_end (hr.mono (by decide)) (pa_cons (pv 3) (pa_cons (pv 4) pa_nil))))
  (pss_one (ps_set (i := 4) sc_loudness.nd rfl (Or.inl rfl) (pe_def D_less_turned_end (hr.mono (by decide)) (pa_cons (pv 4) (pa_cons (pv 4) pa_nil)))))))))))))))
  (pss_one (ps_ret (pv 5))))))))), ?_⟩)
  obtain ⟨⟨up, low⟩, G, sG, al, ⟨hq, l1, l2, b1, b2⟩, k⟩ := h
  dsimp only at hq l1 l2 b1 b2
  have lp := len_pos_at (quiet0 hq)
  replace k : ∀ (v : V) (G2 H2 : Hp), Gr G H G2 H2 → Pair (prq (loudOf up low)) G2 v → Q v H2 := k
  obtain ⟨n, hn⟩ : ∃ n, n = max up.length low.length := ⟨_, rfl⟩
  have en : max (up.length : Int) (low.length : Int) = (n : Int) := by omega
  match vs, al with
  | [v1, v2], ⟨p1, p2, _⟩ =>
    dsimp only at p1 p2
    refine q_asg (P := PI (n : Int)) (e_to (e_max (e_len (p := PI) (l := up) (e_var rfl p1)) (e_len (p := PI) (l := low) (e_var rfl p2))) en) sG fun v G1 H1 g1 e => ?_
    obtain rfl := e
    refine q_asg (P := Row (pad up n)) (e_call (up, (n : Int)) (a_two (P := Row up) (e_var rfl (Mo.up g1.gg p1)) (e_var rfl rfl)) ⟨by dsimp only; omega, by dsimp only; omega, by dsimp only; omega⟩) g1.gh fun vb G2 H2 g2 pb => ?_
    refine q_asg (P := Row (pad low n)) (e_call (low, (n : Int)) (a_two (P := Row low) (e_var rfl (Mo.up (same_trans g1.gg g2.gg) p2)) (e_var rfl rfl)) ⟨by dsimp only; omega, by dsimp only; omega, by dsimp only; omega⟩) g2.gh fun va G3 H3 g3 pa => ?_
    refine q_asg (P := Pair (prq 0)) (e_pair (i := 0) (j := 1) e_int e_int) g3.gh fun vt G4 H4 g4 pt => ?_
    refine q_asg (P := Pair (prq 1)) (e_pair (i := 1) (j := 1) e_int e_int) g4.gh fun vw G5 H5 g5 pw' => ?_
    have g05 := (((g1.trans g2).trans g3).trans g4).trans g5
    have la := pad_len low n (by omega)
    have lb := pad_len up n (by omega)
    refine q_while (fun m σ Gi Hi => ∃ (a b : List Int) (va vb vt vw : V) (total weight : Rat) (c d e : Option V) (X : Nat), σ = [some v1, some v2, some (.int (n : Int)), some vb, some va, some vt, some vw, c, d, e] ∧
        Row a Gi va ∧ Row b Gi vb ∧ Pair (prq total) Gi vt ∧ Pair (prq weight) Gi vw ∧ a.length = m ∧ b.length = m ∧ m ≤ n ∧ (0 < m → quiet a = true) ∧ total + weight * restL a b = loudOf up low ∧
        X * 2 ^ m ≤ 129 * 2 ^ n ∧ 1 ≤ X ∧ Sz (X - 1) a ∧ Sz (X - 1) b ∧ RSz (8 * X) weight ∧ RSz (20 * X) total ∧ Gr G H Gi Hi) n g5.gh
      ⟨pad low n, pad up n, va, vb, vt, vw, 0, 1, none, none, none, 129, rfl, Mo.up (same_trans g4.gg g5.gg) pa, Mo.up (same_trans (same_trans g3.gg g4.gg) g5.gg) pb, Mo.up g5.gg pt, pw', la, lb, Nat.le_refl _, ?_, ?_, Nat.le_refl _, by omega, Qa.Sz.pad b2 n, Qa.Sz.pad b1 n, ?_, ?_, g05⟩ ?_
    · intro _
      rw [quiet_congr (pad_at low n)]
      exact hq
    · unfold restL loudOf
      rw [if_neg (by omega), la, hn, Rat.zero_add, Rat.one_mul]
      exact loudR_congr (fun i _ => by rw [pad_at]) (fun i _ => by rw [pad_at])
    · exact ⟨Nat.one_lt_two_pow (by omega), Nat.one_lt_two_pow (by omega)⟩
    · exact ⟨Nat.two_pow_pos _, Nat.one_lt_two_pow (by omega)⟩
    · rintro m σ' Gi Hi si ⟨a, b, va, vb, vt, vw, total, weight, c, d, e, X, rfl, pa, pb, pt, pw2, lma, lmb, hmn, hqa, htot, hX, hX1, sa, sb, rw1, rt1, gi⟩
      have hn12 : n ≤ 12 := by omega
      have Xle : m = 0 ∨ X ≤ 300000 := by
        rcases Nat.eq_zero_or_pos m with z | z
        · exact .inl z
        · right
          have h1 : 2 ≤ 2 ^ m := Nat.le_trans (by decide : 2 ≤ 2 ^ 1) (Nat.pow_le_pow_right (by decide) z)
          have h2 : X * 2 ≤ X * 2 ^ m := Nat.mul_le_mul_left _ h1
          have h3 : 129 * 2 ^ n ≤ 129 * 2 ^ 12 := Nat.mul_le_mul_left _ (Nat.pow_le_pow_right (by decide) hn12)
          omega
      refine ⟨_, t_B (e_any (r := b) (e_var rfl pb)), fun hb G6 H6 g6 => ?_, fun hb G6 H6 g6 => ?_⟩
      · obtain ⟨x, hx, hx0⟩ := any_common hb
        have mp : 0 < m := by
          rw [← lmb]
          exact List.length_pos_iff.mpr (List.ne_nil_of_mem hx)
        have Xl : X ≤ 300000 := by omega
        have qa := hqa mp
        have a0 := quiet0 qa
        have am : at_ a 0 ∈ a := at_mem (by omega)
        have ca := common_sz sa am a0
        have cb := common_sz sb hx hx0
        have caz : (common a : Int) ≠ 0 := by
          have := common_pos am a0
          omega
        have cbz : (common b : Int) ≠ 0 := by
          have := common_pos hx hx0
          omega
        have te := turn_eq (a := a) (b := b) (by omega) (by omega) qa (by omega) total weight
        have s1a := Qa.Sz.dvd sa
        have s1b := Qa.Sz.dvd sb
        have l1a := dvd_len a
        have l1b := dvd_len b
        have q1 : quiet (dvd a) = true := by
          rw [← quiet_scale (s := a) caz (fun z => a0 (by rw [at_dvd a 0, z, Int.mul_zero])) (at_dvd a)]
          exact qa
        have a10 := quiet0 q1
        -- b_common, a_common
        refine q_asg (P := PI (common b : Int)) (e_call b (a_one (P := Row b) (e_var rfl (Mo.up g6.gg pb))) trivial) g6.gh fun v G7 H7 g7 ev => ?_
        obtain rfl := ev
        refine q_asg (P := PI (common a : Int)) (e_call a (a_one (P := Row a) (e_var rfl (Mo.up (same_trans g6.gg g7.gg) pa))) trivial) g7.gh fun v G8 H8 g8 ev => ?_
        obtain rfl := ev
        have s68 := same_trans (same_trans g6.gg g7.gg) g8.gg
        refine q_asg (P := Row (dvd b)) (e_call (b, (common b : Int)) (a_two (P := Row b) (e_var rfl (Mo.up s68 pb)) (e_var rfl rfl)) ⟨by dsimp only; omega, fun _ => cbz⟩) g8.gh fun vb1 G9 H9 g9 pb1 => ?_
        refine q_asg (P := Row (dvd a)) (e_call (a, (common a : Int)) (a_two (P := Row a) (e_var rfl (Mo.up (same_trans s68 g9.gg) pa)) (e_var rfl rfl)) ⟨by dsimp only; omega, fun _ => caz⟩) g9.gh fun va1 G10 H10 g10 pa1 => ?_
        have pb1' : Row (dvd b) G10 vb1 := Mo.up g10.gg pb1
        have ea0 : ∀ {Gx : Hp}, Row (dvd a) Gx va1 → atI (dvd a) 0 = some (at_ (dvd a) 0) := fun _ => row_get (i := 0) (by omega)
        refine q_asg (P := PI (at_ (dvd a) 0 * at_ (dvd a) 0)) (e_mul (e_ix (p := PI) (l := dvd a) (e_var rfl pa1) e_int (ea0 pa1)) (e_ix (p := PI) (l := dvd a) (e_var rfl pa1) e_int (ea0 pa1)) (mulB (s1a.at 0) (s1a.at 0) (by omega))) g10.gh fun v G11 H11 g11 ev => ?_
        obtain rfl := ev
        have s611 := same_trans (same_trans (same_trans s68 g9.gg) g10.gg) g11.gg
        have sqz : at_ (dvd a) 0 * at_ (dvd a) 0 ≠ 0 := Int.mul_ne_zero a10 a10
        have m1 : ((common b : Int) * (common b : Int)).natAbs < 2 ^ (4 * X) := by
          rw [Int.natAbs_mul]
          exact Nat.lt_of_lt_of_le (lt_mul cb cb) (Nat.pow_le_pow_right (by decide) (by omega))
        have m2 : ((common a : Int) * (common a : Int) * (at_ (dvd a) 0 * at_ (dvd a) 0)).natAbs < 2 ^ (4 * X) := by
          rw [Int.natAbs_mul, Int.natAbs_mul, Int.natAbs_mul]
          exact Nat.lt_of_lt_of_le (lt_mul (lt_mul ca ca) (lt_mul (s1a.at 0) (s1a.at 0))) (Nat.pow_le_pow_right (by decide) (by omega))
        have m2z : (common a : Int) * (common a : Int) * (at_ (dvd a) 0 * at_ (dvd a) 0) ≠ 0 := Int.mul_ne_zero (Int.mul_ne_zero caz caz) sqz
        have big : 2 ^ (4 * X) ≤ 2 ^ 40000000 := Nat.pow_le_pow_right (by decide) (by omega)
        obtain ⟨w1, hw1⟩ : ∃ w1, w1 = weight * ((((common b : Int) * (common b : Int) : Int) : Rat) / (((common a : Int) * (common a : Int) * (at_ (dvd a) 0 * at_ (dvd a) 0) : Int) : Rat)) := ⟨_, rfl⟩
        refine q_asg (P := Pair (prq w1)) (e_toQ (e_call (weight, (common b : Int) * (common b : Int), (common a : Int) * (common a : Int) * (at_ (dvd a) 0 * at_ (dvd a) 0)) (a_two (P := Pair (prq weight)) (e_var rfl (Mo.up s611 pw2)) (e_pair (e_mul (e_var rfl rfl) (e_var rfl rfl) (mulB cb cb (by omega))) (e_mul (e_mul (e_var rfl rfl) (e_var rfl rfl) (mulB ca ca (by omega))) (e_var rfl rfl) ?_))) ⟨m2z, rw1.mono (by omega), Nat.lt_of_lt_of_le m1 big, Nat.lt_of_lt_of_le m2 big⟩) hw1.symm) g11.gh fun vw1 G12 H12 g12 pw1 => ?_
        · refine mulB (a := 4 * X) (b := 4 * X) ?_ ?_ (by omega)
          · rw [Int.natAbs_mul]
            exact Nat.lt_of_lt_of_le (lt_mul ca ca) (Nat.pow_le_pow_right (by decide) (by omega))
          · rw [Int.natAbs_mul]
            exact Nat.lt_of_lt_of_le (lt_mul (s1a.at 0) (s1a.at 0)) (Nat.pow_le_pow_right (by decide) (by omega))
        have rw1' : RSz (12 * X) w1 := by
          rw [hw1]
          exact (rsz_times rw1 m1 m2 m2z).mono (by omega)
        have lbn : at_ (dvd b) ((dvd b).length - 1) = at_ (dvd b) (b.length - 1) := by rw [l1b]
        have lan : at_ (dvd a) ((dvd a).length - 1) = at_ (dvd a) (a.length - 1) := by rw [l1a]
        have mb : (at_ (dvd b) (b.length - 1) * at_ (dvd b) (b.length - 1)).natAbs < 2 ^ (2 * X) := by
          rw [Int.natAbs_mul]
          exact Nat.lt_of_lt_of_le (lt_mul (s1b.at _) (s1b.at _)) (Nat.pow_le_pow_right (by decide) (by omega))
        have big2 : 2 ^ (2 * X) ≤ 2 ^ 40000000 := Nat.pow_le_pow_right (by decide) (by omega)
        have rsc := (rsz_scale rw1' mb)
        have pb12 : Row (dvd b) G12 vb1 := Mo.up (same_trans g11.gg g12.gg) pb1'
        have pa12 : Row (dvd a) G12 va1 := Mo.up (same_trans g11.gg g12.gg) pa1
        refine q_asg (P := Pair (prq (total + w1 * ((at_ (dvd b) (b.length - 1) * at_ (dvd b) (b.length - 1) : Int) : Rat)))) (e_call (total, w1 * ((at_ (dvd b) (b.length - 1) * at_ (dvd b) (b.length - 1) : Int) : Rat)) (a_two (P := Pair (prq total)) (e_var rfl (Mo.up (same_trans s611 g12.gg) pt)) (e_call (w1, at_ (dvd b) (b.length - 1) * at_ (dvd b) (b.length - 1)) (a_two (P := Pair (prq w1)) (e_var rfl pw1) (e_mul (e_to (e_last (by omega) (e_var rfl pb12)) lbn) (e_to (e_last (by omega) (e_var rfl pb12)) lbn) (mulB (s1b.at _) (s1b.at _) (by omega)))) ⟨rw1'.mono (by omega), Nat.lt_of_lt_of_le mb big2⟩)) ⟨rt1.mono (by omega), rsc.mono (by omega)⟩) g12.gh fun vt1 G13 H13 g13 pt1 => ?_
        have pb13 : Row (dvd b) G13 vb1 := Mo.up g13.gg pb12
        have pa13 : Row (dvd a) G13 va1 := Mo.up g13.gg pa12
        have md : (at_ (dvd a) 0 * at_ (dvd a) 0 - at_ (dvd a) (a.length - 1) * at_ (dvd a) (a.length - 1)).natAbs < 2 ^ (2 * X) := by
          have x1 := lt_mul (s1a.at 0) (s1a.at 0)
          have x2 := lt_mul (s1a.at (a.length - 1)) (s1a.at (a.length - 1))
          rw [← Int.natAbs_mul] at x1 x2
          have e : 2 ^ (2 * X) = 2 ^ (X - 1 + (X - 1)) * 4 := by
            rw [show 2 * X = X - 1 + (X - 1) + 2 by omega, Nat.pow_add]
          omega
        refine q_asg (P := Pair (prq (w1 * ((at_ (dvd a) 0 * at_ (dvd a) 0 - at_ (dvd a) (a.length - 1) * at_ (dvd a) (a.length - 1) : Int) : Rat)))) (e_call (w1, at_ (dvd a) 0 * at_ (dvd a) 0 - at_ (dvd a) (a.length - 1) * at_ (dvd a) (a.length - 1)) (a_two (P := Pair (prq w1)) (e_var rfl (Mo.up g13.gg pw1)) (e_sub (e_var rfl rfl) (e_mul (e_to (e_last (by omega) (e_var rfl pa13)) lan) (e_to (e_last (by omega) (e_var rfl pa13)) lan) (mulB (s1a.at _) (s1a.at _) (by omega))))) ⟨rw1'.mono (by omega), Nat.lt_of_lt_of_le md big2⟩) g13.gh fun vw2 G14 H14 g14 pw3 => ?_
        refine q_asg (P := Row (lte (dvd b) (dvd a))) (e_call (dvd b, dvd a) (a_two (P := Row (dvd b)) (P' := Row (dvd a)) (e_var rfl (Mo.up g14.gg pb13)) (e_var rfl (Mo.up g14.gg pa13))) ⟨by dsimp only; omega, by dsimp only; omega, by dsimp only; omega, X - 1, s1b, s1a, by omega⟩) g14.gh fun vb2 G15 H15 g15 pb2 => ?_
        refine s_asg (P := Row (lte (dvd a) (dvd a))) (e_call (dvd a, dvd a) (a_two (P := Row (dvd a)) (P' := Row (dvd a)) (e_var rfl (Mo.up (same_trans g14.gg g15.gg) pa13)) (e_var rfl (Mo.up (same_trans g14.gg g15.gg) pa13))) ⟨by dsimp only; omega, by dsimp only, by dsimp only; omega, X - 1, s1a, s1a, by omega⟩) g15.gh fun va2 G16 H16 g16 pa2 => ?_
        have hgr := (((((((((((gi.trans g6).trans g7).trans g8).trans g9).trans g10).trans g11).trans g12).trans g13).trans g14).trans g15).trans g16)
        have s1416 := same_trans (same_trans g14.gg g15.gg) g16.gg
        refine ⟨m - 1, G16, by omega, g16.gh, lte (dvd a) (dvd a), lte (dvd b) (dvd a), va2, vb2, vt1, vw2, _, _, _, _, _, 2 * X, rfl, pa2, Mo.up g16.gg pb2, Mo.up s1416 pt1, Mo.up (same_trans g15.gg g16.gg) pw3, by rw [lte_len]; omega, by rw [lte_len]; omega, by omega, ?_, ?_, ?_, by omega, ?_, ?_, ?_, ?_, hgr⟩
        · intro h0
          rw [lte_self]
          exact (quiet_step q1 (by omega)).2
        · rw [← htot, te, ← hw1]
        · have : 2 ^ m = 2 ^ (m - 1) * 2 := by rw [← Nat.pow_succ]; congr 1; omega
          rw [this] at hX
          rw [Nat.mul_comm 2 X, Nat.mul_assoc, Nat.mul_comm 2]
          exact hX
        · rw [show 2 * X - 1 = 2 * (X - 1) + 1 by omega]
          exact Qa.Sz.lte s1a s1a
        · rw [show 2 * X - 1 = 2 * (X - 1) + 1 by omega]
          exact Qa.Sz.lte s1a s1b
        · exact (rsz_scale rw1' md).mono (by omega)
        · exact (rsz_add rt1 rsc).mono (by omega)
      · have r0 : restL a b = 0 := by
          unfold restL
          split
          · rfl
          · exact loudR_zero fun i _ => by rw [any_none hb i]; rfl
        rw [r0, Rat.mul_zero, Rat.add_zero] at htot
        rw [htot] at pt
        exact s_ret (P := Pair (prq (loudOf up low))) (e_var rfl (Mo.up g6.gg pt)) g6.gh fun v G7 H7 g7 p7 => k v G7 H7 ((gi.trans g6).trans g7) p7
end
end Qa
set_option Elab.async false
set_option linter.all false
set_option maxRecDepth 100000
set_option maxHeartbeats 2000000
/-! The reader of the line. -/
namespace Qa
open PySem PySem.Spec PyProof.Rows L2 Qm
/-- a method of the class at C keeps its promise -/
def MDfn (P : Program) (w : World) (K : PySem.W.Frag) (mg : Str → Option Value) (base : Heap) (CX : CXT) (k : Nat) (C : Addr) (m : Str) (ps : List Str) (sp : Sp) : Prop :=
  ∃ f fd, FnOk P w K mg base CX k f fd ps sp ∧ Cls K C ∧ Meth K C m f ∧ Binds K fd ps []
structure MAt (K : PySem.W.Frag) (C : Addr) (m qual : Str) (st : Stmt) (ps : List Str) (f : Addr) (fd : FuncData) : Prop where
  fn : Fun K m qual st f fd
  cl : Cls K C
  mt : Meth K C m f
  b : Binds K fd ps []
theorem MAt.dfn {P : Program} {w : World} {K : PySem.W.Frag} {mg : Str → Option Value} {base : Heap} {CX : CXT} {k : Nat} {C : Addr} {m qual : Str} {st : Stmt} {ps : List Str} {f : Addr} {fd : FuncData} {sp : Sp} (A : MAt K C m qual st ps f fd) (F : FnOk P w K mg base CX k f fd ps sp) :
    MDfn P w K mg base CX k C m ps sp := ⟨f, fd, F, A.cl, A.mt, A.b⟩
section
variable {X : Cx} {k : Nat} {C : Addr} {m : Str} {ps : List Str} {sp : Sp} {e o : Expr} {es : List Expr} {t : TA} {ta : TE} {pos apos : Pos} {E : XK}
theorem pe_mth {pl : Sem Bool} (D : MDfn X.prog X.w X.K X.mg X.base CX0 k C m ps sp) (he : PE X o ta) (hr : Room k X.A) (ha : PA X (e :: es) t)
    (hst : starEach (e :: es) X.env = (false, eval e X.env) :: starEach es X.env := by rfl) (hpl : (backTo pos (starEach es X.env)).any (·.1) = false := by rfl)
    (ht : eval (.Call (.Attribute o m apos) (e :: es) [] pos) X.env = (do
      let ov ← eval o X.env
      standAt apos.atName
      let (f, first) ← holding [ov] (getMethod ov m pl)
      callWith pos f first (backTo pos (starEach (e :: es) X.env)) (backToKw pos (keywordEach [] X.env))) := by rfl) :
    PE X (.Call (.Attribute o m apos) (e :: es) [] pos) (tMeth C m sp [] E0 ta t) := by
  obtain ⟨f, fd, F, cl, mt, b⟩ := D
  exact pe_meth he cl mt F hr b .nil pass0 ha hst hpl ht
theorem pe_mth0 {pl : Sem Bool} (D : MDfn X.prog X.w X.K X.mg X.base CX0 k C m ps sp) (he : PE X o ta) (hr : Room k X.A)
    (ht : eval (.Call (.Attribute o m apos) [] [] pos) X.env = (do
      let ov ← eval o X.env
      standAt apos.atName
      let (f, first) ← holding [ov] (getMethod ov m pl)
      callWith pos f first (backTo pos (starEach [] X.env)) (backToKw pos (keywordEach [] X.env))) := by rfl) :
    PE X (.Call (.Attribute o m apos) [] [] pos) (tMeth C m sp [] E0 ta tNil) := by
  obtain ⟨f, fd, F, cl, mt, b⟩ := D
  exact pe_meth0 he cl mt F hr b .nil pass0 ht
/-- methods that may raise -/
theorem pe_mthX {pl : Sem Bool} (D : MDfn X.prog X.w X.K X.mg X.base (L2.CX X.prog X.w) k C m ps sp) (he : PE X o ta) (hr : Room k X.A) (hx : Passes (L2.CX X.prog X.w) X E) (ha : PA X (e :: es) t)
    (hst : starEach (e :: es) X.env = (false, eval e X.env) :: starEach es X.env := by rfl) (hpl : (backTo pos (starEach es X.env)).any (·.1) = false := by rfl)
    (ht : eval (.Call (.Attribute o m apos) (e :: es) [] pos) X.env = (do
      let ov ← eval o X.env
      standAt apos.atName
      let (f, first) ← holding [ov] (getMethod ov m pl)
      callWith pos f first (backTo pos (starEach (e :: es) X.env)) (backToKw pos (keywordEach [] X.env))) := by rfl) :
    PE X (.Call (.Attribute o m apos) (e :: es) [] pos) (tMeth C m sp [] E ta t) := by
  obtain ⟨f, fd, F, cl, mt, b⟩ := D
  exact pe_meth he cl mt F hr b .nil hx ha hst hpl ht
theorem pe_mthX0 {pl : Sem Bool} (D : MDfn X.prog X.w X.K X.mg X.base (L2.CX X.prog X.w) k C m ps sp) (he : PE X o ta) (hr : Room k X.A) (hx : Passes (L2.CX X.prog X.w) X E)
    (ht : eval (.Call (.Attribute o m apos) [] [] pos) X.env = (do
      let ov ← eval o X.env
      standAt apos.atName
      let (f, first) ← holding [ov] (getMethod ov m pl)
      callWith pos f first (backTo pos (starEach [] X.env)) (backToKw pos (keywordEach [] X.env))) := by rfl) :
    PE X (.Call (.Attribute o m apos) [] [] pos) (tMeth C m sp [] E ta tNil) := by
  obtain ⟨f, fd, F, cl, mt, b⟩ := D
  exact pe_meth0 he cl mt F hr b .nil hx ht
end
/-! ### attributes -/
theorem lk_here {k : Str} {v : V} {r : List (Str × V)} : List.lookup k ((k, v) :: r) = some v := by
  have e : (k == k) = true := beq_self_eq_true k
  simp only [List.lookup, e]
theorem lk_past {k g : Str} {v : V} {r : List (Str × V)} (h : (k == g) = false) : List.lookup k ((g, v) :: r) = List.lookup k r := by simp only [List.lookup, h]
theorem put_here {f : Str} {v x : V} {r : List (Str × V)} : putF f v ((f, x) :: r) = (f, v) :: r := if_pos rfl
theorem put_past {f g : Str} {v x : V} {r : List (Str × V)} (h : ¬ g = f) : putF f v ((g, x) :: r) = (g, x) :: putF f v r := if_neg h
/-- the reader's attributes -/
def rF (vn : V) (p : Nat) : List (Str × V) := [("numbers", vn), ("place", .int (p : Int))]
theorem rF_n (vn : V) (p : Nat) : (rF vn p).lookup ("numbers" : Str) = some vn := lk_here
theorem rF_p (vn : V) (p : Nat) : (rF vn p).lookup ("place" : Str) = some (.int (p : Int)) := (lk_past (by decide +kernel)).trans lk_here
theorem rF_m (vn : V) (p : Nat) {m : Str} (h1 : (m == ("numbers" : Str)) = false) (h2 : (m == ("place" : Str)) = false) : (rF vn p).lookup m = none := (lk_past h1).trans ((lk_past h2).trans rfl)
theorem rF_put (vn : V) (p q : Nat) : putF "place" (.int (q : Int)) (rF vn p) = rF vn q := (put_past (by decide +kernel)).trans (congrArg _ put_here)
structure RdT (K : PySem.W.Frag) (CR : Addr) : Prop where
  cl : Cls K CR
  nN : NoAttr K CR "numbers"
  nP : NoAttr K CR "place"
section
variable {P : Program} {w : World} {K : PySem.W.Frag} {mg : Str → Option Value} {base : Heap} {f : Addr} {fd : FuncData} {CR : Addr}
abbrev st_Reader_init : Stmt := inClass (top 101) 0
theorem sc_Reader_init : FnScope ["self", "numbers"] ["self", "numbers"] (defScope st_Reader_init) := ⟨rfl, rfl, rfl, by decide +kernel, rfl, by decide +kernel, by decide +kernel⟩
def sp_Reader_init (CR : Addr) : Sp := fun vs H Q _ => ∃ (r dx : Addr) (vn : V), vs = [.ref r, vn] ∧ H r = some (.ins CR dx []) ∧ Q .non (upd H r (.ins CR dx (rF vn 0)))
theorem ok_Reader_init (F : Fun K "__init__" "Reader.__init__" st_Reader_init f fd) (R : RdT K CR) : FnOk P w K mg base CX0 41 f fd ["self", "numbers"] (sp_Reader_init CR) := by
  refine F.ok sc_Reader_init (fun vs H Q E h => by obtain ⟨r, dx, vn, rfl, _⟩ := h; rfl) (fun cdv Ar outer s H vs Q E hr h => ⟨_, (pss_cons (ps_fld (pv 0) (pv 1) rfl) (pss_one (ps_fld (pv 0) pe_int rfl))), ?_⟩)
  obtain ⟨r, dx, vn, rfl, hr0, k⟩ := h
  refine ⟨_, rfl, _, rfl, r, CR, dx, [], rfl, hr0, R.cl, R.nN, (by show 0 < 1000; decide), ?_⟩
  refine ⟨_, rfl, r, CR, dx, _, rfl, upd_same, R.cl, R.nP, (by show 1 < 1000; decide), ?_⟩
  have e : putF "place" (.int 0) (putF "numbers" vn []) = rF vn 0 := (put_past (by decide +kernel)).trans rfl
  rw [upd_upd, e]
  exact k
abbrev st_Reader_is_at_end : Stmt := inClass (top 101) 1
theorem sc_Reader_is_at_end : FnScope ["self"] ["self"] (defScope st_Reader_is_at_end) := ⟨rfl, rfl, rfl, by decide +kernel, rfl, by decide +kernel, by decide +kernel⟩
def sp_is_at_end (K : PySem.W.Frag) (CR : Addr) : Sp := fun vs H Q _ => ∃ (r dx a : Addr) (l : List Int) (p : Nat), vs = [.ref r] ∧ H r = some (.ins CR dx (rF (.ref a) p)) ∧ SqL K H a (l.map V.int) ∧ Q (.bl (decide (l.length ≤ p))) H
theorem ok_is_at_end (F : Fun K "is_at_end" "Reader.is_at_end" st_Reader_is_at_end f fd) (R : RdT K CR) (T : Txt mg) : FnOk P w K mg base CX0 41 f fd ["self"] (sp_is_at_end K CR) := by
  refine F.ok sc_Reader_is_at_end (fun vs H Q E h => by obtain ⟨r, dx, a, l, p, rfl, _⟩ := h; rfl) (fun cdv Ar outer s H vs Q E hr h => ⟨_,
    (pss_one (ps_ret (pe_cmpR op_ge (pe_fld (pv 0) rfl) (pe_callB (len_K (K := K) rfl) (by rfl) T.len (by decide +kernel) (pa_cons (pe_fld (pv 0) rfl) pa_nil)) (nomark _)))), ?_⟩)
  obtain ⟨r, dx, a, l, p, rfl, h1, h2, k⟩ := h
  refine ⟨_, rfl, r, CR, dx, _, _, rfl, h1, R.cl, R.nP, rF_p _ _, _, rfl, r, CR, dx, _, _, rfl, h1, R.cl, R.nN, rF_n _ _, a, _, rfl, .inl h2, (p : Int), _, rfl, rfl, ?_⟩
  have e : decide ((((l.map V.int).length : Nat) : Int) ≤ (p : Int)) = decide (l.length ≤ p) := by
    rw [List.length_map]
    by_cases h : l.length ≤ p
    · rw [decide_eq_true h, decide_eq_true (by omega)]
    · rw [decide_eq_false h, decide_eq_false (by omega)]
  rw [← e] at k
  exact k
abbrev st_Reader_take_number : Stmt := inClass (top 101) 2
theorem sc_Reader_take_number : FnScope ["self", "number"] ["self"] (defScope st_Reader_take_number) := ⟨rfl, rfl, rfl, by decide +kernel, rfl, by decide +kernel, by decide +kernel⟩
def sp_take_number (K : PySem.W.Frag) (CR : Addr) : Sp := fun vs H Q _ => ∃ (r dx a : Addr) (l : List Int) (p : Nat) (x : Int), vs = [.ref r] ∧ H r = some (.ins CR dx (rF (.ref a) p)) ∧ SqL K H a (l.map V.int) ∧ l[p]? = some x ∧ Q (.int x) (upd H r (.ins CR dx (rF (.ref a) (p + 1))))
theorem ok_take_number (F : Fun K "take_number" "Reader.take_number" st_Reader_take_number f fd) (R : RdT K CR) : FnOk P w K mg base CX0 41 f fd ["self"] (sp_take_number K CR) := by
  refine F.ok sc_Reader_take_number (fun vs H Q E h => by obtain ⟨r, dx, a, l, p, x, rfl, _⟩ := h; rfl) (fun cdv Ar outer s H vs Q E hr h => ⟨_,
    (pss_cons (ps_set (i := 1) sc_Reader_take_number.nd rfl (Or.inl rfl) (pe_ix (ix_listK (K := K) rfl) (pe_fld (pv 0) rfl) (pe_fld (pv 0) rfl) (fun _ _ => rfl)))
  (pss_cons (ps_fldaug (pv 0) pe_int in_add)
  (pss_one (ps_ret (pv 1))))), ?_⟩)
  obtain ⟨r, dx, a, l, p, x, rfl, h1, h2, hx, k⟩ := h
  refine ⟨_, rfl, r, CR, dx, _, _, rfl, h1, R.cl, R.nN, rF_n _ _, _, rfl, r, CR, dx, _, _, rfl, h1, R.cl, R.nP, rF_p _ _, a, _, (p : Int), .int x, rfl, rfl, h2, atI_nat' (by rw [List.getElem?_map, hx]; rfl), ?_⟩
  refine ⟨_, rfl, r, CR, dx, _, _, rfl, h1, R.cl, R.nP, rF_p _ _, (p : Int), 1, rfl, rfl, dx, _, h1, (by show 2 < 1000; decide), ?_⟩
  refine ⟨_, rfl, ?_⟩
  have e : putF "place" (.int ((p : Int) + 1)) (rF (.ref a) p) = rF (.ref a) (p + 1) := rF_put _ p (p + 1)
  rw [e]
  exact k
abbrev st_Reader_take_numbers : Stmt := inClass (top 101) 3
theorem sc_Reader_take_numbers : FnScope ["self", "how_many", "start"] ["self", "how_many"] (defScope st_Reader_take_numbers) := ⟨rfl, rfl, rfl, by decide +kernel, rfl, by decide +kernel, by decide +kernel⟩
def sp_take_numbers (K : PySem.W.Frag) (CR : Addr) : Sp := fun vs H Q _ => ∃ (r dx a : Addr) (l : List Int) (p n : Nat), vs = [.ref r, .int (n : Int)] ∧ H r = some (.ins CR dx (rF (.ref a) p)) ∧ SqL K H a (l.map V.int) ∧ p + n ≤ l.length ∧
  ∀ q, H q = none → Q (.ref q) (upd (upd H r (.ins CR dx (rF (.ref a) (p + n)))) q (.lst (((l.drop p).take n).map V.int)))
theorem sq_put {K : PySem.W.Frag} {H : Hp} {a r : Addr} {xs : List V} {C dx : Addr} {fs gs : List (Str × V)} (h : SqL K H a xs) (h1 : H r = some (.ins C dx fs)) : SqL K (upd H r (.ins C dx gs)) a xs := by
  rcases h with (h | ⟨o, h⟩) | h
  · exact .inl (.inl (by rw [upd_ne (ne_of h h1 (by intro z; cases z))]; exact h))
  · exact .inl (.inr ⟨o, by rw [upd_ne (ne_of h h1 (by intro z; cases z))]; exact h⟩)
  · exact .inr h
theorem cutV_mid (l : List Int) (p n : Nat) (h : p + n ≤ l.length) : cutV (l.map V.int) (some (p : Int)) (some ((p + n : Nat) : Int)) = ((l.drop p).take n).map V.int := by
  have e : cutV (l.map V.int) (some (p : Int)) (some ((p + n : Nat) : Int)) = cut (l.map V.int) (some (p : Int)) (some ((p + n : Nat) : Int)) := rfl
  rw [e, cut_mid _ _ _ (by rw [List.length_map]; exact h), Nat.add_sub_cancel_left, List.map_take, List.map_drop]
theorem ok_take_numbers (F : Fun K "take_numbers" "Reader.take_numbers" st_Reader_take_numbers f fd) (R : RdT K CR) : FnOk P w K mg base CX0 41 f fd ["self", "how_many"] (sp_take_numbers K CR) := by
  refine F.ok sc_Reader_take_numbers (fun vs H Q E h => by obtain ⟨r, dx, a, l, p, n, rfl, _⟩ := h; rfl) (fun cdv Ar outer s H vs Q E hr h => ⟨_,
    (pss_cons (ps_set (i := 2) sc_Reader_take_numbers.nd rfl (Or.inl rfl) (pe_fld (pv 0) rfl))
  (pss_cons (ps_fld (pv 0) (pe_op op_add (pv 2) (pv 1)) rfl)
  (pss_one (ps_ret (pe_slice (sl_listK (K := K) rfl) (pe_fld (pv 0) rfl) (po_some (pv 2)) (po_some (pe_fld (pv 0) rfl))))))), ?_⟩)
  obtain ⟨r, dx, a, l, p, n, rfl, h1, h2, hl, k⟩ := h
  refine ⟨_, rfl, r, CR, dx, _, _, rfl, h1, R.cl, R.nP, rF_p _ _, ?_⟩
  refine ⟨_, rfl, _, rfl, _, _, rfl, rfl, _, rfl, r, CR, dx, _, rfl, h1, R.cl, R.nP, (by show 2 < 1000; decide), ?_⟩
  have e : putF "place" (.int ((p : Int) + (n : Int))) (rF (.ref a) p) = rF (.ref a) (p + n) := by
    have : ((p : Int) + (n : Int)) = ((p + n : Nat) : Int) := by omega
    rw [this]
    exact rF_put _ p (p + n)
  rw [e]
  refine ⟨_, rfl, r, CR, dx, _, _, rfl, upd_same, R.cl, R.nN, rF_n _ _, _, rfl, (p : Int), rfl, _, rfl, r, CR, dx, _, _, rfl, upd_same, R.cl, R.nP, rF_p _ _, _, rfl, a, _, rfl, sq_put h2 h1, fun q hq => ?_⟩
  rw [cutV_mid l p n hl]
  refine k q ?_
  by_cases z : q = r
  · rw [z, upd_same] at hq
    cases hq
  · rw [upd_ne z] at hq
    exact hq
abbrev st_Reader_take_list : Stmt := inClass (top 101) 4
theorem sc_Reader_take_list : FnScope ["self"] ["self"] (defScope st_Reader_take_list) := ⟨rfl, rfl, rfl, by decide +kernel, rfl, by decide +kernel, by decide +kernel⟩
def sp_take_list (K : PySem.W.Frag) (CR : Addr) : Sp := fun vs H Q _ => ∃ (r dx a : Addr) (l : List Int) (p n : Nat), vs = [.ref r] ∧ H r = some (.ins CR dx (rF (.ref a) p)) ∧ SqL K H a (l.map V.int) ∧ l[p]? = some (n : Int) ∧ p + 1 + n ≤ l.length ∧
  ∀ q, H q = none → Q (.ref q) (upd (upd H r (.ins CR dx (rF (.ref a) (p + 1 + n)))) q (.lst (((l.drop (p + 1)).take n).map V.int)))
theorem ok_take_list (F : Fun K "take_list" "Reader.take_list" st_Reader_take_list f fd) (M_take_number : MDfn P w K mg base CX0 41 CR "take_number" ["self"] (sp_take_number K CR)) (M_take_numbers : MDfn P w K mg base CX0 41 CR "take_numbers" ["self", "how_many"] (sp_take_numbers K CR)) :
    FnOk P w K mg base CX0 42 f fd ["self"] (sp_take_list K CR) := by
  refine F.ok sc_Reader_take_list (fun vs H Q E h => by obtain ⟨r, dx, a, l, p, n, rfl, _⟩ := h; rfl) (fun cdv Ar outer s H vs Q E hr h => ⟨_,
    (pss_one (ps_ret (pe_mth M_take_numbers (pv 0) (hr.mono (by decide)) (pa_cons (pe_mth0 M_take_number (pv 0) (hr.mono (by decide))) pa_nil)))), ?_⟩)
  obtain ⟨r, dx, a, l, p, n, rfl, h1, h2, hx, hl, k⟩ := h
  refine ⟨_, rfl, r, dx, _, rfl, h1, rF_m _ _ (by decide +kernel) (by decide +kernel), ?_⟩
  refine ⟨_, rfl, r, dx, _, rfl, h1, rF_m _ _ (by decide +kernel) (by decide +kernel), ?_⟩
  refine ⟨r, dx, a, l, p, (n : Int), rfl, h1, h2, hx, ?_⟩
  refine ⟨r, dx, a, l, p + 1, n, rfl, upd_same, sq_put h2 h1, hl, fun q hq => ?_⟩
  have z : q ≠ r := fun z => by
    rw [z, upd_same] at hq
    cases hq
  rw [upd_ne z] at hq
  rw [upd_upd]
  exact k q hq
/-- k lists of numbers, from the place p on: they, and the place behind -/
def rdRows (l : List Int) : Nat → Nat → Option (List (List Int) × Nat)
  | 0, p => some ([], p)
  | k + 1, p => match l[p]? with
    | none => none
    | some n => if 0 ≤ n ∧ p + 1 + n.toNat ≤ l.length then (rdRows l k (p + 1 + n.toNat)).map fun x => ((l.drop (p + 1)).take n.toNat :: x.1, x.2) else none
theorem rdRows_len (l : List Int) : ∀ (k p : Nat) (rows : List (List Int)) (p' : Nat), rdRows l k p = some (rows, p') → rows.length = k
  | 0, p, rows, p', h => by
    cases h
    rfl
  | k + 1, p, rows, p', h => by
    unfold rdRows at h
    cases e : l[p]? with
    | none =>
      rw [e] at h
      cases h
    | some n =>
      rw [e] at h
      dsimp only at h
      split at h
      · cases e2 : rdRows l k (p + 1 + n.toNat) with
        | none =>
          rw [e2] at h
          cases h
        | some x =>
          rw [e2] at h
          cases h
          exact congrArg (· + 1) (rdRows_len l k _ x.1 x.2 e2)
      · cases h
theorem rdRows_succ {l : List Int} {k p : Nat} {rows : List (List Int)} {p' : Nat} (h : rdRows l (k + 1) p = some (rows, p')) :
    ∃ (n : Nat) (rs : List (List Int)), l[p]? = some (n : Int) ∧ p + 1 + n ≤ l.length ∧ rdRows l k (p + 1 + n) = some (rs, p') ∧ rows = (l.drop (p + 1)).take n :: rs := by
  unfold rdRows at h
  cases e : l[p]? with
  | none =>
    rw [e] at h
    cases h
  | some n =>
    rw [e] at h
    dsimp only at h
    split at h
    · rename_i hc
      cases e2 : rdRows l k (p + 1 + n.toNat) with
      | none =>
        rw [e2] at h
        cases h
      | some x =>
        rw [e2] at h
        cases h
        refine ⟨n.toNat, x.1, ?_, hc.2, e2, rfl⟩
        have : ((n.toNat : Nat) : Int) = n := Int.toNat_of_nonneg hc.1
        rw [this]
    · cases h
theorem Gr.reput {G H Gi Hi : Hp} {r : Addr} {o o' : HO} (x : Gr G (upd H r o) Gi Hi) (h : G r = none) : Gr G (upd H r o') Gi (upd Hi r o') := by
  have gr : Gi r = none := x.fr r h (by rw [upd_same]; simp)
  refine ⟨x.gg, same_put x.gh gr, fun a u e => ?_, fun a e1 e2 => ?_⟩
  · by_cases z : a = r
    · subst z
      rw [upd_same] at e ⊢
      exact e
    · rw [upd_ne z] at e ⊢
      exact x.hh a u (by rw [upd_ne z]; exact e)
  · by_cases z : a = r
    · rw [z]
      exact gr
    · exact x.fr a e1 (by rw [upd_ne z] at e2 ⊢; exact e2)
abbrev st_Reader_take_lists : Stmt := inClass (top 101) 5
theorem sc_Reader_take_lists : FnScope ["self", "how_many", "lists"] ["self", "how_many"] (defScope st_Reader_take_lists) := ⟨rfl, rfl, rfl, by decide +kernel, rfl, by decide +kernel, by decide +kernel⟩
def sp_take_lists (K : PySem.W.Frag) (CR : Addr) : Sp := fun vs H Q _ => ∃ (G : Hp) (r dx a : Addr) (l : List Int) (p k p' : Nat) (rows : List (List Int)), vs = [.ref r, .int (k : Int)] ∧ H r = some (.ins CR dx (rF (.ref a) p)) ∧ G r = none ∧ Same G H ∧ SqL K G a (l.map V.int) ∧ k ≤ 1000 ∧ rdRows l k p = some (rows, p') ∧
  ∀ v G2 H2, Gr G (upd H r (.ins CR dx (rF (.ref a) p'))) G2 H2 → Rows rows G2 v → Q v H2
theorem upd_self {H : Hp} {r : Addr} {o : HO} (h : H r = some o) : upd H r o = H := by
  funext b
  unfold upd
  split
  · rename_i e
    rw [e, h]
  · rfl
theorem ok_take_lists (F : Fun K "take_lists" "Reader.take_lists" st_Reader_take_lists f fd) (T : Txt mg) (M_take_list : MDfn P w K mg base CX0 42 CR "take_list" ["self"] (sp_take_list K CR)) : FnOk P w K mg base CX0 43 f fd ["self", "how_many"] (sp_take_lists K CR) := by
  refine F.ok sc_Reader_take_lists (fun vs H Q E h => by obtain ⟨G, r, dx, a, l, p, k, p', rows, rfl, _⟩ := h; rfl) (fun cdv Ar outer s H vs Q E hr h => ⟨_,
    (pss_cons (ps_set (i := 2) sc_Reader_take_lists.nd rfl (Or.inl rfl) (pe_lst pa_nil))
  (pss_cons (ps_while PassesOwn.never (pt_cmpR op_lt (pe_callB (len_K (K := K) rfl) (by rfl) T.len (by decide +kernel) (pa_cons (pv 2) pa_nil)) (pv 1) (nomark _))
   (pss_one (ps_expr (pe_bm PySem.F.plainAttrs_list PySem.F.slot_list_append PySem.F.type_list_append mt_append (pv 2) (pa_cons (pe_mth0 M_take_list (pv 0) (hr.mono (by decide))) pa_nil)))))
  (pss_one (ps_ret (pv 2))))), ?_⟩)
  obtain ⟨G, r, dx, a, l, p, n, p', rows, rfl, h1, gr, sG, hs, hk, hrd, k⟩ := h
  have hlen := rdRows_len l n p rows p' hrd
  refine q_own (n_lst0 (p := fun r => Row r)) sG fun L xs G1 H1 g1 hL gL hL1 al1 => ?_
  have lr : L ≠ r := fun z => by
    rw [z, h1] at hL
    cases hL
  have g1' : Gr G (upd H r (.ins CR dx (rF (.ref a) p))) G1 H1 := by
    rw [upd_self h1]
    exact g1
  show tSeq (tWhile _ _) _ _ _ _
  refine ⟨fun m σ Hi => ∃ (Gi : Hp) (j q : Nat) (acc rest : List (List Int)) (xs : List V), σ = [some (.ref r), some (.int (n : Int)), some (.ref L)] ∧ m = n - j ∧ acc.length = j ∧ rdRows l (n - j) q = some (rest, p') ∧ acc ++ rest = rows ∧ j ≤ n ∧
      Gr G (upd H r (.ins CR dx (rF (.ref a) q))) Gi Hi ∧ Gi L = none ∧ Hi L = some (.lst xs) ∧ Al (fun r v => Row r Gi v) acc xs, ⟨n, G1, 0, p, [], rows, xs, rfl, by omega, rfl, hrd, rfl, Nat.zero_le _, g1', gL, hL1, al1⟩, ?_⟩
  rintro m σ Hi ⟨Gi, j, q, acc, rest, xs, rfl, rfl, ha, hrd2, hap, hj, gi, giL, hiL, ali⟩
  have hlx := ali.length
  refine ⟨_, rfl, L, xs, rfl, .inl (SqL.of hiL), _, rfl, (xs.length : Int), (n : Int), rfl, rfl, _, rfl, ?_⟩
  by_cases hc : ((xs.length : Nat) : Int) < (n : Int)
  · rw [decide_eq_true hc]
    refine iteT ?_
    have hjn : j < n := by omega
    obtain ⟨i, hi⟩ : ∃ i, n - j = i + 1 := ⟨n - j - 1, by omega⟩
    rw [hi] at hrd2
    obtain ⟨c, rs, e1, e2, e3, e4⟩ := rdRows_succ hrd2
    have hir : Hi r = some (.ins CR dx (rF (.ref a) q)) := gi.hh r _ upd_same
    have sq := Same.seq gi.gh (Same.seq gi.gg hs)
    refine ⟨fun σ' H' => ∃ (Gi : Hp) (j' q : Nat) (acc rest : List (List Int)) (xs : List V), σ' = [some (.ref r), some (.int (n : Int)), some (.ref L)] ∧ n - j' < n - j ∧ acc.length = j' ∧ rdRows l (n - j') q = some (rest, p') ∧ acc ++ rest = rows ∧ j' ≤ n ∧
      Gr G (upd H r (.ins CR dx (rF (.ref a) q))) Gi H' ∧ Gi L = none ∧ H' L = some (.lst xs) ∧ Al (fun r v => Row r Gi v) acc xs, fun σ' H' ⟨Gi, j', q, acc, rest, xs, z1, z2, z3⟩ => ⟨n - j', z2, Gi, j', q, acc, rest, xs, z1, rfl, z3⟩, ?_⟩
    refine ⟨_, rfl, Or.inl ⟨rfl, xs, SqL.of hiL⟩, ?_⟩
    refine ⟨_, rfl, r, dx, _, rfl, hir, rF_m _ _ (by decide +kernel) (by decide +kernel), r, dx, a, l, q, c, rfl, hir, sq, e1, e2, fun t ht => ?_⟩
    have tr : t ≠ r := fun z => by
      rw [z, hir] at ht
      cases ht
    have tL : t ≠ L := fun z => by
      rw [z, hiL] at ht
      cases ht
    have gi2 : Gr G (upd H r (.ins CR dx (rF (.ref a) (q + 1 + c)))) Gi (upd Hi r (.ins CR dx (rF (.ref a) (q + 1 + c)))) := gi.reput gr
    have ht2 : upd Hi r (.ins CR dx (rF (.ref a) (q + 1 + c))) t = none := by
      rw [upd_ne tr]
      exact ht
    have gi3 := gi2.trans (Gr.new (o := .lst (((l.drop (q + 1)).take c).map V.int)) gi2.gh ht2)
    have gt : Gi t = none := gone gi.gh ht
    have hL3 : upd (upd Hi r (.ins CR dx (rF (.ref a) (q + 1 + c)))) t (.lst (((l.drop (q + 1)).take c).map V.int)) L = some (.lst xs) := by
      rw [upd_ne (fun z => tL z.symm), upd_ne lr]
      exact hiL
    have gL3 : upd Gi t (.lst (((l.drop (q + 1)).take c).map V.int)) L = none := by
      rw [upd_ne (fun z => tL z.symm)]
      exact giL
    refine ⟨L, xs, .ref t, rfl, rfl, hL3, ?_, ?_⟩
    · have : (1000000 : Nat) ≤ sizeLine := by decide
      omega
    · have hL4 : (upd H r (.ins CR dx (rF (.ref a) (q + 1 + c)))) L = none := by
        rw [upd_ne lr]
        exact hL
      refine ⟨_, j + 1, q + 1 + c, acc ++ [(l.drop (q + 1)).take c], rs, xs ++ [.ref t], rfl, by omega, by simp [ha], ?_, ?_, by omega, gi3.put hL4 gL3, gL3, upd_same, ?_⟩
      · rw [show n - (j + 1) = i by omega]
        exact e3
      · rw [← hap, e4]
        simp
      · exact (ali.imp fun r v z => Mo.up (P := Row r) (same_new gt) z).append (al_one (p := fun r v => Row r _ v) (row_of upd_same))
  · rw [decide_eq_false hc]
    refine iteF ?_
    have hjn : j = n := by omega
    rw [hjn, Nat.sub_self] at hrd2
    cases hrd2
    rw [List.append_nil] at hap
    rw [hap] at ali
    have hL4 : (upd H r (.ins CR dx (rF (.ref a) p'))) L = none := by
      rw [upd_ne lr]
      exact hL
    exact s_give (p := fun r => Row r) rfl gi hL4 giL hiL ali k
end
end Qa
set_option Elab.async false
set_option linter.all false
set_option maxRecDepth 100000
set_option maxHeartbeats 2000000
/-! The line as the reader reads it, and as the specification does. -/
namespace Qa
open PySem PySem.Spec PyProof.Rows L2 Qm

theorem flat_row {l : List Int} {p : Nat} {x s : List Int} (h : PyFlat.row (l.drop p) = some (x, s)) :
    ∃ n : Nat, l[p]? = some (n : Int) ∧ p + 1 + n ≤ l.length ∧ x = (l.drop (p + 1)).take n ∧ s = l.drop (p + 1 + n) := by
  by_cases hp : p < l.length
  · rw [List.drop_eq_getElem_cons hp] at h
    unfold PyFlat.row at h
    split at h
    · cases h
    · rename_i n r e
      obtain ⟨e1, e2⟩ := List.cons.inj e
      subst e1 e2
      split at h
      · rename_i hc
        obtain ⟨rfl, rfl⟩ := Prod.mk.inj (Option.some.inj h)
        have hl := hc.2
        rw [List.length_drop] at hl
        refine ⟨(l[p]).toNat, ?_, by omega, rfl, by rw [List.drop_drop]⟩
        rw [List.getElem?_eq_getElem hp, Int.toNat_of_nonneg hc.1]
      · cases h
  · rw [List.drop_eq_nil_of_le (by omega)] at h
    cases h
theorem flat_rows {l : List Int} : ∀ {k p : Nat} {xs : List (List Int)} {t : List Int}, p ≤ l.length → PyFlat.rows k (l.drop p) = some (xs, t) → ∃ p', rdRows l k p = some (xs, p') ∧ t = l.drop p' ∧ p ≤ p' ∧ p' ≤ l.length
  | 0, p, xs, t, hp, h => by
    cases h
    exact ⟨p, rfl, rfl, Nat.le_refl _, hp⟩
  | k + 1, p, xs, t, hp, h => by
    unfold PyFlat.rows at h
    cases e : PyFlat.row (l.drop p) with
    | none =>
      rw [e] at h
      cases h
    | some y =>
      obtain ⟨x, s⟩ := y
      rw [e] at h
      dsimp only at h
      obtain ⟨n, h1, h2, rfl, rfl⟩ := flat_row e
      cases e2 : PyFlat.rows k (l.drop (p + 1 + n)) with
      | none =>
        rw [e2] at h
        cases h
      | some z =>
        obtain ⟨ys, u⟩ := z
        rw [e2] at h
        cases h
        obtain ⟨p', g1, g2, g3, g4⟩ := flat_rows h2 e2
        refine ⟨p', ?_, g2, by omega, g4⟩
        unfold rdRows
        rw [h1]
        dsimp only
        rw [if_pos (by constructor <;> omega), Int.toNat_natCast, g1]
        rfl
theorem flat_call {shape : Int → Option (Nat × Nat)} {l : List Int} {p : Nat} {c : List (List Int)} {t : List Int} (hp : p < l.length) (h : PyFlat.call shape (l.drop p) = some (c, t)) :
    ∃ (x : Int) (n k p' : Nat) (rows : List (List Int)), l[p]? = some x ∧ shape x = some (n, k) ∧ p + 1 + n ≤ l.length ∧ rdRows l k (p + 1 + n) = some (rows, p') ∧ c = (x :: (l.drop (p + 1)).take n) :: rows ∧ t = l.drop p' ∧ p < p' ∧ p' ≤ l.length := by
  rw [List.drop_eq_getElem_cons hp] at h
  unfold PyFlat.call at h
  split at h
  · cases h
  · rename_i x r e
    obtain ⟨e1, e2⟩ := List.cons.inj e
    subst e1 e2
    split at h
    · cases h
    · rename_i n k hs
      split at h
      · cases h
      · rename_i hn
        rw [List.length_drop] at hn
        rw [List.drop_drop] at h
        cases e2 : PyFlat.rows k (l.drop (p + 1 + n)) with
        | none =>
          rw [e2] at h
          cases h
        | some z =>
          obtain ⟨ys, u⟩ := z
          rw [e2] at h
          cases h
          obtain ⟨p', g1, g2, g3, g4⟩ := flat_rows (by omega) e2
          exact ⟨l[p], n, k, p', ys, List.getElem?_eq_getElem hp, hs, by omega, g1, rfl, g2, by omega, g4⟩
theorem flat_calls {shape : Int → Option (Nat × Nat)} {l : List Int} {p f : Nat} {cs : List (List (List Int))} (hp : p < l.length) (h : PyFlat.calls shape f (l.drop p) = some cs) :
    ∃ (x : Int) (n k p' f' : Nat) (rows : List (List Int)) (cs' : List (List (List Int))), l[p]? = some x ∧ shape x = some (n, k) ∧ p + 1 + n ≤ l.length ∧ rdRows l k (p + 1 + n) = some (rows, p') ∧ cs = ((x :: (l.drop (p + 1)).take n) :: rows) :: cs' ∧
      PyFlat.calls shape f' (l.drop p') = some cs' ∧ p < p' ∧ p' ≤ l.length := by
  have e0 := List.drop_eq_getElem_cons hp
  cases f with
  | zero =>
    rw [e0] at h
    cases h
  | succ f =>
    rw [e0] at h
    unfold PyFlat.calls at h
    rw [← e0] at h
    cases e : PyFlat.call shape (l.drop p) with
    | none =>
      rw [e] at h
      cases h
    | some y =>
      obtain ⟨c, t⟩ := y
      rw [e] at h
      dsimp only at h
      obtain ⟨x, n, k, p', rows, g1, g2, g3, g4, rfl, rfl, g6, g7⟩ := flat_call hp e
      cases e2 : PyFlat.calls shape f (l.drop p') with
      | none =>
        rw [e2] at h
        cases h
      | some cs' =>
        rw [e2] at h
        cases h
        exact ⟨x, n, k, p', f, rows, cs', g1, g2, g3, g4, rfl, e2, g6, g7⟩
theorem flat_end {shape : Int → Option (Nat × Nat)} {f : Nat} {cs : List (List (List Int))} (h : PyFlat.calls shape f [] = some cs) : cs = [] := by
  cases f <;> (cases h; rfl)
end Qa
set_option Elab.async false
set_option linter.all false
set_option maxRecDepth 100000
set_option maxHeartbeats 2000000
/-! What a call's numbers and lists must be within. -/
namespace Qa
open PySem PySem.Spec PyProof.Rows L2 Qm
open Vbhlae (at_ inr)
/-- a whole number that the top has given a name -/
def Cst (mg : Str → Option Value) (x : Str) (i : Int) : Prop := ∃ t, mg x = some (.int i t)
section
variable {X : Cx} {x : Str} {i : Int} {pos : Pos}
theorem pe_cst (h : Cst X.mg x i) (hg : Gl X x := by rfl) (hd : (x == ("__debug__" : Str)) = false := by decide) : PE X (.Name x pos) (tC (.int i)) := by
  obtain ⟨t, e⟩ := h
  exact pe_glob hg e ⟨t, rfl⟩ hd
end
section
variable {te ta tb tl : TE} {σ : L2.St} {G : Hp}
theorem a_three {t1 t2 t3 : TE} {P1 P2 P3 : Pr} [Mo P1] [Mo P2] [Mo P3] (h1 : Ev t1 σ G P1) (h2 : Ev t2 σ G P2) (h3 : Ev t3 σ G P3) : EvA (tCons t1 (tCons t2 (tCons t3 tNil))) σ G [P1, P2, P3] := a_cons ⟨inferInstance, inferInstance, trivial⟩ h1 (a_two h2 h3)
end
theorem okOr_t {c : Addr} : okOr c true = .ok PN := rfl
theorem okOr_f {c : Addr} : okOr c false = .error c := rfl
section
variable {P : Program} {w : World} {K : PySem.W.Frag} {mg : Str → Option Value} {base : Heap} {f : Addr} {fd : FuncData} {cO : Addr}
abbrev st_want_list : Stmt := top 60
theorem sc_want_list : FnScope ["numbers", "shortest", "longest", "most", "number"] ["numbers", "shortest", "longest", "most"] (defScope st_want_list) := ⟨rfl, rfl, rfl, by decide +kernel, rfl, by decide +kernel, by decide +kernel⟩
def listOk (l : List Int) (lo hi most : Int) : Bool := inr (l.length : Int) lo hi && l.all fun x => inr x (-most) most
def sp_want_list (cO : Addr) : Sp := spX (fun (x : List Int × Int × Int × Int) => [Row x.1, PI x.2.1, PI x.2.2.1, PI x.2.2.2]) (fun _ => True) (fun x => okOr cO (listOk x.1 x.2.1 x.2.2.1 x.2.2.2))
theorem all_take_succ {l : List Int} {i : Nat} {x : Int} {c : Int → Bool} (h : l[i]? = some x) (h1 : (l.take i).all c = true) (h2 : c x = true) : (l.take (i + 1)).all c = true := by
  rw [take_more h, List.all_append, h1]
  simp [h2]
theorem ok_want_list (A : At K mg "want_list" st_want_list ["numbers", "shortest", "longest", "most"] f fd) (T : Txt mg) (D_want_between : Dfn P w K mg base (L2.CX P w) 41 "want_between" ["number", "least", "most"] (sp_want_between cO)) :
    FnOk P w K mg base (L2.CX P w) 42 f fd ["numbers", "shortest", "longest", "most"] (sp_want_list cO) := by
  refine A.fn.okX sc_want_list (spX_len fun _ => rfl) (fun cdv Ar outer s H vs Q E hr h => ⟨_,
    (pss_cons (ps_expr (pe_defX (E := E) D_want_between (hr.mono (by decide)) (passes_call (takes_of rfl rfl rfl rfl) (fun _ _ _ _ h => h)) (pa_cons (pe_callB (len_K (K := K) rfl) (by rfl) T.len (by decide +kernel) (pa_cons (pv 0) pa_nil)) (pa_cons (pv 1) (pa_cons (pv 2) pa_nil)))))
  (pss_one (ps_for (passes_of rfl) rfl (pi_list (pv 0)) (pg_name (i := 4) sc_want_list.nd rfl (Or.inl rfl))
   (pss_one (ps_expr (pe_defX (E := E) D_want_between (hr.mono (by decide)) (passes_call (takes_of rfl rfl rfl rfl) (fun _ _ _ _ h => h)) (pa_cons (pv 4) (pa_cons (pe_un un_neg (pv 3)) (pa_cons (pv 3) pa_nil))))))))), ?_⟩)
  obtain ⟨⟨l, lo, hi, most⟩, G, sG, al, _, k1, k2⟩ := h
  replace k1 : ∀ P, okOr cO (listOk l lo hi most) = .ok P → ∀ v G2 H2, Gr G H G2 H2 → P G2 v → Q v H2 := k1
  replace k2 : ∀ c, okOr cO (listOk l lo hi most) = .error c → ∀ G2 H2, Gr G H G2 H2 → E (.ref c) none H2 := k2
  match vs, al with
  | [v1, _, _, _], ⟨p1, rfl, rfl, rfl, _⟩ =>
    dsimp only at p1
    have args := a_three (e_len (p := PI) (l := l) (K := K) (σ := L2.start ["numbers", "shortest", "longest", "most", "number"] [v1, .int lo, .int hi, .int most]) (ta := tVar 0) (e_var rfl p1)) (e_var (i := 1) (P := PI lo) rfl rfl) (e_var (i := 2) (P := PI hi) rfl rfl)
    cases hb : inr (l.length : Int) lo hi with
    | false =>
      refine q_thDrop (th_call ((l.length : Int), lo, hi) args trivial (by show okOr cO _ = _; rw [hb]; exact okOr_f)) sG fun G2 H2 g2 => k2 cO ?_ G2 H2 g2
      unfold listOk
      rw [hb]
      rfl
    | true =>
      refine q_drop (P := PN) (e_callX ((l.length : Int), lo, hi) args trivial (by show okOr cO _ = _; rw [hb]; exact okOr_t)) sG fun G2 H2 g2 => ?_
      refine s_for (fun i σ Gi Hi => ∃ a : Option V, σ = [some v1, some (.int lo), some (.int hi), some (.int most), a] ∧ (l.take i).all (fun x => inr x (-most) most) = true ∧ Gr G H Gi Hi) (e_var (P := Row l) rfl (Mo.up g2.gg p1)) g2.gh (fun G3 H3 g3 => ⟨none, rfl, rfl, g2.trans g3⟩) ?_ ?_
      · rintro G3 H3 i x v σ' Gi Hi g3 hx s1 s2 px ⟨a, rfl, hall, gi⟩
        obtain rfl : v = .int x := px
        have args2 := a_three (G := Gi) (σ := [some v1, some (.int lo), some (.int hi), some (.int most), some (.int x)]) (e_var (i := 4) (P := PI x) rfl rfl) (e_neg (ta := tVar 3) (e_var (i := 3) (P := PI most) rfl rfl)) (e_var (i := 3) (P := PI most) rfl rfl)
        cases hc : inr x (-most) most with
        | false =>
          refine s_thDrop (th_call (x, -most, most) args2 trivial (by show okOr cO _ = _; rw [hc]; exact okOr_f)) s2 fun G4 H4 g4 => k2 cO ?_ G4 H4 (gi.trans g4)
          have : (l.all fun x => inr x (-most) most) = false := by
            rw [List.all_eq_false]
            exact ⟨x, List.mem_of_getElem? hx, by rw [hc]; decide⟩
          unfold listOk
          rw [this, Bool.and_false]
          rfl
        | true =>
          refine s_drop (P := PN) (e_callX (x, -most, most) args2 trivial (by show okOr cO _ = _; rw [hc]; exact okOr_t)) s2 fun G4 H4 g4 => ⟨G4, same_trans s1 g4.gg, g4.gh, some (.int x), rfl, all_take_succ hx hall hc, gi.trans g4⟩
      · rintro G3 H3 σ' Gi Hi g3 s1 s2 ⟨a, rfl, hall, gi⟩
        rw [List.take_length] at hall
        refine k1 PN ?_ .non Gi Hi gi rfl
        unfold listOk
        rw [hb, hall]
        rfl
abbrev st_want_band_number : Stmt := top 61
theorem sc_want_band_number : FnScope ["i"] ["i"] (defScope st_want_band_number) := ⟨rfl, rfl, rfl, by decide +kernel, rfl, by decide +kernel, by decide +kernel⟩
def sp_want_band_number (cO : Addr) : Sp := spX (fun (x : Int) => [PI x]) (fun _ => True) (fun x => okOr cO (inr x 0 2))
/-- a def that only asks another -/
theorem want_one {cO : Addr} {σ : L2.St} {G H : Hp} {E : XK} {D : Ends} {b : Bool} {α : Type} {As : α → List Pr} {ta : TA} {R : α → Except Addr Pr} (x : α) (args : EvA ta σ G (As x)) (hR : R x = okOr cO b) (sG : Same G H)
    (k1 : b = true → ∀ G2 H2, Gr G H G2 H2 → D.nx σ H2) (k2 : b = false → ∀ G2 H2, Gr G H G2 H2 → E (.ref cO) none H2) : tDrop (tCall (spX As (fun _ => True) R) [] E ta) D σ H := by
  cases hb : b with
  | false => exact s_thDrop (th_call x args trivial (by rw [hR, hb]; exact okOr_f)) sG (k2 hb)
  | true => exact s_drop (P := PN) (e_callX x args trivial (by rw [hR, hb]; exact okOr_t)) sG (k1 hb)
theorem want_oneQ {cO : Addr} {σ : L2.St} {G H : Hp} {E : XK} {D : Ends} {tz : TS} {b : Bool} {α : Type} {As : α → List Pr} {ta : TA} {R : α → Except Addr Pr} (x : α) (args : EvA ta σ G (As x)) (hR : R x = okOr cO b) (sG : Same G H)
    (k1 : b = true → ∀ G2 H2, Gr G H G2 H2 → tz D σ H2) (k2 : b = false → ∀ G2 H2, Gr G H G2 H2 → E (.ref cO) none H2) : tSeq (tDrop (tCall (spX As (fun _ => True) R) [] E ta)) tz D σ H := by
  cases hb : b with
  | false => exact q_thDrop (th_call x args trivial (by rw [hR, hb]; exact okOr_f)) sG (k2 hb)
  | true => exact q_drop (P := PN) (e_callX x args trivial (by rw [hR, hb]; exact okOr_t)) sG (k1 hb)
theorem ok_want_band_number (A : At K mg "want_band_number" st_want_band_number ["i"] f fd) (c_LAST_BAND : Cst mg "LAST_BAND" 2) (D_want_between : Dfn P w K mg base (L2.CX P w) 41 "want_between" ["number", "least", "most"] (sp_want_between cO)) :
    FnOk P w K mg base (L2.CX P w) 42 f fd ["i"] (sp_want_band_number cO) := by
  refine A.fn.okX sc_want_band_number (spX_len fun _ => rfl) (fun cdv Ar outer s H vs Q E hr h => ⟨_,
    (pss_one (ps_expr (pe_defX (E := E) D_want_between (hr.mono (by decide)) (passes_call (takes_of rfl rfl rfl rfl) (fun _ _ _ _ h => h)) (pa_cons (pv 0) (pa_cons pe_int (pa_cons (pe_cst c_LAST_BAND) pa_nil)))))), ?_⟩)
  obtain ⟨i, G, sG, al, _, k1, k2⟩ := h
  match vs, al with
  | [_], ⟨rfl, _⟩ =>
    exact want_one (b := inr i 0 2) (i, 0, 2) (a_three (e_var rfl rfl) e_int e_int) rfl sG (fun hb G2 H2 g2 => k1 PN (by show okOr cO _ = _; rw [hb]; rfl) .non G2 H2 g2 rfl) (fun hb G2 H2 g2 => k2 cO (by show okOr cO _ = _; rw [hb]; rfl) G2 H2 g2)
abbrev st_want_gain : Stmt := top 62
theorem sc_want_gain : FnScope ["n", "d"] ["n", "d"] (defScope st_want_gain) := ⟨rfl, rfl, rfl, by decide +kernel, rfl, by decide +kernel, by decide +kernel⟩
def sp_want_gain (cO : Addr) : Sp := spX (fun (x : Int × Int) => [PI x.1, PI x.2]) (fun _ => True) (fun x => okOr cO (inr x.1 (-1000) 1000 && inr x.2 1 1000))
theorem ok_want_gain (A : At K mg "want_gain" st_want_gain ["n", "d"] f fd) (c_GAIN_MOST : Cst mg "GAIN_MOST" 1000) (D_want_between : Dfn P w K mg base (L2.CX P w) 41 "want_between" ["number", "least", "most"] (sp_want_between cO)) :
    FnOk P w K mg base (L2.CX P w) 42 f fd ["n", "d"] (sp_want_gain cO) := by
  refine A.fn.okX sc_want_gain (spX_len fun _ => rfl) (fun cdv Ar outer s H vs Q E hr h => ⟨_,
    (pss_cons (ps_expr (pe_defX (E := E) D_want_between (hr.mono (by decide)) (passes_call (takes_of rfl rfl rfl rfl) (fun _ _ _ _ h => h)) (pa_cons (pv 0) (pa_cons (pe_un un_neg (pe_cst c_GAIN_MOST)) (pa_cons (pe_cst c_GAIN_MOST) pa_nil)))))
  (pss_one (ps_expr (pe_defX (E := E) D_want_between (hr.mono (by decide)) (passes_call (takes_of rfl rfl rfl rfl) (fun _ _ _ _ h => h)) (pa_cons (pv 1) (pa_cons pe_int (pa_cons (pe_cst c_GAIN_MOST) pa_nil))))))), ?_⟩)
  obtain ⟨⟨n, d⟩, G, sG, al, _, k1, k2⟩ := h
  match vs, al with
  | [_, _], ⟨rfl, rfl, _⟩ =>
    refine want_oneQ (b := inr n (-1000) 1000) (n, -1000, 1000) (a_three (e_var rfl rfl) (e_neg e_int) e_int) rfl sG (fun hb G2 H2 g2 => ?_) (fun hb G2 H2 g2 => k2 cO (by show okOr cO (inr n (-1000) 1000 && _) = _; rw [hb]; rfl) G2 H2 g2)
    exact want_one (b := inr d 1 1000) (d, 1, 1000) (a_three (e_var rfl rfl) e_int e_int) rfl g2.gh (fun hc G3 H3 g3 => k1 PN (by show okOr cO (inr n (-1000) 1000 && inr d 1 1000) = _; rw [hb, hc]; rfl) .non G3 H3 (g2.trans g3) rfl) (fun hc G3 H3 g3 => k2 cO (by show okOr cO (inr n (-1000) 1000 && inr d 1 1000) = _; rw [hb, hc]; rfl) G3 H3 (g2.trans g3))
abbrev st_want_proof : Stmt := top 64
theorem sc_want_proof : FnScope ["numbers"] ["numbers"] (defScope st_want_proof) := ⟨rfl, rfl, rfl, by decide +kernel, rfl, by decide +kernel, by decide +kernel⟩
def sp_want_proof (cO : Addr) : Sp := spX (fun (x : List Int) => [Row x]) (fun _ => True) (fun x => okOr cO (inr (x.length : Int) 0 200))
theorem ok_want_proof (A : At K mg "want_proof" st_want_proof ["numbers"] f fd) (T : Txt mg) (c_PROOF_LONGEST : Cst mg "PROOF_LONGEST" 200) (D_want_between : Dfn P w K mg base (L2.CX P w) 41 "want_between" ["number", "least", "most"] (sp_want_between cO)) :
    FnOk P w K mg base (L2.CX P w) 42 f fd ["numbers"] (sp_want_proof cO) := by
  refine A.fn.okX sc_want_proof (spX_len fun _ => rfl) (fun cdv Ar outer s H vs Q E hr h => ⟨_,
    (pss_one (ps_expr (pe_defX (E := E) D_want_between (hr.mono (by decide)) (passes_call (takes_of rfl rfl rfl rfl) (fun _ _ _ _ h => h)) (pa_cons (pe_callB (len_K (K := K) rfl) (by rfl) T.len (by decide +kernel) (pa_cons (pv 0) pa_nil)) (pa_cons pe_int (pa_cons (pe_cst c_PROOF_LONGEST) pa_nil)))))), ?_⟩)
  obtain ⟨l, G, sG, al, _, k1, k2⟩ := h
  match vs, al with
  | [v1], ⟨p1, _⟩ =>
    exact want_one (b := inr (l.length : Int) 0 200) ((l.length : Int), 0, 200) (a_three (e_len (p := PI) (l := l) (e_var rfl p1)) e_int e_int) rfl sG (fun hb G2 H2 g2 => k1 PN (by show okOr cO _ = _; rw [hb]; rfl) .non G2 H2 g2 rfl) (fun hb G2 H2 g2 => k2 cO (by show okOr cO _ = _; rw [hb]; rfl) G2 H2 g2)
abbrev st_want_inputs : Stmt := top 65
theorem sc_want_inputs : FnScope ["inputs"] ["inputs"] (defScope st_want_inputs) := ⟨rfl, rfl, rfl, by decide +kernel, rfl, by decide +kernel, by decide +kernel⟩
def sp_want_inputs (cO : Addr) : Sp := spX (fun (x : List Int) => [Row x]) (fun _ => True) (fun x => okOr cO (listOk x 0 16 1000))
theorem ok_want_inputs (A : At K mg "want_inputs" st_want_inputs ["inputs"] f fd) (c_INPUTS_LONGEST : Cst mg "INPUTS_LONGEST" 16) (c_INPUT_MOST : Cst mg "INPUT_MOST" 1000) (D_want_list : Dfn P w K mg base (L2.CX P w) 42 "want_list" ["numbers", "shortest", "longest", "most"] (sp_want_list cO)) :
    FnOk P w K mg base (L2.CX P w) 43 f fd ["inputs"] (sp_want_inputs cO) := by
  refine A.fn.okX sc_want_inputs (spX_len fun _ => rfl) (fun cdv Ar outer s H vs Q E hr h => ⟨_,
    (pss_one (ps_expr (pe_defX (E := E) D_want_list (hr.mono (by decide)) (passes_call (takes_of rfl rfl rfl rfl) (fun _ _ _ _ h => h)) (pa_cons (pv 0) (pa_cons pe_int (pa_cons (pe_cst c_INPUTS_LONGEST) (pa_cons (pe_cst c_INPUT_MOST) pa_nil))))))), ?_⟩)
  obtain ⟨l, G, sG, al, _, k1, k2⟩ := h
  match vs, al with
  | [v1], ⟨p1, _⟩ =>
    exact want_one (b := listOk l 0 16 1000) (l, 0, 16, 1000) (a_four (P1 := Row l) (e_var rfl p1) e_int e_int e_int) rfl sG (fun hb G2 H2 g2 => k1 PN (by show okOr cO _ = _; rw [hb]; rfl) .non G2 H2 g2 rfl) (fun hb G2 H2 g2 => k2 cO (by show okOr cO _ = _; rw [hb]; rfl) G2 H2 g2)
abbrev st_want_filter : Stmt := top 63
theorem sc_want_filter : FnScope ["up", "low"] ["up", "low"] (defScope st_want_filter) := ⟨rfl, rfl, rfl, by decide +kernel, rfl, by decide +kernel, by decide +kernel⟩
def sp_want_filter (cO : Addr) : Sp := spX (fun (x : List Int × List Int) => [Row x.1, Row x.2]) (fun _ => True) (fun x => okOr cO (Vbhlae.isUp x.1 && Vbhlae.isLow x.2))
theorem isUp_eq (l : List Int) : Vbhlae.isUp l = listOk l 1 4 100 := by
  unfold Vbhlae.isUp listOk inr Vbhlae.MOST
  have e1 : decide ((1 : Int) ≤ (l.length : Int)) = decide (1 ≤ l.length) := decide_eq_decide.mpr (by omega)
  have e2 : decide ((l.length : Int) ≤ 4) = decide (l.length ≤ 4) := decide_eq_decide.mpr (by omega)
  rw [e1, e2, Bool.and_assoc]
theorem isLow_eq (l : List Int) : Vbhlae.isLow l = (listOk l 1 3 100 && decide (at_ l 0 ≠ 0)) := by
  unfold Vbhlae.isLow listOk inr
  have e1 : decide ((1 : Int) ≤ (l.length : Int)) = decide (1 ≤ l.length) := decide_eq_decide.mpr (by omega)
  have e2 : decide ((l.length : Int) ≤ 3) = decide (l.length ≤ 3) := decide_eq_decide.mpr (by omega)
  rw [e1, e2]
  simp only [Bool.and_assoc]
theorem ok_want_filter (A : At K mg "want_filter" st_want_filter ["up", "low"] f fd) (TO : Err K mg "OutOfRange" cO) (c_UPPER_LONGEST : Cst mg "UPPER_LONGEST" 4) (c_LOWER_LONGEST : Cst mg "LOWER_LONGEST" 3) (c_FILTER_MOST : Cst mg "FILTER_MOST" 100)
    (D_want_list : Dfn P w K mg base (L2.CX P w) 42 "want_list" ["numbers", "shortest", "longest", "most"] (sp_want_list cO)) : FnOk P w K mg base (L2.CX P w) 43 f fd ["up", "low"] (sp_want_filter cO) := by
  refine A.fn.okX sc_want_filter (spX_len fun _ => rfl) (fun cdv Ar outer s H vs Q E hr h => ⟨_,
    (pss_cons (ps_expr (pe_defX (E := E) D_want_list (hr.mono (by decide)) (passes_call (takes_of rfl rfl rfl rfl) (fun _ _ _ _ h => h)) (pa_cons (pv 0) (pa_cons pe_int (pa_cons (pe_cst c_UPPER_LONGEST) (pa_cons (pe_cst c_FILTER_MOST) pa_nil))))))
  (pss_cons (ps_expr (pe_defX (E := E) D_want_list (hr.mono (by decide)) (passes_call (takes_of rfl rfl rfl rfl) (fun _ _ _ _ h => h)) (pa_cons (pv 1) (pa_cons pe_int (pa_cons (pe_cst c_LOWER_LONGEST) (pa_cons (pe_cst c_FILTER_MOST) pa_nil))))))
  (pss_one (ps_if (pt_cmpR op_eq (pe_ix (ix_listK (K := K) rfl) (pv 1) pe_int (fun _ _ => rfl)) pe_int (nomark _)) (pss_one (ps_err TO (takes_of rfl rfl rfl rfl))) pss_nil)))), ?_⟩)
  obtain ⟨⟨up, low⟩, G, sG, al, _, k1, k2⟩ := h
  replace k1 : ∀ P, okOr cO (Vbhlae.isUp up && Vbhlae.isLow low) = .ok P → ∀ v G2 H2, Gr G H G2 H2 → P G2 v → Q v H2 := k1
  replace k2 : ∀ c, okOr cO (Vbhlae.isUp up && Vbhlae.isLow low) = .error c → ∀ G2 H2, Gr G H G2 H2 → E (.ref c) none H2 := k2
  rw [isUp_eq, isLow_eq] at k1 k2
  match vs, al with
  | [v1, v2], ⟨p1, p2, _⟩ =>
    dsimp only at p1 p2
    refine want_oneQ (b := listOk up 1 4 100) (up, 1, 4, 100) (a_four (P1 := Row up) (e_var rfl p1) e_int e_int e_int) rfl sG (fun hb G2 H2 g2 => ?_) (fun hb G2 H2 g2 => k2 cO (by rw [hb]; rfl) G2 H2 g2)
    refine want_oneQ (b := listOk low 1 3 100) (low, 1, 3, 100) (a_four (P1 := Row low) (e_var rfl (Mo.up g2.gg p2)) e_int e_int e_int) rfl g2.gh (fun hc G3 H3 g3 => ?_) (fun hc G3 H3 g3 => k2 cO (by rw [hb, hc]; rfl) G3 H3 (g2.trans g3))
    have hlen : 0 < low.length := by
      unfold listOk inr at hc
      simp only [Bool.and_eq_true, decide_eq_true_eq] at hc
      omega
    refine s_when (t_test (e_eq (e_ix (p := PI) (l := low) (e_var rfl (Mo.up (same_trans g2.gg g3.gg) p2)) e_int (row_get (i := 0) hlen)) e_int)) g3.gh (fun hz G4 H4 g4 => ?_) (fun hz G4 H4 g4 => ?_)
    · have hz : at_ low 0 = 0 := by simpa using hz
      exact k2 cO (by rw [hb, hc, decide_eq_false (fun z => z hz)]; rfl) G4 H4 ((g2.trans g3).trans g4)
    · have hz : at_ low 0 ≠ 0 := by simpa using hz
      exact k1 PN (by rw [hb, hc, decide_eq_true hz]; rfl) .non G4 H4 ((g2.trans g3).trans g4) rfl
end
end Qa
set_option Elab.async false
set_option linter.all false
set_option maxRecDepth 100000
set_option maxHeartbeats 2000000
/-! xs[lo:hi:step] of a list. -/
namespace Qa
open PySem PySem.Spec PyProof.Rows L2 Qm
open Vbhlae (at_)
def pickV {α : Type} (xs : List α) (lo hi st : Option Int) : List α := (sliceRange (sliceBounds lo hi st xs.length).1 (sliceBounds lo hi st xs.length).2.1 (sliceBounds lo hi st xs.length).2.2).filterMap (xs[·]?)
theorem vals_pick {xs : List V} {us : List Value} (r : Vals xs us) : ∀ l : List Nat, Vals (l.filterMap (xs[·]?)) (l.filterMap (us[·]?))
  | [] => .nil
  | i :: l => by
    rw [List.filterMap_cons, List.filterMap_cons]
    cases e : xs[i]? with
    | none =>
      have h1 := r.length
      have h2 := List.getElem?_eq_none_iff.mp e
      rw [List.getElem?_eq_none (by omega)]
      exact vals_pick r l
    | some x =>
      obtain ⟨u, eu, ru⟩ := r.get e
      rw [eu]
      exact .cons ru (vals_pick r l)
theorem pick_arr (us : List Value) (lo hi st : Option Int) : slicePick us.toArray lo hi st = (pickV us lo hi st).toArray := by
  unfold slicePick pickV
  simp only [List.size_toArray, List.getElem?_toArray]
def rSl3 (K : PySem.W.Frag) : V → Option Int → Option Int → Option Int → Hp → VK → Prop := fun x lo hi st H Q => ∃ a xs, x = .ref a ∧ SqL K H a xs ∧ st ≠ some 0 ∧ ∀ p, H p = none → Q (.ref p) (upd H p (.lst (pickV xs lo hi st)))
def tSl3 (K : PySem.W.Frag) (te : TE) (tl th ts : TO) : TE := fun σ H Q => te σ H fun x H1 => tl σ H1 fun l H2 => th σ H2 fun u H3 => ts σ H3 fun st H4 => rSl3 K x l u st H4 Q
section
variable {X : Cx} {e st : Expr} {lo hi : Option Expr} {te : TE} {tl th ts : TO} {p2 pos : Pos}
theorem pe_slice3 {K : PySem.W.Frag} (hk : X.K = K) (he : PE X e te) (hl : PO X lo tl) (hu : PO X hi th) (hst : PO X (some st) ts) : PE X (.Subscript e (.Slice lo hi (some st) p2) pos) (tSl3 K te tl th ts) := by
  subst hk
  refine ⟨fun pins s σ H Q I h => ?_⟩
  refine Subscript_ (thn (he.run pins s σ H _ I h) fun v s1 ⟨x, H1, I1, r1, q1⟩ => ?_)
  refine wpAny_Slice (thn (hl.run pins s1 σ H1 _ I1 q1) fun vl s2 ⟨l, H2, I2, pl, q2⟩ => thn (hu.run pins s2 σ H2 _ I2 q2) fun vu s3 ⟨u, H3, I3, pu, q3⟩ => thn (hst.run pins s3 σ H3 _ I3 q3) fun vs s4 ⟨c, H4, I4, ps, q4⟩ => ?_)
  have I5 : Inv X pins σ H4 { s4 with heap := s4.heap.push { cls := .type "slice", data := .fields #[vl, vu, vs] } } := I4.kept (t' := s4.toks) fun b ob q => Heap.get?_push_of_some _ q
  show wpAny (model X.prog X.w) X.A (subscriptTail e (.Slice lo hi (some st) p2) v (.ref s4.heap.objs.size)) (EP X pins σ Q) X.xe { s4 with heap := s4.heap.push { cls := .type "slice", data := .fields #[vl, vu, vs] } }
  obtain ⟨a, xs, rfl, hx, h0, q⟩ := q4
  cases r1
  obtain ⟨its, r, ht, hz⟩ := I5.list hx
  have hlen := r.length
  refine tail_any (ops := [.ref a, .ref s4.heap.objs.size]) ht.isList.typeIs slot_list_getitem.lookup ?_ (by with_unfolding_all rfl)
  refine wpAny_getItem_list_slice ht.isList (Heap.IsSliceOf.new ..) pl pu ps h0 ?_ (by rw [List.size_toArray] <;> omega)
  rw [pick_arr]
  have e1 : pickV its l u c = (sliceRange (sliceBounds l u c xs.length).1 (sliceBounds l u c xs.length).2.1 (sliceBounds l u c xs.length).2.2).filterMap (its[·]?) := by
    unfold pickV
    rw [hlen]
  have hv : Vals (pickV xs l u c) (pickV its l u c) := by
    rw [e1]
    exact vals_pick r _
  have hsz : (pickV xs l u c).length ≤ sizeLine := by
    have h1 := slicePick_size_le its.toArray l u c
    rw [pick_arr, List.size_toArray, List.size_toArray] at h1
    have h2 := hv.length
    omega
  refine ⟨.ref _, _, I5.laid (t' := s4.toks) (o := .lst (pickV xs l u c)) (fun b ob q => Heap.get?_push_of_some _ q) (Nat.le_refl _) ?_, rfl, q _ (I5.hok.fresh (Nat.le_refl _))⟩
  exact ⟨hsz, _, 0, hv, Heap.get?_push_size _ rfl⟩
end
theorem pick_map (l : List Int) (lo hi st : Option Int) : pickV (l.map V.int) lo hi st = (pickV l lo hi st).map V.int := by
  unfold pickV
  rw [List.length_map, List.map_filterMap]
  congr 1
  funext i
  rw [List.getElem?_map]
theorem fm_congr {α β : Type} {f g : α → Option β} : ∀ {l : List α}, (∀ x ∈ l, f x = g x) → l.filterMap f = l.filterMap g
  | [], _ => rfl
  | x :: l, h => by
    rw [List.filterMap_cons, List.filterMap_cons, h x List.mem_cons_self, fm_congr fun y hy => h y (List.mem_cons_of_mem _ hy)]
theorem pick_second (r : List Int) (k : Nat) (hk : k ≤ 1) : pickV r (some (k : Int)) none (some 2) = second r k := by
  unfold pickV second
  have b : sliceBounds (some (k : Int)) none (some 2) r.length = (((min k r.length : Nat) : Int), (r.length : Int), 2) := by
    unfold sliceBounds
    simp only [Option.getD_some, show (2 : Int) > 0 by decide, if_true, if_neg (show ¬ ((k : Int) < 0) by omega)]
    refine Prod.ext ?_ rfl
    dsimp only
    omega
  rw [b]
  unfold sliceRange
  simp only [show (2 : Int) > 0 by decide, if_true]
  have hc : (if ((min k r.length : Nat) : Int) < (r.length : Int) then ((r.length : Int) - ((min k r.length : Nat) : Int) + 2 - 1) / 2 else 0).toNat = (r.length + 1 - k) / 2 := by
    split <;> omega
  rw [hc, List.filterMap_map]
  rw [← List.filterMap_eq_map]
  refine fm_congr fun i hi => ?_
  have hi := List.mem_range.mp hi
  show r[(((min k r.length : Nat) : Int) + 2 * (i : Int)).toNat]? = some (at_ r (k + 2 * i))
  have e : (((min k r.length : Nat) : Int) + 2 * (i : Int)).toNat = k + 2 * i := by omega
  rw [e, get_at (by omega)]
section
variable {te : TE} {σ : L2.St} {G : Hp} {K : PySem.W.Frag}
theorem e_second {r : List Int} {k : Nat} (hk : k ≤ 1) {t1 t2 t3 : TO} (h : Ev te σ G (Row r)) (h1 : EvO t1 σ G (some (k : Int))) (h2 : EvO t2 σ G none) (h3 : EvO t3 σ G (some 2)) : Ev (tSl3 K te t1 t2 t3) σ G (Row (second r k)) := fun H s _ kk =>
  h H s _ fun v G2 H2 g2 p => (h1.mono g2.gg) H2 g2.gh _ fun G3 H3 g3 => (h2.mono (same_trans g2.gg g3.gg)) H3 g3.gh _ fun G4 H4 g4 => (h3.mono (same_trans (same_trans g2.gg g3.gg) g4.gg)) H4 g4.gh _ fun G5 H5 g5 => by
    obtain ⟨a, rfl, ha⟩ := row_at p
    have g35 := (g3.trans g4).trans g5
    refine ⟨a, _, rfl, SqL.of (g35.hh a _ (g2.gh a _ ha)), by simp, fun q hq => ?_⟩
    rw [pick_map, pick_second r k hk]
    exact kk _ _ _ ((g2.trans g35).trans (.new g5.gh hq)) (row_of upd_same)
end
end Qa
set_option Elab.async false
set_option linter.all false
set_option maxRecDepth 100000
set_option maxHeartbeats 2000000
/-! Rows told in an answer, clicks, what works on behind answers. -/
namespace Qa
open PySem PySem.Spec PyProof.Rows L2 Qm
open Vbhlae (at_ listRow bit upperOf)
section
variable {P : Program} {w : World} {K : PySem.W.Frag} {mg : Str → Option Value} {base : Heap} {f : Addr} {fd : FuncData}
abbrev st_counted : Stmt := top 11
theorem sc_counted : FnScope ["rows", "numbers", "row"] ["rows"] (defScope st_counted) := ⟨rfl, rfl, rfl, by decide +kernel, rfl, by decide +kernel, by decide +kernel⟩
/-- a def that hands back a new list, which nobody else knows -/
def spN {α β : Type} (As : α → List Pr) (pre : α → Prop) (p : β → Pr) (R : α → List β) : Sp := fun vs H Q _ => ∃ (x : α) (G : Hp), Same G H ∧ Al2 G vs (As x) ∧ pre x ∧ ∀ L xs G2 H2, Gr G H G2 H2 → H L = none → G2 L = none → H2 L = some (.lst xs) → Al (fun y v => p y G2 v) (R x) xs → Q (.ref L) H2
theorem spN_len {α β : Type} {As : α → List Pr} {pre : α → Prop} {p : β → Pr} {R : α → List β} {n : Nat} (h : ∀ x, (As x).length = n) : ∀ vs H Q E, spN As pre p R vs H Q E → vs.length = n := fun vs H Q E ⟨x, G, _, al, _⟩ => al.length.trans (h x)
theorem spN_P {α β : Type} {As : α → List Pr} {pre : α → Prop} {p : β → Pr} [mo : ∀ x, Mo (p x)] {R : α → List β} {vs : List V} {H : Hp} {Q : VK} {E : XK} (h : spP As pre (fun x => Ls p (R x)) vs H Q E) : spN As pre p R vs H Q E := by
  obtain ⟨x, G, s, al, hp, k⟩ := h
  exact ⟨x, G, s, al, hp, fun L xs G2 H2 g h0 h1 h2 al => k _ _ _ (g.own h0 h1 h2) ⟨L, xs, rfl, upd_same, al.imp fun y _ q => (mo y).up (same_new h1) q⟩⟩
/-- a promise that asks for less -/
theorem fn_imp {CX : CXT} {k : Nat} {ps : List Str} {sp sp' : Sp} (F : FnOk P w K mg base CX k f fd ps sp) (h : ∀ vs H Q E, sp' vs H Q E → sp vs H Q E) : FnOk P w K mg base CX k f fd ps sp' :=
  ⟨fun vs H Q E q => F.len vs H Q E (h vs H Q E q), fun A outer s H args us vs Q E hr e0 hb r q => F.run A outer s H args us vs Q E hr e0 hb r (h vs H Q E q)⟩
theorem n_call {σ : L2.St} {G : Hp} {α β : Type} {As : α → List Pr} {pre : α → Prop} {p : β → Pr} {R : α → List β} {E : XK} {ta : TA} (x : α) (h : EvA ta σ G (As x)) (hp : pre x) : EvN (tCall (spN As pre p R) [] E ta) σ G p (R x) := fun H s _ k =>
  h H s _ fun vs G1 H1 g1 al => ⟨x, G1, g1.gh, by rw [List.append_nil]; exact al, hp, fun L xs G2 H2 g2 h0 h1 h2 al => k L xs G2 H2 (g1.trans g2) (gone g1.hh h0) h1 h2 al⟩
def sp_countedN : Sp := spN (fun (x : List (List Int)) => [Rows x]) (fun x => x.length ≤ 1000 ∧ ∀ r ∈ x, r.length ≤ 500) PI (fun x => x.flatMap listRow)
def sp_counted : Sp := spP (fun (x : List (List Int)) => [Rows x]) (fun x => x.length ≤ 1000 ∧ ∀ r ∈ x, r.length ≤ 500) (fun x => Row (x.flatMap listRow))
theorem flat_len : ∀ (l : List (List Int)), (∀ r ∈ l, r.length ≤ 500) → (l.flatMap listRow).length ≤ 501 * l.length
  | [], _ => by simp
  | r :: l, h => by
    rw [List.flatMap_cons, List.length_append]
    have h1 := flat_len l fun x hx => h x (List.mem_cons_of_mem _ hx)
    have h2 := h r List.mem_cons_self
    have h3 : (listRow r).length = r.length + 1 := rfl
    rw [List.length_cons]
    omega
theorem ok_countedN (A : At K mg "counted" st_counted ["rows"] f fd) (T : Txt mg) : FnOk P w K mg base CX0 41 f fd ["rows"] sp_countedN := by
  refine A.fn.ok sc_counted (spN_len fun _ => rfl) (fun cdv Ar outer s H vs Q E hr h => ⟨_,
    (pss_cons (ps_set (i := 1) sc_counted.nd rfl (Or.inl rfl) (pe_lst pa_nil))
  (pss_cons (ps_for PassesOwn.never rfl (pi_list (pv 0)) (pg_name (i := 2) sc_counted.nd rfl (Or.inl rfl))
   (pss_cons (ps_expr (pe_bm PySem.F.plainAttrs_list PySem.F.slot_list_append PySem.F.type_list_append mt_append (pv 1) (pa_cons (pe_callB (len_K (K := K) rfl) (by rfl) T.len (by decide +kernel) (pa_cons (pv 2) pa_nil)) pa_nil)))
  (pss_one (ps_expr (pe_bm PySem.F.plainAttrs_list PySem.F.slot_list_extend PySem.F.type_list_extend mt_extend (pv 1) (pa_cons (pv 2) pa_nil))))))
  (pss_one (ps_ret (pv 1))))), ?_⟩)
  obtain ⟨l, G, sG, al, ⟨hz, hr5⟩, k⟩ := h
  match vs, al with
  | [v1], ⟨p1, _⟩ =>
    refine q_own (n_lst0 (p := PI)) sG fun L xs G1 H1 g1 hL gL hL1 al => ?_
    obtain rfl := ints_al al
    refine q_for (p := fun r => Row r) (fun i σ Gi Hi => ∃ a : Option V, σ = [some v1, some (.ref L), a] ∧ Gr G H Gi Hi ∧ Gi L = none ∧ Hi L = some (.lst (((l.take i).flatMap listRow).map V.int))) (e_var (P := Rows l) rfl (Mo.up g1.gg p1)) g1.gh
      (fun G2 H2 g2 => ⟨none, rfl, g1.trans g2, g2.fr L gL (by rw [hL1]; simp), g2.hh L _ hL1⟩) ?_ ?_
    · rintro G2 H2 i r v σ' Gi Hi g2 hx s1 s2 pr ⟨a, rfl, gi, giL, hiL⟩
      have hl : ((l.take i).flatMap listRow).length ≤ 501 * (l.take i).length := flat_len _ fun x hx => hr5 x (List.mem_of_mem_take hx)
      have hl2 : (l.take i).length < l.length := by
        rw [List.length_take]
        have := (List.getElem?_eq_some_iff.mp hx).1
        omega
      have hrl := hr5 r (List.mem_of_getElem? hx)
      refine q_app (G := Gi) rfl hiL (by rw [List.length_map]; omega) (e_len (p := PI) (l := r) (e_var rfl pr)) s2 fun w1 G3 H3 g3 e3 => ?_
      obtain rfl := e3
      have g3L : G3 L = none := g3.fr L giL (by rw [hiL]; simp)
      refine s_ext (G := G3) (p := PI) (l := r) rfl upd_same (by rw [List.length_append, List.length_map, List.length_singleton]; omega) (e_var rfl (Mo.up (P := Row r) g3.gg pr)) (same_put g3.gh g3L) fun xs G4 H4 g4 e4 => ?_
      obtain rfl := ints_al e4
      have g4L : G4 L = none := g4.fr L g3L (by rw [upd_same]; simp)
      have gg : Gr G H G4 (upd H4 L (.lst (((l.take i).flatMap listRow).map V.int ++ [.int (r.length : Int)] ++ r.map V.int))) := (((gi.trans g3).put hL g3L).trans g4).put hL g4L
      refine ⟨G4, same_trans (same_trans s1 g3.gg) g4.gg, gg.gh, some v, rfl, gg, g4L, ?_⟩
      rw [upd_same, take_more hx, List.flatMap_append, List.map_append, List.append_assoc]
      simp [listRow]
    · rintro G2 H2 σ' Gi Hi g2 s1 s2 ⟨a, rfl, gi, giL, hiL⟩
      rw [List.take_length] at hiL
      exact ⟨_, rfl, k L _ Gi Hi gi hL giL hiL (al_ints _)⟩
theorem ok_counted (A : At K mg "counted" st_counted ["rows"] f fd) (T : Txt mg) : FnOk P w K mg base CX0 41 f fd ["rows"] sp_counted := fn_imp (ok_countedN A T) fun _ _ _ _ q => spN_P q
abbrev st_yes_or_no : Stmt := top 75
theorem sc_yes_or_no : FnScope ["holds"] ["holds"] (defScope st_yes_or_no) := ⟨rfl, rfl, rfl, by decide +kernel, rfl, by decide +kernel, by decide +kernel⟩
def sp_yes_or_no : Sp := spP (fun (x : Bool) => [PB x]) (fun _ => True) (fun x => PI (bit x))
theorem ok_yes_or_no (A : At K mg "yes_or_no" st_yes_or_no ["holds"] f fd) : FnOk P w K mg base CX0 41 f fd ["holds"] sp_yes_or_no := by
  refine A.fn.ok sc_yes_or_no (sp_len fun _ => rfl) (fun cdv Ar outer s H vs Q E hr h => ⟨_,
    (pss_one (ps_ret (pe_ifExp (pt_val (pv 0)) pe_int pe_int))), ?_⟩)
  obtain ⟨b, G, sG, al, _, k⟩ := h
  match vs, al with
  | [_], ⟨rfl, _⟩ =>
    refine s_ret (P := PI (bit b)) (e_if (t_B (b := b) (e_var rfl rfl)) (fun hb => ?_) (fun hb => ?_)) sG k
    · rw [hb]
      exact e_int
    · rw [hb]
      exact e_int
abbrev st_click_inputs : Stmt := top 21
theorem sc_click_inputs : FnScope ["how_many", "t"] ["how_many"] (defScope st_click_inputs) := ⟨rfl, rfl, rfl, by decide +kernel, rfl, by decide +kernel, by decide +kernel⟩
def sp_click_inputs : Sp := spP (fun (x : Int) => [PI x]) (fun x => 0 ≤ x ∧ x ≤ 1000) (fun x => Row (clicks x.toNat))
theorem ok_click_inputs (A : At K mg "click_inputs" st_click_inputs ["how_many"] f fd) (T : Txt mg) : FnOk P w K mg base CX0 41 f fd ["how_many"] sp_click_inputs := by
  refine A.fn.ok sc_click_inputs (sp_len fun _ => rfl) (fun cdv Ar outer s H vs Q E hr h => ⟨_,
    (pss_one (ps_ret (pe_lc (own := [("t", 1)]) rfl sc_click_inputs.nd (pi_range1 rfl T.range (pa_cons (pv 0) pa_nil)) (blkOk_by (N := ["how_many", "t"]) (sc := defScope st_click_inputs) (by decide +kernel)) (fun _ _ _ _ _ => (pg_name (i := 1) sc_click_inputs.nd rfl (Or.inl rfl))) (fun _ _ _ _ _ => pts_nil) (fun _ _ _ _ _ => (pe_ifExp (pt_cmpR op_eq (pv 1) pe_int (nomark _)) pe_int pe_int))))), ?_⟩)
  obtain ⟨n, G, sG, al, ⟨h1, h2⟩, k⟩ := h
  match vs, al with
  | [_], ⟨rfl, _⟩ =>
    refine s_ret (e_lcR1 (q := PI) (hi := n) (fun t => if t = 0 then (1 : Int) else 0) (e_var rfl rfl) (by omega) (fun _ => rfl) fun i G' hi _ => ?_) sG k
    refine e_if (b := decide ((i : Int) = 0)) (t_test (e_eq (e_var rfl rfl) e_int)) (fun hb => ?_) (fun hb => ?_)
    · have : i = 0 := by
        have := of_decide_eq_true hb
        omega
      rw [if_pos this]
      exact e_int
    · have : i ≠ 0 := by
        have := of_decide_eq_false hb
        omega
      rw [if_neg this]
      exact e_int
abbrev st_upper_behind : Stmt := top 22
theorem sc_upper_behind : FnScope ["beginning", "lower", "upper", "t", "answer", "number"] ["beginning", "lower"] (defScope st_upper_behind) := ⟨rfl, rfl, rfl, by decide +kernel, rfl, by decide +kernel, by decide +kernel⟩
def sp_upper_behind : Sp := spP (fun (x : List Int × List Int) => [Row x.1, Row x.2]) (fun x => x.1.length + 1 = x.2.length ∧ x.2.length ≤ 100 ∧ Sz 128 x.1 ∧ Sz 128 x.2) (fun x => Row (upperOf x.2 x.1))
theorem cut_from {α : Type} (l : List α) (n : Nat) : cut l (some (n : Int)) none = l.drop n := by
  unfold cut
  rw [HT.sIx_none, HT.sIx_nat]
  by_cases h : n ≤ l.length
  · rw [Nat.min_eq_left h, List.take_of_length_le (by rw [List.length_drop]; omega)]
  · rw [Nat.min_eq_right (by omega), List.drop_eq_nil_of_le (Nat.le_refl _), List.drop_eq_nil_of_le (by omega)]
    simp
theorem at_drop (l : List Int) (n i : Nat) : at_ (l.drop n) i = at_ l (n + i) := by
  unfold at_
  rw [List.getD_eq_getElem?_getD, List.getD_eq_getElem?_getD, List.getElem?_drop]
theorem upper_at (beg low : List Int) {t : Nat} (h : beg.length + 1 = low.length) (ht : t < beg.length) : -(List.zipWith (fun x y => x * y) (low.drop (t + 1)) beg).sum = at_ (upperOf low beg) t := by
  have e : at_ (upperOf low beg) t = -((List.range (low.length - 1 - t)).map fun j => at_ low (t + j + 1) * at_ beg j).sum := at_range (by omega)
  rw [e]
  congr 2
  refine row_ext ?_ fun i hi => ?_
  · rw [List.length_zipWith, List.length_drop, List.length_map, List.length_range]
    omega
  · rw [List.length_zipWith, List.length_drop] at hi
    rw [at_zip (by rw [List.length_drop]; omega) (by omega), at_range (by omega), at_drop, show t + 1 + i = t + i + 1 by omega]
theorem ok_upper_behind (A : At K mg "upper_behind" st_upper_behind ["beginning", "lower"] f fd) (T : Txt mg) : FnOk P w K mg base CX0 41 f fd ["beginning", "lower"] sp_upper_behind := by
  refine A.fn.ok sc_upper_behind (sp_len fun _ => rfl) (fun cdv Ar outer s H vs Q E hr h => ⟨_,
    (pss_cons (ps_set (i := 2) sc_upper_behind.nd rfl (Or.inl rfl) (pe_lst pa_nil))
  (pss_cons (ps_for PassesOwn.never rfl (pi_range1 rfl T.range (pa_cons (pe_callB (len_K (K := K) rfl) (by rfl) T.len (by decide +kernel) (pa_cons (pv 0) pa_nil)) pa_nil)) (pg_name (i := 3) sc_upper_behind.nd rfl (Or.inl rfl))
   (pss_one (ps_expr (pe_bm PySem.F.plainAttrs_list PySem.F.slot_list_append PySem.F.type_list_append mt_append (pv 2) (pa_cons (pe_un un_neg (pe_callB (sum_K (K := K) rfl rfl) (by rfl) T.sum (by decide +kernel) (pa_cons (pe_lc (g := gTup K 2 (gCons (gName 5) (gCons (gName 4) gNil))) (own := [("number", 5), ("answer", 4)]) rfl sc_upper_behind.nd (pi_zip rfl T.zip (pa_cons (pe_slice (sl_listK (K := K) rfl) (pv 1) (po_some (pe_op op_add (pv 3) pe_int)) po_none) (pa_cons (pv 0) pa_nil))) (blkOk_by (N := ["beginning", "lower", "upper", "t", "answer", "number"]) (sc := defScope st_upper_behind) (by decide +kernel)) (fun _ _ _ _ _ => (by exact (pg_tup rfl (pgs_cons (pg_name (i := 5) sc_upper_behind.nd rfl (Or.inl rfl)) (pgs_cons (pg_name (i := 4) sc_upper_behind.nd rfl (Or.inl rfl)) pgs_nil))))) (fun _ _ _ _ _ => pts_nil) (fun _ _ _ _ _ => (pe_op op_mulB (pv 5) (pv 4)))) pa_nil))) pa_nil)))))
  (pss_one (ps_ret (pv 2))))), ?_⟩)
  obtain ⟨⟨beg, low⟩, G, sG, al, ⟨hl, hz, z1, z2⟩, k⟩ := h
  match vs, al with
  | [v1, v2], ⟨p1, p2, _⟩ =>
    dsimp only at hl hz z1 z2 p1 p2
    refine q_own (n_lst0 (p := PI)) sG fun L xs G1 H1 g1 hL gL hL1 al => ?_
    obtain rfl := ints_al al
    refine q_forR (n := (beg.length : Int)) (fun i σ Gi Hi => ∃ a b c : Option V, σ = [some v1, some v2, some (.ref L), a, b, c] ∧ Gr G H Gi Hi ∧ Gi L = none ∧ i ≤ beg.length ∧ Hi L = some (.lst (((upperOf low beg).take i).map V.int))) (e_len (p := PI) (l := beg) (e_var rfl (Mo.up (P := Row beg) g1.gg p1))) (by omega) g1.gh
      (fun G2 H2 g2 => ⟨none, none, none, rfl, g1.trans g2, g2.fr L gL (by rw [hL1]; simp), Nat.zero_le _, g2.hh L _ hL1⟩) ?_ ?_
    · rintro G2 H2 i σ' Gi Hi g2 hi s1 s2 ⟨a, b, c, rfl, gi, giL, hib, hiL⟩
      have hi' : i < beg.length := by omega
      refine s_app (G := Gi) (P := PI (at_ (upperOf low beg) i)) rfl hiL (by rw [List.length_map, List.length_take]; omega) (e_to (e_neg (e_sum (r := List.zipWith (fun x y => x * y) (low.drop (i + 1)) beg) (e_lcZ (q := PI) (r := low.drop (i + 1)) (s := beg) (fun x y => x * y) ?_ ?_ ?_ (fun _ _ => rfl) ?_))) (upper_at beg low hl hi')) s2 fun w1 G3 H3 g3 e3 => ?_
      · refine e_toR (e_cut (p := PI) (l := low) (e_var rfl (Mo.up (P := Row low) gi.gg p2)) (o_some (e_to (e_add (e_var rfl rfl) e_int) (show (i : Int) + 1 = ((i + 1 : Nat) : Int) by omega))) o_none) (cut_from low (i + 1))
      · exact e_var rfl (Mo.up (P := Row beg) gi.gg p1)
      · rw [List.length_drop]
        omega
      · intro j x y G' hx hy _
        exact e_mul (e_var rfl rfl) (e_var rfl rfl) (mulB (z2 x (List.mem_of_mem_drop (List.mem_of_getElem? hx))) (z1 y (List.mem_of_getElem? hy)) (by omega))
      · obtain rfl := e3
        have g3L : G3 L = none := g3.fr L giL (by rw [hiL]; simp)
        have gg : Gr G H G3 (upd H3 L (.lst (((upperOf low beg).take i).map V.int ++ [.int (at_ (upperOf low beg) i)]))) := (gi.trans g3).put hL g3L
        refine ⟨G3, same_trans s1 g3.gg, gg.gh, _, _, _, rfl, gg, g3L, by omega, ?_⟩
        rw [upd_same, take_more (get_at (a := upperOf low beg) (i := i) (by rw [upperOf_len]; omega)), List.map_append]
        rfl
    · rintro G2 H2 σ' Gi Hi g2 s1 s2 ⟨a, b, c, rfl, gi, giL, hib, hiL⟩
      rw [List.take_of_length_le (by rw [upperOf_len]; omega)] at hiL
      exact s_give (p := PI) rfl gi hL giL hiL (al_ints _) k
end
end Qa
set_option Elab.async false
set_option linter.all false
set_option maxRecDepth 100000
set_option maxHeartbeats 2000000
namespace Qa
open PySem PySem.Spec PyProof.Rows L2 Qm
open Vbhlae (at_ inr)
section
variable {P : Program} {w : World} {K : PySem.W.Frag} {mg : Str → Option Value} {base : Heap} {f : Addr} {fd : FuncData} {cO cS : Addr}
abbrev st_want_volumes : Stmt := top 68
theorem sc_want_volumes : FnScope ["d", "m"] ["d", "m"] (defScope st_want_volumes) := ⟨rfl, rfl, rfl, by decide +kernel, rfl, by decide +kernel, by decide +kernel⟩
def sp_want_volumes (cO : Addr) : Sp := spX (fun (x : Int × Int) => [PI x.1, PI x.2]) (fun _ => True) (fun x => okOr cO (inr x.1 1 100 && inr x.2 0 60))
theorem ok_want_volumes (A : At K mg "want_volumes" st_want_volumes ["d", "m"] f fd) (c_PARTS_MOST : Cst mg "PARTS_MOST" 100) (c_VOLUMES_MOST : Cst mg "VOLUMES_MOST" 60) (D_want_between : Dfn P w K mg base (L2.CX P w) 41 "want_between" ["number", "least", "most"] (sp_want_between cO)) :
    FnOk P w K mg base (L2.CX P w) 42 f fd ["d", "m"] (sp_want_volumes cO) := by
  refine A.fn.okX sc_want_volumes (spX_len fun _ => rfl) (fun cdv Ar outer s H vs Q E hr h => ⟨_,
    (pss_cons (ps_expr (pe_defX (E := E) D_want_between (hr.mono (by decide)) (passes_call (takes_of rfl rfl rfl rfl) (fun _ _ _ _ h => h)) (pa_cons (pv 0) (pa_cons pe_int (pa_cons (pe_cst c_PARTS_MOST) pa_nil)))))
  (pss_one (ps_expr (pe_defX (E := E) D_want_between (hr.mono (by decide)) (passes_call (takes_of rfl rfl rfl rfl) (fun _ _ _ _ h => h)) (pa_cons (pv 1) (pa_cons pe_int (pa_cons (pe_cst c_VOLUMES_MOST) pa_nil))))))), ?_⟩)
  obtain ⟨⟨n, d⟩, G, sG, al, _, k1, k2⟩ := h
  match vs, al with
  | [_, _], ⟨rfl, rfl, _⟩ =>
    refine want_oneQ (b := inr n 1 100) (n, 1, 100) (a_three (e_var rfl rfl) e_int e_int) rfl sG (fun hb G2 H2 g2 => ?_) (fun hb G2 H2 g2 => k2 cO (by show okOr cO (inr n 1 100 && _) = _; rw [hb]; rfl) G2 H2 g2)
    exact want_one (b := inr d 0 60) (d, 0, 60) (a_three (e_var rfl rfl) e_int e_int) rfl g2.gh (fun hc G3 H3 g3 => k1 PN (by show okOr cO (inr n 1 100 && inr d 0 60) = _; rw [hb, hc]; rfl) .non G3 H3 (g2.trans g3) rfl) (fun hc G3 H3 g3 => k2 cO (by show okOr cO (inr n 1 100 && inr d 0 60) = _; rw [hb, hc]; rfl) G3 H3 (g2.trans g3))
abbrev st_want_volume : Stmt := top 73
theorem sc_want_volume : FnScope ["n", "d"] ["n", "d"] (defScope st_want_volume) := ⟨rfl, rfl, rfl, by decide +kernel, rfl, by decide +kernel, by decide +kernel⟩
def sp_want_volume (cO : Addr) : Sp := spX (fun (x : Int × Int) => [PI x.1, PI x.2]) (fun _ => True) (fun x => okOr cO (inr x.1 0 1000 && inr x.2 1 1000))
theorem ok_want_volume (A : At K mg "want_volume" st_want_volume ["n", "d"] f fd) (c_VOLUME_MOST : Cst mg "VOLUME_MOST" 1000) (D_want_between : Dfn P w K mg base (L2.CX P w) 41 "want_between" ["number", "least", "most"] (sp_want_between cO)) :
    FnOk P w K mg base (L2.CX P w) 42 f fd ["n", "d"] (sp_want_volume cO) := by
  refine A.fn.okX sc_want_volume (spX_len fun _ => rfl) (fun cdv Ar outer s H vs Q E hr h => ⟨_,
    (pss_cons (ps_expr (pe_defX (E := E) D_want_between (hr.mono (by decide)) (passes_call (takes_of rfl rfl rfl rfl) (fun _ _ _ _ h => h)) (pa_cons (pv 0) (pa_cons pe_int (pa_cons (pe_cst c_VOLUME_MOST) pa_nil)))))
  (pss_one (ps_expr (pe_defX (E := E) D_want_between (hr.mono (by decide)) (passes_call (takes_of rfl rfl rfl rfl) (fun _ _ _ _ h => h)) (pa_cons (pv 1) (pa_cons pe_int (pa_cons (pe_cst c_VOLUME_MOST) pa_nil))))))), ?_⟩)
  obtain ⟨⟨n, d⟩, G, sG, al, _, k1, k2⟩ := h
  match vs, al with
  | [_, _], ⟨rfl, rfl, _⟩ =>
    refine want_oneQ (b := inr n 0 1000) (n, 0, 1000) (a_three (e_var rfl rfl) e_int e_int) rfl sG (fun hb G2 H2 g2 => ?_) (fun hb G2 H2 g2 => k2 cO (by show okOr cO (inr n 0 1000 && _) = _; rw [hb]; rfl) G2 H2 g2)
    exact want_one (b := inr d 1 1000) (d, 1, 1000) (a_three (e_var rfl rfl) e_int e_int) rfl g2.gh (fun hc G3 H3 g3 => k1 PN (by show okOr cO (inr n 0 1000 && inr d 1 1000) = _; rw [hb, hc]; rfl) .non G3 H3 (g2.trans g3) rfl) (fun hc G3 H3 g3 => k2 cO (by show okOr cO (inr n 0 1000 && inr d 1 1000) = _; rw [hb, hc]; rfl) G3 H3 (g2.trans g3))
abbrev st_want_later : Stmt := top 70
theorem sc_want_later : FnScope ["k"] ["k"] (defScope st_want_later) := ⟨rfl, rfl, rfl, by decide +kernel, rfl, by decide +kernel, by decide +kernel⟩
def sp_want_later (cO : Addr) : Sp := spX (fun (x : Int) => [PI x]) (fun _ => True) (fun x => okOr cO (inr x 0 3))
theorem ok_want_later (A : At K mg "want_later" st_want_later ["k"] f fd) (c_LATER_MOST : Cst mg "LATER_MOST" 3) (D_want_between : Dfn P w K mg base (L2.CX P w) 41 "want_between" ["number", "least", "most"] (sp_want_between cO)) :
    FnOk P w K mg base (L2.CX P w) 42 f fd ["k"] (sp_want_later cO) := by
  refine A.fn.okX sc_want_later (spX_len fun _ => rfl) (fun cdv Ar outer s H vs Q E hr h => ⟨_,
    (pss_one (ps_expr (pe_defX (E := E) D_want_between (hr.mono (by decide)) (passes_call (takes_of rfl rfl rfl rfl) (fun _ _ _ _ h => h)) (pa_cons (pv 0) (pa_cons pe_int (pa_cons (pe_cst c_LATER_MOST) pa_nil)))))), ?_⟩)
  obtain ⟨i, G, sG, al, _, k1, k2⟩ := h
  match vs, al with
  | [_], ⟨rfl, _⟩ =>
    exact want_one (b := inr i 0 3) (i, 0, 3) (a_three (e_var rfl rfl) e_int e_int) rfl sG (fun hb G2 H2 g2 => k1 PN (by show okOr cO _ = _; rw [hb]; rfl) .non G2 H2 g2 rfl) (fun hb G2 H2 g2 => k2 cO (by show okOr cO _ = _; rw [hb]; rfl) G2 H2 g2)
abbrev st_want_click : Stmt := top 72
theorem sc_want_click : FnScope ["n"] ["n"] (defScope st_want_click) := ⟨rfl, rfl, rfl, by decide +kernel, rfl, by decide +kernel, by decide +kernel⟩
def sp_want_click (cO : Addr) : Sp := spX (fun (x : Int) => [PI x]) (fun _ => True) (fun x => okOr cO (inr x 1 16))
theorem ok_want_click (A : At K mg "want_click" st_want_click ["n"] f fd) (c_ANSWERS_LONGEST : Cst mg "ANSWERS_LONGEST" 16) (D_want_between : Dfn P w K mg base (L2.CX P w) 41 "want_between" ["number", "least", "most"] (sp_want_between cO)) :
    FnOk P w K mg base (L2.CX P w) 42 f fd ["n"] (sp_want_click cO) := by
  refine A.fn.okX sc_want_click (spX_len fun _ => rfl) (fun cdv Ar outer s H vs Q E hr h => ⟨_,
    (pss_one (ps_expr (pe_defX (E := E) D_want_between (hr.mono (by decide)) (passes_call (takes_of rfl rfl rfl rfl) (fun _ _ _ _ h => h)) (pa_cons (pv 0) (pa_cons pe_int (pa_cons (pe_cst c_ANSWERS_LONGEST) pa_nil)))))), ?_⟩)
  obtain ⟨i, G, sG, al, _, k1, k2⟩ := h
  match vs, al with
  | [_], ⟨rfl, _⟩ =>
    exact want_one (b := inr i 1 16) (i, 1, 16) (a_three (e_var rfl rfl) e_int e_int) rfl sG (fun hb G2 H2 g2 => k1 PN (by show okOr cO _ = _; rw [hb]; rfl) .non G2 H2 g2 rfl) (fun hb G2 H2 g2 => k2 cO (by show okOr cO _ = _; rw [hb]; rfl) G2 H2 g2)
abbrev st_want_row : Stmt := top 69
theorem sc_want_row : FnScope ["numbers"] ["numbers"] (defScope st_want_row) := ⟨rfl, rfl, rfl, by decide +kernel, rfl, by decide +kernel, by decide +kernel⟩
def sp_want_row (cO : Addr) : Sp := spX (fun (x : List Int) => [Row x]) (fun _ => True) (fun x => okOr cO (listOk x 1 12 1000000))
theorem ok_want_row (A : At K mg "want_row" st_want_row ["numbers"] f fd) (c_ROW_LONGEST : Cst mg "ROW_LONGEST" 12) (c_ROW_MOST : Cst mg "ROW_MOST" 1000000) (D_want_list : Dfn P w K mg base (L2.CX P w) 42 "want_list" ["numbers", "shortest", "longest", "most"] (sp_want_list cO)) :
    FnOk P w K mg base (L2.CX P w) 43 f fd ["numbers"] (sp_want_row cO) := by
  refine A.fn.okX sc_want_row (spX_len fun _ => rfl) (fun cdv Ar outer s H vs Q E hr h => ⟨_,
    (pss_one (ps_expr (pe_defX (E := E) D_want_list (hr.mono (by decide)) (passes_call (takes_of rfl rfl rfl rfl) (fun _ _ _ _ h => h)) (pa_cons (pv 0) (pa_cons pe_int (pa_cons (pe_cst c_ROW_LONGEST) (pa_cons (pe_cst c_ROW_MOST) pa_nil))))))), ?_⟩)
  obtain ⟨l, G, sG, al, _, k1, k2⟩ := h
  match vs, al with
  | [v1], ⟨p1, _⟩ =>
    exact want_one (b := listOk l 1 12 1000000) (l, 1, 12, 1000000) (a_four (P1 := Row l) (e_var rfl p1) e_int e_int e_int) rfl sG (fun hb G2 H2 g2 => k1 PN (by show okOr cO _ = _; rw [hb]; rfl) .non G2 H2 g2 rfl) (fun hb G2 H2 g2 => k2 cO (by show okOr cO _ = _; rw [hb]; rfl) G2 H2 g2)
abbrev st_want_freed : Stmt := top 66
theorem sc_want_freed : FnScope ["n", "beginning"] ["n", "beginning"] (defScope st_want_freed) := ⟨rfl, rfl, rfl, by decide +kernel, rfl, by decide +kernel, by decide +kernel⟩
def sp_want_freed (cO : Addr) : Sp := spX (fun (x : Int × List Int) => [PI x.1, Row x.2]) (fun _ => True) (fun x => okOr cO (inr x.1 0 16 && listOk x.2 0 12 1000))
theorem ok_want_freed (A : At K mg "want_freed" st_want_freed ["n", "beginning"] f fd) (c_ANSWERS_LONGEST : Cst mg "ANSWERS_LONGEST" 16) (c_BEGINNING_LONGEST : Cst mg "BEGINNING_LONGEST" 12) (c_BEGINNING_MOST : Cst mg "BEGINNING_MOST" 1000) (D_want_between : Dfn P w K mg base (L2.CX P w) 41 "want_between" ["number", "least", "most"] (sp_want_between cO)) (D_want_list : Dfn P w K mg base (L2.CX P w) 42 "want_list" ["numbers", "shortest", "longest", "most"] (sp_want_list cO)) :
    FnOk P w K mg base (L2.CX P w) 43 f fd ["n", "beginning"] (sp_want_freed cO) := by
  refine A.fn.okX sc_want_freed (spX_len fun _ => rfl) (fun cdv Ar outer s H vs Q E hr h => ⟨_,
    (pss_cons (ps_expr (pe_defX (E := E) D_want_between (hr.mono (by decide)) (passes_call (takes_of rfl rfl rfl rfl) (fun _ _ _ _ h => h)) (pa_cons (pv 0) (pa_cons pe_int (pa_cons (pe_cst c_ANSWERS_LONGEST) pa_nil)))))
  (pss_one (ps_expr (pe_defX (E := E) D_want_list (hr.mono (by decide)) (passes_call (takes_of rfl rfl rfl rfl) (fun _ _ _ _ h => h)) (pa_cons (pv 1) (pa_cons pe_int (pa_cons (pe_cst c_BEGINNING_LONGEST) (pa_cons (pe_cst c_BEGINNING_MOST) pa_nil)))))))), ?_⟩)
  obtain ⟨⟨n, l⟩, G, sG, al, _, k1, k2⟩ := h
  match vs, al with
  | [_, v1], ⟨rfl, p1, _⟩ =>
    dsimp only at p1
    refine want_oneQ (b := inr n 0 16) (n, 0, 16) (a_three (e_var rfl rfl) e_int e_int) rfl sG (fun hb G2 H2 g2 => ?_) (fun hb G2 H2 g2 => k2 cO (by show okOr cO (inr n 0 16 && _) = _; rw [hb]; rfl) G2 H2 g2)
    exact want_one (b := listOk l 0 12 1000) (l, 0, 12, 1000) (a_four (P1 := Row l) (e_var rfl (Mo.up g2.gg p1)) e_int e_int e_int) rfl g2.gh (fun hc G3 H3 g3 => k1 PN (by show okOr cO (inr n 0 16 && listOk l 0 12 1000) = _; rw [hb, hc]; rfl) .non G3 H3 (g2.trans g3) rfl) (fun hc G3 H3 g3 => k2 cO (by show okOr cO (inr n 0 16 && listOk l 0 12 1000) = _; rw [hb, hc]; rfl) G3 H3 (g2.trans g3))
abbrev st_want_as_many : Stmt := top 67
theorem sc_want_as_many : FnScope ["beginning", "row"] ["beginning", "row"] (defScope st_want_as_many) := ⟨rfl, rfl, rfl, by decide +kernel, rfl, by decide +kernel, by decide +kernel⟩
def sp_want_as_many (cS : Addr) : Sp := spX (fun (x : List Int × List Int) => [Row x.1, Row x.2]) (fun _ => True) (fun x => okOr cS (decide (x.1.length + 1 = x.2.length)))
theorem ok_want_as_many (A : At K mg "want_as_many" st_want_as_many ["beginning", "row"] f fd) (T : Txt mg) (TS : Err K mg "WrongSize" cS) : FnOk P w K mg base (L2.CX P w) 41 f fd ["beginning", "row"] (sp_want_as_many cS) := by
  refine A.fn.okX sc_want_as_many (spX_len fun _ => rfl) (fun cdv Ar outer s H vs Q E hr h => ⟨_,
    (pss_one (ps_if (pt_cmpR op_ne (pe_callB (len_K (K := K) rfl) (by rfl) T.len (by decide +kernel) (pa_cons (pv 0) pa_nil)) (pe_op op_sub (pe_callB (len_K (K := K) rfl) (by rfl) T.len (by decide +kernel) (pa_cons (pv 1) pa_nil)) pe_int) (nomark _)) (pss_one (ps_err TS (takes_of rfl rfl rfl rfl))) pss_nil)), ?_⟩)
  obtain ⟨⟨a, b⟩, G, sG, al, _, k1, k2⟩ := h
  match vs, al with
  | [v1, v2], ⟨p1, p2, _⟩ =>
    dsimp only at p1 p2
    refine s_when (t_test (e_ne (e_len (p := PI) (l := a) (e_var rfl p1)) (e_sub (e_len (p := PI) (l := b) (e_var rfl p2)) e_int))) sG (fun hb G2 H2 g2 => ?_) (fun hb G2 H2 g2 => ?_)
    · have hb : ¬ ((a.length : Int) = (b.length : Int) - 1) := by simpa using hb
      exact k2 cS (by show okOr cS (decide (a.length + 1 = b.length)) = _; rw [decide_eq_false (by omega)]; rfl) G2 H2 g2
    · have hb : (a.length : Int) = (b.length : Int) - 1 := by simpa using hb
      exact k1 PN (by show okOr cS (decide (a.length + 1 = b.length)) = _; rw [decide_eq_true (by omega)]; rfl) .non G2 H2 g2 rfl
abbrev st_want_room : Stmt := top 71
theorem sc_want_room : FnScope ["up"] ["up"] (defScope st_want_room) := ⟨rfl, rfl, rfl, by decide +kernel, rfl, by decide +kernel, by decide +kernel⟩
def sp_want_room (cS : Addr) : Sp := spX (fun (x : List Int) => [Row x]) (fun _ => True) (fun x => okOr cS (decide (x.length ≤ 4)))
theorem ok_want_room (A : At K mg "want_room" st_want_room ["up"] f fd) (T : Txt mg) (c_UPPER_LONGEST : Cst mg "UPPER_LONGEST" 4) (TS : Err K mg "WrongSize" cS) : FnOk P w K mg base (L2.CX P w) 41 f fd ["up"] (sp_want_room cS) := by
  refine A.fn.okX sc_want_room (spX_len fun _ => rfl) (fun cdv Ar outer s H vs Q E hr h => ⟨_,
    (pss_one (ps_if (pt_cmpR op_gt (pe_callB (len_K (K := K) rfl) (by rfl) T.len (by decide +kernel) (pa_cons (pv 0) pa_nil)) (pe_cst c_UPPER_LONGEST) (nomark _)) (pss_one (ps_err TS (takes_of rfl rfl rfl rfl))) pss_nil)), ?_⟩)
  obtain ⟨a, G, sG, al, _, k1, k2⟩ := h
  match vs, al with
  | [v1], ⟨p1, _⟩ =>
    refine s_when (t_test (e_gt (e_len (p := PI) (l := a) (e_var rfl p1)) e_int)) sG (fun hb G2 H2 g2 => ?_) (fun hb G2 H2 g2 => ?_)
    · have hb : 4 < (a.length : Int) := by simpa using hb
      exact k2 cS (by show okOr cS (decide (a.length ≤ 4)) = _; rw [decide_eq_false (by omega)]; rfl) G2 H2 g2
    · have hb : ¬ (4 < (a.length : Int)) := by simpa using hb
      exact k1 PN (by show okOr cS (decide (a.length ≤ 4)) = _; rw [decide_eq_true (by omega)]; rfl) .non G2 H2 g2 rfl
end
end Qa
set_option Elab.async false
set_option linter.all false
set_option maxRecDepth 100000
set_option maxHeartbeats 2000000
/-! The aid, as it is read. -/
namespace Qa
open PySem PySem.Spec PyProof.Rows L2 Qm
open Vbhlae (at_ chain plus times frac qRow)
/-! ### objects read -/
theorem al_1 {G : Hp} {P1 : Pr} : ∀ {vs : List V}, Al2 G vs [P1] → ∃ v1, vs = [v1] ∧ P1 G v1
  | [], h => h.elim
  | [v1], h => ⟨v1, rfl, h.1⟩
  | _ :: _ :: _, h => h.2.elim
theorem al_2 {G : Hp} {P1 P2 : Pr} : ∀ {vs : List V}, Al2 G vs [P1, P2] → ∃ v1 v2, vs = [v1, v2] ∧ P1 G v1 ∧ P2 G v2
  | [], h => h.elim
  | v1 :: _, h => by
    obtain ⟨v2, rfl, p2⟩ := al_1 h.2
    exact ⟨v1, v2, rfl, h.1, p2⟩
theorem al_3 {G : Hp} {P1 P2 P3 : Pr} : ∀ {vs : List V}, Al2 G vs [P1, P2, P3] → ∃ v1 v2 v3, vs = [v1, v2, v3] ∧ P1 G v1 ∧ P2 G v2 ∧ P3 G v3
  | [], h => h.elim
  | v1 :: _, h => by
    obtain ⟨v2, v3, rfl, p2, p3⟩ := al_2 h.2
    exact ⟨v1, v2, v3, rfl, h.1, p2, p3⟩
section
variable {te ta tb tl : TE} {σ : L2.St} {G H G' : Hp} {P P' R : Pr} {Ps : List Pr} {K : PySem.W.Frag} {E : XK} {c C : Addr}
theorem e_fld {f : Str} (ha : Ev ta σ G P) (h : ∀ G2 v, P G2 v → ∃ a C dx fs w, v = .ref a ∧ G2 a = some (.ins C dx fs) ∧ Cls K C ∧ NoAttr K C f ∧ fs.lookup f = some w ∧ R G2 w) : Ev (tFld K ta f) σ G R := fun H s _ k => ha H s _ fun v G2 H2 g p => by
  obtain ⟨a, C, dx, fs, w, e, h1, h2, h3, h4, h5⟩ := h G2 v p
  exact ⟨a, C, dx, fs, w, e, g.gh a _ h1, h2, h3, h4, k w G2 H2 g h5⟩
/-- an instance of the class that has no value of the name m -/
def IsObj (C : Addr) (m : Str) (P : Pr) : Prop := ∀ G2 v, P G2 v → ∃ a dx fs, v = .ref a ∧ G2 a = some (.ins C dx fs) ∧ fs.lookup m = none
theorem e_mth {α : Type} {As : α → List Pr} {pre : α → Prop} {R : α → Pr} {m : Str} {t : TA} (x : α) (hA : As x = P :: Ps) [Mo P] (mo : MoAll Ps) (ho : IsObj C m P) (ha : Ev ta σ G P) (ht : EvA t σ G Ps) (hp : pre x) : Ev (tMeth C m (spP As pre R) [] E ta t) σ G (R x) := fun H s _ k =>
  ha H s _ fun v G1 H1 g1 p => by
    obtain ⟨a, dx, fs, e, h1, h2⟩ := ho G1 v p
    refine ⟨a, dx, fs, e, g1.gh a _ h1, h2, (ht.mono mo g1.gg) H1 g1.gh _ fun vs G2 H2 g2 al => ⟨x, G2, g2.gh, ?_, hp, fun w G3 H3 g3 r => k w G3 H3 ((g1.trans g2).trans g3) r⟩⟩
    rw [List.append_nil, hA]
    exact ⟨Mo.up g2.gg p, al⟩
theorem e_mthX {α : Type} {As : α → List Pr} {pre : α → Prop} {R : α → Except Addr Pr} {m : Str} {t : TA} (x : α) (hA : As x = P :: Ps) [Mo P] (mo : MoAll Ps) (ho : IsObj C m P) (ha : Ev ta σ G P) (ht : EvA t σ G Ps) (hp : pre x) (hR : R x = .ok P') : Ev (tMeth C m (spX As pre R) [] E ta t) σ G P' := fun H s _ k =>
  ha H s _ fun v G1 H1 g1 p => by
    obtain ⟨a, dx, fs, e, h1, h2⟩ := ho G1 v p
    refine ⟨a, dx, fs, e, g1.gh a _ h1, h2, (ht.mono mo g1.gg) H1 g1.gh _ fun vs G2 H2 g2 al => ⟨x, G2, g2.gh, ?_, hp, fun P2 e2 w G3 H3 g3 r => ?_, fun c e2 => ?_⟩⟩
    · rw [List.append_nil, hA]
      exact ⟨Mo.up g2.gg p, al⟩
    · rw [hR] at e2
      cases e2
      exact k w G3 H3 ((g1.trans g2).trans g3) r
    · rw [hR] at e2
      cases e2
theorem th_mth {α : Type} {As : α → List Pr} {pre : α → Prop} {R : α → Except Addr Pr} {m : Str} {t : TA} (x : α) (hA : As x = P :: Ps) [Mo P] (mo : MoAll Ps) (ho : IsObj C m P) (ha : Ev ta σ G P) (ht : EvA t σ G Ps) (hp : pre x) (hR : R x = .error c) : Throws (tMeth C m (spX As pre R) [] E ta t) σ G c E := fun H s k Q =>
  ha H s _ fun v G1 H1 g1 p => by
    obtain ⟨a, dx, fs, e, h1, h2⟩ := ho G1 v p
    refine ⟨a, dx, fs, e, g1.gh a _ h1, h2, (ht.mono mo g1.gg) H1 g1.gh _ fun vs G2 H2 g2 al => ⟨x, G2, g2.gh, ?_, hp, fun P2 e2 => ?_, fun c e2 G3 H3 g3 => ?_⟩⟩
    · rw [List.append_nil, hA]
      exact ⟨Mo.up g2.gg p, al⟩
    · rw [hR] at e2
      cases e2
    · rw [hR] at e2
      cases e2
      exact k G3 H3 ((g1.trans g2).trans g3)
end
/-! ### bands, aids -/
def bF (g u l : V) : List (Str × V) := [("gain", g), ("up", u), ("low", l)]
def aF (u l b : V) : List (Str × V) := [("leak_up", u), ("leak_low", l), ("bands", b)]
theorem bF_g (g u l : V) : (bF g u l).lookup ("gain" : Str) = some g := lk_here
theorem bF_u (g u l : V) : (bF g u l).lookup ("up" : Str) = some u := (lk_past (by decide +kernel)).trans lk_here
theorem bF_l (g u l : V) : (bF g u l).lookup ("low" : Str) = some l := (lk_past (by decide +kernel)).trans ((lk_past (by decide +kernel)).trans lk_here)
theorem aF_u (u l b : V) : (aF u l b).lookup ("leak_up" : Str) = some u := lk_here
theorem aF_l (u l b : V) : (aF u l b).lookup ("leak_low" : Str) = some l := (lk_past (by decide +kernel)).trans lk_here
theorem aF_b (u l b : V) : (aF u l b).lookup ("bands" : Str) = some b := (lk_past (by decide +kernel)).trans ((lk_past (by decide +kernel)).trans lk_here)
theorem aF_m (u l b : V) {m : Str} (h1 : (m == ("leak_up" : Str)) = false) (h2 : (m == ("leak_low" : Str)) = false) (h3 : (m == ("bands" : Str)) = false) : (aF u l b).lookup m = none := (lk_past h1).trans ((lk_past h2).trans ((lk_past h3).trans rfl))
structure AidT (K : PySem.W.Frag) (CA CB : Addr) : Prop where
  a : Cls K CA
  b : Cls K CB
  au : NoAttr K CA "leak_up"
  al : NoAttr K CA "leak_low"
  ab : NoAttr K CA "bands"
  bg : NoAttr K CB "gain"
  bu : NoAttr K CB "up"
  bl : NoAttr K CB "low"
  ne : CA ≠ CB
def qp (q : Vbhlae.Q) : Int × Int := (q.num, (q.den : Int))
def PBand (CB : Addr) (b : Vbhlae.Band) : Pr := fun H v => ∃ p dp vg vu vl, v = .ref p ∧ H p = some (.ins CB dp (bF vg vu vl)) ∧ Pair (qp b.gain) H vg ∧ Row b.up H vu ∧ Row b.low H vl
instance {CB : Addr} {b : Vbhlae.Band} : Mo (PBand CB b) := ⟨fun s ⟨p, dp, vg, vu, vl, e, h, h1, h2, h3⟩ => ⟨p, dp, vg, vu, vl, e, s p _ h, Mo.up s h1, Mo.up s h2, Mo.up s h3⟩⟩
def POB (CB : Addr) : Option Vbhlae.Band → Pr
  | none => PN
  | some b => PBand CB b
instance {CB : Addr} {o : Option Vbhlae.Band} : Mo (POB CB o) := by
  cases o
  · exact inferInstanceAs (Mo PN)
  · exact inferInstanceAs (Mo (PBand CB _))
theorem pob_some {CB : Addr} {o : Option Vbhlae.Band} {G : Hp} {v : V} (h : POB CB o G v) : (!decide (v = V.non)) = o.isSome := by
  cases o with
  | none =>
    have : v = .non := h
    subst this
    rfl
  | some b =>
    obtain ⟨p, _, _, _, _, rfl, _⟩ := h
    rfl
def PAid (CA CB : Addr) (m : Vbhlae.Aid) : Pr := fun H v => ∃ a da vu vl vb, v = .ref a ∧ H a = some (.ins CA da (aF vu vl vb)) ∧ Row m.leakUp H vu ∧ Row m.leakLow H vl ∧ Ls (POB CB) m.bands H vb
instance {CA CB : Addr} {m : Vbhlae.Aid} : Mo (PAid CA CB m) := ⟨fun s ⟨a, da, vu, vl, vb, e, h, h1, h2, h3⟩ => ⟨a, da, vu, vl, vb, e, s a _ h, Mo.up s h1, Mo.up s h2, Mo.up (P := Ls (POB CB) m.bands) s h3⟩⟩
theorem aid_obj {CA CB : Addr} {m : Vbhlae.Aid} {n : Str} (h1 : (n == ("leak_up" : Str)) = false) (h2 : (n == ("leak_low" : Str)) = false) (h3 : (n == ("bands" : Str)) = false) : IsObj CA n (PAid CA CB m) := fun G2 v ⟨a, da, vu, vl, vb, e, h, _⟩ => ⟨a, da, _, e, h, aF_m _ _ _ h1 h2 h3⟩
section
variable {te ta tb tl : TE} {σ : L2.St} {G : Hp} {K : PySem.W.Frag} {CA CB : Addr} {m : Vbhlae.Aid} {b : Vbhlae.Band}
theorem e_gain (A : AidT K CA CB) (h : Ev ta σ G (PBand CB b)) : Ev (tFld K ta "gain") σ G (Pair (qp b.gain)) := e_fld h fun G2 v ⟨p, dp, vg, vu, vl, e, h, h1, h2, h3⟩ => ⟨p, CB, dp, _, vg, e, h, A.b, A.bg, bF_g _ _ _, h1⟩
theorem e_up (A : AidT K CA CB) (h : Ev ta σ G (PBand CB b)) : Ev (tFld K ta "up") σ G (Row b.up) := e_fld h fun G2 v ⟨p, dp, vg, vu, vl, e, h, h1, h2, h3⟩ => ⟨p, CB, dp, _, vu, e, h, A.b, A.bu, bF_u _ _ _, h2⟩
theorem e_low (A : AidT K CA CB) (h : Ev ta σ G (PBand CB b)) : Ev (tFld K ta "low") σ G (Row b.low) := e_fld h fun G2 v ⟨p, dp, vg, vu, vl, e, h, h1, h2, h3⟩ => ⟨p, CB, dp, _, vl, e, h, A.b, A.bl, bF_l _ _ _, h3⟩
theorem e_leakup (A : AidT K CA CB) (h : Ev ta σ G (PAid CA CB m)) : Ev (tFld K ta "leak_up") σ G (Row m.leakUp) := e_fld h fun G2 v ⟨p, dp, vu, vl, vb, e, h, h1, h2, h3⟩ => ⟨p, CA, dp, _, vu, e, h, A.a, A.au, aF_u _ _ _, h1⟩
theorem e_leaklow (A : AidT K CA CB) (h : Ev ta σ G (PAid CA CB m)) : Ev (tFld K ta "leak_low") σ G (Row m.leakLow) := e_fld h fun G2 v ⟨p, dp, vu, vl, vb, e, h, h1, h2, h3⟩ => ⟨p, CA, dp, _, vl, e, h, A.a, A.al, aF_l _ _ _, h2⟩
theorem e_bands (A : AidT K CA CB) (h : Ev ta σ G (PAid CA CB m)) : Ev (tFld K ta "bands") σ G (Ls (POB CB) m.bands) := e_fld h fun G2 v ⟨p, dp, vu, vl, vb, e, h, h1, h2, h3⟩ => ⟨p, CA, dp, _, vb, e, h, A.a, A.ab, aF_b _ _ _, h3⟩
end
/-! ### the bands together -/
theorem gain_eq {b : Vbhlae.Band} (hb : WfB b) {n : Int} {d : Nat} (hd : d ≠ 0) : prq (((b.gain.num * n : Int) : Rat) / (((b.gain.den : Int) * (d : Int) : Int) : Rat)) = qp ((frac n d).mul b.gain) := by
  obtain ⟨g, e, _⟩ := hb.g
  rw [e, q_frac n hd, q_mul]
  show prq (((g.num * n : Int) : Rat) / (((g.den : Int) * (d : Int) : Int) : Rat)) = prq (mkRat n d * g)
  rw [rat_times, ← prq_mk, Rat.mul_comm]
section
variable {P : Program} {w : World} {K : PySem.W.Frag} {mg : Str → Option Value} {base : Heap} {f : Addr} {fd : FuncData} {CA CB cR : Addr}
/-- a volume as it is asked: n over d -/
def VolP (n d : Int) : Prop := 0 ≤ n ∧ n ≤ 1000 ∧ 1 ≤ d ∧ d ≤ 1000
theorem VolP.vol {n d : Int} (h : VolP n d) : Vol (frac n d.toNat) := by
  obtain ⟨h1, h2, h3, h4⟩ := h
  exact vol_frac (by omega) (by omega) (by omega)
abbrev st_Aid_together : Stmt := inClass (top 40) 5
theorem sc_Aid_together : FnScope ["self", "n", "d", "upper", "lower", "band", "gain", "top", "bottom"] ["self", "n", "d"] (defScope st_Aid_together) := ⟨rfl, rfl, rfl, by decide +kernel, rfl, by decide +kernel, by decide +kernel⟩
def sp_together (CA CB : Addr) : Sp := spP (fun (x : Vbhlae.Aid × Int × Int) => [PAid CA CB x.1, PI x.2.1, PI x.2.2]) (fun x => Wf x.1 ∧ VolP x.2.1 x.2.2) (fun x => TwoRows (Vbhlae.together (frac x.2.1 x.2.2.toNat) (Vbhlae.present x.1)))
theorem sz1 {x : Int} {B : Nat} (h : x.natAbs < 2 ^ B) : Sz B [x] := fun y hy => by
  have : y = x := by simpa using hy
  rw [this]
  exact h
theorem togP_zero (v : Vbhlae.Q) (l : List (Option Vbhlae.Band)) : togP v (pres (l.take 0)) = ([0], [1]) := by
  rw [List.take_zero]
  rfl
theorem ok_together (F : Fun K "together" "Aid.together" st_Aid_together f fd) (A : AidT K CA CB) (D_lowest : Dfn P w K mg base CX0 42 "lowest" ["upper", "lower"] sp_lowest) (D_scaled : Dfn P w K mg base CX0 41 "scaled" ["row", "factor"] sp_scaled)
    (D_added : Dfn P w K mg base CX0 42 "added" ["one", "other"] sp_added) (D_product : Dfn P w K mg base CX0 41 "product" ["one", "other"] sp_product) : FnOk P w K mg base CX0 43 f fd ["self", "n", "d"] (sp_together CA CB) := by
  refine F.ok sc_Aid_together (sp_len fun _ => rfl) (fun cdv Ar outer s H vs Q E hr h => ⟨_,
    (pss_cons (ps_set (i := 3) sc_Aid_together.nd rfl (Or.inl rfl) (pe_lst (pa_cons pe_int pa_nil)))
  (pss_cons (ps_set (i := 4) sc_Aid_together.nd rfl (Or.inl rfl) (pe_lst (pa_cons pe_int pa_nil)))
  (pss_cons (ps_for PassesOwn.never rfl (pi_list (pe_fld (pv 0) rfl)) (pg_name (i := 5) sc_Aid_together.nd rfl (Or.inl rfl))
   (pss_one (ps_if (pt_cmpR op_notN (pv 5) pe_non (nomark _)) (pss_cons (ps_set (i := 6) sc_Aid_together.nd rfl (Or.inl rfl) (pe_def D_lowest (hr.mono (by decide)) (pa_cons (pe_op op_mulB (pe_ix (ix_tupK (K := K) rfl) (pe_fld (pv 5) rfl) pe_int (fun _ _ => rfl)) (pv 1)) (pa_cons (pe_op op_mulB (pe_ix (ix_tupK (K := K) rfl) (pe_fld (pv 5) rfl) pe_int (fun _ _ => rfl)) (pv 2)) pa_nil))))
  (pss_cons (ps_set (i := 7) sc_Aid_together.nd rfl (Or.inl rfl) (pe_def D_scaled (hr.mono (by decide)) (pa_cons (pe_fld (pv 5) rfl) (pa_cons (pe_ix (ix_tupK (K := K) rfl) (pv 6) pe_int (fun _ _ => rfl)) pa_nil))))
  (pss_cons (ps_set (i := 8) sc_Aid_together.nd rfl (Or.inl rfl) (pe_def D_scaled (hr.mono (by decide)) (pa_cons (pe_fld (pv 5) rfl) (pa_cons (pe_ix (ix_tupK (K := K) rfl) (pv 6) pe_int (fun _ _ => rfl)) pa_nil))))
  (pss_cons (ps_set (i := 3) sc_Aid_together.nd rfl (Or.inl rfl) (pe_def D_added (hr.mono (by decide)) (pa_cons (pe_def D_product (hr.mono (by decide)) (pa_cons (pv 3) (pa_cons (pv 8) pa_nil))) (pa_cons (pe_def D_product (hr.mono (by decide)) (pa_cons (pv 7) (pa_cons (pv 4) pa_nil))) pa_nil))))
  (pss_one (ps_set (i := 4) sc_Aid_together.nd rfl (Or.inl rfl) (pe_def D_product (hr.mono (by decide)) (pa_cons (pv 4) (pa_cons (pv 8) pa_nil))))))))) pss_nil)))
  (pss_one (ps_ret (pe_tup (pa_cons (pv 3) (pa_cons (pv 4) pa_nil)))))))), ?_⟩)
  obtain ⟨⟨m, n, d⟩, G, sG, al, ⟨hw, hv⟩, k⟩ := h
  dsimp only at hw hv
  have vol := hv.vol
  obtain ⟨n0, n1, d0, d1⟩ := hv
  obtain ⟨v1, v2, v3, rfl, p1, e2, e3⟩ := al_3 al
  obtain rfl : v2 = .int n := e2
  obtain rfl : v3 = .int d := e3
  have p1 : PAid CA CB m G v1 := p1
  · refine q_asg (P := Row [0]) (e_lst1 (p := PI) e_int) sG fun vu G1 H1 g1 pu => ?_
    refine q_asg (P := Row [1]) (e_lst1 (p := PI) e_int) g1.gh fun vl G2 H2 g2 pl => ?_
    have g12 := g1.trans g2
    refine q_for (p := POB CB) (l := m.bands) (fun i σ Gi Hi => ∃ (vu vl : V) (a b c e : Option V), σ = [some v1, some (.int n), some (.int d), some vu, some vl, a, b, c, e] ∧ Row (togP (frac n d.toNat) (pres (m.bands.take i))).1 Gi vu ∧ Row (togP (frac n d.toNat) (pres (m.bands.take i))).2 Gi vl ∧ Gr G H Gi Hi)
      (e_bands A (e_var rfl (Mo.up g12.gg p1))) g2.gh (fun G3 H3 g3 => ⟨vu, vl, none, none, none, none, rfl, by rw [togP_zero]; exact Mo.up (P := Row [0]) (same_trans g2.gg g3.gg) pu, by rw [togP_zero]; exact Mo.up (P := Row [1]) g3.gg pl, g12.trans g3⟩) ?_ ?_
    · rintro G3 H3 i x v σ' Gi Hi g3 hx s1 s2 px ⟨vu, vl, a, b, c, e, rfl, pu, pl, gi⟩
      refine s_when (t_test (e_notN (P := POB CB x) (e_var rfl px) fun _ _ z => pob_some z)) s2 (fun hb G4 H4 g4 => ?_) (fun hb G4 H4 g4 => ?_)
      · obtain ⟨bd, rfl⟩ := Option.isSome_iff_exists.mp hb
        have wb : WfB bd := hw.b bd (List.mem_of_getElem? hx)
        obtain ⟨gr, eg, gz1, gz2⟩ := id wb.g
        obtain ⟨u1, u2, u3⟩ := up_is wb.up
        obtain ⟨w1, w2, w3, _⟩ := low_is wb.low
        obtain ⟨z1, z2⟩ := gain_sz vol wb
        obtain ⟨t1, t2, t3, t4, t5, t6⟩ := hw.tog vol i
        rw [← hw.togP (frac n d.toNat) i] at t1 t2 t3 t4 t5 t6
        have pb : PBand CB bd G4 v := Mo.up (P := PBand CB bd) g4.gg px
        have hd : ((bd.gain.den : Int)).natAbs < 2 ^ 10 := by
          rw [eg, Int.natAbs_natCast]
          exact gz2
        have hn : bd.gain.num.natAbs < 2 ^ 10 := by
          rw [eg]
          exact gz1
        have hd0 : (bd.gain.den : Int) ≠ 0 := by
          rw [eg]
          have := gr.den_nz
          show (gr.den : Int) ≠ 0
          omega
        have ed : d = ((d.toNat : Nat) : Int) := by omega
        have ge := gain_eq wb (n := n) (d := d.toNat) (by omega)
        rw [← ed] at ge
        have tn := togP_some (v := frac n d.toNat) hx
        have ea : addB (togP (frac n d.toNat) (pres (m.bands.take i))) (withGain (frac n d.toNat) bd) = (plus (chain (togP (frac n d.toNat) (pres (m.bands.take i))).1 (times (((frac n d.toNat).mul bd.gain).den : Int) bd.low)) (chain (times ((frac n d.toNat).mul bd.gain).num bd.up) (togP (frac n d.toNat) (pres (m.bands.take i))).2), chain (togP (frac n d.toNat) (pres (m.bands.take i))).2 (times (((frac n d.toNat).mul bd.gain).den : Int) bd.low)) := rfl
        rw [ea] at tn
        clear ea
        rw [tn]
        clear tn
        revert ge z1 z2 t1 t2 t3 t4 t5 t6 pu pl
        generalize (frac n d.toNat).mul bd.gain = q
        generalize togP (frac n d.toNat) (pres (m.bands.take i)) = T
        obtain ⟨U, W⟩ := T
        intro pu pl z1 z2 t1 t2 t3 t4 t5 t6 ge
        dsimp only at pu pl t1 t2 t3 t4 t5 t6 ⊢
        have z3 : ((q.den : Int)).natAbs < 2 ^ 20 := by
          rw [Int.natAbs_natCast]
          exact z2
        have st : Sz 27 (times q.num bd.up) := Sz.times z1 u3
        have sb : Sz 27 (times (q.den : Int) bd.low) := Sz.times z3 w3
        have nt : times q.num bd.up ≠ [] := times_ne u1
        have nb : times (q.den : Int) bd.low ≠ [] := times_ne w1
        have lt := times_len q.num bd.up
        have lb := times_len (q.den : Int) bd.low
        have nu := ne_len t5
        have nl := ne_len t6
        have lc1 : (chain U (times (q.den : Int) bd.low)).length ≤ 1000 := by rw [chain_len nu nb]; omega
        have lc2 : (chain (times q.num bd.up) W).length ≤ 1000 := by rw [chain_len nt nl]; omega
        have lu : bd.up.length ≤ 1000 := by omega
        have lw : bd.low.length ≤ 1000 := by omega
        have lt' : (times q.num bd.up).length ≤ 1000 := by omega
        have lb' : (times (q.den : Int) bd.low).length ≤ 1000 := by omega
        have lU : U.length ≤ 1000 := by omega
        have lW : W.length ≤ 1000 := by omega
        have m1 : CMulB bd.gain.num n := mulB (b := 10) hn (by show n.natAbs < 1024; omega) (by omega)
        have m2 : CMulB (bd.gain.den : Int) d := mulB (b := 10) hd (by show d.natAbs < 1024; omega) (by omega)
        have m3 : (bd.gain.den : Int) * d ≠ 0 := Int.mul_ne_zero hd0 (by omega)
        have m4 : ∀ y ∈ bd.up, CMulB q.num y := fun y hy => mulB z1 (u3 y hy) (by omega)
        have m5 : ∀ y ∈ bd.low, CMulB (q.den : Int) y := fun y hy => mulB z3 (w3 y hy) (by omega)
        have pr1 : U ≠ [] ∧ times (q.den : Int) bd.low ≠ [] ∧ U.length ≤ 1000 ∧ (times (q.den : Int) bd.low).length ≤ 1000 ∧ ∃ B, Sz B U ∧ Sz B (times (q.den : Int) bd.low) ∧ B ≤ 40000000 := ⟨nu, nb, lU, lb', 97, t3, sb.mono (by omega), by omega⟩
        have pr2 : times q.num bd.up ≠ [] ∧ W ≠ [] ∧ (times q.num bd.up).length ≤ 1000 ∧ W.length ≤ 1000 ∧ ∃ B, Sz B (times q.num bd.up) ∧ Sz B W ∧ B ≤ 40000000 := ⟨nt, nl, lt', lW, 94, st.mono (by omega), t4, by omega⟩
        have pr3 : W ≠ [] ∧ times (q.den : Int) bd.low ≠ [] ∧ W.length ≤ 1000 ∧ (times (q.den : Int) bd.low).length ≤ 1000 ∧ ∃ B, Sz B W ∧ Sz B (times (q.den : Int) bd.low) ∧ B ≤ 40000000 := ⟨nl, nb, lW, lb', 94, t4, sb.mono (by omega), by omega⟩
        clear st sb nt nb lt lb nu nl z1 z2 z3 t1 t2 t3 t4 t5 t6 u1 u2 u3 w1 w2 w3 hn hd hd0 gz1 gz2 eg wb vol hw n0 n1 d0 d1 ed
        refine q_asg (P := Pair (qp q)) ?_ g4.gh fun vg G5 H5 g5 pg => ?_
        · rw [← ge]
          exact e_call (bd.gain.num * n, (bd.gain.den : Int) * d) (a_two (e_mul (e_fstI (e_gain A (e_var rfl pb))) (e_var rfl rfl) m1) (e_mul (e_sndI (e_gain A (e_var rfl pb))) (e_var rfl rfl) m2)) m3
        have pb5 : PBand CB bd G5 v := Mo.up (P := PBand CB bd) g5.gg pb
        refine q_asg (P := Row (times q.num bd.up)) (e_call (bd.up, q.num) (a_two (e_up A (e_var rfl pb5)) (e_fstI (q := qp q) (e_var rfl pg))) ⟨lu, m4⟩) g5.gh fun vt G6 H6 g6 pt => ?_
        refine q_asg (P := Row (times (q.den : Int) bd.low)) (e_call (bd.low, (q.den : Int)) (a_two (e_low A (e_var rfl (Mo.up (P := PBand CB bd) g6.gg pb5))) (e_sndI (q := qp q) (e_var rfl (Mo.up g6.gg pg)))) ⟨lw, m5⟩) g6.gh fun vb G7 H7 g7 pbt => ?_
        have s47 := same_trans (same_trans g5.gg g6.gg) g7.gg
        have pu7 : Row U G7 vu := Mo.up (same_trans g4.gg s47) pu
        have pl7 : Row W G7 vl := Mo.up (same_trans g4.gg s47) pl
        have pt7 : Row (times q.num bd.up) G7 vt := Mo.up g7.gg pt
        refine q_asg (P := Row (plus (chain U (times (q.den : Int) bd.low)) (chain (times q.num bd.up) W))) (e_call (chain U (times (q.den : Int) bd.low), chain (times q.num bd.up) W) (a_two
          (e_call (U, times (q.den : Int) bd.low) (a_two (P := Row U) (P' := Row (times (q.den : Int) bd.low)) (e_var rfl pu7) (e_var rfl pbt)) pr1)
          (e_call (times q.num bd.up, W) (a_two (P := Row (times q.num bd.up)) (P' := Row W) (e_var rfl pt7) (e_var rfl pl7)) pr2)) ⟨lc1, lc2⟩) g7.gh fun vu' G8 H8 g8 pu8 => ?_
        refine s_asg (P := Row (chain W (times (q.den : Int) bd.low))) (e_call (W, times (q.den : Int) bd.low) (a_two (P := Row W) (P' := Row (times (q.den : Int) bd.low)) (e_var rfl (Mo.up g8.gg pl7)) (e_var rfl (Mo.up g8.gg pbt))) pr3) g8.gh fun vl' G9 H9 g9 pl9 => ?_
        exact ⟨G9, same_trans (same_trans (same_trans (same_trans s1 g4.gg) s47) g8.gg) g9.gg, g9.gh, vu', vl', some v, some vg, some vt, some vb, rfl, Mo.up g9.gg pu8, pl9, (((((gi.trans g4).trans g5).trans g6).trans g7).trans g8).trans g9⟩
      · have : x = none := by simpa using hb
        subst this
        refine ⟨G4, same_trans s1 g4.gg, g4.gh, vu, vl, some v, b, c, e, rfl, ?_, ?_, gi.trans g4⟩
        · rw [togP_none hx]
          exact Mo.up g4.gg pu
        · rw [togP_none hx]
          exact Mo.up g4.gg pl
    · rintro G3 H3 σ' Gi Hi g3 s1 s2 ⟨vu, vl, a, b, c, e, rfl, pu, pl, gi⟩
      rw [hw.togP, List.take_length] at pu pl
      exact s_ret (e_tworows (e_var rfl pu) (e_var rfl pl)) s2 fun v G4 H4 g4 p4 => k v G4 H4 (gi.trans g4) p4
end
end Qa
set_option Elab.async false
set_option linter.all false
set_option maxRecDepth 100000
set_option maxHeartbeats 2000000
namespace Qa
open PySem PySem.Spec PyProof.Rows L2 Qm
open Vbhlae (at_ chain plus times frac ringRow upRow one quietAt)
section
variable {P : Program} {w : World} {K : PySem.W.Frag} {mg : Str → Option Value} {base : Heap} {f : Addr} {fd : FuncData} {CA CB cR : Addr}
abbrev st_Aid_rows_at : Stmt := inClass (top 40) 6
theorem sc_Aid_rows_at : FnScope ["self", "n", "d", "bands", "round_again", "ring"] ["self", "n", "d"] (defScope st_Aid_rows_at) := ⟨rfl, rfl, rfl, by decide +kernel, rfl, by decide +kernel, by decide +kernel⟩
def sp_rows_at (CA CB : Addr) : Sp := spP (fun (x : Vbhlae.Aid × Int × Int) => [PAid CA CB x.1, PI x.2.1, PI x.2.2]) (fun x => Wf x.1 ∧ VolP x.2.1 x.2.2) (fun x => TwoRows (upRow x.1 (frac x.2.1 x.2.2.toNat), ringRow x.1 (frac x.2.1 x.2.2.toNat)))
theorem ok_rows_at (F : Fun K "rows_at" "Aid.rows_at" st_Aid_rows_at f fd) (A : AidT K CA CB) (M_together : MDfn P w K mg base CX0 43 CA "together" ["self", "n", "d"] (sp_together CA CB)) (D_scaled : Dfn P w K mg base CX0 41 "scaled" ["row", "factor"] sp_scaled)
    (D_added : Dfn P w K mg base CX0 42 "added" ["one", "other"] sp_added) (D_product : Dfn P w K mg base CX0 41 "product" ["one", "other"] sp_product) : FnOk P w K mg base CX0 44 f fd ["self", "n", "d"] (sp_rows_at CA CB) := by
  refine F.ok sc_Aid_rows_at (sp_len fun _ => rfl) (fun cdv Ar outer s H vs Q E hr h => ⟨_,
    (pss_cons (ps_set (i := 3) sc_Aid_rows_at.nd rfl (Or.inl rfl) (pe_mth M_together (pv 0) (hr.mono (by decide)) (pa_cons (pv 1) (pa_cons (pv 2) pa_nil))))
  (pss_cons (ps_set (i := 4) sc_Aid_rows_at.nd rfl (Or.inl rfl) (pe_def D_product (hr.mono (by decide)) (pa_cons (pe_fld (pv 0) rfl) (pa_cons (pe_ix (ix_tupK (K := K) rfl) (pv 3) pe_int (fun _ _ => rfl)) pa_nil))))
  (pss_cons (ps_set (i := 5) sc_Aid_rows_at.nd rfl (Or.inl rfl) (pe_def D_added (hr.mono (by decide)) (pa_cons (pe_def D_product (hr.mono (by decide)) (pa_cons (pe_fld (pv 0) rfl) (pa_cons (pe_ix (ix_tupK (K := K) rfl) (pv 3) pe_int (fun _ _ => rfl)) pa_nil))) (pa_cons (pe_def D_scaled (hr.mono (by decide)) (pa_cons (pv 4) (pa_cons (pe_un un_neg pe_int) pa_nil))) pa_nil))))
  (pss_one (ps_ret (pe_tup (pa_cons (pe_def D_product (hr.mono (by decide)) (pa_cons (pe_fld (pv 0) rfl) (pa_cons (pe_ix (ix_tupK (K := K) rfl) (pv 3) pe_int (fun _ _ => rfl)) pa_nil))) (pa_cons (pv 5) pa_nil)))))))), ?_⟩)
  obtain ⟨⟨m, n, d⟩, G, sG, al, ⟨hw, hv⟩, k⟩ := h
  obtain ⟨v1, v2, v3, rfl, p1, e2, e3⟩ := al_3 al
  obtain rfl : v2 = .int n := e2
  obtain rfl : v3 = .int d := e3
  have p1 : PAid CA CB m G v1 := p1
  have hw : Wf m := hw
  have hv : VolP n d := hv
  obtain ⟨t1, t2, t3, t4, t5, t6⟩ := hw.tog' hv.vol
  obtain ⟨u1, u2, u3⟩ := up_is hw.up
  obtain ⟨w1, w2, w3, _⟩ := low_is hw.low
  have k : ∀ v G2 H2, Gr G H G2 H2 → TwoRows (chain m.leakLow (Vbhlae.together (frac n d.toNat) (Vbhlae.present m)).1, plus (chain m.leakLow (Vbhlae.together (frac n d.toNat) (Vbhlae.present m)).2) (times (-1) (chain m.leakUp (Vbhlae.together (frac n d.toNat) (Vbhlae.present m)).1))) G2 v → Q v H2 := k
  refine q_asg (P := TwoRows (Vbhlae.together (frac n d.toNat) (Vbhlae.present m))) (e_mth (P := PAid CA CB m) (Ps := [PI n, PI d]) (m, n, d) rfl ⟨inferInstance, inferInstance, trivial⟩ (aid_obj (by decide +kernel) (by decide +kernel) (by decide +kernel)) (e_var rfl p1) (a_two (e_var rfl rfl) (e_var rfl rfl)) ⟨hw, hv⟩) sG fun vb G1 H1 g1 pb => ?_
  revert t1 t2 t3 t4 t5 t6 k pb
  generalize Vbhlae.together (frac n d.toNat) (Vbhlae.present m) = T
  obtain ⟨U, W⟩ := T
  intro t1 t2 t3 t4 t5 t6 k pb
  dsimp only at t1 t2 t3 t4 t5 t6 k
  have nu := ne_len t5
  have nl := ne_len t6
  have l1 : m.leakUp.length ≤ 1000 := by omega
  have l2 : m.leakLow.length ≤ 1000 := by omega
  have l3 : U.length ≤ 1000 := by omega
  have l4 : W.length ≤ 1000 := by omega
  have c1 : (chain m.leakLow W).length ≤ 1000 := by rw [chain_len w1 nl]; omega
  have c2 : (chain m.leakUp U).length ≤ 1000 := by rw [chain_len u1 nu]; omega
  have c3 : ((chain m.leakUp U).map ((-1) * ·)).length ≤ 1000 := by rw [List.length_map]; exact c2
  have sc : Sz 108 (chain m.leakUp U) := (u3.chain t3 (by omega)).mono (by omega)
  have m1 : ∀ y ∈ chain m.leakUp U, CMulB (-1) y := fun y hy => mulB (a := 1) (by decide) (sc y hy) (by omega)
  have r1 : m.leakUp ≠ [] ∧ U ≠ [] ∧ m.leakUp.length ≤ 1000 ∧ U.length ≤ 1000 ∧ ∃ B, Sz B m.leakUp ∧ Sz B U ∧ B ≤ 40000000 := ⟨u1, nu, l1, l3, 97, u3.mono (by omega), t3, by omega⟩
  have r2 : m.leakLow ≠ [] ∧ W ≠ [] ∧ m.leakLow.length ≤ 1000 ∧ W.length ≤ 1000 ∧ ∃ B, Sz B m.leakLow ∧ Sz B W ∧ B ≤ 40000000 := ⟨w1, nl, l2, l4, 94, w3.mono (by omega), t4, by omega⟩
  have r3 : m.leakLow ≠ [] ∧ U ≠ [] ∧ m.leakLow.length ≤ 1000 ∧ U.length ≤ 1000 ∧ ∃ B, Sz B m.leakLow ∧ Sz B U ∧ B ≤ 40000000 := ⟨w1, nu, l2, l3, 97, w3.mono (by omega), t3, by omega⟩
  have q1 : PAid CA CB m G1 v1 := Mo.up g1.gg p1
  refine q_asg (P := Row (chain m.leakUp U)) (e_call (m.leakUp, U) (a_two (e_leakup A (e_var rfl q1)) (e_fstR (q := (U, W)) (e_var rfl pb))) r1) g1.gh fun vr G2 H2 g2 pr => ?_
  have q2 : PAid CA CB m G2 v1 := Mo.up g2.gg q1
  have pb2 : TwoRows (U, W) G2 vb := Mo.up g2.gg pb
  refine q_asg (P := Row (plus (chain m.leakLow W) (times (-1) (chain m.leakUp U)))) (e_call (chain m.leakLow W, (chain m.leakUp U).map ((-1) * ·)) (a_two (P := Row (chain m.leakLow W)) (P' := Row ((chain m.leakUp U).map ((-1) * ·)))
    (e_call (m.leakLow, W) (a_two (e_leaklow A (e_var rfl q2)) (e_sndR (q := (U, W)) (e_var rfl pb2))) r2)
    (e_call (chain m.leakUp U, -1) (a_two (P := Row (chain m.leakUp U)) (e_var rfl pr) (e_neg e_int)) ⟨c2, m1⟩)) ⟨c1, c3⟩) g2.gh fun vg G3 H3 g3 pg => ?_
  refine s_ret (e_tworows (e_call (m.leakLow, U) (a_two (e_leaklow A (e_var rfl (Mo.up g3.gg q2))) (e_fstR (q := (U, W)) (e_var rfl (Mo.up g3.gg pb2)))) r3) (e_var (P := Row (plus (chain m.leakLow W) (times (-1) (chain m.leakUp U)))) rfl pg)) g3.gh fun v G4 H4 g4 p4 => k v G4 H4 (((g1.trans g2).trans g3).trans g4) p4
theorem volP_one : VolP 1 1 := by
  unfold VolP
  omega
/-- a ring that is there, or -5 is due -/
def ringOr (cR : Addr) (m : Vbhlae.Aid) (P : Pr) : Except Addr Pr := if at_ (ringRow m one) 0 = 0 then .error cR else .ok P
theorem ringOr_no {cR : Addr} {m : Vbhlae.Aid} {P : Pr} (h : at_ (ringRow m one) 0 = 0) : ringOr cR m P = .error cR := if_pos h
theorem ringOr_yes {cR : Addr} {m : Vbhlae.Aid} {P : Pr} (h : at_ (ringRow m one) 0 ≠ 0) : ringOr cR m P = .ok P := if_neg h
abbrev st_Aid_heard_in_all : Stmt := inClass (top 40) 7
theorem sc_Aid_heard_in_all : FnScope ["self", "heard"] ["self"] (defScope st_Aid_heard_in_all) := ⟨rfl, rfl, rfl, by decide +kernel, rfl, by decide +kernel, by decide +kernel⟩
def sp_heard_in_all (CA CB cR : Addr) : Sp := spX (fun (x : Vbhlae.Aid) => [PAid CA CB x]) Wf (fun x => ringOr cR x (TwoRows (upRow x one, ringRow x one)))
theorem ok_heard_in_all (F : Fun K "heard_in_all" "Aid.heard_in_all" st_Aid_heard_in_all f fd) (A : AidT K CA CB) (TR : Err K mg "NoRing" cR) (M_rows_at : MDfn P w K mg base CX0 44 CA "rows_at" ["self", "n", "d"] (sp_rows_at CA CB)) :
    FnOk P w K mg base (L2.CX P w) 45 f fd ["self"] (sp_heard_in_all CA CB cR) := by
  refine F.okX sc_Aid_heard_in_all (spX_len fun _ => rfl) (fun cdv Ar outer s H vs Q E hr h => ⟨_,
    (pss_cons (ps_set (i := 1) sc_Aid_heard_in_all.nd rfl (Or.inl rfl) (pe_mth M_rows_at (pv 0) (hr.mono (by decide)) (pa_cons pe_int (pa_cons pe_int pa_nil))))
  (pss_cons (ps_if (pt_cmpR op_eq (pe_ix (ix_listK (K := K) rfl) (pe_ix (ix_tupK (K := K) rfl) (pv 1) pe_int (fun _ _ => rfl)) pe_int (fun _ _ => rfl)) pe_int (nomark _)) (pss_one (ps_err TR (takes_of rfl rfl rfl rfl))) pss_nil)
  (pss_one (ps_ret (pv 1))))), ?_⟩)
  obtain ⟨m, G, sG, al, hw, k1, k2⟩ := h
  obtain ⟨v1, rfl, p1⟩ := al_1 al
  obtain ⟨_, hl, _⟩ := hw.ring vol_one
  have k1 : ∀ P, ringOr cR m (TwoRows (upRow m one, ringRow m one)) = .ok P → ∀ v G2 H2, Gr G H G2 H2 → P G2 v → Q v H2 := k1
  have k2 : ∀ c, ringOr cR m (TwoRows (upRow m one, ringRow m one)) = .error c → ∀ G2 H2, Gr G H G2 H2 → E (.ref c) none H2 := k2
  refine q_asg (P := TwoRows (upRow m one, ringRow m one)) ?_ sG fun vb G1 H1 g1 pb => ?_
  · have := e_mth (σ := L2.start ["self", "heard"] [v1]) (G := G) (ta := tVar 0) (t := tCons (tC (.int 1)) (tCons (tC (.int 1)) tNil)) (P := PAid CA CB m) (Ps := [PI 1, PI 1]) (C := CA) (m := "rows_at") (E := E0) (As := fun (x : Vbhlae.Aid × Int × Int) => [PAid CA CB x.1, PI x.2.1, PI x.2.2]) (pre := fun x => Wf x.1 ∧ VolP x.2.1 x.2.2) (R := fun x => TwoRows (upRow x.1 (frac x.2.1 x.2.2.toNat), ringRow x.1 (frac x.2.1 x.2.2.toNat))) (m, 1, 1) rfl ⟨inferInstance, inferInstance, trivial⟩ (aid_obj (by decide +kernel) (by decide +kernel) (by decide +kernel)) (e_var rfl p1) (a_two e_int e_int) ⟨hw, volP_one⟩
    dsimp only at this
    rw [show Int.toNat 1 = 1 from rfl, frac_one] at this
    exact this
  refine q_when (t_test (e_eq (e_ix (p := PI) (l := ringRow m one) (e_sndR (q := (upRow m one, ringRow m one)) (e_var rfl pb)) e_int (row_get (i := 0) hl)) e_int)) g1.gh (fun hb G2 H2 g2 => ?_) (fun hb G2 H2 g2 => ?_)
  · exact k2 cR (ringOr_no (of_decide_eq_true hb)) G2 H2 (g1.trans g2)
  · exact s_ret (P := TwoRows (upRow m one, ringRow m one)) (e_var rfl (Mo.up g2.gg pb)) g2.gh fun v G3 H3 g3 p3 => k1 _ (ringOr_yes (of_decide_eq_false hb)) v G3 H3 ((g1.trans g2).trans g3) p3
abbrev st_Aid_ring_row : Stmt := inClass (top 40) 8
theorem sc_Aid_ring_row : FnScope ["self", "heard"] ["self"] (defScope st_Aid_ring_row) := ⟨rfl, rfl, rfl, by decide +kernel, rfl, by decide +kernel, by decide +kernel⟩
def sp_ring_row (CA CB cR : Addr) : Sp := spX (fun (x : Vbhlae.Aid) => [PAid CA CB x]) Wf (fun x => ringOr cR x (Row (ringRow x one)))
theorem ok_ring_row (F : Fun K "ring_row" "Aid.ring_row" st_Aid_ring_row f fd) (M_heard_in_all : MDfn P w K mg base (L2.CX P w) 45 CA "heard_in_all" ["self"] (sp_heard_in_all CA CB cR)) :
    FnOk P w K mg base (L2.CX P w) 46 f fd ["self"] (sp_ring_row CA CB cR) := by
  refine F.okX sc_Aid_ring_row (spX_len fun _ => rfl) (fun cdv Ar outer s H vs Q E hr h => ⟨_,
    (pss_cons (ps_set (i := 1) sc_Aid_ring_row.nd rfl (Or.inl rfl) (pe_mthX0 (E := E) M_heard_in_all (pv 0) (hr.mono (by decide)) (passes_call (takes_of rfl rfl rfl rfl) (fun _ _ _ _ h => h))))
  (pss_one (ps_ret (pe_ix (ix_tupK (K := K) rfl) (pv 1) pe_int (fun _ _ => rfl))))), ?_⟩)
  obtain ⟨m, G, sG, al, hw, k1, k2⟩ := h
  obtain ⟨v1, rfl, p1⟩ := al_1 al
  have k1 : ∀ P, ringOr cR m (Row (ringRow m one)) = .ok P → ∀ v G2 H2, Gr G H G2 H2 → P G2 v → Q v H2 := k1
  have k2 : ∀ c, ringOr cR m (Row (ringRow m one)) = .error c → ∀ G2 H2, Gr G H G2 H2 → E (.ref c) none H2 := k2
  by_cases h0 : at_ (ringRow m one) 0 = 0
  · exact q_thAsg (th_mth (P := PAid CA CB m) (Ps := []) m rfl trivial (aid_obj (by decide +kernel) (by decide +kernel) (by decide +kernel)) (e_var rfl p1) a_nil hw (ringOr_no h0)) sG fun G2 H2 g2 => k2 cR (ringOr_no h0) G2 H2 g2
  · refine q_asg (P := TwoRows (upRow m one, ringRow m one)) (e_mthX (P := PAid CA CB m) (Ps := []) m rfl trivial (aid_obj (by decide +kernel) (by decide +kernel) (by decide +kernel)) (e_var rfl p1) a_nil hw (ringOr_yes h0)) sG fun vb G1 H1 g1 pb => ?_
    exact s_ret (e_sndR (q := (upRow m one, ringRow m one)) (e_var rfl pb)) g1.gh fun v G3 H3 g3 p3 => k1 _ (ringOr_yes h0) v G3 H3 (g1.trans g3) p3
theorem wf_ask {m : Vbhlae.Aid} (h : Wf m) {v : Vbhlae.Q} (hv : Vol v) (h0 : at_ (ringRow m v) 0 ≠ 0) : Askd (ringRow m v) := by
  obtain ⟨a, _, b⟩ := h.ring hv
  exact ⟨h0, by omega, b.mono (by omega)⟩
abbrev st_Aid_is_quiet_at : Stmt := inClass (top 40) 9
theorem sc_Aid_is_quiet_at : FnScope ["self", "n", "d", "heard"] ["self", "n", "d"] (defScope st_Aid_is_quiet_at) := ⟨rfl, rfl, rfl, by decide +kernel, rfl, by decide +kernel, by decide +kernel⟩
def sp_is_quiet_at (CA CB : Addr) : Sp := spP (fun (x : Vbhlae.Aid × Int × Int) => [PAid CA CB x.1, PI x.2.1, PI x.2.2]) (fun x => Wf x.1 ∧ VolP x.2.1 x.2.2) (fun x => PB (quietAt x.1 (frac x.2.1 x.2.2.toNat)))
theorem ok_is_quiet_at (F : Fun K "is_quiet_at" "Aid.is_quiet_at" st_Aid_is_quiet_at f fd) (A : AidT K CA CB) (M_rows_at : MDfn P w K mg base CX0 44 CA "rows_at" ["self", "n", "d"] (sp_rows_at CA CB))
    (D_is_quiet : Dfn P w K mg base CX0 47 "is_quiet" ["row"] sp_is_quiet) : FnOk P w K mg base CX0 48 f fd ["self", "n", "d"] (sp_is_quiet_at CA CB) := by
  refine F.ok sc_Aid_is_quiet_at (sp_len fun _ => rfl) (fun cdv Ar outer s H vs Q E hr h => ⟨_,
    (pss_cons (ps_set (i := 3) sc_Aid_is_quiet_at.nd rfl (Or.inl rfl) (pe_mth M_rows_at (pv 0) (hr.mono (by decide)) (pa_cons (pv 1) (pa_cons (pv 2) pa_nil))))
  (pss_one (ps_ret (pe_and (pe_cmpR op_ne (pe_ix (ix_listK (K := K) rfl) (pe_ix (ix_tupK (K := K) rfl) (pv 3) pe_int (fun _ _ => rfl)) pe_int (fun _ _ => rfl)) pe_int (nomark _)) (pe_one (pe_def D_is_quiet (hr.mono (by decide)) (pa_cons (pe_ix (ix_tupK (K := K) rfl) (pv 3) pe_int (fun _ _ => rfl)) pa_nil))))))), ?_⟩)
  obtain ⟨⟨m, n, d⟩, G, sG, al, ⟨hw, hv⟩, k⟩ := h
  obtain ⟨v1, v2, v3, rfl, p1, e2, e3⟩ := al_3 al
  obtain rfl : v2 = .int n := e2
  obtain rfl : v3 = .int d := e3
  have p1 : PAid CA CB m G v1 := p1
  have hw : Wf m := hw
  have hv : VolP n d := hv
  have k : ∀ v G2 H2, Gr G H G2 H2 → PB (Vbhlae.quiet (ringRow m (frac n d.toNat))) G2 v → Q v H2 := k
  obtain ⟨_, hl, _⟩ := hw.ring hv.vol
  have hk := fun h0 => wf_ask hw hv.vol h0
  refine q_asg (P := TwoRows (upRow m (frac n d.toNat), ringRow m (frac n d.toNat))) (e_mth (P := PAid CA CB m) (Ps := [PI n, PI d]) (m, n, d) rfl ⟨inferInstance, inferInstance, trivial⟩ (aid_obj (by decide +kernel) (by decide +kernel) (by decide +kernel)) (e_var rfl p1) (a_two (e_var rfl rfl) (e_var rfl rfl)) ⟨hw, hv⟩) sG fun vb G1 H1 g1 pb => ?_
  revert hl hk k pb
  generalize ringRow m (frac n d.toNat) = R
  generalize upRow m (frac n d.toNat) = U
  intro k hl hk pb
  refine s_ret (P := PB (!decide (at_ R 0 = 0) && Vbhlae.quiet R)) (e_andV (e_ne (e_ix (p := PI) (l := R) (e_sndR (q := (U, R)) (e_var rfl pb)) e_int (row_get (i := 0) hl)) e_int) fun h0 => e_call R (a_one (P := Row R) (e_sndR (q := (U, R)) (e_var rfl pb))) (hk (by simpa using h0))) g1.gh fun v G2 H2 g2 p2 => k v G2 H2 (g1.trans g2) ?_
  have e : (!decide (at_ R 0 = 0) && Vbhlae.quiet R) = Vbhlae.quiet R := by
    rw [quiet_downs]
    by_cases h : at_ R 0 = 0
    · simp [h]
    · simp [h]
  rw [e] at p2
  exact p2
end
end Qa
set_option Elab.async false
set_option linter.all false
set_option maxRecDepth 100000
set_option maxHeartbeats 2000000
/-! The calls that read the aid: how they are told, and the first ones. -/
namespace Qm
open Vbhlae
theorem tolds_all : ∀ (n : Nat) (p : Row), p.length ≤ n → IsPlain p → (tolds p).length ≤ n + 1 ∧ ∀ x ∈ tolds p, IsPlain x ∧ x.length ≤ n
  | 0, p, h, hp => by
    have := plain_pos_len hp
    omega
  | n + 1, p, h, hp => by
    cases e : stepOf p with
    | none =>
      rw [tolds_none e]
      refine ⟨by simp, fun x hx => ?_⟩
      have : x = p := by simpa using hx
      rw [this]
      exact ⟨hp, h⟩
    | some q =>
      rw [tolds_some e]
      obtain ⟨_, _, _, h4⟩ := stepOf_some e
      obtain ⟨i1, i2⟩ := tolds_all n q (by omega) (stepOf_plain e)
      refine ⟨by rw [List.length_cons]; omega, fun x hx => ?_⟩
      rcases List.mem_cons.mp hx with rfl | hx
      · exact ⟨hp, h⟩
      · exact ⟨(i2 x hx).1, by have := (i2 x hx).2; omega⟩
theorem g_t {s : Aid} {n : Int} {l : List (Int × Bool)} {k : Unit → Aid × List Int} : guarded s ((n, true) :: l) k = (s, [n]) := rfl
theorem g_f {s : Aid} {n : Int} {l : List (Int × Bool)} {k : Unit → Aid × List Int} : guarded s ((n, false) :: l) k = guarded s l k := rfl
theorem g_0 {s : Aid} {k : Unit → Aid × List Int} : guarded s [] k = k () := rfl
theorem nr_no {m : Aid} (h : at_ (ringRow m one) 0 = 0) : noRing m = (-5, true) := by
  unfold noRing
  rw [h]
  rfl
theorem nr_yes {m : Aid} (h : at_ (ringRow m one) 0 ≠ 0) : noRing m = (-5, false) := by
  unfold noRing
  congr 1
  exact beq_eq_false_iff_ne.mpr h
end Qm
namespace Qa
open PySem PySem.Spec PyProof.Rows L2 Qm
open Vbhlae (at_ plain ringRow upRow one quietAt noRing guarded bit inr Call ringOf shares listRow)
def numsOf : Call → List Int
  | .leak _ _ => []
  | .band i n d _ _ => [i, n, d]
  | .gain i n d => [i, n, d]
  | .mute i => [i]
  | .ring => []
  | .quiet => []
  | .steps => []
  | .check _ => []
  | .loud => []
  | .play _ => []
  | .freed n _ => [n]
  | .volume d m => [d, m]
  | .alone => []
  | .row _ => []
  | .ends => []
  | .later i k => [i, k]
  | .turn i => [i]
  | .told => []
  | .click n => [n]
  | .quietAt n d => [n, d]
def listsOf : Call → List (List Int)
  | .leak u l => [u, l]
  | .band _ _ _ u l => [u, l]
  | .check l => [l]
  | .play l => [l]
  | .freed _ l => [l]
  | .row l => [l]
  | _ => []
/-- lists are at most so long -/
def Fits (c : Call) : Prop := ∀ l ∈ listsOf c, l.length ≤ 220
/-- the classes of the refusals -/
structure Cl where
  o : Addr
  b : Addr
  r : Addr
  s : Addr
  q : Addr
def Cl.at (e : Cl) (n : Int) : Addr := if n = -1 then e.o else if n = -3 then e.b else if n = -5 then e.r else if n = -6 then e.s else e.q
def resR (e : Cl) : List Int → Except Addr Pr
  | [] => .error e.o
  | n :: rest => if n = 0 then .ok (Row rest) else .error (e.at n)
theorem res_ok {e : Cl} {a rest : List Int} (h : a = 0 :: rest) : resR e a = .ok (Row rest) := by
  rw [h]
  unfold resR
  dsimp only
  rw [if_pos rfl]
theorem res_no {e : Cl} {a : List Int} {n : Int} (hn : n ≠ 0) (h : a = [n]) : resR e a = .error (e.at n) := by
  rw [h]
  unfold resR
  dsimp only
  rw [if_neg hn]
theorem at_o {e : Cl} : e.at (-1) = e.o := by simp [Cl.at]
theorem at_b {e : Cl} : e.at (-3) = e.b := by simp [Cl.at]
theorem at_r {e : Cl} : e.at (-5) = e.r := by simp [Cl.at]
theorem at_s {e : Cl} : e.at (-6) = e.s := by simp [Cl.at]
theorem at_q {e : Cl} : e.at (-8) = e.q := by simp [Cl.at]
/-- a call that reads -/
def spK (CA CB : Addr) (e : Cl) {α : Type} (mk : α → Call) : Sp := spX (fun x : Vbhlae.Aid × α => [PAid CA CB x.1, Row (numsOf (mk x.2)), Rows (listsOf (mk x.2))]) (fun x => Wf x.1 ∧ Fits (mk x.2)) (fun x => resR e (Vbhlae.step x.1 (mk x.2)).2)
theorem spK_len {CA CB : Addr} {e : Cl} {α : Type} {mk : α → Call} : ∀ vs H Q E, spK CA CB e mk vs H Q E → vs.length = 3 := spX_len fun _ => rfl
theorem spK_open {CA CB : Addr} {e : Cl} {α : Type} {mk : α → Call} {vs : List V} {H : Hp} {Q : VK} {E : XK} (h : spK CA CB e mk vs H Q E) : ∃ (m : Vbhlae.Aid) (x : α) (G : Hp) (v1 v2 v3 : V), vs = [v1, v2, v3] ∧ Same G H ∧ PAid CA CB m G v1 ∧ Row (numsOf (mk x)) G v2 ∧ Rows (listsOf (mk x)) G v3 ∧ Wf m ∧ Fits (mk x) ∧
    (∀ rest, (Vbhlae.step m (mk x)).2 = 0 :: rest → ∀ v G2 H2, Gr G H G2 H2 → Row rest G2 v → Q v H2) ∧ (∀ n c, n ≠ 0 → e.at n = c → (Vbhlae.step m (mk x)).2 = [n] → ∀ G2 H2, Gr G H G2 H2 → E (.ref c) none H2) := by
  obtain ⟨⟨m, x⟩, G, sG, al, ⟨hw, hf⟩, k1, k2⟩ := h
  obtain ⟨v1, v2, v3, rfl, p1, p2, p3⟩ := al_3 al
  exact ⟨m, x, G, v1, v2, v3, rfl, sG, p1, p2, p3, hw, hf, fun rest hs v G2 H2 g p => k1 _ (res_ok hs) v G2 H2 g p, fun n c hn hc hs G2 H2 g => by subst hc; exact k2 _ (res_no hn hs) G2 H2 g⟩
theorem row_told {R : List Int} (h0 : at_ R 0 ≠ 0) (hl : R.length ≤ 12) : (tolds (plain R)).length ≤ 13 ∧ ∀ x ∈ tolds (plain R), IsPlain x ∧ x.length ≤ 12 := tolds_all 12 (plain R) (Nat.le_trans (plain_length_le R) hl) (plain_is h0)
section
variable {te ta tb tl : TE} {σ : L2.St} {G H G' : Hp} {K : PySem.W.Frag} {E : XK} {CA CB cR : Addr} {m : Vbhlae.Aid}
theorem e_ring (p : σ[0]? = some (some v1)) (h : PAid CA CB m G v1) (hw : Wf m) (h0 : at_ (ringRow m one) 0 ≠ 0) : Ev (tMeth CA "ring_row" (sp_ring_row CA CB cR) [] E (tVar 0) tNil) σ G (Row (ringRow m one)) :=
  e_mthX (P := PAid CA CB m) (Ps := []) m rfl trivial (aid_obj (by decide +kernel) (by decide +kernel) (by decide +kernel)) (e_var p h) a_nil hw (ringOr_yes h0)
theorem th_ring (p : σ[0]? = some (some v1)) (h : PAid CA CB m G v1) (hw : Wf m) (h0 : at_ (ringRow m one) 0 = 0) : Throws (tMeth CA "ring_row" (sp_ring_row CA CB cR) [] E (tVar 0) tNil) σ G cR E :=
  th_mth (P := PAid CA CB m) (Ps := []) m rfl trivial (aid_obj (by decide +kernel) (by decide +kernel) (by decide +kernel)) (e_var p h) a_nil hw (ringOr_no h0)
theorem e_heard (p : σ[0]? = some (some v1)) (h : PAid CA CB m G v1) (hw : Wf m) (h0 : at_ (ringRow m one) 0 ≠ 0) : Ev (tMeth CA "heard_in_all" (sp_heard_in_all CA CB cR) [] E (tVar 0) tNil) σ G (TwoRows (upRow m one, ringRow m one)) :=
  e_mthX (P := PAid CA CB m) (Ps := []) m rfl trivial (aid_obj (by decide +kernel) (by decide +kernel) (by decide +kernel)) (e_var p h) a_nil hw (ringOr_yes h0)
theorem th_heard (p : σ[0]? = some (some v1)) (h : PAid CA CB m G v1) (hw : Wf m) (h0 : at_ (ringRow m one) 0 = 0) : Throws (tMeth CA "heard_in_all" (sp_heard_in_all CA CB cR) [] E (tVar 0) tNil) σ G cR E :=
  th_mth (P := PAid CA CB m) (Ps := []) m rfl trivial (aid_obj (by decide +kernel) (by decide +kernel) (by decide +kernel)) (e_var p h) a_nil hw (ringOr_no h0)
/-- whether the last row is one number -/
def come (Ts : List (List Int)) : Bool := Ts.getLast?.any fun r => r.length == 1
theorem e_yes {b : Bool} (h : Ev te σ G (PB b)) : Ev (tCall sp_yes_or_no [] E (tCons te tNil)) σ G (PI (bit b)) := e_call b (a_one h) trivial
theorem e_come {Ts : List (List Int)} (hne : Ts ≠ []) (h : Ev te σ G (Rows Ts)) : Ev (tCall sp_come_to_one_number [] E (tCons te tNil)) σ G (PB (come Ts)) := e_call Ts (a_one h) hne
theorem e_spread {l : List Rat} (hl : l.length ≤ 1000) (h : Ev te σ G (Ratios l)) : Ev (tCall sp_spread [] E (tCons te tNil)) σ G (Row (flatQ l)) := e_call l (a_one h) hl
theorem e_counted {l : List (List Int)} (hl : l.length ≤ 1000) (h5 : ∀ r ∈ l, r.length ≤ 500) (h : Ev te σ G (Rows l)) : Ev (tCall sp_counted [] E (tCons te tNil)) σ G (Row (l.flatMap listRow)) := e_call l (a_one h) ⟨hl, h5⟩
theorem e_told {R : List Int} (hk : Askd R) (h : Ev te σ G (Row R)) : Ev (tCall sp_told_steps [] E (tCons te tNil)) σ G (Rows (tolds (plain R))) := e_call R (a_one h) hk
theorem e_plain {R : List Int} (hk : Askd R) (h : Ev te σ G (Row R)) : Ev (tCall sp_plain [] E (tCons te tNil)) σ G (Row (plain R)) := e_call R (a_one h) ⟨by have := hk.2.1; omega, hk.1, hk.2.2.mono (by omega)⟩
theorem e_quiet {R : List Int} (hk : Askd R) (h : Ev te σ G (Row R)) : Ev (tCall sp_is_quiet [] E (tCons te tNil)) σ G (PB (Vbhlae.quiet R)) := e_call R (a_one h) hk
theorem e_lowest {u l : Int} (h0 : l ≠ 0) (h : Ev ta σ G (PI u)) (h' : Ev tb σ G (PI l)) : Ev (tCall sp_lowest [] E (tCons ta (tCons tb tNil))) σ G (Pair (prq ((u : Rat) / (l : Rat)))) := e_call (u, l) (a_two h h') h0
/-- how much comes back at a step -/
def share (x : List Int) : Rat := (at_ x (x.length - 1) : Rat) / (at_ x 0 : Rat)
def long (x : List Int) : Bool := decide (1 < x.length)
theorem shares_told (r : List Int) : shares r = (((tolds (plain r)).filter long).map share).map qOf := by
  rw [shares_eq, steps_tolds]
  rfl
theorem flatQ_of (l : List Rat) : (l.map qOf).flatMap Vbhlae.qRow = flatQ l := qRow_flat l
theorem sz_ask {R : List Int} (h : Askd R) : Sz 40000000 R := h.2.2.mono (by omega)
end
section
variable {P : Program} {w : World} {K : PySem.W.Frag} {mg : Str → Option Value} {base : Heap} {f : Addr} {fd : FuncData} {CA CB : Addr} {e : Cl}
abbrev st_ring : Stmt := top 80
theorem sc_ring : FnScope ["aid", "numbers", "lists"] ["aid", "numbers", "lists"] (defScope st_ring) := ⟨rfl, rfl, rfl, by decide +kernel, rfl, by decide +kernel, by decide +kernel⟩
theorem ok_ring (A : At K mg "ring" st_ring ["aid", "numbers", "lists"] f fd) (M_ring_row : MDfn P w K mg base (L2.CX P w) 46 CA "ring_row" ["self"] (sp_ring_row CA CB e.r)) (D_plain : Dfn P w K mg base CX0 44 "plain" ["row"] sp_plain) :
    FnOk P w K mg base (L2.CX P w) 50 f fd ["aid", "numbers", "lists"] (spK CA CB e fun _ : Unit => .ring) := by
  refine A.fn.okX sc_ring spK_len (fun cdv Ar outer s H vs Q E hr h => ⟨_,
    (pss_one (ps_ret (pe_def D_plain (hr.mono (by decide)) (pa_cons (pe_mthX0 (E := E) M_ring_row (pv 0) (hr.mono (by decide)) (passes_call (takes_of rfl rfl rfl rfl) (fun _ _ _ _ h => h))) pa_nil)))), ?_⟩)
  obtain ⟨m, x, G, v1, v2, v3, rfl, sG, p1, p2, p3, hw, hf, k1, k2⟩ := spK_open h
  by_cases h0 : at_ (ringRow m one) 0 = 0
  · exact s_thRet (th_arg (th_ring rfl p1 hw h0)) sG (k2 (-5) e.r (by decide) at_r (by show (guarded m [noRing m] _).2 = _; rw [nr_no h0]; rfl))
  · have ask := wf_ask hw vol_one h0
    exact s_ret (e_plain ask (e_ring rfl p1 hw h0)) sG (k1 _ (by show (guarded m [noRing m] _).2 = _; rw [nr_yes h0]; rfl))
abbrev st_steps : Stmt := top 82
theorem sc_steps : FnScope ["aid", "numbers", "lists"] ["aid", "numbers", "lists"] (defScope st_steps) := ⟨rfl, rfl, rfl, by decide +kernel, rfl, by decide +kernel, by decide +kernel⟩
theorem ok_steps (A : At K mg "steps" st_steps ["aid", "numbers", "lists"] f fd) (M_ring_row : MDfn P w K mg base (L2.CX P w) 46 CA "ring_row" ["self"] (sp_ring_row CA CB e.r)) (D_told_steps : Dfn P w K mg base CX0 46 "told_steps" ["row"] sp_told_steps) (D_counted : Dfn P w K mg base CX0 41 "counted" ["rows"] sp_counted) :
    FnOk P w K mg base (L2.CX P w) 50 f fd ["aid", "numbers", "lists"] (spK CA CB e fun _ : Unit => .steps) := by
  refine A.fn.okX sc_steps spK_len (fun cdv Ar outer s H vs Q E hr h => ⟨_,
    (pss_one (ps_ret (pe_def D_counted (hr.mono (by decide)) (pa_cons (pe_def D_told_steps (hr.mono (by decide)) (pa_cons (pe_mthX0 (E := E) M_ring_row (pv 0) (hr.mono (by decide)) (passes_call (takes_of rfl rfl rfl rfl) (fun _ _ _ _ h => h))) pa_nil)) pa_nil)))), ?_⟩)
  obtain ⟨m, x, G, v1, v2, v3, rfl, sG, p1, p2, p3, hw, hf, k1, k2⟩ := spK_open h
  by_cases h0 : at_ (ringRow m one) 0 = 0
  · exact s_thRet (th_arg (th_arg (th_ring rfl p1 hw h0))) sG (k2 (-5) e.r (by decide) at_r (by show (guarded m [noRing m] _).2 = _; rw [nr_no h0]; rfl))
  · have ask := wf_ask hw vol_one h0
    obtain ⟨t1, t2⟩ := row_told h0 ask.2.1
    refine s_ret (e_counted (by omega) (fun r hr => by have := (t2 r hr).2; omega) (e_told ask (e_ring rfl p1 hw h0))) sG (k1 _ ?_)
    show (guarded m [noRing m] _).2 = _
    rw [nr_yes h0, g_f, g_0, steps_tolds]
abbrev st_quiet : Stmt := top 81
theorem sc_quiet : FnScope ["aid", "numbers", "lists", "made", "each"] ["aid", "numbers", "lists"] (defScope st_quiet) := ⟨rfl, rfl, rfl, by decide +kernel, rfl, by decide +kernel, by decide +kernel⟩
theorem ok_quiet (A : At K mg "quiet" st_quiet ["aid", "numbers", "lists"] f fd) (T : Txt mg) (M_ring_row : MDfn P w K mg base (L2.CX P w) 46 CA "ring_row" ["self"] (sp_ring_row CA CB e.r)) (D_told_steps : Dfn P w K mg base CX0 46 "told_steps" ["row"] sp_told_steps)
    (D_yes_or_no : Dfn P w K mg base CX0 41 "yes_or_no" ["holds"] sp_yes_or_no) (D_come_to_one_number : Dfn P w K mg base CX0 41 "come_to_one_number" ["steps"] sp_come_to_one_number) (D_spread : Dfn P w K mg base CX0 41 "spread" ["ratios"] sp_spread) (D_lowest : Dfn P w K mg base CX0 42 "lowest" ["upper", "lower"] sp_lowest) :
    FnOk P w K mg base (L2.CX P w) 50 f fd ["aid", "numbers", "lists"] (spK CA CB e fun _ : Unit => .quiet) := by
  refine A.fn.okX sc_quiet spK_len (fun cdv Ar outer s H vs Q E hr h => ⟨_,
    (pss_cons (ps_set (i := 3) sc_quiet.nd rfl (Or.inl rfl) (pe_def D_told_steps (hr.mono (by decide)) (pa_cons (pe_mthX0 (E := E) M_ring_row (pv 0) (hr.mono (by decide)) (passes_call (takes_of rfl rfl rfl rfl) (fun _ _ _ _ h => h))) pa_nil)))
  (pss_one (ps_ret (pe_op op_cat (pe_lst (pa_cons (pe_def D_yes_or_no (hr.mono (by decide)) (pa_cons (pe_def D_come_to_one_number (hr.mono (by decide)) (pa_cons (pv 3) pa_nil)) pa_nil)) pa_nil)) (pe_def D_spread (hr.mono (by decide)) (pa_cons (pe_lc (own := [("each", 4)]) rfl sc_quiet.nd (pi_list (pv 3)) (blkOk_by (N := ["aid", "numbers", "lists", "made", "each"]) (sc := defScope st_quiet) (by decide +kernel)) (fun _ _ _ _ _ => (pg_name (i := 4) sc_quiet.nd rfl (Or.inl rfl))) (fun _ _ _ _ _ => pts_one (pt_cmpR op_gt (pe_callB (len_K (K := K) rfl) (by rfl) T.len (by decide +kernel) (pa_cons (pv 4) pa_nil)) pe_int (nomark _))) (fun _ _ _ _ _ => (pe_def D_lowest (hr.mono (by decide)) (pa_cons (pe_ix (ix_listK (K := K) rfl) (pv 4) (pe_un un_neg pe_int) (fun _ _ => rfl)) (pa_cons (pe_ix (ix_listK (K := K) rfl) (pv 4) pe_int (fun _ _ => rfl)) pa_nil))))) pa_nil)))))), ?_⟩)
  obtain ⟨m, x, G, v1, v2, v3, rfl, sG, p1, p2, p3, hw, hf, k1, k2⟩ := spK_open h
  by_cases h0 : at_ (ringRow m one) 0 = 0
  · exact q_thAsg (th_arg (th_ring rfl p1 hw h0)) sG (k2 (-5) e.r (by decide) at_r (by show (guarded m [noRing m] _).2 = _; rw [nr_no h0]; rfl))
  · have ask := wf_ask hw vol_one h0
    obtain ⟨t1, t2⟩ := row_told h0 ask.2.1
    refine q_asg (P := Rows (tolds (plain (ringRow m one)))) (e_told ask (e_ring rfl p1 hw h0)) sG fun vm G1 H1 g1 pm => ?_
    have hs := k1 (bit (quietAt m one) :: flatQ (((tolds (plain (ringRow m one))).filter long).map share)) (by
      show (guarded m [noRing m] _).2 = _
      rw [nr_yes h0, g_f, g_0, shares_told, flatQ_of]
      simp only [List.cons_append, List.nil_append])
    have hb : quietAt m one = come (tolds (plain (ringRow m one))) := quiet_of h0
    rw [hb] at hs
    have hne := tolds_ne (plain (ringRow m one))
    revert hs t1 t2 pm hne
    generalize tolds (plain (ringRow m one)) = Ts
    intro t1 t2 pm hs hne
    have lf : ((Ts.filter long).map share).length ≤ 13 := by
      rw [List.length_map]
      exact Nat.le_trans (List.length_filter_le ..) t1
    have lf2 : ([bit (come Ts)] : List Int).length + (flatQ ((Ts.filter long).map share)).length ≤ 1000000 := by
      rw [flatQ_len, List.length_singleton]
      omega
    have el : Ev (tCall sp_spread [] E0 (tCons (tLc (iList K (tVar 3)) (gName 4) (tTest (tOp (rI0 fun i j => .bl (decide (j < i))) (tCB (rLenK K) (tCons (tVar 4) tNil)) (tC (.int 1)))) (tCall sp_lowest [] E0 (tCons (tOp (rIxL K) (tVar 4) (tUn (rU fun i => .int (-i)) (tC (.int 1)))) (tCons (tOp (rIxL K) (tVar 4) (tC (.int 0))) tNil))) [4]) tNil)) [some v1, some v2, some v3, some vm, none] G1 (Row (flatQ ((Ts.filter long).map share))) := by
      refine e_spread (by omega) (e_lcF (p := fun r => Row r) (q := fun r => Pair (prq r)) (l := Ts) share long (e_var rfl pm) (by omega) (fun _ => rfl) (fun i x v G' hx _ pv => ?_) (fun i x v G' hx _ pv hc => ?_))
      · have e : long x = decide ((1 : Int) < (x.length : Int)) := decide_eq_decide.mpr (by omega)
        rw [e]
        exact t_test (e_gt (e_len (p := PI) (l := x) (e_var rfl pv)) e_int)
      · have hx2 := t2 x (List.mem_of_getElem? hx)
        have hl := plain_pos_len hx2.1
        have hp := hx2.1.pos
        exact e_lowest (by omega) (e_last hl (e_var rfl pv)) (e_ix (p := PI) (l := x) (e_var rfl pv) e_int (row_get (i := 0) hl))
    exact s_ret (e_cat (p := PI) (l := [bit (come Ts)]) (m := flatQ ((Ts.filter long).map share)) (e_lst1 (p := PI) (e_yes (e_come hne (e_var rfl pm)))) el lf2) g1.gh fun v G2 H2 g2 p2 => hs v G2 H2 (g1.trans g2) p2
end
end Qa
set_option Elab.async false
set_option linter.all false
set_option maxRecDepth 100000
set_option maxHeartbeats 2000000
namespace Qa
open PySem PySem.Spec PyProof.Rows L2 Qm
open Vbhlae (at_ plain ringRow upRow one quietAt noRing guarded bit inr Call ringOf shares listRow frac rowsIn isProof)
theorem ri_all : ∀ (n : Nat) (l : List Int) (rs : List (List Int)), l.length ≤ n → ri l = some rs → rs.length ≤ n ∧ ∀ r ∈ rs, r.length ≤ n
  | _, [], rs, _, h => by
    rw [ri_nil] at h
    cases h
    exact ⟨Nat.zero_le _, fun r hr => by cases hr⟩
  | 0, x :: l, rs, hl, h => by
    simp at hl
  | n + 1, x :: l, rs, hl, h => by
    rw [ri_cons] at h
    split at h
    · cases h
    · cases e : ri (l.drop x.toNat) with
      | none =>
        rw [e] at h
        cases h
      | some rs' =>
        rw [e] at h
        cases h
        simp only [List.length_cons] at hl
        obtain ⟨i1, i2⟩ := ri_all n (l.drop x.toNat) rs' (by rw [List.length_drop]; omega) e
        refine ⟨by rw [List.length_cons]; omega, fun r hr => ?_⟩
        rcases List.mem_cons.mp hr with rfl | hr
        · rw [List.length_take]
          omega
        · have := i2 r hr
          omega
theorem listOk0 (l : List Int) (n : Nat) (most : Int) : listOk l 0 n most = (decide (l.length ≤ n) && l.all fun x => inr x (-most) most) := by
  unfold listOk
  congr 1
  unfold inr
  have e1 : decide ((0 : Int) ≤ (l.length : Int)) = true := decide_eq_true (by omega)
  have e2 : decide ((l.length : Int) ≤ (n : Int)) = decide (l.length ≤ n) := decide_eq_decide.mpr (by omega)
  rw [e1, e2, Bool.true_and]
theorem listOk1 (l : List Int) (n : Nat) (most : Int) : listOk l 1 n most = (decide (1 ≤ l.length) && (decide (l.length ≤ n) && l.all fun x => inr x (-most) most)) := by
  unfold listOk
  rw [← Bool.and_assoc]
  congr 1
  unfold inr
  have e1 : decide ((1 : Int) ≤ (l.length : Int)) = decide (1 ≤ l.length) := decide_eq_decide.mpr (by omega)
  have e2 : decide ((l.length : Int) ≤ (n : Int)) = decide (l.length ≤ n) := decide_eq_decide.mpr (by omega)
  rw [e1, e2]
theorem listOk_sz {l : List Int} {lo hi most : Int} {B : Nat} (h : listOk l lo hi most = true) (hB : most.natAbs < 2 ^ B) : (l.length : Int) ≤ hi ∧ lo ≤ (l.length : Int) ∧ Sz B l := by
  unfold listOk inr at h
  simp only [Bool.and_eq_true, decide_eq_true_eq, List.all_eq_true] at h
  refine ⟨h.1.2, h.1.1, fun x hx => ?_⟩
  have := h.2 x hx
  have : x.natAbs ≤ most.natAbs := by omega
  omega
section
variable {te ta tb tl : TE} {σ : L2.St} {G H G' : Hp} {K : PySem.W.Frag} {E : XK} {CA CB cR : Addr} {m : Vbhlae.Aid} {v1 v2 v3 : V}
theorem e_num0 {n : Int} {l : List Int} (h : σ[1]? = some (some v2)) (p : Row (n :: l) G v2) : Ev (tOp (rIxL K) (tVar 1) (tC (.int 0))) σ G (PI n) := e_ix (p := PI) (l := n :: l) (e_var h p) e_int (atI_nat' (i := 0) rfl)
theorem e_num1 {n k : Int} {l : List Int} (h : σ[1]? = some (some v2)) (p : Row (n :: k :: l) G v2) : Ev (tOp (rIxL K) (tVar 1) (tC (.int 1))) σ G (PI k) := e_ix (p := PI) (l := n :: k :: l) (e_var h p) e_int (atI_nat' (i := 1) rfl)
theorem e_num2 {n k j : Int} {l : List Int} (h : σ[1]? = some (some v2)) (p : Row (n :: k :: j :: l) G v2) : Ev (tOp (rIxL K) (tVar 1) (tC (.int 2))) σ G (PI j) := e_ix (p := PI) (l := n :: k :: j :: l) (e_var h p) e_int (atI_nat' (i := 2) rfl)
theorem e_row0 {r : List Int} {l : List (List Int)} (h : σ[2]? = some (some v3)) (p : Rows (r :: l) G v3) : Ev (tOp (rIxL K) (tVar 2) (tC (.int 0))) σ G (Row r) := e_ix (p := fun r => Row r) (l := r :: l) (e_var h p) e_int (atI_nat' (i := 0) rfl)
theorem e_row1 {r q : List Int} {l : List (List Int)} (h : σ[2]? = some (some v3)) (p : Rows (r :: q :: l) G v3) : Ev (tOp (rIxL K) (tVar 2) (tC (.int 1))) σ G (Row q) := e_ix (p := fun r => Row r) (l := r :: q :: l) (e_var h p) e_int (atI_nat' (i := 1) rfl)
theorem e_loudness {u l : List Int} (hq : Vbhlae.quiet l = true) (h1 : u.length ≤ 12) (h2 : l.length ≤ 12) (h3 : Sz 128 u) (h4 : Sz 128 l) (h : Ev ta σ G (Row u)) (h' : Ev tb σ G (Row l)) : Ev (tCall sp_loudness [] E (tCons ta (tCons tb tNil))) σ G (Pair (prq (loudOf u l))) := e_call (u, l) (a_two h h') ⟨hq, h1, h2, h3, h4⟩
theorem e_answers {u l x : List Int} (h0 : at_ l 0 ≠ 0) (h1 : u.length ≤ 16) (h2 : l.length ≤ 16) (h3 : x.length ≤ 16) (h4 : Sz 128 u) (h5 : Sz 128 l) (h6 : Sz 128 x) (h : Ev ta σ G (Row u)) (h' : Ev tb σ G (Row l)) (h'' : Ev tl σ G (Row x)) :
    Ev (tCall sp_answers_to [] E (tCons ta (tCons tb (tCons tl tNil)))) σ G (Ratios (playR u l [] [] (inR x))) := e_call (u, l, x) (a_three h h' h'') ⟨h0, h1, h2, h3, h4, h5, h6⟩
theorem e_click {n : Int} (h1 : 0 ≤ n) (h2 : n ≤ 1000) (h : Ev te σ G (PI n)) : Ev (tCall sp_click_inputs [] E (tCons te tNil)) σ G (Row (clicks n.toNat)) := e_call n (a_one h) ⟨h1, h2⟩
end
theorem loud_of (u l : List Int) (h : 0 < l.length) : Vbhlae.qRow (Vbhlae.loud u l) = flatQ [loudOf u l] := by
  rw [loud_spec u l (by omega)]
  rfl
theorem clicks_sz (n : Nat) : Sz 128 (clicks n) := by
  intro x hx
  unfold clicks at hx
  obtain ⟨t, _, rfl⟩ := List.mem_map.mp hx
  split <;> decide
theorem playR_flat (u l : List Int) (xs : List Rat) : (flatQ (playR u l [] [] xs)).length = 2 * xs.length := by rw [flatQ_len, playR_len]
section
variable {P : Program} {w : World} {K : PySem.W.Frag} {mg : Str → Option Value} {base : Heap} {f : Addr} {fd : FuncData} {CA CB : Addr} {e : Cl}
abbrev st_check : Stmt := top 83
theorem sc_check : FnScope ["aid", "numbers", "lists", "proven"] ["aid", "numbers", "lists"] (defScope st_check) := ⟨rfl, rfl, rfl, by decide +kernel, rfl, by decide +kernel, by decide +kernel⟩
theorem ok_check (A : At K mg "check" st_check ["aid", "numbers", "lists"] f fd) (M_ring_row : MDfn P w K mg base (L2.CX P w) 46 CA "ring_row" ["self"] (sp_ring_row CA CB e.r)) (D_want_proof : Dfn P w K mg base (L2.CX P w) 42 "want_proof" ["numbers"] (sp_want_proof e.o))
    (D_yes_or_no : Dfn P w K mg base CX0 41 "yes_or_no" ["holds"] sp_yes_or_no) (D_is_proof : Dfn P w K mg base CX0 47 "is_proof" ["rows", "row"] sp_is_proof) (D_rows_told_in : Dfn P w K mg base CX0 41 "rows_told_in" ["numbers"] sp_rows_told_in) :
    FnOk P w K mg base (L2.CX P w) 50 f fd ["aid", "numbers", "lists"] (spK CA CB e Call.check) := by
  refine A.fn.okX sc_check spK_len (fun cdv Ar outer s H vs Q E hr h => ⟨_,
    (pss_cons (ps_expr (pe_defX (E := E) D_want_proof (hr.mono (by decide)) (passes_call (takes_of rfl rfl rfl rfl) (fun _ _ _ _ h => h)) (pa_cons (pe_ix (ix_listK (K := K) rfl) (pv 2) pe_int (fun _ _ => rfl)) pa_nil)))
  (pss_cons (ps_set (i := 3) sc_check.nd rfl (Or.inl rfl) (pe_mthX0 (E := E) M_ring_row (pv 0) (hr.mono (by decide)) (passes_call (takes_of rfl rfl rfl rfl) (fun _ _ _ _ h => h))))
  (pss_one (ps_ret (pe_lst (pa_cons (pe_def D_yes_or_no (hr.mono (by decide)) (pa_cons (pe_def D_is_proof (hr.mono (by decide)) (pa_cons (pe_def D_rows_told_in (hr.mono (by decide)) (pa_cons (pe_ix (ix_listK (K := K) rfl) (pv 2) pe_int (fun _ _ => rfl)) pa_nil)) (pa_cons (pv 3) pa_nil))) pa_nil)) pa_nil)))))), ?_⟩)
  obtain ⟨m, l, G, v1, v2, v3, rfl, sG, p1, p2, p3, hw, hf, k1, k2⟩ := spK_open h
  have hl : l.length ≤ 220 := hf l (by simp [listsOf])
  have p3 : Rows [l] G v3 := p3
  have eb : inr (l.length : Int) 0 200 = decide (l.length ≤ 200) := by
    unfold inr
    rw [decide_eq_true (show (0 : Int) ≤ (l.length : Int) by omega), Bool.true_and]
    exact decide_eq_decide.mpr (by omega)
  have k1 : ∀ rest, (guarded m [(-1, !decide (l.length ≤ 200)), noRing m] fun _ => match rowsIn (l.length + 1) l with
      | none => (m, [0, 0])
      | some rs => (m, [0, bit (isProof (ringOf m) rs)])).2 = 0 :: rest → ∀ v G2 H2, Gr G H G2 H2 → Row rest G2 v → Q v H2 := k1
  have k2 : ∀ n c, n ≠ 0 → e.at n = c → (guarded m [(-1, !decide (l.length ≤ 200)), noRing m] fun _ => match rowsIn (l.length + 1) l with
      | none => (m, [0, 0])
      | some rs => (m, [0, bit (isProof (ringOf m) rs)])).2 = [n] → ∀ G2 H2, Gr G H G2 H2 → E (.ref c) none H2 := k2
  refine want_oneQ (b := decide (l.length ≤ 200)) l (a_one (P := Row l) (e_row0 rfl p3)) (congrArg (okOr e.o) eb) sG (fun hb G2 H2 g2 => ?_) (fun hb G2 H2 g2 => ?_)
  · rw [hb, Bool.not_true, g_f] at k1 k2
    have q1 : PAid CA CB m G2 v1 := Mo.up g2.gg p1
    by_cases h0 : at_ (ringRow m one) 0 = 0
    · rw [nr_no h0] at k2
      exact q_thAsg (th_ring rfl q1 hw h0) g2.gh fun G3 H3 g3 => k2 (-5) e.r (by decide) at_r rfl G3 H3 (g2.trans g3)
    · rw [nr_yes h0, g_f, g_0] at k1
      have ask := wf_ask hw vol_one h0
      refine q_asg (P := Row (ringRow m one)) (e_ring rfl q1 hw h0) g2.gh fun vr G3 H3 g3 pr => ?_
      have p33 : Rows [l] G3 v3 := Mo.up (P := Rows [l]) (same_trans g2.gg g3.gg) p3
      have er : Ev (tCall sp_rows_told_in [] E0 (tCons (tOp (rIxL K) (tVar 2) (tC (.int 0))) tNil)) [some v1, some v2, some v3, some vr] G3 (Rows ((ri l).getD [])) := e_call l (a_one (P := Row l) (e_row0 rfl p33)) (by show l.length ≤ 1000; omega)
      have hrs : ((ri l).getD []).length ≤ 220 ∧ ∀ r ∈ (ri l).getD [], r.length ≤ 220 := by
        cases e1 : ri l with
        | none => exact ⟨by simp, fun r hr => by simp at hr⟩
        | some rs => exact ri_all 220 l rs hl e1
      have ep : Ev (tCall sp_is_proof [] E0 (tCons (tCall sp_rows_told_in [] E0 (tCons (tOp (rIxL K) (tVar 2) (tC (.int 0))) tNil)) (tCons (tVar 3) tNil))) [some v1, some v2, some v3, some vr] G3 (PB (isProof (plain (ringRow m one)) ((ri l).getD []))) := e_call ((ri l).getD [], ringRow m one) (a_two (P := Rows ((ri l).getD [])) (P' := Row (ringRow m one)) er (e_var rfl pr)) ⟨ask, by have := hrs.1; dsimp only; omega, fun r hr => by have := hrs.2 r hr; omega⟩
      refine s_ret (P := Row [bit (isProof (plain (ringRow m one)) ((ri l).getD []))]) (e_lst1 (p := PI) (e_yes ep)) g3.gh fun v G4 H4 g4 p4 => k1 _ ?_ v G4 H4 ((g2.trans g3).trans g4) p4
      show (match ri l with
        | none => (m, [0, 0])
        | some rs => (m, [0, bit (isProof (ringOf m) rs)])).2 = _
      cases e1 : ri l with
      | none => rfl
      | some rs => rfl
  · rw [hb, Bool.not_false, g_t] at k2
    exact k2 (-1) e.o (by decide) at_o rfl G2 H2 g2
abbrev st_loud : Stmt := top 84
theorem sc_loud : FnScope ["aid", "numbers", "lists", "heard"] ["aid", "numbers", "lists"] (defScope st_loud) := ⟨rfl, rfl, rfl, by decide +kernel, rfl, by decide +kernel, by decide +kernel⟩
theorem ok_loud (A : At K mg "loud" st_loud ["aid", "numbers", "lists"] f fd) (TQ : Err K mg "NotQuiet" e.q) (M_heard_in_all : MDfn P w K mg base (L2.CX P w) 45 CA "heard_in_all" ["self"] (sp_heard_in_all CA CB e.r)) (D_is_quiet : Dfn P w K mg base CX0 47 "is_quiet" ["row"] sp_is_quiet)
    (D_spread : Dfn P w K mg base CX0 41 "spread" ["ratios"] sp_spread) (D_loudness : Dfn P w K mg base CX0 44 "loudness" ["upper", "lower"] sp_loudness) :
    FnOk P w K mg base (L2.CX P w) 50 f fd ["aid", "numbers", "lists"] (spK CA CB e fun _ : Unit => .loud) := by
  refine A.fn.okX sc_loud spK_len (fun cdv Ar outer s H vs Q E hr h => ⟨_,
    (pss_cons (ps_set (i := 3) sc_loud.nd rfl (Or.inl rfl) (pe_mthX0 (E := E) M_heard_in_all (pv 0) (hr.mono (by decide)) (passes_call (takes_of rfl rfl rfl rfl) (fun _ _ _ _ h => h))))
  (pss_cons (ps_if (pt_not (pt_val (pe_def D_is_quiet (hr.mono (by decide)) (pa_cons (pe_ix (ix_tupK (K := K) rfl) (pv 3) pe_int (fun _ _ => rfl)) pa_nil)))) (pss_one (ps_err TQ (takes_of rfl rfl rfl rfl))) pss_nil)
  (pss_one (ps_ret (pe_def D_spread (hr.mono (by decide)) (pa_cons (pe_lst (pa_cons (pe_def D_loudness (hr.mono (by decide)) (pa_cons (pe_ix (ix_tupK (K := K) rfl) (pv 3) pe_int (fun _ _ => rfl)) (pa_cons (pe_ix (ix_tupK (K := K) rfl) (pv 3) pe_int (fun _ _ => rfl)) pa_nil))) pa_nil)) pa_nil)))))), ?_⟩)
  obtain ⟨m, x, G, v1, v2, v3, rfl, sG, p1, p2, p3, hw, hf, k1, k2⟩ := spK_open h
  have k1 : ∀ rest, (guarded m [noRing m, (-8, !quietAt m one)] fun _ => (m, 0 :: Vbhlae.qRow (Vbhlae.loud (upRow m one) (ringRow m one)))).2 = 0 :: rest → ∀ v G2 H2, Gr G H G2 H2 → Row rest G2 v → Q v H2 := k1
  have k2 : ∀ n c, n ≠ 0 → e.at n = c → (guarded m [noRing m, (-8, !quietAt m one)] fun _ => (m, 0 :: Vbhlae.qRow (Vbhlae.loud (upRow m one) (ringRow m one)))).2 = [n] → ∀ G2 H2, Gr G H G2 H2 → E (.ref c) none H2 := k2
  by_cases h0 : at_ (ringRow m one) 0 = 0
  · rw [nr_no h0] at k2
    exact q_thAsg (th_heard rfl p1 hw h0) sG (k2 (-5) e.r (by decide) at_r rfl)
  · rw [nr_yes h0, g_f] at k1 k2
    have ask := wf_ask hw vol_one h0
    obtain ⟨a1, a2, a3⟩ := hw.ring vol_one
    obtain ⟨b1, b2, b3⟩ := hw.upr vol_one
    have eq : quietAt m one = Vbhlae.quiet (ringRow m one) := rfl
    rw [eq, loud_of _ _ a2] at k1 k2
    clear eq
    refine q_asg (P := TwoRows (upRow m one, ringRow m one)) (e_heard rfl p1 hw h0) sG fun vh G1 H1 g1 ph => ?_
    revert k1 k2 ask a1 a2 a3 b1 b2 b3 ph
    generalize upRow m one = U
    generalize ringRow m one = R
    intro k1 k2 ask a1 a2 a3 b1 b2 b3 ph
    refine q_when (t_not (t_B (e_quiet ask (e_sndR (q := (U, R)) (e_var rfl ph))))) g1.gh (fun hb G2 H2 g2 => ?_) (fun hb G2 H2 g2 => ?_)
    · rw [hb] at k2
      exact k2 (-8) e.q (by decide) at_q rfl G2 H2 (g1.trans g2)
    · rw [hb, g_f, g_0] at k1
      have hq : Vbhlae.quiet R = true := by simpa using hb
      have q2 : TwoRows (U, R) G2 vh := Mo.up g2.gg ph
      exact s_ret (e_spread (l := [loudOf U R]) (by simp) (e_lst1 (p := fun r => Pair (prq r)) (e_loudness hq (by omega) (by omega) (b3.mono (by omega)) (a3.mono (by omega)) (e_fstR (q := (U, R)) (e_var rfl q2)) (e_sndR (q := (U, R)) (e_var rfl q2))))) g2.gh fun v G3 H3 g3 p3 => k1 _ rfl v G3 H3 ((g1.trans g2).trans g3) p3
abbrev st_play : Stmt := top 85
theorem sc_play : FnScope ["aid", "numbers", "lists", "heard"] ["aid", "numbers", "lists"] (defScope st_play) := ⟨rfl, rfl, rfl, by decide +kernel, rfl, by decide +kernel, by decide +kernel⟩
theorem ok_play (A : At K mg "play" st_play ["aid", "numbers", "lists"] f fd) (M_heard_in_all : MDfn P w K mg base (L2.CX P w) 45 CA "heard_in_all" ["self"] (sp_heard_in_all CA CB e.r)) (D_want_inputs : Dfn P w K mg base (L2.CX P w) 43 "want_inputs" ["inputs"] (sp_want_inputs e.o))
    (D_spread : Dfn P w K mg base CX0 41 "spread" ["ratios"] sp_spread) (D_answers_to : Dfn P w K mg base CX0 43 "answers_to" ["upper", "lower", "inputs"] sp_answers_to) :
    FnOk P w K mg base (L2.CX P w) 50 f fd ["aid", "numbers", "lists"] (spK CA CB e Call.play) := by
  refine A.fn.okX sc_play spK_len (fun cdv Ar outer s H vs Q E hr h => ⟨_,
    (pss_cons (ps_expr (pe_defX (E := E) D_want_inputs (hr.mono (by decide)) (passes_call (takes_of rfl rfl rfl rfl) (fun _ _ _ _ h => h)) (pa_cons (pe_ix (ix_listK (K := K) rfl) (pv 2) pe_int (fun _ _ => rfl)) pa_nil)))
  (pss_cons (ps_set (i := 3) sc_play.nd rfl (Or.inl rfl) (pe_mthX0 (E := E) M_heard_in_all (pv 0) (hr.mono (by decide)) (passes_call (takes_of rfl rfl rfl rfl) (fun _ _ _ _ h => h))))
  (pss_one (ps_ret (pe_def D_spread (hr.mono (by decide)) (pa_cons (pe_def D_answers_to (hr.mono (by decide)) (pa_cons (pe_ix (ix_tupK (K := K) rfl) (pv 3) pe_int (fun _ _ => rfl)) (pa_cons (pe_ix (ix_tupK (K := K) rfl) (pv 3) pe_int (fun _ _ => rfl)) (pa_cons (pe_ix (ix_listK (K := K) rfl) (pv 2) pe_int (fun _ _ => rfl)) pa_nil)))) pa_nil)))))), ?_⟩)
  obtain ⟨m, l, G, v1, v2, v3, rfl, sG, p1, p2, p3, hw, hf, k1, k2⟩ := spK_open h
  have p3 : Rows [l] G v3 := p3
  have k1 : ∀ rest, (guarded m [(-1, !(decide (l.length ≤ 16) && l.all fun x => inr x (-1000) 1000)), noRing m] fun _ => (m, 0 :: (Vbhlae.play (upRow m one) (ringRow m one) (l.map Vbhlae.Q.whole)).flatMap Vbhlae.qRow)).2 = 0 :: rest → ∀ v G2 H2, Gr G H G2 H2 → Row rest G2 v → Q v H2 := k1
  have k2 : ∀ n c, n ≠ 0 → e.at n = c → (guarded m [(-1, !(decide (l.length ≤ 16) && l.all fun x => inr x (-1000) 1000)), noRing m] fun _ => (m, 0 :: (Vbhlae.play (upRow m one) (ringRow m one) (l.map Vbhlae.Q.whole)).flatMap Vbhlae.qRow)).2 = [n] → ∀ G2 H2, Gr G H G2 H2 → E (.ref c) none H2 := k2
  have e0 := listOk0 l 16 1000
  rw [← e0] at k1 k2
  refine want_oneQ (b := listOk l 0 16 1000) l (a_one (P := Row l) (e_row0 rfl p3)) rfl sG (fun hb G2 H2 g2 => ?_) (fun hb G2 H2 g2 => ?_)
  · have hb' : listOk l 0 (16 : Nat) 1000 = true := hb
    rw [hb', Bool.not_true, g_f] at k1 k2
    obtain ⟨s1, _, s2⟩ := listOk_sz (B := 10) hb (by decide)
    have q1 : PAid CA CB m G2 v1 := Mo.up g2.gg p1
    by_cases h0 : at_ (ringRow m one) 0 = 0
    · rw [nr_no h0] at k2
      exact q_thAsg (th_heard rfl q1 hw h0) g2.gh fun G3 H3 g3 => k2 (-5) e.r (by decide) at_r rfl G3 H3 (g2.trans g3)
    · rw [nr_yes h0, g_f, g_0, play_spec, flatQ_of] at k1
      obtain ⟨a1, a2, a3⟩ := hw.ring vol_one
      obtain ⟨b1, b2, b3⟩ := hw.upr vol_one
      refine q_asg (P := TwoRows (upRow m one, ringRow m one)) (e_heard rfl q1 hw h0) g2.gh fun vh G3 H3 g3 ph => ?_
      revert k1 h0 a1 a2 a3 b1 b2 b3 ph
      generalize upRow m one = U
      generalize ringRow m one = R
      intro k1 h0 a1 a2 a3 b1 b2 b3 ph
      have p33 : Rows [l] G3 v3 := Mo.up (P := Rows [l]) (same_trans g2.gg g3.gg) p3
      exact s_ret (e_spread (by rw [playR_len]; show (l.map _).length ≤ _; rw [List.length_map]; omega) (e_answers h0 (by omega) (by omega) (by omega) (b3.mono (by omega)) (a3.mono (by omega)) (s2.mono (by omega)) (e_fstR (q := (U, R)) (e_var rfl ph)) (e_sndR (q := (U, R)) (e_var rfl ph)) (e_row0 rfl p33))) g3.gh fun v G4 H4 g4 p4 => k1 _ rfl v G4 H4 ((g2.trans g3).trans g4) p4
  · have hb' : listOk l 0 (16 : Nat) 1000 = false := hb
    rw [hb', Bool.not_false, g_t] at k2
    exact k2 (-1) e.o (by decide) at_o rfl G2 H2 g2
end
end Qa
set_option Elab.async false
set_option linter.all false
set_option maxRecDepth 100000
set_option maxHeartbeats 2000000
namespace Qm
open Vbhlae
theorem Sz.upperOf {A B : Nat} {low start : Row} (ha : Sz A low) (hb : Sz B start) (hl : low.length ≤ 16) : Sz (A + B + 4) (upperOf low start) := by
  intro x hx
  unfold Vbhlae.upperOf at hx
  obtain ⟨i, _, rfl⟩ := List.mem_map.mp hx
  rw [Int.natAbs_neg]
  have h := sum_le (f := fun j => at_ low (i + j + 1) * at_ start j) (M := 2 ^ (A + B)) (low.length - 1 - i) fun j _ => by
    rw [Int.natAbs_mul, Nat.pow_add]
    exact Nat.mul_le_mul (Nat.le_of_lt (ha.at _)) (Nat.le_of_lt (hb.at _))
  refine Nat.lt_of_le_of_lt h ?_
  rw [Nat.pow_add (m := A + B), Nat.mul_comm]
  exact Nat.mul_lt_mul_of_pos_left (by omega) (Nat.two_pow_pos _)
end Qm
namespace Qa
open PySem PySem.Spec PyProof.Rows L2 Qm
open Vbhlae (at_ plain ringRow upRow one quietAt noRing guarded bit inr Call ringOf shares listRow frac upperOf)
theorem plain_ask {R : List Int} (h : Askd R) : Askd (plain R) := by
  have hp := (plain_is h.1).pos
  exact ⟨by omega, Nat.le_trans (plain_length_le R) h.2.1, h.2.2.plain⟩
section
variable {te ta tb tl : TE} {σ : L2.St} {G H G' : Hp} {K : PySem.W.Frag} {E : XK} {CA CB cR : Addr} {m : Vbhlae.Aid} {v1 v2 v3 : V}
theorem e_lst2 {α : Type} {p : α → Pr} {x y : α} [mo : ∀ x, Mo (p x)] (h : Ev ta σ G (p x)) (h' : Ev tb σ G (p y)) : Ev (tLst (tCons ta (tCons tb tNil))) σ G (Ls p [x, y]) := fun H s _ k => a_two h h' H s _ fun vs G2 H2 g al => by
  obtain ⟨w1, w2, rfl, q1, q2⟩ := al_2 al
  exact ⟨by show 2 ≤ sizeLine; decide, fun a ha => k _ _ _ (g.trans (.new g.gh ha)) ⟨a, [w1, w2], rfl, upd_same, (mo x).up (same_new (gone g.gh ha)) q1, (mo y).up (same_new (gone g.gh ha)) q2, trivial⟩⟩
theorem e_qat {n d : Int} {t : TE} (p : σ[0]? = some (some v1)) (h : PAid CA CB m G v1) (hw : Wf m) (hv : VolP n d) (h1 : Ev t σ G (PI n)) (h2 : Ev tb σ G (PI d)) : Ev (tMeth CA "is_quiet_at" (sp_is_quiet_at CA CB) [] E (tVar 0) (tCons t (tCons tb tNil))) σ G (PB (quietAt m (frac n d.toNat))) :=
  e_mth (P := PAid CA CB m) (Ps := [PI n, PI d]) (m, n, d) rfl ⟨inferInstance, inferInstance, trivial⟩ (aid_obj (by decide +kernel) (by decide +kernel) (by decide +kernel)) (e_var p h) (a_two h1 h2) ⟨hw, hv⟩
end
section
variable {P : Program} {w : World} {K : PySem.W.Frag} {mg : Str → Option Value} {base : Heap} {f : Addr} {fd : FuncData} {CA CB : Addr} {e : Cl}
abbrev st_click : Stmt := top 94
theorem sc_click : FnScope ["aid", "numbers", "lists", "heard"] ["aid", "numbers", "lists"] (defScope st_click) := ⟨rfl, rfl, rfl, by decide +kernel, rfl, by decide +kernel, by decide +kernel⟩
theorem ok_click (A : At K mg "click" st_click ["aid", "numbers", "lists"] f fd) (M_heard_in_all : MDfn P w K mg base (L2.CX P w) 45 CA "heard_in_all" ["self"] (sp_heard_in_all CA CB e.r)) (D_want_click : Dfn P w K mg base (L2.CX P w) 42 "want_click" ["n"] (sp_want_click e.o))
    (D_spread : Dfn P w K mg base CX0 41 "spread" ["ratios"] sp_spread) (D_answers_to : Dfn P w K mg base CX0 43 "answers_to" ["upper", "lower", "inputs"] sp_answers_to) (D_click_inputs : Dfn P w K mg base CX0 41 "click_inputs" ["how_many"] sp_click_inputs) :
    FnOk P w K mg base (L2.CX P w) 50 f fd ["aid", "numbers", "lists"] (spK CA CB e Call.click) := by
  refine A.fn.okX sc_click spK_len (fun cdv Ar outer s H vs Q E hr h => ⟨_,
    (pss_cons (ps_expr (pe_defX (E := E) D_want_click (hr.mono (by decide)) (passes_call (takes_of rfl rfl rfl rfl) (fun _ _ _ _ h => h)) (pa_cons (pe_ix (ix_listK (K := K) rfl) (pv 1) pe_int (fun _ _ => rfl)) pa_nil)))
  (pss_cons (ps_set (i := 3) sc_click.nd rfl (Or.inl rfl) (pe_mthX0 (E := E) M_heard_in_all (pv 0) (hr.mono (by decide)) (passes_call (takes_of rfl rfl rfl rfl) (fun _ _ _ _ h => h))))
  (pss_one (ps_ret (pe_def D_spread (hr.mono (by decide)) (pa_cons (pe_def D_answers_to (hr.mono (by decide)) (pa_cons (pe_ix (ix_tupK (K := K) rfl) (pv 3) pe_int (fun _ _ => rfl)) (pa_cons (pe_ix (ix_tupK (K := K) rfl) (pv 3) pe_int (fun _ _ => rfl)) (pa_cons (pe_def D_click_inputs (hr.mono (by decide)) (pa_cons (pe_ix (ix_listK (K := K) rfl) (pv 1) pe_int (fun _ _ => rfl)) pa_nil)) pa_nil)))) pa_nil)))))), ?_⟩)
  obtain ⟨m, n, G, v1, v2, v3, rfl, sG, p1, p2, p3, hw, hf, k1, k2⟩ := spK_open h
  have p2 : Row [n] G v2 := p2
  have k1 : ∀ rest, (guarded m [(-1, !inr n 1 16), noRing m] fun _ => (m, 0 :: (Vbhlae.play (upRow m one) (ringRow m one) (Vbhlae.Q.whole 1 :: List.replicate (n.toNat - 1) (Vbhlae.Q.whole 0))).flatMap Vbhlae.qRow)).2 = 0 :: rest → ∀ v G2 H2, Gr G H G2 H2 → Row rest G2 v → Q v H2 := k1
  have k2 : ∀ k c, k ≠ 0 → e.at k = c → (guarded m [(-1, !inr n 1 16), noRing m] fun _ => (m, 0 :: (Vbhlae.play (upRow m one) (ringRow m one) (Vbhlae.Q.whole 1 :: List.replicate (n.toNat - 1) (Vbhlae.Q.whole 0))).flatMap Vbhlae.qRow)).2 = [k] → ∀ G2 H2, Gr G H G2 H2 → E (.ref c) none H2 := k2
  refine want_oneQ (b := inr n 1 16) n (a_one (P := PI n) (e_num0 rfl p2)) rfl sG (fun hb G2 H2 g2 => ?_) (fun hb G2 H2 g2 => ?_)
  · rw [hb, Bool.not_true, g_f] at k1 k2
    have hn : 1 ≤ n ∧ n ≤ 16 := by
      unfold inr at hb
      simpa using hb
    have q1 : PAid CA CB m G2 v1 := Mo.up g2.gg p1
    by_cases h0 : at_ (ringRow m one) 0 = 0
    · rw [nr_no h0] at k2
      exact q_thAsg (th_heard rfl q1 hw h0) g2.gh fun G3 H3 g3 => k2 (-5) e.r (by decide) at_r rfl G3 H3 (g2.trans g3)
    · rw [nr_yes h0, g_f, g_0, click_spec (by omega), play_spec, flatQ_of] at k1
      obtain ⟨a1, a2, a3⟩ := hw.ring vol_one
      obtain ⟨b1, b2, b3⟩ := hw.upr vol_one
      refine q_asg (P := TwoRows (upRow m one, ringRow m one)) (e_heard rfl q1 hw h0) g2.gh fun vh G3 H3 g3 ph => ?_
      revert k1 h0 a1 a2 a3 b1 b2 b3 ph
      generalize upRow m one = U
      generalize ringRow m one = R
      intro k1 h0 a1 a2 a3 b1 b2 b3 ph
      have p23 : Row [n] G3 v2 := Mo.up (P := Row [n]) (same_trans g2.gg g3.gg) p2
      have lc : (clicks n.toNat).length ≤ 16 := by rw [clicks_len]; omega
      exact s_ret (e_spread (by rw [playR_len]; show (List.map _ (clicks n.toNat)).length ≤ _; rw [List.length_map]; omega) (e_answers h0 (by omega) (by omega) lc (b3.mono (by omega)) (a3.mono (by omega)) (clicks_sz _) (e_fstR (q := (U, R)) (e_var rfl ph)) (e_sndR (q := (U, R)) (e_var rfl ph)) (e_click (by omega) (by omega) (e_num0 rfl p23)))) g3.gh fun v G4 H4 g4 p4 => k1 _ rfl v G4 H4 ((g2.trans g3).trans g4) p4
  · rw [hb, Bool.not_false, g_t] at k2
    exact k2 (-1) e.o (by decide) at_o rfl G2 H2 g2
abbrev st_quiet_at : Stmt := top 95
theorem sc_quiet_at : FnScope ["aid", "numbers", "lists"] ["aid", "numbers", "lists"] (defScope st_quiet_at) := ⟨rfl, rfl, rfl, by decide +kernel, rfl, by decide +kernel, by decide +kernel⟩
theorem ok_quiet_at (A : At K mg "quiet_at" st_quiet_at ["aid", "numbers", "lists"] f fd) (M_is_quiet_at : MDfn P w K mg base CX0 48 CA "is_quiet_at" ["self", "n", "d"] (sp_is_quiet_at CA CB)) (D_want_volume : Dfn P w K mg base (L2.CX P w) 42 "want_volume" ["n", "d"] (sp_want_volume e.o))
    (D_yes_or_no : Dfn P w K mg base CX0 41 "yes_or_no" ["holds"] sp_yes_or_no) : FnOk P w K mg base (L2.CX P w) 50 f fd ["aid", "numbers", "lists"] (spK CA CB e fun x : Int × Int => Call.quietAt x.1 x.2) := by
  refine A.fn.okX sc_quiet_at spK_len (fun cdv Ar outer s H vs Q E hr h => ⟨_,
    (pss_cons (ps_expr (pe_defX (E := E) D_want_volume (hr.mono (by decide)) (passes_call (takes_of rfl rfl rfl rfl) (fun _ _ _ _ h => h)) (pa_cons (pe_ix (ix_listK (K := K) rfl) (pv 1) pe_int (fun _ _ => rfl)) (pa_cons (pe_ix (ix_listK (K := K) rfl) (pv 1) pe_int (fun _ _ => rfl)) pa_nil))))
  (pss_one (ps_ret (pe_lst (pa_cons (pe_def D_yes_or_no (hr.mono (by decide)) (pa_cons (pe_mth M_is_quiet_at (pv 0) (hr.mono (by decide)) (pa_cons (pe_ix (ix_listK (K := K) rfl) (pv 1) pe_int (fun _ _ => rfl)) (pa_cons (pe_ix (ix_listK (K := K) rfl) (pv 1) pe_int (fun _ _ => rfl)) pa_nil))) pa_nil)) pa_nil))))), ?_⟩)
  obtain ⟨m, ⟨n, d⟩, G, v1, v2, v3, rfl, sG, p1, p2, p3, hw, hf, k1, k2⟩ := spK_open h
  have p2 : Row [n, d] G v2 := p2
  have k1 : ∀ rest, (guarded m [(-1, !(inr n 0 1000 && inr d 1 1000))] fun _ => (m, [0, bit (quietAt m (frac n d.toNat))])).2 = 0 :: rest → ∀ v G2 H2, Gr G H G2 H2 → Row rest G2 v → Q v H2 := k1
  have k2 : ∀ k c, k ≠ 0 → e.at k = c → (guarded m [(-1, !(inr n 0 1000 && inr d 1 1000))] fun _ => (m, [0, bit (quietAt m (frac n d.toNat))])).2 = [k] → ∀ G2 H2, Gr G H G2 H2 → E (.ref c) none H2 := k2
  refine want_oneQ (b := inr n 0 1000 && inr d 1 1000) (n, d) (a_two (P := PI n) (P' := PI d) (e_num0 rfl p2) (e_num1 rfl p2)) rfl sG (fun hb G2 H2 g2 => ?_) (fun hb G2 H2 g2 => ?_)
  · rw [hb, Bool.not_true, g_f, g_0] at k1
    have hv : VolP n d := by
      unfold inr at hb
      simp only [Bool.and_eq_true, decide_eq_true_eq] at hb
      unfold VolP
      omega
    have p22 : Row [n, d] G2 v2 := Mo.up (P := Row [n, d]) g2.gg p2
    exact s_ret (e_lst1 (p := PI) (e_yes (e_qat rfl (Mo.up g2.gg p1) hw hv (e_num0 rfl p22) (e_num1 rfl p22)))) g2.gh fun v G3 H3 g3 p3 => k1 _ rfl v G3 H3 (g2.trans g3) p3
  · rw [hb, Bool.not_false, g_t] at k2
    exact k2 (-1) e.o (by decide) at_o rfl G2 H2 g2
abbrev st_row : Stmt := top 89
theorem sc_row : FnScope ["aid", "numbers", "lists", "made"] ["aid", "numbers", "lists"] (defScope st_row) := ⟨rfl, rfl, rfl, by decide +kernel, rfl, by decide +kernel, by decide +kernel⟩
theorem ok_row (A : At K mg "row" st_row ["aid", "numbers", "lists"] f fd) (TR : Err K mg "NoRing" e.r) (D_want_row : Dfn P w K mg base (L2.CX P w) 43 "want_row" ["numbers"] (sp_want_row e.o)) (D_told_steps : Dfn P w K mg base CX0 46 "told_steps" ["row"] sp_told_steps)
    (D_yes_or_no : Dfn P w K mg base CX0 41 "yes_or_no" ["holds"] sp_yes_or_no) (D_come_to_one_number : Dfn P w K mg base CX0 41 "come_to_one_number" ["steps"] sp_come_to_one_number) (D_counted : Dfn P w K mg base CX0 41 "counted" ["rows"] sp_counted) :
    FnOk P w K mg base (L2.CX P w) 50 f fd ["aid", "numbers", "lists"] (spK CA CB e Call.row) := by
  refine A.fn.okX sc_row spK_len (fun cdv Ar outer s H vs Q E hr h => ⟨_,
    (pss_cons (ps_expr (pe_defX (E := E) D_want_row (hr.mono (by decide)) (passes_call (takes_of rfl rfl rfl rfl) (fun _ _ _ _ h => h)) (pa_cons (pe_ix (ix_listK (K := K) rfl) (pv 2) pe_int (fun _ _ => rfl)) pa_nil)))
  (pss_cons (ps_if (pt_cmpR op_eq (pe_ix (ix_listK (K := K) rfl) (pe_ix (ix_listK (K := K) rfl) (pv 2) pe_int (fun _ _ => rfl)) pe_int (fun _ _ => rfl)) pe_int (nomark _)) (pss_one (ps_err TR (takes_of rfl rfl rfl rfl))) pss_nil)
  (pss_cons (ps_set (i := 3) sc_row.nd rfl (Or.inl rfl) (pe_def D_told_steps (hr.mono (by decide)) (pa_cons (pe_ix (ix_listK (K := K) rfl) (pv 2) pe_int (fun _ _ => rfl)) pa_nil)))
  (pss_one (ps_ret (pe_op op_cat (pe_lst (pa_cons (pe_def D_yes_or_no (hr.mono (by decide)) (pa_cons (pe_def D_come_to_one_number (hr.mono (by decide)) (pa_cons (pv 3) pa_nil)) pa_nil)) pa_nil)) (pe_def D_counted (hr.mono (by decide)) (pa_cons (pv 3) pa_nil)))))))), ?_⟩)
  obtain ⟨m, l, G, v1, v2, v3, rfl, sG, p1, p2, p3, hw, hf, k1, k2⟩ := spK_open h
  have p3 : Rows [l] G v3 := p3
  have k1 : ∀ rest, (guarded m [(-1, !(decide (1 ≤ l.length) && (decide (l.length ≤ 12) && l.all fun x => inr x (-1000000) 1000000))), (-5, at_ l 0 == 0)] fun _ => (m, [0, bit (Vbhlae.quiet l)] ++ (Vbhlae.steps l).flatMap listRow)).2 = 0 :: rest → ∀ v G2 H2, Gr G H G2 H2 → Row rest G2 v → Q v H2 := k1
  have k2 : ∀ k c, k ≠ 0 → e.at k = c → (guarded m [(-1, !(decide (1 ≤ l.length) && (decide (l.length ≤ 12) && l.all fun x => inr x (-1000000) 1000000))), (-5, at_ l 0 == 0)] fun _ => (m, [0, bit (Vbhlae.quiet l)] ++ (Vbhlae.steps l).flatMap listRow)).2 = [k] → ∀ G2 H2, Gr G H G2 H2 → E (.ref c) none H2 := k2
  have e0 := listOk1 l 12 1000000
  rw [← e0] at k1 k2
  refine want_oneQ (b := listOk l 1 12 1000000) l (a_one (P := Row l) (e_row0 rfl p3)) rfl sG (fun hb G2 H2 g2 => ?_) (fun hb G2 H2 g2 => ?_)
  · have hb' : listOk l 1 (12 : Nat) 1000000 = true := hb
    rw [hb', Bool.not_true, g_f] at k1 k2
    obtain ⟨s1, s0, s2⟩ := listOk_sz (B := 20) hb (by decide)
    have p32 : Rows [l] G2 v3 := Mo.up (P := Rows [l]) g2.gg p3
    refine q_when (t_test (e_eq (e_ix (p := PI) (l := l) (e_row0 rfl p32) e_int (row_get (i := 0) (by omega))) e_int)) g2.gh (fun hz G3 H3 g3 => ?_) (fun hz G3 H3 g3 => ?_)
    · have hz : at_ l 0 = 0 := of_decide_eq_true hz
      rw [show (at_ l 0 == 0) = true from beq_iff_eq.mpr hz, g_t] at k2
      exact k2 (-5) e.r (by decide) at_r rfl G3 H3 (g2.trans g3)
    · have hz : at_ l 0 ≠ 0 := of_decide_eq_false hz
      rw [show (at_ l 0 == 0) = false from beq_eq_false_iff_ne.mpr hz, g_f, g_0, quiet_of hz, steps_tolds] at k1
      have ask : Askd l := ⟨hz, by omega, s2.mono (by omega)⟩
      obtain ⟨t1, t2⟩ := row_told hz ask.2.1
      refine q_asg (P := Rows (tolds (plain l))) (e_told ask (e_row0 rfl (Mo.up (P := Rows [l]) g3.gg p32))) g3.gh fun vm G4 H4 g4 pm => ?_
      have hne := tolds_ne (plain l)
      revert k1 t1 t2 pm hne
      generalize tolds (plain l) = Ts
      intro k1 t1 t2 pm hne
      have l5 : ∀ r ∈ Ts, r.length ≤ 500 := fun r hr => by have := (t2 r hr).2; omega
      have lf := flat_len Ts l5
      have lf2 : ([bit (come Ts)] : List Int).length + (Ts.flatMap listRow).length ≤ 1000000 := by
        rw [List.length_singleton]
        omega
      exact s_ret (e_cat (p := PI) (l := [bit (come Ts)]) (m := Ts.flatMap listRow) (e_lst1 (p := PI) (e_yes (e_come hne (e_var rfl pm)))) (e_counted (by omega) l5 (e_var rfl pm)) lf2) g4.gh fun v G5 H5 g5 p5 => k1 _ (by simp only [List.cons_append, List.nil_append]; rfl) v G5 H5 (((g2.trans g3).trans g4).trans g5) p5
  · have hb' : listOk l 1 (12 : Nat) 1000000 = false := hb
    rw [hb', Bool.not_false, g_t] at k2
    exact k2 (-1) e.o (by decide) at_o rfl G2 H2 g2
abbrev st_ends : Stmt := top 90
theorem sc_ends : FnScope ["aid", "numbers", "lists", "rung"] ["aid", "numbers", "lists"] (defScope st_ends) := ⟨rfl, rfl, rfl, by decide +kernel, rfl, by decide +kernel, by decide +kernel⟩
theorem ok_ends (A : At K mg "ends" st_ends ["aid", "numbers", "lists"] f fd) (T : Txt mg) (M_ring_row : MDfn P w K mg base (L2.CX P w) 46 CA "ring_row" ["self"] (sp_ring_row CA CB e.r)) (D_plain : Dfn P w K mg base CX0 44 "plain" ["row"] sp_plain) :
    FnOk P w K mg base (L2.CX P w) 50 f fd ["aid", "numbers", "lists"] (spK CA CB e fun _ : Unit => .ends) := by
  refine A.fn.okX sc_ends spK_len (fun cdv Ar outer s H vs Q E hr h => ⟨_,
    (pss_cons (ps_set (i := 3) sc_ends.nd rfl (Or.inl rfl) (pe_def D_plain (hr.mono (by decide)) (pa_cons (pe_mthX0 (E := E) M_ring_row (pv 0) (hr.mono (by decide)) (passes_call (takes_of rfl rfl rfl rfl) (fun _ _ _ _ h => h))) pa_nil)))
  (pss_one (ps_ret (pe_lst (pa_cons (pe_callB (sum_K (K := K) rfl rfl) (by rfl) T.sum (by decide +kernel) (pa_cons (pv 3) pa_nil)) (pa_cons (pe_op op_sub (pe_callB (sum_K (K := K) rfl rfl) (by rfl) T.sum (by decide +kernel) (pa_cons (pe_slice3 (K := K) rfl (pv 3) (po_some pe_int) po_none (po_some pe_int)) pa_nil)) (pe_callB (sum_K (K := K) rfl rfl) (by rfl) T.sum (by decide +kernel) (pa_cons (pe_slice3 (K := K) rfl (pv 3) (po_some pe_int) po_none (po_some pe_int)) pa_nil))) pa_nil)))))), ?_⟩)
  obtain ⟨m, x, G, v1, v2, v3, rfl, sG, p1, p2, p3, hw, hf, k1, k2⟩ := spK_open h
  have k1 : ∀ rest, (guarded m [noRing m] fun _ => (m, [0, Vbhlae.valueAt (plain (ringRow m one)) 1, Vbhlae.valueAt (plain (ringRow m one)) (-1)])).2 = 0 :: rest → ∀ v G2 H2, Gr G H G2 H2 → Row rest G2 v → Q v H2 := k1
  have k2 : ∀ k c, k ≠ 0 → e.at k = c → (guarded m [noRing m] fun _ => (m, [0, Vbhlae.valueAt (plain (ringRow m one)) 1, Vbhlae.valueAt (plain (ringRow m one)) (-1)])).2 = [k] → ∀ G2 H2, Gr G H G2 H2 → E (.ref c) none H2 := k2
  by_cases h0 : at_ (ringRow m one) 0 = 0
  · rw [nr_no h0] at k2
    exact q_thAsg (th_arg (th_ring rfl p1 hw h0)) sG (k2 (-5) e.r (by decide) at_r rfl)
  · rw [nr_yes h0, g_f, g_0, value_one, value_turned] at k1
    have ask := wf_ask hw vol_one h0
    refine q_asg (P := Row (plain (ringRow m one))) (e_plain ask (e_ring rfl p1 hw h0)) sG fun vr G1 H1 g1 pr => ?_
    revert k1 pr
    generalize plain (ringRow m one) = R
    intro k1 pr
    exact s_ret (e_lst2 (p := PI) (x := R.sum) (y := (second R 0).sum - (second R 1).sum) (e_sum (e_var rfl pr)) (e_sub (e_sum (e_second (k := 0) (by omega) (e_var rfl pr) (o_some e_int) o_none (o_some e_int))) (e_sum (e_second (k := 1) (by omega) (e_var rfl pr) (o_some e_int) o_none (o_some e_int))))) g1.gh fun v G2 H2 g2 p2 => k1 _ rfl v G2 H2 (g1.trans g2) p2
end
end Qa
set_option Elab.async false
set_option linter.all false
set_option maxRecDepth 100000
set_option maxHeartbeats 2000000
namespace Qa
open PySem PySem.Spec PyProof.Rows L2 Qm
open Vbhlae (at_ plain ringRow upRow one quietAt noRing guarded bit inr Call ringOf shares listRow frac upperOf)
section
variable {P : Program} {w : World} {K : PySem.W.Frag} {mg : Str → Option Value} {base : Heap} {f : Addr} {fd : FuncData} {CA CB : Addr} {e : Cl}
abbrev st_volume : Stmt := top 87
theorem sc_volume : FnScope ["aid", "numbers", "lists", "v"] ["aid", "numbers", "lists"] (defScope st_volume) := ⟨rfl, rfl, rfl, by decide +kernel, rfl, by decide +kernel, by decide +kernel⟩
/-- what volume tells behind the 0 -/
def volTold : Option Nat → List Int
  | none => [0]
  | some v => [1, (v : Int)]
theorem ok_volume (A : At K mg "volume" st_volume ["aid", "numbers", "lists"] f fd) (M_is_quiet_at : MDfn P w K mg base CX0 48 CA "is_quiet_at" ["self", "n", "d"] (sp_is_quiet_at CA CB)) (D_want_volumes : Dfn P w K mg base (L2.CX P w) 42 "want_volumes" ["d", "m"] (sp_want_volumes e.o)) :
    FnOk P w K mg base (L2.CX P w) 50 f fd ["aid", "numbers", "lists"] (spK CA CB e fun x : Int × Int => Call.volume x.1 x.2) := by
  refine A.fn.okX sc_volume spK_len (fun cdv Ar outer s H vs Q E hr h => ⟨_,
    (pss_cons (ps_expr (pe_defX (E := E) D_want_volumes (hr.mono (by decide)) (passes_call (takes_of rfl rfl rfl rfl) (fun _ _ _ _ h => h)) (pa_cons (pe_ix (ix_listK (K := K) rfl) (pv 1) pe_int (fun _ _ => rfl)) (pa_cons (pe_ix (ix_listK (K := K) rfl) (pv 1) pe_int (fun _ _ => rfl)) pa_nil))))
  (pss_cons (ps_set (i := 3) sc_volume.nd rfl (Or.inl rfl) pe_int)
  (pss_cons (ps_while (passes_of rfl) (PW.pt (pw_and (pt_cmpR op_le (pv 3) (pe_ix (ix_listK (K := K) rfl) (pv 1) pe_int (fun _ _ => rfl)) (nomark _)) (pw_and1 (pt_val (pe_mth M_is_quiet_at (pv 0) (hr.mono (by decide)) (pa_cons (pv 3) (pa_cons (pe_ix (ix_listK (K := K) rfl) (pv 1) pe_int (fun _ _ => rfl)) pa_nil)))))))
   (pss_one (ps_aug (i := 3) sc_volume.nd rfl (Or.inl rfl) pe_int ip_add)))
  (pss_one (ps_ret (pe_ifExp (pt_cmpR op_eq (pv 3) pe_int (nomark _)) (pe_lst (pa_cons pe_int pa_nil)) (pe_lst (pa_cons pe_int (pa_cons (pe_op op_sub (pv 3) pe_int) pa_nil))))))))), ?_⟩)
  obtain ⟨m, ⟨d, mx⟩, G, v1, v2, v3, rfl, sG, p1, p2, p3, hw, hf, k1, k2⟩ := spK_open h
  have p2 : Row [d, mx] G v2 := p2
  have k1 : ∀ rest, (guarded m [(-1, !(inr d 1 100 && inr mx 0 60))] fun _ => (m, match Vbhlae.volume m d.toNat mx.toNat with
      | none => [0, 0]
      | some v => [0, 1, (v : Int)])).2 = 0 :: rest → ∀ v G2 H2, Gr G H G2 H2 → Row rest G2 v → Q v H2 := k1
  have k2 : ∀ k c, k ≠ 0 → e.at k = c → (guarded m [(-1, !(inr d 1 100 && inr mx 0 60))] fun _ => (m, match Vbhlae.volume m d.toNat mx.toNat with
      | none => [0, 0]
      | some v => [0, 1, (v : Int)])).2 = [k] → ∀ G2 H2, Gr G H G2 H2 → E (.ref c) none H2 := k2
  refine want_oneQ (b := inr d 1 100 && inr mx 0 60) (d, mx) (a_two (P := PI d) (P' := PI mx) (e_num0 rfl p2) (e_num1 rfl p2)) rfl sG (fun hb G2 H2 g2 => ?_) (fun hb G2 H2 g2 => ?_)
  · rw [hb, Bool.not_true, g_f, g_0] at k1
    have k1 : ∀ v G2 H2, Gr G H G2 H2 → Row (volTold (Vbhlae.volume m d.toNat mx.toNat)) G2 v → Q v H2 := k1 _ (by
      cases Vbhlae.volume m d.toNat mx.toNat <;> rfl)
    have hn : 1 ≤ d ∧ d ≤ 100 ∧ 0 ≤ mx ∧ mx ≤ 60 := by
      unfold inr at hb
      simp only [Bool.and_eq_true, decide_eq_true_eq] at hb
      omega
    obtain ⟨d1, d2, m1, m2⟩ := hn
    refine q_asg (e_int (i := 0)) g2.gh fun v0 G3 H3 g3 e0 => ?_
    obtain rfl := e0
    refine q_while (fun k σ Gi Hi => ∃ u : Nat, σ = [some v1, some v2, some v3, some (.int (u : Int))] ∧ k = mx.toNat + 1 - u ∧ VolAt m d.toNat mx.toNat u ∧ Gr G H Gi Hi) (mx.toNat + 1) g3.gh ⟨0, rfl, by omega, vol_start _ _ _, g2.trans g3⟩ ?_
    rintro k σ' Gi Hi si ⟨u, rfl, rfl, hu, gi⟩
    have q1 : PAid CA CB m Gi v1 := Mo.up gi.gg p1
    have q2 : Row [d, mx] Gi v2 := Mo.up (P := Row [d, mx]) gi.gg p2
    refine ⟨_, t_and (a := decide ((u : Int) ≤ mx)) (b := quietAt m (frac (u : Int) d.toNat)) (t_test (e_le (e_var rfl rfl) (e_num1 rfl q2))) (fun hle => ?_), fun ht G4 H4 g4 => ?_, fun ht G4 H4 g4 => ?_⟩
    · have hle : (u : Int) ≤ mx := of_decide_eq_true hle
      exact t_B (e_qat (n := (u : Int)) (d := d) rfl q1 hw ⟨by omega, by omega, by omega, by omega⟩ (e_var rfl rfl) (e_num0 rfl q2))
    · obtain ⟨h1, h2⟩ := Bool.and_eq_true_iff.mp ht
      have h1 : (u : Int) ≤ mx := of_decide_eq_true h1
      refine s_augI rfl e_int g4.gh fun G5 H5 g5 => ⟨mx.toNat + 1 - (u + 1), G5, by omega, g5.gh, u + 1, rfl, rfl, vol_next hu (by omega) h2, (gi.trans g4).trans g5⟩
    · have he : Vbhlae.volume m d.toNat mx.toNat = if u = 0 then none else some (u - 1) := by
        refine vol_end hu ?_
        by_cases c : u = mx.toNat + 1
        · exact .inl c
        · refine .inr ?_
          have h1 := hu.1
          rw [show decide ((u : Int) ≤ mx) = true from decide_eq_true (by omega), Bool.true_and] at ht
          exact ht
      rw [he] at k1
      refine s_ret (P := Row (volTold (if u = 0 then none else some (u - 1)))) (e_if (b := decide ((u : Int) = 0)) (t_test (e_eq (e_var rfl rfl) e_int)) (fun hb => ?_) (fun hb => ?_)) g4.gh fun v G5 H5 g5 p5 => k1 v G5 H5 ((gi.trans g4).trans g5) p5
      · have : u = 0 := by
          have := of_decide_eq_true hb
          omega
        rw [if_pos this]
        exact e_lst1 (p := PI) e_int
      · have : u ≠ 0 := by
          have := of_decide_eq_false hb
          omega
        rw [if_neg this]
        exact e_lst2 (p := PI) (x := 1) (y := ((u - 1 : Nat) : Int)) e_int (e_to (e_sub (e_var rfl rfl) e_int) (by omega))
  · rw [hb, Bool.not_false, g_t] at k2
    exact k2 (-1) e.o (by decide) at_o rfl G2 H2 g2
abbrev st_alone : Stmt := top 88
theorem sc_alone : FnScope ["aid", "numbers", "lists", "verdicts", "each"] ["aid", "numbers", "lists"] (defScope st_alone) := ⟨rfl, rfl, rfl, by decide +kernel, rfl, by decide +kernel, by decide +kernel⟩
def verdict : Option Vbhlae.Band → Int
  | none => -1
  | some x => bit (Vbhlae.quiet x.low)
theorem low_ask {l : List Int} (h : Vbhlae.isLow l = true) : Askd l := by
  obtain ⟨w1, w2, w3, w4⟩ := low_is h
  exact ⟨w4, by omega, w3.mono (by omega)⟩
theorem pob_non {CB : Addr} {o : Option Vbhlae.Band} {G : Hp} {v : V} (h : POB CB o G v) : decide (v = V.non) = o.isNone := by
  have := pob_some h
  cases o <;> simp_all
theorem ok_alone (A : At K mg "alone" st_alone ["aid", "numbers", "lists"] f fd) (TA : AidT K CA CB) (D_is_quiet : Dfn P w K mg base CX0 47 "is_quiet" ["row"] sp_is_quiet) (D_yes_or_no : Dfn P w K mg base CX0 41 "yes_or_no" ["holds"] sp_yes_or_no) :
    FnOk P w K mg base (L2.CX P w) 50 f fd ["aid", "numbers", "lists"] (spK CA CB e fun _ : Unit => Call.alone) := by
  refine A.fn.okX sc_alone spK_len (fun cdv Ar outer s H vs Q E hr h => ⟨_,
    (pss_cons (ps_set (i := 3) sc_alone.nd rfl (Or.inl rfl) (pe_lst (pa_cons (pe_def D_yes_or_no (hr.mono (by decide)) (pa_cons (pe_def D_is_quiet (hr.mono (by decide)) (pa_cons (pe_fld (pv 0) rfl) pa_nil)) pa_nil)) pa_nil)))
  (pss_cons (ps_for (passes_of rfl) rfl (pi_list (pe_fld (pv 0) rfl)) (pg_name (i := 4) sc_alone.nd rfl (Or.inl rfl))
   (pss_one (ps_expr (pe_bm PySem.F.plainAttrs_list PySem.F.slot_list_append PySem.F.type_list_append mt_append (pv 3) (pa_cons (pe_ifExp (pt_cmpR op_isN (pv 4) pe_non (nomark _)) (pe_un un_neg pe_int) (pe_def D_yes_or_no (hr.mono (by decide)) (pa_cons (pe_def D_is_quiet (hr.mono (by decide)) (pa_cons (pe_fld (pv 4) rfl) pa_nil)) pa_nil))) pa_nil)))))
  (pss_one (ps_ret (pv 3))))), ?_⟩)
  obtain ⟨m, x, G, v1, v2, v3, rfl, sG, p1, p2, p3, hw, hf, k1, k2⟩ := spK_open h
  have k1 : ∀ v G2 H2, Gr G H G2 H2 → Row (bit (Vbhlae.quiet m.leakLow) :: m.bands.map verdict) G2 v → Q v H2 := k1 _ (by
    show [0, bit (Vbhlae.quiet m.leakLow)] ++ m.bands.map _ = _
    simp only [List.cons_append, List.nil_append]
    congr 2)
  refine q_own (n_lst1 (p := PI) (e_yes (e_quiet (low_ask hw.low) (e_leaklow TA (e_var rfl p1))))) sG fun L xs G1 H1 g1 hL gL hL1 al => ?_
  obtain rfl := ints_al al
  refine q_for (p := POB CB) (l := m.bands) (fun i σ Gi Hi => ∃ a : Option V, σ = [some v1, some v2, some v3, some (.ref L), a] ∧ Gr G H Gi Hi ∧ Gi L = none ∧ Hi L = some (.lst ((bit (Vbhlae.quiet m.leakLow) :: (m.bands.take i).map verdict).map V.int))) (e_bands TA (e_var rfl (Mo.up g1.gg p1))) g1.gh
    (fun G2 H2 g2 => ⟨none, rfl, g1.trans g2, g2.fr L gL (by rw [hL1]; simp), g2.hh L _ hL1⟩) ?_ ?_
  · rintro G2 H2 i b v σ' Gi Hi g2 hx s1 s2 pr ⟨a, rfl, gi, giL, hiL⟩
    refine s_app (G := Gi) (P := PI (verdict b)) rfl hiL ?_ (e_if (b := b.isNone) (t_test (e_isN (P := POB CB b) (e_var rfl pr) fun _ _ z => pob_non z)) (fun hb => ?_) (fun hb => ?_)) s2 fun w1 G3 H3 g3 e3 => ?_
    · rw [List.length_map, List.length_cons, List.length_map]
      have h1 : (m.bands.take i).length ≤ m.bands.length := List.length_take_le' ..
      have := hw.n
      omega
    · have : b = none := by simpa using hb
      subst this
      exact e_neg e_int
    · obtain ⟨bd, rfl⟩ : ∃ bd, b = some bd := by
        cases b with
        | none => cases hb
        | some bd => exact ⟨bd, rfl⟩
      exact e_yes (e_quiet (low_ask (hw.b bd (List.mem_of_getElem? hx)).low) (e_low TA (e_var rfl pr)))
    · obtain rfl := e3
      have g3L : G3 L = none := g3.fr L giL (by rw [hiL]; simp)
      refine ⟨G3, same_trans s1 g3.gg, same_put g3.gh g3L, some v, rfl, (gi.trans g3).put hL g3L, g3L, ?_⟩
      rw [upd_same, take_more hx, List.map_append]
      simp
  · rintro G2 H2 σ' Gi Hi g2 s1 s2 ⟨a, rfl, gi, giL, hiL⟩
    rw [List.take_length] at hiL
    exact s_give (p := PI) rfl gi hL giL hiL (al_ints _) k1
abbrev st_told : Stmt := top 93
theorem sc_told : FnScope ["aid", "numbers", "lists", "made", "each"] ["aid", "numbers", "lists"] (defScope st_told) := ⟨rfl, rfl, rfl, by decide +kernel, rfl, by decide +kernel, by decide +kernel⟩
def bandTold : Option Vbhlae.Band → List Int
  | none => [0]
  | some x => 1 :: (Vbhlae.qRow x.gain ++ (listRow x.up ++ listRow x.low))
theorem bandTold_some {b : Vbhlae.Band} {g : Rat} (h : b.gain = qOf g) : ([1] ++ flatQ [g]) ++ [b.up, b.low].flatMap listRow = bandTold (some b) := by
  show _ = 1 :: (Vbhlae.qRow b.gain ++ (listRow b.up ++ listRow b.low))
  rw [h]
  simp [flatQ, Vbhlae.qRow, qOf]
theorem bandTold_len {o : Option Vbhlae.Band} (h : ∀ b, o = some b → WfB b) : (bandTold o).length ≤ 20 := by
  cases o with
  | none => show 1 ≤ 20; omega
  | some b =>
    obtain ⟨_, u2, _⟩ := up_is (h b rfl).up
    obtain ⟨_, w2, _⟩ := low_is (h b rfl).low
    simp [bandTold, Vbhlae.qRow, listRow]
    omega
theorem two_flat (a b : List Int) : [a, b].flatMap listRow = listRow a ++ listRow b := by simp
theorem ok_told (A : At K mg "told" st_told ["aid", "numbers", "lists"] f fd) (TA : AidT K CA CB) (D_counted : Dfn P w K mg base CX0 41 "counted" ["rows"] sp_counted) (D_countedN : Dfn P w K mg base CX0 41 "counted" ["rows"] sp_countedN) (D_spread : Dfn P w K mg base CX0 41 "spread" ["ratios"] sp_spread) :
    FnOk P w K mg base (L2.CX P w) 50 f fd ["aid", "numbers", "lists"] (spK CA CB e fun _ : Unit => Call.told) := by
  refine A.fn.okX sc_told spK_len (fun cdv Ar outer s H vs Q E hr h => ⟨_,
    (pss_cons (ps_set (i := 3) sc_told.nd rfl (Or.inl rfl) (pe_def D_countedN (hr.mono (by decide)) (pa_cons (pe_lst (pa_cons (pe_fld (pv 0) rfl) (pa_cons (pe_fld (pv 0) rfl) pa_nil))) pa_nil)))
  (pss_cons (ps_for (passes_of rfl) rfl (pi_list (pe_fld (pv 0) rfl)) (pg_name (i := 4) sc_told.nd rfl (Or.inl rfl))
   (pss_one (ps_if (pt_cmpR op_isN (pv 4) pe_non (nomark _)) (pss_one (ps_expr (pe_bm PySem.F.plainAttrs_list PySem.F.slot_list_append PySem.F.type_list_append mt_append (pv 3) (pa_cons pe_int pa_nil)))) (pss_one (ps_expr (pe_bm PySem.F.plainAttrs_list PySem.F.slot_list_extend PySem.F.type_list_extend mt_extend (pv 3) (pa_cons (pe_op op_cat (pe_op op_cat (pe_lst (pa_cons pe_int pa_nil)) (pe_def D_spread (hr.mono (by decide)) (pa_cons (pe_lst (pa_cons (pe_fld (pv 4) rfl) pa_nil)) pa_nil))) (pe_def D_counted (hr.mono (by decide)) (pa_cons (pe_lst (pa_cons (pe_fld (pv 4) rfl) (pa_cons (pe_fld (pv 4) rfl) pa_nil))) pa_nil))) pa_nil)))))))
  (pss_one (ps_ret (pv 3))))), ?_⟩)
  obtain ⟨m, x, G, v1, v2, v3, rfl, sG, p1, p2, p3, hw, hf, k1, k2⟩ := spK_open h
  have k1 : ∀ v G2 H2, Gr G H G2 H2 → Row ([m.leakUp, m.leakLow].flatMap listRow ++ m.bands.flatMap bandTold) G2 v → Q v H2 := k1 _ (by
    show (0 : Int) :: (listRow m.leakUp ++ (listRow m.leakLow ++ m.bands.flatMap _)) = _
    rw [two_flat, List.append_assoc]
    congr 3)
  obtain ⟨_, u2, _⟩ := up_is hw.up
  obtain ⟨_, w2, _⟩ := low_is hw.low
  have lb : ([m.leakUp, m.leakLow].flatMap listRow).length ≤ 9 := by
    simp [listRow]
    omega
  refine q_own (n_call (p := PI) [m.leakUp, m.leakLow] (a_one (P := Rows [m.leakUp, m.leakLow]) (e_lst2 (p := fun r => Row r) (e_leakup TA (e_var rfl p1)) (e_leaklow TA (e_var rfl p1)))) ⟨by simp, fun r hr => by
    simp only [List.mem_cons, List.not_mem_nil, or_false] at hr
    rcases hr with rfl | rfl <;> omega⟩) sG fun L xs G1 H1 g1 hL gL hL1 al => ?_
  obtain rfl := ints_al al
  refine q_for (p := POB CB) (l := m.bands) (fun i σ Gi Hi => ∃ a : Option V, σ = [some v1, some v2, some v3, some (.ref L), a] ∧ Gr G H Gi Hi ∧ Gi L = none ∧ ((m.bands.take i).flatMap bandTold).length ≤ 20 * i ∧ Hi L = some (.lst (([m.leakUp, m.leakLow].flatMap listRow ++ (m.bands.take i).flatMap bandTold).map V.int))) (e_bands TA (e_var rfl (Mo.up g1.gg p1))) g1.gh
    (fun G2 H2 g2 => ⟨none, rfl, g1.trans g2, g2.fr L gL (by rw [hL1]; simp), by simp, by rw [g2.hh L _ hL1]; simp⟩) ?_ ?_
  · rintro G2 H2 i b v σ' Gi Hi g2 hx s1 s2 pr ⟨a, rfl, gi, giL, hli, hiL⟩
    have hi3 : i < 3 := by
      have := (List.getElem?_eq_some_iff.mp hx).1
      have := hw.n
      omega
    have hbl := bandTold_len (o := b) fun bd hbd => hw.b bd (by rw [← hbd]; exact List.mem_of_getElem? hx)
    have enx : (m.bands.take (i + 1)).flatMap bandTold = (m.bands.take i).flatMap bandTold ++ bandTold b := by
      rw [take_more hx, List.flatMap_append]
      simp
    have lnx : ((m.bands.take (i + 1)).flatMap bandTold).length ≤ 20 * (i + 1) := by
      rw [enx, List.length_append]
      omega
    have lacc : (([m.leakUp, m.leakLow].flatMap listRow ++ (m.bands.take i).flatMap bandTold).map V.int).length ≤ 80 := by
      rw [List.length_map, List.length_append]
      omega
    refine s_if (b := b.isNone) (t_test (e_isN (P := POB CB b) (e_var rfl pr) fun _ _ z => pob_non z)) s2 (fun hb G3 H3 g3 => ?_) (fun hb G3 H3 g3 => ?_)
    · have : b = none := by simpa using hb
      subst this
      have g3L : G3 L = none := g3.fr L giL (by rw [hiL]; simp)
      refine s_app (G := G3) rfl (g3.hh L _ hiL) (by omega) (e_int (i := 0)) g3.gh fun w1 G4 H4 g4 e4 => ?_
      obtain rfl := e4
      have g4L : G4 L = none := g4.fr L g3L (by rw [g3.hh L _ hiL]; simp)
      refine ⟨G4, same_trans (same_trans s1 g3.gg) g4.gg, same_put g4.gh g4L, some v, rfl, ((gi.trans g3).trans g4).put hL g4L, g4L, lnx, ?_⟩
      rw [upd_same, enx, ← List.append_assoc, List.map_append (l₂ := bandTold none)]
      rfl
    · obtain ⟨bd, rfl⟩ : ∃ bd, b = some bd := by
        cases b with
        | none => cases hb
        | some bd => exact ⟨bd, rfl⟩
      have wb := hw.b bd (List.mem_of_getElem? hx)
      obtain ⟨g, eg, _⟩ := wb.g
      obtain ⟨_, u2', _⟩ := up_is wb.up
      obtain ⟨_, w2', _⟩ := low_is wb.low
      have g3L : G3 L = none := g3.fr L giL (by rw [hiL]; simp)
      have pb : PBand CB bd G3 v := Mo.up (P := PBand CB bd) g3.gg pr
      have eqp : qp bd.gain = prq g := by rw [eg]; rfl
      have ev1 : Ev (tCall sp_spread [] E0 (tCons (tLst (tCons (tFld K (tVar 4) "gain") tNil)) tNil)) [some v1, some v2, some v3, some (.ref L), some v] G3 (Row (flatQ [g])) := e_spread (by simp) (e_lst1 (p := fun r => Pair (prq r)) (by
        have := e_gain (K := K) (CA := CA) (σ := [some v1, some v2, some v3, some (.ref L), some v]) (ta := tVar 4) TA (e_var rfl pb)
        rw [eqp] at this
        exact this))
      have ev2 : Ev (tCall sp_counted [] E0 (tCons (tLst (tCons (tFld K (tVar 4) "up") (tCons (tFld K (tVar 4) "low") tNil))) tNil)) [some v1, some v2, some v3, some (.ref L), some v] G3 (Row ([bd.up, bd.low].flatMap listRow)) := e_counted (by simp) (fun r hr => by
        simp only [List.mem_cons, List.not_mem_nil, or_false] at hr
        rcases hr with rfl | rfl <;> omega) (e_lst2 (p := fun r => Row r) (e_up TA (e_var rfl pb)) (e_low TA (e_var rfl pb)))
      have lf2 : (([1] ++ flatQ [g]) ++ [bd.up, bd.low].flatMap listRow).length ≤ 20 := by
        rw [bandTold_some eg]
        exact hbl
      have lf3 : ([1] : List Int).length + (flatQ [g]).length ≤ 1000000 := by simp [flatQ]
      refine s_ext (G := G3) (p := PI) (l := bandTold (some bd)) rfl (g3.hh L _ hiL) (by omega) (e_toR (e_cat (p := PI) (l := [1] ++ flatQ [g]) (m := [bd.up, bd.low].flatMap listRow) (e_cat (p := PI) (l := [1]) (m := flatQ [g]) (e_lst1 (p := PI) e_int) ev1 lf3) ev2 (by rw [← List.length_append]; omega)) (bandTold_some eg)) g3.gh fun xs G4 H4 g4 e4 => ?_
      obtain rfl := ints_al e4
      have g4L : G4 L = none := g4.fr L g3L (by rw [g3.hh L _ hiL]; simp)
      refine ⟨G4, same_trans (same_trans s1 g3.gg) g4.gg, same_put g4.gh g4L, some v, rfl, ((gi.trans g3).trans g4).put hL g4L, g4L, lnx, ?_⟩
      rw [upd_same, enx, ← List.append_assoc, List.map_append (l₂ := bandTold (some bd))]
  · rintro G2 H2 σ' Gi Hi g2 s1 s2 ⟨a, rfl, gi, giL, _, hiL⟩
    rw [List.take_length] at hiL
    exact s_give (p := PI) rfl gi hL giL hiL (al_ints _) k1
end
end Qa
set_option Elab.async false
set_option linter.all false
set_option maxRecDepth 100000
set_option maxHeartbeats 2000000
namespace Qa
open PySem PySem.Spec PyProof.Rows L2 Qm
open Vbhlae (at_ plain ringRow upRow one quietAt noRing guarded bit inr Call ringOf shares listRow frac upperOf)
section
variable {P : Program} {w : World} {K : PySem.W.Frag} {mg : Str → Option Value} {base : Heap} {f : Addr} {fd : FuncData} {CA CB : Addr} {e : Cl}
abbrev st_freed : Stmt := top 86
theorem sc_freed : FnScope ["aid", "numbers", "lists", "lower", "upper", "following"] ["aid", "numbers", "lists"] (defScope st_freed) := ⟨rfl, rfl, rfl, by decide +kernel, rfl, by decide +kernel, by decide +kernel⟩
theorem ok_freed (A : At K mg "freed" st_freed ["aid", "numbers", "lists"] f fd) (M_ring_row : MDfn P w K mg base (L2.CX P w) 46 CA "ring_row" ["self"] (sp_ring_row CA CB e.r)) (D_want_freed : Dfn P w K mg base (L2.CX P w) 43 "want_freed" ["n", "beginning"] (sp_want_freed e.o))
    (D_want_as_many : Dfn P w K mg base (L2.CX P w) 41 "want_as_many" ["beginning", "row"] (sp_want_as_many e.s)) (D_plain : Dfn P w K mg base CX0 44 "plain" ["row"] sp_plain) (D_upper_behind : Dfn P w K mg base CX0 41 "upper_behind" ["beginning", "lower"] sp_upper_behind) (D_is_quiet : Dfn P w K mg base CX0 47 "is_quiet" ["row"] sp_is_quiet)
    (D_spread : Dfn P w K mg base CX0 41 "spread" ["ratios"] sp_spread) (D_answers_to : Dfn P w K mg base CX0 43 "answers_to" ["upper", "lower", "inputs"] sp_answers_to) (D_click_inputs : Dfn P w K mg base CX0 41 "click_inputs" ["how_many"] sp_click_inputs) (D_loudness : Dfn P w K mg base CX0 44 "loudness" ["upper", "lower"] sp_loudness) :
    FnOk P w K mg base (L2.CX P w) 50 f fd ["aid", "numbers", "lists"] (spK CA CB e fun x : Int × List Int => Call.freed x.1 x.2) := by
  refine A.fn.okX sc_freed spK_len (fun cdv Ar outer s H vs Q E hr h => ⟨_,
    (pss_cons (ps_expr (pe_defX (E := E) D_want_freed (hr.mono (by decide)) (passes_call (takes_of rfl rfl rfl rfl) (fun _ _ _ _ h => h)) (pa_cons (pe_ix (ix_listK (K := K) rfl) (pv 1) pe_int (fun _ _ => rfl)) (pa_cons (pe_ix (ix_listK (K := K) rfl) (pv 2) pe_int (fun _ _ => rfl)) pa_nil))))
  (pss_cons (ps_set (i := 3) sc_freed.nd rfl (Or.inl rfl) (pe_def D_plain (hr.mono (by decide)) (pa_cons (pe_mthX0 (E := E) M_ring_row (pv 0) (hr.mono (by decide)) (passes_call (takes_of rfl rfl rfl rfl) (fun _ _ _ _ h => h))) pa_nil)))
  (pss_cons (ps_expr (pe_defX (E := E) D_want_as_many (hr.mono (by decide)) (passes_call (takes_of rfl rfl rfl rfl) (fun _ _ _ _ h => h)) (pa_cons (pe_ix (ix_listK (K := K) rfl) (pv 2) pe_int (fun _ _ => rfl)) (pa_cons (pv 3) pa_nil))))
  (pss_cons (ps_set (i := 4) sc_freed.nd rfl (Or.inl rfl) (pe_def D_upper_behind (hr.mono (by decide)) (pa_cons (pe_ix (ix_listK (K := K) rfl) (pv 2) pe_int (fun _ _ => rfl)) (pa_cons (pv 3) pa_nil))))
  (pss_cons (ps_set (i := 5) sc_freed.nd rfl (Or.inl rfl) (pe_def D_answers_to (hr.mono (by decide)) (pa_cons (pv 4) (pa_cons (pv 3) (pa_cons (pe_def D_click_inputs (hr.mono (by decide)) (pa_cons (pe_ix (ix_listK (K := K) rfl) (pv 1) pe_int (fun _ _ => rfl)) pa_nil)) pa_nil)))))
  (pss_cons (ps_if (pt_not (pt_val (pe_def D_is_quiet (hr.mono (by decide)) (pa_cons (pv 3) pa_nil)))) (pss_one (ps_ret (pe_op op_cat (pe_lst (pa_cons pe_int pa_nil)) (pe_def D_spread (hr.mono (by decide)) (pa_cons (pv 5) pa_nil))))) pss_nil)
  (pss_one (ps_ret (pe_op op_cat (pe_lst (pa_cons pe_int pa_nil)) (pe_def D_spread (hr.mono (by decide)) (pa_cons (pe_op op_cat (pe_lst (pa_cons (pe_def D_loudness (hr.mono (by decide)) (pa_cons (pv 4) (pa_cons (pv 3) pa_nil))) pa_nil)) (pv 5)) pa_nil))))))))))), ?_⟩)
  obtain ⟨m, ⟨n, l⟩, G, v1, v2, v3, rfl, sG, p1, p2, p3, hw, hf, k1, k2⟩ := spK_open h
  have p2 : Row [n] G v2 := p2
  have p3 : Rows [l] G v3 := p3
  have eo : ringOf m = plain (ringRow m one) := rfl
  have k1 : ∀ rest, (guarded m [(-1, !(inr n 0 16 && (decide (l.length ≤ 12) && l.all fun x => inr x (-1000) 1000))), noRing m, (-6, l.length + 1 != (ringOf m).length)] fun _ => (m, [0, bit (quietAt m one)] ++ ((if quietAt m one = true then Vbhlae.qRow (Vbhlae.loud (upperOf (ringOf m) l) (ringOf m)) else []) ++ (Vbhlae.freed (ringOf m) (l.map Vbhlae.Q.whole) n.toNat).flatMap Vbhlae.qRow))).2 = 0 :: rest → ∀ v G2 H2, Gr G H G2 H2 → Row rest G2 v → Q v H2 := k1
  have k2 : ∀ k c, k ≠ 0 → e.at k = c → (guarded m [(-1, !(inr n 0 16 && (decide (l.length ≤ 12) && l.all fun x => inr x (-1000) 1000))), noRing m, (-6, l.length + 1 != (ringOf m).length)] fun _ => (m, [0, bit (quietAt m one)] ++ ((if quietAt m one = true then Vbhlae.qRow (Vbhlae.loud (upperOf (ringOf m) l) (ringOf m)) else []) ++ (Vbhlae.freed (ringOf m) (l.map Vbhlae.Q.whole) n.toNat).flatMap Vbhlae.qRow))).2 = [k] → ∀ G2 H2, Gr G H G2 H2 → E (.ref c) none H2 := k2
  have e0 := listOk0 l 12 1000
  rw [← e0, eo] at k1 k2
  refine want_oneQ (b := inr n 0 16 && listOk l 0 12 1000) (n, l) (a_two (P := PI n) (P' := Row l) (e_num0 rfl p2) (e_row0 rfl p3)) rfl sG (fun hb G2 H2 g2 => ?_) (fun hb G2 H2 g2 => ?_)
  · have hb' : (inr n 0 16 && listOk l 0 (12 : Nat) 1000) = true := hb
    rw [hb', Bool.not_true, g_f] at k1 k2
    obtain ⟨hb1, hb2⟩ := Bool.and_eq_true_iff.mp hb
    obtain ⟨s1, _, s2⟩ := listOk_sz (B := 10) hb2 (by decide)
    have hn : 0 ≤ n ∧ n ≤ 16 := by
      unfold inr at hb1
      simpa using hb1
    have q1 : PAid CA CB m G2 v1 := Mo.up g2.gg p1
    by_cases h0 : at_ (ringRow m one) 0 = 0
    · rw [nr_no h0] at k2
      exact q_thAsg (th_arg (th_ring rfl q1 hw h0)) g2.gh fun G3 H3 g3 => k2 (-5) e.r (by decide) at_r rfl G3 H3 (g2.trans g3)
    · rw [nr_yes h0, g_f] at k1 k2
      have ask := wf_ask hw vol_one h0
      have pask := plain_ask ask
      obtain ⟨a1, _, a3⟩ := hw.ring vol_one
      have psz : Sz 110 (plain (ringRow m one)) := a3.plain
      have pl : (plain (ringRow m one)).length ≤ 11 := Nat.le_trans (plain_length_le _) a1
      have eqq : quietAt m one = Vbhlae.quiet (plain (ringRow m one)) := (quiet_plain h0).symm
      rw [eqq, freed_spec, flatQ_of] at k1 k2
      clear eqq
      refine q_asg (P := Row (plain (ringRow m one))) (e_plain ask (e_ring rfl q1 hw h0)) g2.gh fun vr G3 H3 g3 pr => ?_
      clear e0 eo h0 ask a1 a3
      revert k1 k2 pask psz pl pr
      generalize plain (ringRow m one) = R
      intro k1 k2 pask psz pl pr
      have p33 : Rows [l] G3 v3 := Mo.up (P := Rows [l]) (same_trans g2.gg g3.gg) p3
      refine want_oneQ (b := decide (l.length + 1 = R.length)) (l, R) (a_two (P := Row l) (P' := Row R) (e_row0 rfl p33) (e_var rfl pr)) rfl g3.gh (fun hc G4 H4 g4 => ?_) (fun hc G4 H4 g4 => ?_)
      · have hc : l.length + 1 = R.length := of_decide_eq_true hc
        rw [show (l.length + 1 != R.length) = false by simp [hc], g_f, g_0] at k1
        have r0 := pask.1
        have rl : 0 < R.length := by omega
        have ul : (upperOf R l).length ≤ 10 := by rw [upperOf_len]; omega
        have us : Sz 128 (upperOf R l) := (psz.upperOf s2 (by omega)).mono (by omega)
        have lc : (clicks n.toNat).length ≤ 16 := by rw [clicks_len]; omega
        have s34 := same_trans (same_trans g2.gg g3.gg) g4.gg
        have p34 : Rows [l] G4 v3 := Mo.up (P := Rows [l]) g4.gg p33
        have pr4 : Row R G4 vr := Mo.up g4.gg pr
        refine q_asg (P := Row (upperOf R l)) (e_call (l, R) (a_two (P := Row l) (P' := Row R) (e_row0 rfl p34) (e_var rfl pr4)) ⟨hc, by dsimp only; omega, s2.mono (by omega), psz.mono (by omega)⟩) g4.gh fun vu G5 H5 g5 pu => ?_
        have pr5 : Row R G5 vr := Mo.up g5.gg pr4
        have p25 : Row [n] G5 v2 := Mo.up (P := Row [n]) (same_trans s34 g5.gg) p2
        refine q_asg (P := Ratios (playR (upperOf R l) R [] [] (inR (clicks n.toNat)))) (e_answers r0 (by omega) (by omega) lc us (psz.mono (by omega)) (clicks_sz _) (e_var rfl pu) (e_var rfl pr5) (e_click (by omega) (by omega) (e_num0 rfl p25))) g5.gh fun vf G6 H6 g6 pf => ?_
        have g16 := (((g2.trans g3).trans g4).trans g5).trans g6
        have lp : (playR (upperOf R l) R [] [] (inR (clicks n.toNat))).length ≤ 16 := by
          rw [playR_len]
          show (List.map _ (clicks n.toNat)).length ≤ _
          rw [List.length_map]
          exact lc
        have pr6 : Row R G6 vr := Mo.up g6.gg pr5
        have pu6 : Row (upperOf R l) G6 vu := Mo.up g6.gg pu
        have eL : (clicks n.toNat).map (fun x : Int => (x : Rat)) = inR (clicks n.toNat) := rfl
        rw [eL] at k1
        revert k1 pf lp
        generalize playR (upperOf R l) R [] [] (inR (clicks n.toNat)) = F
        intro k1 pf lp
        have lfq := flatQ_len F
        refine q_when (t_not (t_B (e_quiet pask (e_var rfl pr6)))) g6.gh (fun hq G7 H7 g7 => ?_) (fun hq G7 H7 g7 => ?_)
        · have hq : Vbhlae.quiet R = false := by simpa using hq
          rw [hq] at k1
          refine s_ret (e_cat (p := PI) (l := [0]) (m := flatQ F) (e_lst1 (p := PI) e_int) (e_spread (by omega) (e_var rfl (Mo.up (P := Ratios F) g7.gg pf))) (by rw [List.length_singleton]; omega)) g7.gh fun v G8 H8 g8 p8 => k1 _ ?_ v G8 H8 ((g16.trans g7).trans g8) p8
          simp [bit]
        · have hq : Vbhlae.quiet R = true := by simpa using hq
          rw [hq, if_pos rfl, loud_of _ _ rl] at k1
          have el : ([loudOf (upperOf R l) R] ++ F).length ≤ 1000 := by
            rw [List.length_append, List.length_singleton]
            omega
          refine s_ret (e_cat (p := PI) (l := [1]) (m := flatQ ([loudOf (upperOf R l) R] ++ F)) (e_lst1 (p := PI) e_int) (e_spread el (e_cat (p := fun r => Pair (prq r)) (l := [loudOf (upperOf R l) R]) (m := F) (e_lst1 (p := fun r => Pair (prq r)) (e_loudness hq (by omega) (by omega) us (psz.mono (by omega)) (e_var rfl (Mo.up g7.gg pu6)) (e_var rfl (Mo.up g7.gg pr6)))) (e_var rfl (Mo.up (P := Ratios F) g7.gg pf)) (by rw [List.length_singleton]; omega))) (by rw [flatQ_len, List.length_singleton]; omega)) g7.gh fun v G8 H8 g8 p8 => k1 _ ?_ v G8 H8 ((g16.trans g7).trans g8) p8
          simp [bit, flatQ]
      · have hc : l.length + 1 ≠ R.length := of_decide_eq_false hc
        rw [show (l.length + 1 != R.length) = true by simp [hc], g_t] at k2
        exact k2 (-6) e.s (by decide) at_s rfl G4 H4 ((g2.trans g3).trans g4)
  · have hb' : (inr n 0 16 && listOk l 0 (12 : Nat) 1000) = false := hb
    rw [hb', Bool.not_false, g_t] at k2
    exact k2 (-1) e.o (by decide) at_o rfl G2 H2 g2
end
end Qa
set_option Elab.async false
set_option linter.all false
set_option maxRecDepth 100000
set_option maxHeartbeats 2000000
/-! The aid as a thing of its own: B is its part of the heap, G what else is known. -/
namespace Qa
open PySem PySem.Spec PyProof.Rows L2 Qm
open Vbhlae (at_ Call setBand guarded)
/-- a band or none, its object in B, what it holds in G -/
def PO (CB : Addr) (G B : Hp) : Option Vbhlae.Band → V → Prop
  | none, v => v = .non
  | some b, v => ∃ p dp vg vu vl, v = .ref p ∧ B p = some (.ins CB dp (bF vg vu vl)) ∧ Pair (qp b.gain) G vg ∧ Row b.up G vu ∧ Row b.low G vl
structure HoldAt (CA CB : Addr) (G B : Hp) (a da L : Addr) (vu vl : V) (vs : List V) (m : Vbhlae.Aid) : Prop where
  a : B a = some (.ins CA da (aF vu vl (.ref L)))
  u : Row m.leakUp G vu
  l : Row m.leakLow G vl
  b : B L = some (.lst vs)
  al : Al (PO CB G B) m.bands vs
  dis : ∀ (i j : Nat) (p : Addr), vs[i]? = some (V.ref p) → vs[j]? = some (V.ref p) → i = j
  only : ∀ x ys, B x = some (.lst ys) → x = L
structure Hold (CA CB : Addr) (G B H : Hp) (a : Addr) (m : Vbhlae.Aid) : Prop where
  sg : Same G H
  sb : Same B H
  dj : ∀ x, B x ≠ none → G x = none
  wf : Wf m
  it : ∃ da L vu vl vs, HoldAt CA CB G B a da L vu vl vs m
/-- what is not of the aid and not known stays as it is -/
structure Aft (G B H G2 B2 H2 : Hp) : Prop where
  gg : Same G G2
  fr : ∀ x, G x = none → B x = none → H x ≠ none → G2 x = none ∧ B2 x = none ∧ H2 x = H x
section
variable {CA CB : Addr} {G B H G2 B2 H2 G3 B3 H3 : Hp} {a da L : Addr} {vu vl : V} {vs : List V} {m : Vbhlae.Aid}
theorem Aft.refl : Aft G B H G B H := ⟨same_refl _, fun _ h1 h2 _ => ⟨h1, h2, rfl⟩⟩
theorem Aft.trans (x : Aft G B H G2 B2 H2) (y : Aft G2 B2 H2 G3 B3 H3) : Aft G B H G3 B3 H3 := ⟨same_trans x.gg y.gg, fun b h1 h2 h3 => by
  obtain ⟨a1, a2, a3⟩ := x.fr b h1 h2 h3
  obtain ⟨b1, b2, b3⟩ := y.fr b a1 a2 (by rw [a3]; exact h3)
  exact ⟨b1, b2, b3.trans a3⟩⟩
theorem hh_eq {H H2 : Hp} (s : Same H H2) {x : Addr} (h : H x ≠ none) : H2 x = H x := by
  cases e : H x with
  | none => exact absurd e h
  | some o => exact s x o e
theorem Aft.gr (g : Gr G H G2 H2) : Aft G B H G2 B H2 := ⟨g.gg, fun x h1 h2 h3 => ⟨g.fr x h1 h3, h2, hh_eq g.hh h3⟩⟩
theorem PO.mono {o : Option Vbhlae.Band} {v : V} (s : Same G G2) (h : PO CB G B o v) : PO CB G2 B o v := by
  cases o with
  | none => exact h
  | some b =>
    obtain ⟨p, dp, vg, vu, vl, e, h1, h2, h3, h4⟩ := h
    exact ⟨p, dp, vg, vu, vl, e, h1, Mo.up s h2, Mo.up s h3, Mo.up s h4⟩
theorem HoldAt.mono (h : HoldAt CA CB G B a da L vu vl vs m) (s : Same G G2) : HoldAt CA CB G2 B a da L vu vl vs m := ⟨h.a, Mo.up s h.u, Mo.up s h.l, h.b, h.al.imp fun _ _ q => q.mono s, h.dis, h.only⟩
theorem Hold.gr (h : Hold CA CB G B H a m) (g : Gr G H G2 H2) : Hold CA CB G2 B H2 a m := ⟨g.gh, same_trans h.sb g.hh, fun x hx => g.fr x (h.dj x hx) (by
  cases e : B x with
  | none => exact absurd e hx
  | some o => rw [h.sb x o e]; simp), h.wf, by
  obtain ⟨da, L, vu, vl, vs, q⟩ := h.it
  exact ⟨da, L, vu, vl, vs, q.mono g.gg⟩⟩
theorem Hold.uni (h : Hold CA CB G B H a m) : Same (uni G B) H := uni_s h.sg h.sb
theorem Hold.aid (h : Hold CA CB G B H a m) : PAid CA CB m (Qa.uni G B) (.ref a) := by
  obtain ⟨da, L, vu, vl, vs, q⟩ := h.it
  have sb : Same B (Qa.uni G B) := uni_r h.sg h.sb
  refine ⟨a, da, vu, vl, .ref L, rfl, sb a _ q.a, Mo.up uni_l q.u, Mo.up uni_l q.l, L, vs, rfl, sb L _ q.b, q.al.imp fun o v z => ?_⟩
  cases o with
  | none => exact z
  | some b =>
    obtain ⟨p, dp, vg, vu, vl, e, h1, h2, h3, h4⟩ := z
    exact ⟨p, dp, vg, vu, vl, e, sb p _ h1, Mo.up uni_l h2, Mo.up uni_l h3, Mo.up uni_l h4⟩
/-- without the aid's part -/
def less (G B : Hp) : Hp := fun x => match B x with
  | none => G x
  | some _ => none
theorem less_no {x : Addr} (h : B x = none) : less G B x = G x := by
  unfold less
  rw [h]
theorem less_yes {x : Addr} (h : B x ≠ none) : less G B x = none := by
  unfold less
  cases e : B x with
  | none => exact absurd e h
  | some o => rfl
theorem less_le : Same (less G B) G := fun x o h => by
  cases e : B x with
  | none => rwa [less_no e] at h
  | some u =>
    rw [less_yes (by rw [e]; simp)] at h
    cases h
/-- behind a call that read: the aid is as it was, what was known is still known, and nothing else is lost -/
theorem Hold.read (h : Hold CA CB G B H a m) (g : Gr (Qa.uni G B) H G2 H2) : Hold CA CB (less G2 B) B H2 a m ∧ Aft G B H (less G2 B) B H2 := by
  have sg : Same G (less G2 B) := fun x o e => by
    have hb : B x = none := by
      cases e2 : B x with
      | none => rfl
      | some u =>
        have := h.dj x (by rw [e2]; simp)
        rw [e] at this
        cases this
    rw [less_no hb]
    exact g.gg x o (uni_l x o e)
  refine ⟨⟨same_trans less_le g.gh, same_trans h.sb g.hh, fun x hx => less_yes hx, h.wf, ?_⟩, ⟨sg, fun x h1 h2 h3 => ⟨?_, h2, hh_eq g.hh h3⟩⟩⟩
  · obtain ⟨da, L, vu, vl, vs, q⟩ := h.it
    exact ⟨da, L, vu, vl, vs, q.mono sg⟩
  · rw [less_no h2]
    exact g.fr x (uni_none h1 h2) h3
theorem Hold.row (h : Hold CA CB G B H a m) (g : Gr (Qa.uni G B) H G2 H2) {r : List Int} {v : V} (p : Row r G2 v) : Row r (less G2 B) v := by
  obtain ⟨b, rfl, hb⟩ := row_at p
  have e : B b = none := by
    cases e : B b with
    | none => rfl
    | some o =>
      exfalso
      obtain ⟨da, L, vu, vl, vs, q⟩ := h.it
      have e2 : G2 b = some o := g.gg b o (uni_r h.sg h.sb b o e)
      rw [hb] at e2
      cases e2
      obtain rfl := q.only b _ e
      have e3 := q.b
      rw [e] at e3
      cases e3
      have hl := q.al.length
      rw [h.wf.n, List.length_map] at hl
      match r, hl with
      | [x, y, z], _ =>
        match hm : m.bands, h.wf.n with
        | o :: _, _ =>
          have al := q.al
          rw [hm] at al
          have al0 : PO CB G B o (.int x) := al.1
          cases o with
          | none => cases al0
          | some bd =>
            obtain ⟨_, _, _, _, _, e, _⟩ := al0
            cases e
  exact row_of (by rw [less_no e]; exact hb)
theorem upd_some {H : Hp} {x y : Addr} {o : HO} (h : upd H x o y ≠ none) : y = x ∨ H y ≠ none := by
  by_cases e : y = x
  · exact .inl e
  · rw [upd_ne e] at h
    exact .inr h
/-- a part of the aid is changed -/
theorem same_upd {B H : Hp} {x : Addr} {o : HO} (s : Same B H) : Same (upd B x o) (upd H x o) := fun y u e => by
  by_cases z : y = x
  · subst z
    rw [upd_same] at e ⊢
    exact e
  · rw [upd_ne z] at e ⊢
    exact s y u e
theorem Hold.aft (h : Hold CA CB G B H a m) {x : Addr} {o : HO} (hx : B x ≠ none) : Aft G B H G (upd B x o) (upd H x o) := ⟨same_refl _, fun y h1 h2 h3 => by
  have : y ≠ x := fun z => hx (z ▸ h2)
  rw [upd_ne this, upd_ne this]
  exact ⟨h1, h2, rfl⟩⟩
theorem Hold.put (h : Hold CA CB G B H a m) {x : Addr} {o : HO} (hx : B x ≠ none) {m' : Vbhlae.Aid} (wf : Wf m') (it : ∃ da L vu vl vs, HoldAt CA CB G (upd B x o) a da L vu vl vs m') : Hold CA CB G (upd B x o) (upd H x o) a m' :=
  ⟨same_put h.sg (h.dj x hx), same_upd h.sb, fun y hy => (upd_some hy).elim (fun e => e ▸ h.dj x hx) (h.dj y), wf, it⟩
theorem PO.other {o : Option Vbhlae.Band} {v : V} {x : Addr} {u : HO} (h : PO CB G B o v) (hne : ∀ p, v = .ref p → p ≠ x) : PO CB G (upd B x u) o v := by
  cases o with
  | none => exact h
  | some b =>
    obtain ⟨p, dp, vg, vu, vl, e, h1, h2, h3, h4⟩ := h
    exact ⟨p, dp, vg, vu, vl, e, by rw [upd_ne (hne p e)]; exact h1, h2, h3, h4⟩
theorem PO.obj {o : Option Vbhlae.Band} {p : Addr} (h : PO CB G B o (.ref p)) : ∃ dp vg vu vl, B p = some (.ins CB dp (bF vg vu vl)) := by
  cases o with
  | none => cases h
  | some b =>
    obtain ⟨q, dp, vg, vu, vl, e, h1, _⟩ := h
    cases e
    exact ⟨dp, vg, vu, vl, h1⟩
theorem ins_ne {B : Hp} {x y C dx : Addr} {fs : List (Str × V)} {ys : List V} (h1 : B x = some (.ins C dx fs)) (h2 : B y = some (.lst ys)) : x ≠ y := fun e => by
  rw [e, h2] at h1
  cases h1
/-- the leak is another -/
theorem hold_leak (h : Hold CA CB G B H a m) (q : HoldAt CA CB G B a da L vu vl vs m) (hne : CA ≠ CB) {u l : List Int} {w1 w2 : V} (q1 : Row u G w1) (q2 : Row l G w2) (hu : Vbhlae.isUp u = true) (hl : Vbhlae.isLow l = true) :
    Hold CA CB G (upd B a (.ins CA da (aF w1 w2 (.ref L)))) (upd H a (.ins CA da (aF w1 w2 (.ref L)))) a { m with leakUp := u, leakLow := l } := by
  have aL := ins_ne q.a q.b
  refine h.put (by rw [q.a]; simp) ⟨hu, hl, h.wf.n, h.wf.b⟩ ⟨da, L, w1, w2, vs, upd_same, q1, q2, by rw [upd_ne (fun z => aL z.symm)]; exact q.b, ?_, q.dis, fun x ys e => ?_⟩
  · refine q.al.imp fun o v z => z.other fun p e => ?_
    subst e
    obtain ⟨dp, vg, vu, vl, hp⟩ := z.obj
    intro e
    rw [e, q.a] at hp
    cases hp
  · by_cases z : x = a
    · rw [z, upd_same] at e
      cases e
    · rw [upd_ne z] at e
      exact q.only x ys e
theorem set_get {α : Type} {l : List α} {i j : Nat} {x y : α} (h : (l.set i x)[j]? = some y) : (j = i ∧ y = x) ∨ (j ≠ i ∧ l[j]? = some y) := by
  by_cases e : j = i
  · subst e
    rw [List.getElem?_set_self' ] at h
    cases e2 : l[j]? with
    | none =>
      rw [e2] at h
      cases h
    | some z =>
      rw [e2] at h
      cases h
      exact .inl ⟨rfl, rfl⟩
  · rw [List.getElem?_set_ne (fun z => e z.symm)] at h
    exact .inr ⟨e, h⟩
theorem wf_set {i : Nat} {o : Option Vbhlae.Band} (h : Wf m) (ho : ∀ b, o = some b → WfB b) : Wf (setBand m i o) := by
  refine ⟨h.up, h.low, by show (m.bands.set i o).length = 3; rw [List.length_set]; exact h.n, fun b hb => ?_⟩
  have hb : some b ∈ m.bands.set i o := hb
  rcases List.mem_or_eq_of_mem_set hb with hb | hb
  · exact h.b b hb
  · exact ho b hb.symm
/-- no band there any more -/
theorem hold_mute (h : Hold CA CB G B H a m) (q : HoldAt CA CB G B a da L vu vl vs m) (i : Nat) : Hold CA CB G (upd B L (.lst (vs.set i .non))) (upd H L (.lst (vs.set i .non))) a (setBand m i none) := by
  have aL := ins_ne q.a q.b
  refine h.put (by rw [q.b]; simp) (wf_set h.wf fun b e => by cases e) ⟨da, L, vu, vl, _, by rw [upd_ne aL]; exact q.a, q.u, q.l, upd_same, ?_, fun j k p e1 e2 => ?_, fun x ys e => ?_⟩
  · have al : Al (PO CB G (upd B L (.lst (vs.set i .non)))) m.bands vs := q.al.imp fun o v z => z.other fun p e => by
      subst e
      obtain ⟨dp, vg, vu, vl, hp⟩ := z.obj
      exact ins_ne hp q.b
    exact al.set (x := none) (v := .non) (show PO CB G (upd B L (.lst (vs.set i .non))) none .non from rfl) i
  · rcases set_get e1 with ⟨_, z⟩ | ⟨_, e1⟩
    · cases z
    · rcases set_get e2 with ⟨_, z⟩ | ⟨_, e2⟩
      · cases z
      · exact q.dis j k p e1 e2
  · by_cases z : x = L
    · exact z
    · rw [upd_ne z] at e
      exact q.only x ys e
/-- a new band: its object at p is new -/
theorem hold_band (h : Hold CA CB G B H a m) (q : HoldAt CA CB G B a da L vu vl vs m) (i : Nat) {p dp : Addr} {wg wu wl : V} {b : Vbhlae.Band} (hp : B p = none) (gp : G p = none) (hH : H p = some (.ins CB dp (bF wg wu wl))) (q1 : Pair (qp b.gain) G wg) (q2 : Row b.up G wu) (q3 : Row b.low G wl) (hb : WfB b) :
    Hold CA CB G (upd (upd B p (.ins CB dp (bF wg wu wl))) L (.lst (vs.set i (.ref p)))) (upd H L (.lst (vs.set i (.ref p)))) a (setBand m i (some b)) := by
  have aL := ins_ne q.a q.b
  have pL : p ≠ L := fun z => by
    rw [z, q.b] at hp
    cases hp
  have pa : a ≠ p := fun z => by
    rw [← z, q.a] at hp
    cases hp
  have sb1 : Same (upd B p (.ins CB dp (bF wg wu wl))) H := fun x o e => by
    by_cases z : x = p
    · rw [z, upd_same] at e
      rw [z, hH]
      exact e
    · rw [upd_ne z] at e
      exact h.sb x o e
  refine ⟨same_put h.sg (h.dj L (by rw [q.b]; simp)), same_upd sb1, fun y hy => ?_, wf_set h.wf fun b' e => by cases e; exact hb, da, L, vu, vl, _, ?_, q.u, q.l, upd_same, ?_, fun j k r e1 e2 => ?_, fun x ys e => ?_⟩
  · rcases upd_some hy with e | hy
    · rw [e]
      exact h.dj L (by rw [q.b]; simp)
    · rcases upd_some hy with e | hy
      · rw [e]
        exact gp
      · exact h.dj y hy
  · rw [upd_ne aL, upd_ne pa]
    exact q.a
  · have al : Al (PO CB G (upd (upd B p (.ins CB dp (bF wg wu wl))) L (.lst (vs.set i (.ref p))))) m.bands vs := q.al.imp fun o v z => by
      have hne : ∀ r, v = .ref r → r ≠ L ∧ r ≠ p := fun r e => by
        subst e
        obtain ⟨dp, vg, vu, vl, hr⟩ := z.obj
        exact ⟨ins_ne hr q.b, fun e => by
          rw [e, hp] at hr
          cases hr⟩
      exact (z.other fun r e => (hne r e).2).other fun r e => (hne r e).1
    exact al.set (x := some b) (v := .ref p) ⟨p, dp, wg, wu, wl, rfl, by rw [upd_ne pL, upd_same], q1, q2, q3⟩ i
  · have new : ∀ j : Nat, vs[j]? ≠ some (V.ref p) := fun j e => by
      obtain ⟨o, _, z⟩ := q.al.tell e
      obtain ⟨_, _, _, _, hr⟩ := z.obj
      rw [hp] at hr
      cases hr
    rcases set_get e1 with ⟨j1, z⟩ | ⟨_, e1⟩
    · cases z
      rcases set_get e2 with ⟨j2, _⟩ | ⟨_, e2⟩
      · omega
      · exact absurd e2 (new k)
    · rcases set_get e2 with ⟨_, z⟩ | ⟨_, e2⟩
      · cases z
        exact absurd e1 (new j)
      · exact q.dis j k r e1 e2
  · by_cases z : x = L
    · exact z
    · rw [upd_ne z] at e
      by_cases z2 : x = p
      · rw [z2, upd_same] at e
        cases e
      · rw [upd_ne z2] at e
        exact q.only x ys e
/-- a band's object holds something else -/
theorem hold_obj (h : Hold CA CB G B H a m) (q : HoldAt CA CB G B a da L vu vl vs m) (hne : CA ≠ CB) {i : Nat} {p dp : Addr} {fs : List (Str × V)} {wg wu wl : V} {b : Vbhlae.Band} (hi : vs[i]? = some (.ref p)) (hp : B p = some (.ins CB dp fs)) (q1 : Pair (qp b.gain) G wg) (q2 : Row b.up G wu) (q3 : Row b.low G wl) (hb : WfB b) :
    Hold CA CB G (upd B p (.ins CB dp (bF wg wu wl))) (upd H p (.ins CB dp (bF wg wu wl))) a (setBand m i (some b)) := by
  have pL := ins_ne hp q.b
  have pa : a ≠ p := fun z => by
    rw [← z, q.a] at hp
    cases hp
    exact hne rfl
  have evs : vs.set i (.ref p) = vs := by
    apply List.ext_getElem?
    intro j
    by_cases e : j = i
    · subst e
      rw [List.getElem?_set_self', hi]
      rfl
    · rw [List.getElem?_set_ne (fun z => e z.symm)]
  refine h.put (by rw [hp]; simp) (wf_set h.wf fun b' e => by cases e; exact hb) ⟨da, L, vu, vl, vs, by rw [upd_ne pa]; exact q.a, q.u, q.l, by rw [upd_ne (fun z => pL z.symm)]; exact q.b, ?_, q.dis, fun x ys e => ?_⟩
  · have key : ∀ (j : Nat) o v, m.bands[j]? = some o → vs[j]? = some v → j ≠ i → PO CB G (upd B p (.ins CB dp (bF wg wu wl))) o v := fun j o v e1 e2 e3 => by
      obtain ⟨o', e4, z⟩ := q.al.tell e2
      rw [e1] at e4
      cases e4
      refine z.other fun r e => ?_
      subst e
      intro e
      subst e
      exact e3 (q.dis j i _ e2 hi)
    have new : PO CB G (upd B p (.ins CB dp (bF wg wu wl))) (some b) (.ref p) := ⟨p, dp, wg, wu, wl, rfl, upd_same, q1, q2, q3⟩
    show Al _ (m.bands.set i (some b)) vs
    have hl := q.al.length
    have gen : ∀ (l : List (Option Vbhlae.Band)) (us : List V), us.length = l.length → (∀ (j : Nat) o v, l[j]? = some o → us[j]? = some v → PO CB G (upd B p (.ins CB dp (bF wg wu wl))) o v) → Al (PO CB G (upd B p (.ins CB dp (bF wg wu wl)))) l us := by
      intro l
      induction l with
      | nil =>
        intro us hu _
        cases us with
        | nil => trivial
        | cons _ _ => simp at hu
      | cons o l ih =>
        intro us hu hk
        cases us with
        | nil => simp at hu
        | cons v us => exact ⟨hk 0 o v rfl rfl, ih us (by simpa using hu) fun j o v e1 e2 => hk (j + 1) o v e1 e2⟩
    refine gen _ _ (by rw [List.length_set]; exact hl) fun j o v e1 e2 => ?_
    rcases set_get e1 with ⟨rfl, rfl⟩ | ⟨e3, e1⟩
    · rw [hi] at e2
      cases e2
      exact new
    · exact key j o v e1 e2 e3
  · by_cases z : x = p
    · rw [z, upd_same] at e
      cases e
    · rw [upd_ne z] at e
      exact q.only x ys e
end
end Qa
set_option Elab.async false
set_option linter.all false
set_option maxRecDepth 100000
set_option maxHeartbeats 2000000
/-! The calls that change the aid; every call told in one way. -/
namespace Qm
open Vbhlae
/-- a refusal, or an answer that changes nothing -/
def Res (s : Aid) (p : Aid × List Int) : Prop := (∃ r, p = (s, 0 :: r)) ∨ ∃ n, n ≠ 0 ∧ p = (s, [n])
theorem res_g {s : Aid} {k : Unit → Aid × List Int} (hk : ∃ r, k () = (s, 0 :: r)) : ∀ {l : List (Int × Bool)}, (∀ x ∈ l, x.1 ≠ 0) → Res s (guarded s l k)
  | [], _ => .inl hk
  | (n, true) :: l, h => .inr ⟨n, h (n, true) List.mem_cons_self, rfl⟩
  | (n, false) :: l, h => by
    rw [g_f]
    exact res_g hk fun x hx => h x (List.mem_cons_of_mem _ hx)
theorem nb_no {m : Aid} {i : Int} (h : bandAt m i.toNat = none) : noBand m i = (-3, true) := by
  unfold noBand
  rw [h]
  rfl
theorem nb_yes {m : Aid} {i : Int} {b : Band} (h : bandAt m i.toNat = some b) : noBand m i = (-3, false) := by
  unfold noBand
  rw [h]
  rfl
end Qm
namespace Qa
open PySem PySem.Spec PyProof.Rows L2 Qm
open Vbhlae (at_ Call setBand guarded noRing noBand bandAt inr isUp isLow frac)
def numOf : Call → Nat
  | .leak _ _ => 0
  | .band _ _ _ _ _ => 1
  | .gain _ _ _ => 2
  | .mute _ => 3
  | .ring => 4
  | .quiet => 5
  | .steps => 6
  | .check _ => 7
  | .loud => 8
  | .play _ => 9
  | .freed _ _ => 10
  | .volume _ _ => 11
  | .alone => 12
  | .row _ => 13
  | .ends => 14
  | .later _ _ => 15
  | .turn _ => 16
  | .told => 17
  | .click _ => 18
  | .quietAt _ _ => 19
def spC (CA CB : Addr) (e : Cl) (k : Nat) : Sp := fun vs H Q E => ∃ (m : Vbhlae.Aid) (c : Call) (G B : Hp) (a : Addr) (v2 v3 : V), vs = [.ref a, v2, v3] ∧ Hold CA CB G B H a m ∧ Row (numsOf c) G v2 ∧ Rows (listsOf c) G v3 ∧ numOf c = k ∧ Fits c ∧
  (∀ m' rest, Vbhlae.step m c = (m', 0 :: rest) → ∀ v G2 B2 H2, Aft G B H G2 B2 H2 → Hold CA CB G2 B2 H2 a m' → Row rest G2 v → Q v H2) ∧
  (∀ n c', n ≠ 0 → e.at n = c' → Vbhlae.step m c = (m, [n]) → ∀ G2 B2 H2, Aft G B H G2 B2 H2 → Hold CA CB G2 B2 H2 a m → E (.ref c') none H2)
theorem spC_len {CA CB : Addr} {e : Cl} {k : Nat} : ∀ vs H Q E, spC CA CB e k vs H Q E → vs.length = 3 := by
  rintro vs H Q E ⟨_, _, _, _, _, _, _, rfl, _⟩
  rfl
section
variable {P : Program} {w : World} {K : PySem.W.Frag} {mg : Str → Option Value} {base : Heap} {f : Addr} {fd : FuncData} {CA CB : Addr} {e : Cl}
/-- a call that reads, told in the one way -/
theorem read_call {α : Type} {mk : α → Call} {k : Nat} (hmk : ∀ c, numOf c = k → ∃ x, c = mk x) (hres : ∀ m x, Res m (Vbhlae.step m (mk x))) {j : Nat} {ps : List Str} (F : FnOk P w K mg base (L2.CX P w) j f fd ps (spK CA CB e mk)) : FnOk P w K mg base (L2.CX P w) j f fd ps (spC CA CB e k) := by
  refine fn_imp F fun vs H Q E h => ?_
  obtain ⟨m, c, G, B, a, v2, v3, rfl, hd, p2, p3, hk, hf, k1, k2⟩ := h
  obtain ⟨x, rfl⟩ := hmk c hk
  refine ⟨(m, x), uni G B, hd.uni, ⟨hd.aid, Mo.up (P := Row (numsOf (mk x))) uni_l p2, Mo.up (P := Rows (listsOf (mk x))) uni_l p3, trivial⟩, ⟨hd.wf, hf⟩, fun R hR v G2 H2 g p => ?_, fun cc hR G2 H2 g => ?_⟩
  · have hR : resR e (Vbhlae.step m (mk x)).2 = .ok R := hR
    rcases hres m x with ⟨r, hs⟩ | ⟨n, hn, hs⟩
    · rw [hs, res_ok rfl] at hR
      cases hR
      obtain ⟨h1, h2⟩ := hd.read g
      exact k1 m r hs v _ _ H2 h2 h1 (hd.row g p)
    · rw [hs, res_no hn rfl] at hR
      cases hR
  · have hR : resR e (Vbhlae.step m (mk x)).2 = .error cc := hR
    rcases hres m x with ⟨r, hs⟩ | ⟨n, hn, hs⟩
    · rw [hs, res_ok rfl] at hR
      cases hR
    · rw [hs, res_no hn rfl] at hR
      cases hR
      obtain ⟨h1, h2⟩ := hd.read g
      exact k2 n _ hn rfl hs _ _ H2 h2 h1
end
/-! ### things made -/
def MkD (P : Program) (w : World) (K : PySem.W.Frag) (mg : Str → Option Value) (base : Heap) (k : Nat) (x : Str) (C : Addr) (ps : List Str) (sp : Sp) : Prop := ∃ f fd, Mk K C f ∧ FnOk P w K mg base CX0 k f fd ps sp ∧ mg x = some (.ref C) ∧ Binds K fd ps []
section
variable {X : Cx} {k : Nat} {x : Str} {C : Addr} {ps : List Str} {sp : Sp} {e : Expr} {es : List Expr} {t : TA} {p pos : Pos}
theorem pe_mkD (D : MkD X.prog X.w X.K X.mg X.base k x C ps sp) (hr : Room (k + 1) X.A) (ha : PA X (e :: es) t) (hg : Gl X x := by rfl) (hdb : (x == ("__debug__" : Str)) = false := by decide) (he : starEach (e :: es) X.env = (false, eval e X.env) :: starEach es X.env := by rfl)
    (hpl : (backTo pos (starEach es X.env)).any (·.1) = false := by rfl) : PE X (.Call (.Name x p) (e :: es) [] pos) (tMake C sp [] E0 t) := by
  obtain ⟨f, fd, M, F, m, b⟩ := D
  exact pe_make M F hr hg m b .nil pass0 ha hdb he hpl
theorem pe_mkD0 (D : MkD X.prog X.w X.K X.mg X.base k x C ps sp) (hr : Room (k + 1) X.A) (hg : Gl X x := by rfl) (hdb : (x == ("__debug__" : Str)) = false := by decide) : PE X (.Call (.Name x p) [] [] pos) (tMake C sp [] E0 tNil) := by
  obtain ⟨f, fd, M, F, m, b⟩ := D
  exact pe_make0 M F hr hg m b .nil pass0 hdb
end
theorem put_aU (u l b y : V) : putF "leak_up" y (aF u l b) = aF y l b := put_here
theorem put_aL (u l b y : V) : putF "leak_low" y (aF u l b) = aF u y b := (put_past (by decide +kernel)).trans (congrArg _ put_here)
theorem put_bG (g u l y : V) : putF "gain" y (bF g u l) = bF y u l := put_here
theorem put_bU (g u l y : V) : putF "up" y (bF g u l) = bF g y l := (put_past (by decide +kernel)).trans (congrArg _ put_here)
theorem ixN_nat {n j : Nat} (h : j < n) : ixN n (j : Int) = some j := by
  unfold ixN
  rw [if_pos (by omega), if_pos (by omega)]
  simp
section
variable {P : Program} {w : World} {K : PySem.W.Frag} {mg : Str → Option Value} {base : Heap} {f : Addr} {fd : FuncData} {CA CB cB : Addr} {e : Cl}
abbrev st_Aid_put_leak : Stmt := inClass (top 40) 1
theorem sc_Aid_put_leak : FnScope ["self", "up", "low"] ["self", "up", "low"] (defScope st_Aid_put_leak) := ⟨rfl, rfl, rfl, by decide +kernel, rfl, by decide +kernel, by decide +kernel⟩
def sp_put_leak (CA : Addr) : Sp := fun vs H Q _ => ∃ a da vu vl vb v2 v3, vs = [.ref a, v2, v3] ∧ H a = some (.ins CA da (aF vu vl vb)) ∧ Q .non (upd H a (.ins CA da (aF v2 v3 vb)))
theorem ok_put_leak (F : Fun K "put_leak" "Aid.put_leak" st_Aid_put_leak f fd) (A : AidT K CA CB) : FnOk P w K mg base CX0 41 f fd ["self", "up", "low"] (sp_put_leak CA) := by
  refine F.ok sc_Aid_put_leak (fun vs H Q E h => by obtain ⟨_, _, _, _, _, _, _, rfl, _⟩ := h; rfl) (fun cdv Ar outer s H vs Q E hr h => ⟨_,
    (pss_cons (ps_fld (pv 0) (pv 1) rfl) (pss_one (ps_fld (pv 0) (pv 2) rfl))), ?_⟩)
  obtain ⟨a, da, vu, vl, vb, v2, v3, rfl, ha, k⟩ := h
  refine ⟨v2, rfl, _, rfl, a, CA, da, _, rfl, ha, A.a, A.au, (by show 3 < 1000; decide), ?_⟩
  rw [put_aU]
  refine ⟨v3, rfl, _, rfl, a, CA, da, _, rfl, upd_same, A.a, A.al, (by show 3 < 1000; decide), ?_⟩
  rw [put_aL, upd_upd]
  exact k
abbrev st_Aid_put_band : Stmt := inClass (top 40) 2
theorem sc_Aid_put_band : FnScope ["self", "i", "band"] ["self", "i", "band"] (defScope st_Aid_put_band) := ⟨rfl, rfl, rfl, by decide +kernel, rfl, by decide +kernel, by decide +kernel⟩
def sp_put_band (CA : Addr) : Sp := fun vs H Q _ => ∃ a da vu vl L xs v, ∃ j : Nat, vs = [.ref a, .int (j : Int), v] ∧ H a = some (.ins CA da (aF vu vl (.ref L))) ∧ H L = some (.lst xs) ∧ j < xs.length ∧ Q .non (upd H L (.lst (xs.set j v)))
theorem ok_put_band (F : Fun K "put_band" "Aid.put_band" st_Aid_put_band f fd) (A : AidT K CA CB) : FnOk P w K mg base CX0 41 f fd ["self", "i", "band"] (sp_put_band CA) := by
  refine F.ok sc_Aid_put_band (fun vs H Q E h => by obtain ⟨_, _, _, _, _, _, _, _, rfl, _⟩ := h; rfl) (fun cdv Ar outer s H vs Q E hr h => ⟨_,
    (pss_one (ps_asg (pv 2) (pg_sub (pe_fld (pv 0) rfl) (pv 1) set_list))), ?_⟩)
  obtain ⟨a, da, vu, vl, L, xs, v, j, rfl, ha, hL, hj, k⟩ := h
  exact ⟨v, rfl, _, rfl, a, CA, da, _, _, rfl, ha, A.a, A.ab, aF_b _ _ _, _, rfl, L, xs, (j : Int), j, rfl, rfl, hL, ixN_nat hj, k⟩
abbrev st_Aid_take_band_out : Stmt := inClass (top 40) 3
theorem sc_Aid_take_band_out : FnScope ["self", "i"] ["self", "i"] (defScope st_Aid_take_band_out) := ⟨rfl, rfl, rfl, by decide +kernel, rfl, by decide +kernel, by decide +kernel⟩
def sp_take_band_out (CA : Addr) : Sp := fun vs H Q _ => ∃ a da vu vl L xs, ∃ j : Nat, vs = [.ref a, .int (j : Int)] ∧ H a = some (.ins CA da (aF vu vl (.ref L))) ∧ H L = some (.lst xs) ∧ j < xs.length ∧ Q .non (upd H L (.lst (xs.set j .non)))
theorem ok_take_band_out (F : Fun K "take_band_out" "Aid.take_band_out" st_Aid_take_band_out f fd) (A : AidT K CA CB) : FnOk P w K mg base CX0 41 f fd ["self", "i"] (sp_take_band_out CA) := by
  refine F.ok sc_Aid_take_band_out (fun vs H Q E h => by obtain ⟨_, _, _, _, _, _, _, rfl, _⟩ := h; rfl) (fun cdv Ar outer s H vs Q E hr h => ⟨_,
    (pss_one (ps_asg pe_non (pg_sub (pe_fld (pv 0) rfl) (pv 1) set_list))), ?_⟩)
  obtain ⟨a, da, vu, vl, L, xs, j, rfl, ha, hL, hj, k⟩ := h
  exact ⟨_, rfl, a, CA, da, _, _, rfl, ha, A.a, A.ab, aF_b _ _ _, _, rfl, L, xs, (j : Int), j, rfl, rfl, hL, ixN_nat hj, k⟩
abbrev st_Aid_band_at : Stmt := inClass (top 40) 4
theorem sc_Aid_band_at : FnScope ["self", "i", "band"] ["self", "i"] (defScope st_Aid_band_at) := ⟨rfl, rfl, rfl, by decide +kernel, rfl, by decide +kernel, by decide +kernel⟩
def sp_band_at (CA cB : Addr) : Sp := fun vs H Q E => ∃ a da vu vl L xs v, ∃ j : Nat, vs = [.ref a, .int (j : Int)] ∧ H a = some (.ins CA da (aF vu vl (.ref L))) ∧ H L = some (.lst xs) ∧ xs[j]? = some v ∧ (v ≠ .non → Q v H) ∧ (v = .non → E (.ref cB) none H)
theorem ok_band_at (F : Fun K "band_at" "Aid.band_at" st_Aid_band_at f fd) (A : AidT K CA CB) (TB : Err K mg "NoBand" cB) : FnOk P w K mg base (L2.CX P w) 41 f fd ["self", "i"] (sp_band_at CA cB) := by
  refine F.okX sc_Aid_band_at (fun vs H Q E h => by obtain ⟨_, _, _, _, _, _, _, _, rfl, _⟩ := h; rfl) (fun cdv Ar outer s H vs Q E hr h => ⟨_,
    (pss_cons (ps_set (i := 2) sc_Aid_band_at.nd rfl (Or.inl rfl) (pe_ix (ix_listK (K := K) rfl) (pe_fld (pv 0) rfl) (pv 1) (fun _ _ => rfl)))
  (pss_cons (ps_if (pt_cmpR op_isN (pv 2) pe_non (nomark _)) (pss_one (ps_err TB (takes_of rfl rfl rfl rfl))) pss_nil)
  (pss_one (ps_ret (pv 2))))), ?_⟩)
  obtain ⟨a, da, vu, vl, L, xs, v, j, rfl, ha, hL, hv, k1, k2⟩ := h
  refine ⟨_, rfl, a, CA, da, _, _, rfl, ha, A.a, A.ab, aF_b _ _ _, _, rfl, L, xs, (j : Int), v, rfl, rfl, SqL.of hL, atI_nat' hv, ?_⟩
  refine ⟨v, rfl, rfl, _, rfl, ?_⟩
  by_cases hn : v = .non
  · rw [decide_eq_true hn]
    exact iteT (k2 hn)
  · rw [decide_eq_false hn]
    exact iteF ⟨v, rfl, k1 hn⟩
abbrev st_Band_init : Stmt := inClass (top 39) 0
theorem sc_Band_init : FnScope ["self", "n", "d", "up", "low"] ["self", "n", "d", "up", "low"] (defScope st_Band_init) := ⟨rfl, rfl, rfl, by decide +kernel, rfl, by decide +kernel, by decide +kernel⟩
def sp_Band_init (CB : Addr) : Sp := fun vs H Q _ => ∃ x dx n d v3 v4 G, vs = [.ref x, .int n, .int d, v3, v4] ∧ H x = some (.ins CB dx []) ∧ G x = none ∧ Same G H ∧ d ≠ 0 ∧ ∀ vg G2 H2, Gr G H G2 H2 → Pair (prq ((n : Rat) / (d : Rat))) G2 vg → Q .non (upd H2 x (.ins CB dx (bF vg v3 v4)))
theorem ok_Band_init (F : Fun K "__init__" "Band.__init__" st_Band_init f fd) (A : AidT K CA CB) (D_lowest : Dfn P w K mg base CX0 42 "lowest" ["upper", "lower"] sp_lowest) : FnOk P w K mg base CX0 43 f fd ["self", "n", "d", "up", "low"] (sp_Band_init CB) := by
  refine F.ok sc_Band_init (fun vs H Q E h => by obtain ⟨_, _, _, _, _, _, _, rfl, _⟩ := h; rfl) (fun cdv Ar outer s H vs Q E hr h => ⟨_,
    (pss_cons (ps_fld (pv 0) (pe_def D_lowest (hr.mono (by decide)) (pa_cons (pv 1) (pa_cons (pv 2) pa_nil))) rfl)
  (pss_cons (ps_fld (pv 0) (pv 3) rfl)
  (pss_one (ps_fld (pv 0) (pv 4) rfl)))), ?_⟩)
  obtain ⟨x, dx, n, d, v3, v4, G, rfl, hx, gx, sG, hd, k⟩ := h
  refine (e_lowest hd (e_var rfl rfl) (e_var rfl rfl)) H sG _ fun vg G2 H2 g2 pg => ?_
  refine ⟨_, rfl, x, CB, dx, [], rfl, g2.hh x _ hx, A.b, A.bg, (by show 0 < 1000; decide), ?_⟩
  refine ⟨v3, rfl, _, rfl, x, CB, dx, _, rfl, upd_same, A.b, A.bu, (by show 1 < 1000; decide), ?_⟩
  refine ⟨v4, rfl, _, rfl, x, CB, dx, _, rfl, upd_same, A.b, A.bl, (by show 2 < 1000; decide), ?_⟩
  have e1 : putF "up" v3 (putF "gain" vg []) = ([("gain", vg), ("up", v3)] : List (Str × V)) := (put_past (by decide +kernel)).trans rfl
  have e2 : putF "low" v4 ([("gain", vg), ("up", v3)] : List (Str × V)) = bF vg v3 v4 := (put_past (by decide +kernel)).trans (congrArg _ ((put_past (by decide +kernel)).trans rfl))
  rw [upd_upd, upd_upd, e1, e2]
  exact k vg G2 H2 g2 pg
end
end Qa
set_option Elab.async false
set_option linter.all false
set_option maxRecDepth 100000
set_option maxHeartbeats 2000000
namespace Qa
open PySem PySem.Spec PyProof.Rows L2 Qm
open Vbhlae (at_ Call setBand guarded noRing noBand bandAt inr isUp isLow frac)
theorem num_leak {c : Call} (h : numOf c = 0) : ∃ u l, c = .leak u l := by
  cases c <;> first | exact ⟨_, _, rfl⟩ | (simp [numOf] at h)
theorem num_band {c : Call} (h : numOf c = 1) : ∃ i n d u l, c = .band i n d u l := by
  cases c <;> first | exact ⟨_, _, _, _, _, rfl⟩ | (simp [numOf] at h)
theorem num_gain {c : Call} (h : numOf c = 2) : ∃ i n d, c = .gain i n d := by
  cases c <;> first | exact ⟨_, _, _, rfl⟩ | (simp [numOf] at h)
theorem num_mute {c : Call} (h : numOf c = 3) : ∃ i, c = .mute i := by
  cases c <;> first | exact ⟨_, rfl⟩ | (simp [numOf] at h)
theorem num_later {c : Call} (h : numOf c = 15) : ∃ i k, c = .later i k := by
  cases c <;> first | exact ⟨_, _, rfl⟩ | (simp [numOf] at h)
theorem num_turn {c : Call} (h : numOf c = 16) : ∃ i, c = .turn i := by
  cases c <;> first | exact ⟨_, rfl⟩ | (simp [numOf] at h)
section
variable {CA CB : Addr} {G B H : Hp} {a da L : Addr} {vu vl : V} {vs : List V} {m : Vbhlae.Aid}
/-- the band at a place, or none -/
theorem band_val (h : Hold CA CB G B H a m) (q : HoldAt CA CB G B a da L vu vl vs m) {i : Int} (hi : inr i 0 2 = true) : ∃ (j : Nat) (v : V), i = (j : Int) ∧ i.toNat = j ∧ j < vs.length ∧ vs[j]? = some v ∧ PO CB G B (bandAt m j) v ∧ m.bands[j]? = some (bandAt m j) := by
  have hi : 0 ≤ i ∧ i ≤ 2 := by
    unfold inr at hi
    simpa using hi
  have hl := q.al.length
  have hn := h.wf.n
  have hj : i.toNat < vs.length := by omega
  have e : m.bands[i.toNat]? = some (bandAt m i.toNat) := by
    unfold bandAt
    rw [List.getD_eq_getElem?_getD, List.getElem?_eq_getElem (by omega)]
    rfl
  obtain ⟨v, e2, p⟩ := q.al.get e
  exact ⟨i.toNat, v, by omega, rfl, hj, e2, p, e⟩
theorem PO.isnon {o : Option Vbhlae.Band} {v : V} (h : PO CB G B o v) : v = .non ↔ o = none := by
  cases o with
  | none => exact ⟨fun _ => rfl, fun _ => h⟩
  | some b =>
    obtain ⟨p, _, _, _, _, rfl, _⟩ := h
    exact ⟨fun z => (by cases z), fun z => (by cases z)⟩
end
theorem wfb_gain {n d : Int} (h : (inr n (-1000) 1000 && inr d 1 1000) = true) : (∃ r : Rat, frac n d.toNat = qOf r ∧ r.num.natAbs < 2 ^ 10 ∧ r.den < 2 ^ 10) ∧ d ≠ 0 ∧ qp (frac n d.toNat) = prq ((n : Rat) / (d : Rat)) := by
  unfold inr at h
  simp only [Bool.and_eq_true, decide_eq_true_eq] at h
  refine ⟨vol_frac (by omega) (by omega) (by omega), by omega, ?_⟩
  rw [q_frac n (by omega), ← prq_mk]
  have : ((d.toNat : Nat) : Int) = d := by omega
  rw [this]
  rfl
section
variable {P : Program} {w : World} {K : PySem.W.Frag} {mg : Str → Option Value} {base : Heap} {f : Addr} {fd : FuncData} {CA CB : Addr} {e : Cl}
abbrev st_leak : Stmt := top 76
theorem sc_leak : FnScope ["aid", "numbers", "lists"] ["aid", "numbers", "lists"] (defScope st_leak) := ⟨rfl, rfl, rfl, by decide +kernel, rfl, by decide +kernel, by decide +kernel⟩
theorem ok_leak (A : At K mg "leak" st_leak ["aid", "numbers", "lists"] f fd) (TA : AidT K CA CB) (D_want_filter : Dfn P w K mg base (L2.CX P w) 43 "want_filter" ["up", "low"] (sp_want_filter e.o)) (M_put_leak : MDfn P w K mg base CX0 41 CA "put_leak" ["self", "up", "low"] (sp_put_leak CA)) :
    FnOk P w K mg base (L2.CX P w) 50 f fd ["aid", "numbers", "lists"] (spC CA CB e 0) := by
  refine A.fn.okX sc_leak spC_len (fun cdv Ar outer s H vs Q E hr h => ⟨_,
    (pss_cons (ps_expr (pe_defX (E := E) D_want_filter (hr.mono (by decide)) (passes_call (takes_of rfl rfl rfl rfl) (fun _ _ _ _ h => h)) (pa_cons (pe_ix (ix_listK (K := K) rfl) (pv 2) pe_int (fun _ _ => rfl)) (pa_cons (pe_ix (ix_listK (K := K) rfl) (pv 2) pe_int (fun _ _ => rfl)) pa_nil))))
  (pss_cons (ps_expr (pe_mth M_put_leak (pv 0) (hr.mono (by decide)) (pa_cons (pe_ix (ix_listK (K := K) rfl) (pv 2) pe_int (fun _ _ => rfl)) (pa_cons (pe_ix (ix_listK (K := K) rfl) (pv 2) pe_int (fun _ _ => rfl)) pa_nil))))
  (pss_one (ps_ret (pe_lst pa_nil))))), ?_⟩)
  obtain ⟨m, c, G, B, a, v2, v3, rfl, hd, p2, p3, hk, hf, k1, k2⟩ := h
  obtain ⟨u, l, rfl⟩ := num_leak hk
  have p3 : Rows [u, l] G v3 := p3
  have es : Vbhlae.step m (.leak u l) = guarded m [(-1, !(isUp u && isLow l))] fun _ => ({ m with leakUp := u, leakLow := l }, [0]) := rfl
  rw [es] at k1 k2
  clear es
  refine want_oneQ (b := isUp u && isLow l) (u, l) (a_two (P := Row u) (P' := Row l) (e_row0 rfl p3) (e_row1 rfl p3)) rfl hd.sg (fun hb G2 H2 g2 => ?_) (fun hb G2 H2 g2 => ?_)
  · rw [hb, Bool.not_true, g_f, g_0] at k1
    obtain ⟨hu, hl⟩ := Bool.and_eq_true_iff.mp hb
    have hd2 := hd.gr g2
    obtain ⟨da, L, vu, vl, xs, q⟩ := hd2.it
    have p32 : Rows [u, l] G2 v3 := Mo.up (P := Rows [u, l]) g2.gg p3
    refine ⟨_, rfl, a, da, _, rfl, hd2.sb a _ q.a, aF_m _ _ _ (by decide +kernel) (by decide +kernel) (by decide +kernel), (a_two (P := Row u) (P' := Row l) (e_row0 rfl p32) (e_row1 rfl p32)) H2 hd2.sg _ fun ws G3 H3 g3 al => ?_⟩
    obtain ⟨w1, w2, rfl, r1, r2⟩ := al_2 al
    have hd3 := hd2.gr g3
    have q3 := q.mono g3.gg
    refine ⟨a, da, vu, vl, _, w1, w2, rfl, hd3.sb a _ q3.a, ?_⟩
    have h4 := hold_leak hd3 q3 TA.ne r1 r2 hu hl
    have a4 := ((Aft.gr (B := B) g2).trans (Aft.gr g3)).trans (hd3.aft (o := .ins CA da (aF w1 w2 (.ref L))) (x := a) (by rw [q3.a]; simp))
    exact s_ret (σ := []) (e_lst0 (p := PI)) h4.sg fun v G5 H5 g5 p5 => k1 _ [] rfl v G5 _ H5 (a4.trans (Aft.gr g5)) (h4.gr g5) p5
  · rw [hb, Bool.not_false, g_t] at k2
    exact k2 (-1) e.o (by decide) at_o rfl G2 B H2 (Aft.gr g2) (hd.gr g2)
abbrev st_mute : Stmt := top 79
theorem sc_mute : FnScope ["aid", "numbers", "lists"] ["aid", "numbers", "lists"] (defScope st_mute) := ⟨rfl, rfl, rfl, by decide +kernel, rfl, by decide +kernel, by decide +kernel⟩
theorem ok_mute (A : At K mg "mute" st_mute ["aid", "numbers", "lists"] f fd) (TA : AidT K CA CB) (D_want_band_number : Dfn P w K mg base (L2.CX P w) 42 "want_band_number" ["i"] (sp_want_band_number e.o)) (M_band_at : MDfn P w K mg base (L2.CX P w) 41 CA "band_at" ["self", "i"] (sp_band_at CA e.b))
    (M_take_band_out : MDfn P w K mg base CX0 41 CA "take_band_out" ["self", "i"] (sp_take_band_out CA)) : FnOk P w K mg base (L2.CX P w) 50 f fd ["aid", "numbers", "lists"] (spC CA CB e 3) := by
  refine A.fn.okX sc_mute spC_len (fun cdv Ar outer s H vs Q E hr h => ⟨_,
    (pss_cons (ps_expr (pe_defX (E := E) D_want_band_number (hr.mono (by decide)) (passes_call (takes_of rfl rfl rfl rfl) (fun _ _ _ _ h => h)) (pa_cons (pe_ix (ix_listK (K := K) rfl) (pv 1) pe_int (fun _ _ => rfl)) pa_nil)))
  (pss_cons (ps_expr (pe_mthX (E := E) M_band_at (pv 0) (hr.mono (by decide)) (passes_call (takes_of rfl rfl rfl rfl) (fun _ _ _ _ h => h)) (pa_cons (pe_ix (ix_listK (K := K) rfl) (pv 1) pe_int (fun _ _ => rfl)) pa_nil)))
  (pss_cons (ps_expr (pe_mth M_take_band_out (pv 0) (hr.mono (by decide)) (pa_cons (pe_ix (ix_listK (K := K) rfl) (pv 1) pe_int (fun _ _ => rfl)) pa_nil)))
  (pss_one (ps_ret (pe_lst pa_nil)))))), ?_⟩)
  obtain ⟨m, c, G, B, a, v2, v3, rfl, hd, p2, p3, hk, hf, k1, k2⟩ := h
  obtain ⟨i, rfl⟩ := num_mute hk
  have p2 : Row [i] G v2 := p2
  have es : Vbhlae.step m (.mute i) = guarded m [(-1, !inr i 0 2), noBand m i] fun _ => (setBand m i.toNat none, [0]) := rfl
  rw [es] at k1 k2
  clear es
  refine want_oneQ (b := inr i 0 2) i (a_one (P := PI i) (e_num0 rfl p2)) rfl hd.sg (fun hb G2 H2 g2 => ?_) (fun hb G2 H2 g2 => ?_)
  · rw [hb, Bool.not_true, g_f] at k1 k2
    have hd2 := hd.gr g2
    have p22 : Row [i] G2 v2 := Mo.up (P := Row [i]) g2.gg p2
    obtain ⟨da, L, vu, vl, xs, q⟩ := hd2.it
    refine ⟨_, rfl, a, da, _, rfl, hd2.sb a _ q.a, aF_m _ _ _ (by decide +kernel) (by decide +kernel) (by decide +kernel), (a_one (P := PI i) (e_num0 rfl p22)) H2 hd2.sg _ fun ws G3 H3 g3 al => ?_⟩
    obtain ⟨w1, rfl, r1⟩ := al_1 al
    obtain rfl : w1 = .int i := r1
    have hd3 := hd2.gr g3
    have q3 := q.mono g3.gg
    have a3 := (Aft.gr (B := B) g2).trans (Aft.gr g3)
    obtain ⟨j, v, ei, ej, hj, hv, po, hm⟩ := band_val hd3 q3 hb
    rw [ei]
    refine ⟨a, da, vu, vl, L, xs, v, j, rfl, hd3.sb a _ q3.a, hd3.sb L _ q3.b, hv, fun hne => ?_, fun hn => ?_⟩
    · obtain ⟨b, eb⟩ : ∃ b, bandAt m j = some b := by
        cases e1 : bandAt m j with
        | none => exact absurd (po.isnon.mpr e1) hne
        | some b => exact ⟨b, rfl⟩
      rw [nb_yes (b := b) (by rw [ej]; exact eb), g_f, g_0, ej] at k1
      have p23 : Row [i] G3 v2 := Mo.up (P := Row [i]) g3.gg p22
      refine ⟨_, rfl, a, da, _, rfl, hd3.sb a _ q3.a, aF_m _ _ _ (by decide +kernel) (by decide +kernel) (by decide +kernel), (a_one (P := PI i) (e_num0 rfl p23)) H3 hd3.sg _ fun ws G4 H4 g4 al => ?_⟩
      obtain ⟨w1, rfl, r1⟩ := al_1 al
      obtain rfl : w1 = .int i := r1
      have hd4 := hd3.gr g4
      have q4 := q3.mono g4.gg
      rw [ei]
      refine ⟨a, da, vu, vl, L, xs, j, rfl, hd4.sb a _ q4.a, hd4.sb L _ q4.b, hj, ?_⟩
      have h5 := hold_mute hd4 q4 j
      have a5 := (a3.trans (Aft.gr g4)).trans (hd4.aft (o := .lst (xs.set j .non)) (x := L) (by rw [q4.b]; simp))
      exact s_ret (σ := []) (e_lst0 (p := PI)) h5.sg fun v G6 H6 g6 p6 => k1 _ [] rfl v G6 _ H6 (a5.trans (Aft.gr g6)) (h5.gr g6) p6
    · rw [nb_no (by rw [ej]; exact po.isnon.mp hn), g_t] at k2
      exact k2 (-3) e.b (by decide) at_b rfl G3 B H3 a3 hd3
  · rw [hb, Bool.not_false, g_t] at k2
    exact k2 (-1) e.o (by decide) at_o rfl G2 B H2 (Aft.gr g2) (hd.gr g2)
abbrev st_gain : Stmt := top 78
theorem sc_gain : FnScope ["aid", "numbers", "lists", "changed"] ["aid", "numbers", "lists"] (defScope st_gain) := ⟨rfl, rfl, rfl, by decide +kernel, rfl, by decide +kernel, by decide +kernel⟩
theorem ok_gain (A : At K mg "gain" st_gain ["aid", "numbers", "lists"] f fd) (TA : AidT K CA CB) (D_want_band_number : Dfn P w K mg base (L2.CX P w) 42 "want_band_number" ["i"] (sp_want_band_number e.o)) (D_want_gain : Dfn P w K mg base (L2.CX P w) 42 "want_gain" ["n", "d"] (sp_want_gain e.o))
    (M_band_at : MDfn P w K mg base (L2.CX P w) 41 CA "band_at" ["self", "i"] (sp_band_at CA e.b)) (D_lowest : Dfn P w K mg base CX0 42 "lowest" ["upper", "lower"] sp_lowest) : FnOk P w K mg base (L2.CX P w) 50 f fd ["aid", "numbers", "lists"] (spC CA CB e 2) := by
  refine A.fn.okX sc_gain spC_len (fun cdv Ar outer s H vs Q E hr h => ⟨_,
    (pss_cons (ps_expr (pe_defX (E := E) D_want_band_number (hr.mono (by decide)) (passes_call (takes_of rfl rfl rfl rfl) (fun _ _ _ _ h => h)) (pa_cons (pe_ix (ix_listK (K := K) rfl) (pv 1) pe_int (fun _ _ => rfl)) pa_nil)))
  (pss_cons (ps_expr (pe_defX (E := E) D_want_gain (hr.mono (by decide)) (passes_call (takes_of rfl rfl rfl rfl) (fun _ _ _ _ h => h)) (pa_cons (pe_ix (ix_listK (K := K) rfl) (pv 1) pe_int (fun _ _ => rfl)) (pa_cons (pe_ix (ix_listK (K := K) rfl) (pv 1) pe_int (fun _ _ => rfl)) pa_nil))))
  (pss_cons (ps_set (i := 3) sc_gain.nd rfl (Or.inl rfl) (pe_mthX (E := E) M_band_at (pv 0) (hr.mono (by decide)) (passes_call (takes_of rfl rfl rfl rfl) (fun _ _ _ _ h => h)) (pa_cons (pe_ix (ix_listK (K := K) rfl) (pv 1) pe_int (fun _ _ => rfl)) pa_nil)))
  (pss_cons (ps_fld (pv 3) (pe_def D_lowest (hr.mono (by decide)) (pa_cons (pe_ix (ix_listK (K := K) rfl) (pv 1) pe_int (fun _ _ => rfl)) (pa_cons (pe_ix (ix_listK (K := K) rfl) (pv 1) pe_int (fun _ _ => rfl)) pa_nil))) rfl)
  (pss_one (ps_ret (pe_lst pa_nil))))))), ?_⟩)
  obtain ⟨m, c, G, B, a, v2, v3, rfl, hd, p2, p3, hk, hf, k1, k2⟩ := h
  obtain ⟨i, n, d, rfl⟩ := num_gain hk
  have p2 : Row [i, n, d] G v2 := p2
  have es : Vbhlae.step m (.gain i n d) = guarded m [(-1, !(inr i 0 2 && (inr n (-1000) 1000 && inr d 1 1000))), noBand m i] fun _ => (setBand m i.toNat ((bandAt m i.toNat).map fun b => { b with gain := frac n d.toNat }), [0]) := rfl
  rw [es] at k1 k2
  clear es
  refine want_oneQ (b := inr i 0 2) i (a_one (P := PI i) (e_num0 rfl p2)) rfl hd.sg (fun hb G2 H2 g2 => ?_) (fun hb G2 H2 g2 => ?_)
  · rw [hb, Bool.true_and] at k1 k2
    have p22 : Row [i, n, d] G2 v2 := Mo.up (P := Row [i, n, d]) g2.gg p2
    refine want_oneQ (b := inr n (-1000) 1000 && inr d 1 1000) (n, d) (a_two (P := PI n) (P' := PI d) (e_num1 rfl p22) (e_num2 rfl p22)) rfl g2.gh (fun hc G3 H3 g3 => ?_) (fun hc G3 H3 g3 => ?_)
    · rw [hc, Bool.not_true, g_f] at k1 k2
      obtain ⟨wg, d0, eq⟩ := wfb_gain hc
      have g23 := g2.trans g3
      have hd3 := hd.gr g23
      have p23 : Row [i, n, d] G3 v2 := Mo.up (P := Row [i, n, d]) g3.gg p22
      obtain ⟨da, L, vu, vl, xs, q⟩ := hd3.it
      refine ⟨_, rfl, a, da, _, rfl, hd3.sb a _ q.a, aF_m _ _ _ (by decide +kernel) (by decide +kernel) (by decide +kernel), (a_one (P := PI i) (e_num0 rfl p23)) H3 hd3.sg _ fun ws G4 H4 g4 al => ?_⟩
      obtain ⟨w1, rfl, r1⟩ := al_1 al
      obtain rfl : w1 = .int i := r1
      have hd4 := hd3.gr g4
      have q4 := q.mono g4.gg
      have a4 := (Aft.gr (B := B) g23).trans (Aft.gr g4)
      obtain ⟨j, v, ei, ej, hj, hv, po, hm⟩ := band_val hd4 q4 hb
      rw [ei]
      refine ⟨a, da, vu, vl, L, xs, v, j, rfl, hd4.sb a _ q4.a, hd4.sb L _ q4.b, hv, fun hne => ?_, fun hn => ?_⟩
      · obtain ⟨b, eb⟩ : ∃ b, bandAt m j = some b := by
          cases e1 : bandAt m j with
          | none => exact absurd (po.isnon.mpr e1) hne
          | some b => exact ⟨b, rfl⟩
        rw [nb_yes (b := b) (by rw [ej]; exact eb), g_f, g_0, ej, eb] at k1
        rw [eb] at po
        obtain ⟨p, dp, vg, wu, wl, rfl, hp, po1, po2, po3⟩ := po
        have wb : WfB b := hd4.wf.b b (by rw [← eb]; exact List.mem_of_getElem? hm)
        have p24 : Row [i, n, d] G4 v2 := Mo.up (P := Row [i, n, d]) g4.gg p23
        refine (e_lowest d0 (e_num1 rfl p24) (e_num2 rfl p24)) H4 hd4.sg _ fun y G5 H5 g5 py => ?_
        have hd5 := hd4.gr g5
        have q5 := q4.mono g5.gg
        refine ⟨_, rfl, p, CB, dp, _, rfl, hd5.sb p _ hp, TA.b, TA.bg, (by show 3 < 1000; decide), ?_⟩
        rw [put_bG]
        have h6 := hold_obj (b := { b with gain := frac n d.toNat }) hd5 q5 TA.ne hv hp (by show Pair (qp (frac n d.toNat)) G5 y; rw [eq]; exact py) (Mo.up g5.gg po2) (Mo.up g5.gg po3) ⟨wg, wb.up, wb.low⟩
        have a6 := (a4.trans (Aft.gr g5)).trans (hd5.aft (o := .ins CB dp (bF y wu wl)) (x := p) (by rw [hp]; simp))
        exact s_ret (σ := []) (e_lst0 (p := PI)) h6.sg fun v G7 H7 g7 p7 => k1 _ [] rfl v G7 _ H7 (a6.trans (Aft.gr g7)) (h6.gr g7) p7
      · rw [nb_no (by rw [ej]; exact po.isnon.mp hn), g_t] at k2
        exact k2 (-3) e.b (by decide) at_b rfl G4 B H4 a4 hd4
    · rw [hc, Bool.not_false, g_t] at k2
      exact k2 (-1) e.o (by decide) at_o rfl G3 B H3 (Aft.gr (g2.trans g3)) (hd.gr (g2.trans g3))
  · rw [hb, Bool.false_and, Bool.not_false, g_t] at k2
    exact k2 (-1) e.o (by decide) at_o rfl G2 B H2 (Aft.gr g2) (hd.gr g2)
end
end Qa
set_option Elab.async false
set_option linter.all false
set_option maxRecDepth 100000
set_option maxHeartbeats 2000000
namespace Qa
open PySem PySem.Spec PyProof.Rows L2 Qm
open Vbhlae (at_ Call setBand guarded noRing noBand bandAt inr isUp isLow frac)
theorem isUp_neg {u : List Int} (h : isUp u = true) : isUp (u.map fun x => -x) = true := by
  unfold isUp inr at h ⊢
  rw [List.length_map]
  simp only [Bool.and_eq_true, decide_eq_true_eq, List.all_eq_true] at h ⊢
  refine ⟨h.1, h.2.1, fun x hx => ?_⟩
  obtain ⟨y, hy, rfl⟩ := List.mem_map.mp hx
  have := h.2.2 y hy
  omega
theorem isUp_later {u : List Int} {k : Nat} (h : isUp u = true) (hk : k + u.length ≤ 4) : isUp (List.replicate k 0 ++ u) = true := by
  unfold isUp inr Vbhlae.MOST at h ⊢
  rw [List.length_append, List.length_replicate]
  simp only [Bool.and_eq_true, decide_eq_true_eq, List.all_eq_true] at h ⊢
  refine ⟨by omega, by omega, fun x hx => ?_⟩
  rcases List.mem_append.mp hx with hx | hx
  · have := List.eq_of_mem_replicate hx
    omega
  · exact h.2.2 x hx
section
variable {P : Program} {w : World} {K : PySem.W.Frag} {mg : Str → Option Value} {base : Heap} {f : Addr} {fd : FuncData} {CA CB : Addr} {e : Cl}
theorem po_band {G B H : Hp} {a : Addr} {m : Vbhlae.Aid} {b : Vbhlae.Band} {v : V} (hd : Hold CA CB G B H a m) (po : PO CB G B (some b) v) : PBand CB b (uni G B) v := by
  obtain ⟨p, dp, vg, wu, wl, e, hp, po1, po2, po3⟩ := po
  exact ⟨p, dp, vg, wu, wl, e, uni_r hd.sg hd.sb p _ hp, Mo.up uni_l po1, Mo.up uni_l po2, Mo.up uni_l po3⟩
abbrev st_turn : Stmt := top 92
theorem sc_turn : FnScope ["aid", "numbers", "lists", "changed"] ["aid", "numbers", "lists"] (defScope st_turn) := ⟨rfl, rfl, rfl, by decide +kernel, rfl, by decide +kernel, by decide +kernel⟩
theorem ok_turn (A : At K mg "turn" st_turn ["aid", "numbers", "lists"] f fd) (TA : AidT K CA CB) (D_want_band_number : Dfn P w K mg base (L2.CX P w) 42 "want_band_number" ["i"] (sp_want_band_number e.o)) (M_band_at : MDfn P w K mg base (L2.CX P w) 41 CA "band_at" ["self", "i"] (sp_band_at CA e.b))
    (D_scaled : Dfn P w K mg base CX0 41 "scaled" ["row", "factor"] sp_scaled) : FnOk P w K mg base (L2.CX P w) 50 f fd ["aid", "numbers", "lists"] (spC CA CB e 16) := by
  refine A.fn.okX sc_turn spC_len (fun cdv Ar outer s H vs Q E hr h => ⟨_,
    (pss_cons (ps_expr (pe_defX (E := E) D_want_band_number (hr.mono (by decide)) (passes_call (takes_of rfl rfl rfl rfl) (fun _ _ _ _ h => h)) (pa_cons (pe_ix (ix_listK (K := K) rfl) (pv 1) pe_int (fun _ _ => rfl)) pa_nil)))
  (pss_cons (ps_set (i := 3) sc_turn.nd rfl (Or.inl rfl) (pe_mthX (E := E) M_band_at (pv 0) (hr.mono (by decide)) (passes_call (takes_of rfl rfl rfl rfl) (fun _ _ _ _ h => h)) (pa_cons (pe_ix (ix_listK (K := K) rfl) (pv 1) pe_int (fun _ _ => rfl)) pa_nil)))
  (pss_cons (ps_fld (pv 3) (pe_def D_scaled (hr.mono (by decide)) (pa_cons (pe_fld (pv 3) rfl) (pa_cons (pe_un un_neg pe_int) pa_nil))) rfl)
  (pss_one (ps_ret (pe_lst pa_nil)))))), ?_⟩)
  obtain ⟨m, c, G, B, a, v2, v3, rfl, hd, p2, p3, hk, hf, k1, k2⟩ := h
  obtain ⟨i, rfl⟩ := num_turn hk
  have p2 : Row [i] G v2 := p2
  have es : Vbhlae.step m (.turn i) = guarded m [(-1, !inr i 0 2), noBand m i] fun _ => (setBand m i.toNat ((bandAt m i.toNat).map fun b => { b with up := b.up.map fun x => -x }), [0]) := rfl
  rw [es] at k1 k2
  clear es
  refine want_oneQ (b := inr i 0 2) i (a_one (P := PI i) (e_num0 rfl p2)) rfl hd.sg (fun hb G2 H2 g2 => ?_) (fun hb G2 H2 g2 => ?_)
  · rw [hb, Bool.not_true, g_f] at k1 k2
    have hd2 := hd.gr g2
    have p22 : Row [i] G2 v2 := Mo.up (P := Row [i]) g2.gg p2
    obtain ⟨da, L, vu, vl, xs, q⟩ := hd2.it
    refine ⟨_, rfl, a, da, _, rfl, hd2.sb a _ q.a, aF_m _ _ _ (by decide +kernel) (by decide +kernel) (by decide +kernel), (a_one (P := PI i) (e_num0 rfl p22)) H2 hd2.sg _ fun ws G3 H3 g3 al => ?_⟩
    obtain ⟨w1, rfl, r1⟩ := al_1 al
    obtain rfl : w1 = .int i := r1
    have hd3 := hd2.gr g3
    have q3 := q.mono g3.gg
    have a3 := (Aft.gr (B := B) g2).trans (Aft.gr g3)
    obtain ⟨j, v, ei, ej, hj, hv, po, hm⟩ := band_val hd3 q3 hb
    rw [ei]
    refine ⟨a, da, vu, vl, L, xs, v, j, rfl, hd3.sb a _ q3.a, hd3.sb L _ q3.b, hv, fun hne => ?_, fun hn => ?_⟩
    · obtain ⟨b, eb⟩ : ∃ b, bandAt m j = some b := by
        cases e1 : bandAt m j with
        | none => exact absurd (po.isnon.mpr e1) hne
        | some b => exact ⟨b, rfl⟩
      rw [nb_yes (b := b) (by rw [ej]; exact eb), g_f, g_0, ej, eb] at k1
      rw [eb] at po
      have pb := po_band hd3 po
      obtain ⟨p, dp, vg, wu, wl, rfl, hp, po1, po2, po3⟩ := po
      have wb : WfB b := hd3.wf.b b (by rw [← eb]; exact List.mem_of_getElem? hm)
      obtain ⟨u1, u2, u3⟩ := up_is wb.up
      have ev : Ev (tCall sp_scaled [] E0 (tCons (tFld K (tVar 3) "up") (tCons (tUn (rU fun i => .int (-i)) (tC (.int 1))) tNil))) [some (.ref a), some v2, some v3, some (.ref p)] (uni G3 B) (Row (b.up.map ((-1) * ·))) := e_call (b.up, -1) (a_two (e_up TA (e_var rfl pb)) (e_neg e_int)) ⟨by dsimp only; omega, fun y hy => mulB (a := 1) (by show (1 : Nat) < 2 ^ 1; decide) (u3 y hy) (by omega)⟩
      refine ev H3 hd3.uni _ fun y G4 H4 g4 py => ?_
      obtain ⟨hd4, a4⟩ := hd3.read g4
      have py4 := hd3.row g4 py
      have q4 := q3.mono a4.gg
      refine ⟨_, rfl, p, CB, dp, _, rfl, hd4.sb p _ hp, TA.b, TA.bu, (by show 3 < 1000; decide), ?_⟩
      rw [put_bU]
      have en : b.up.map (fun x => -x) = b.up.map ((-1) * ·) := List.map_congr_left fun x _ => by omega
      have h6 := hold_obj (b := { b with up := b.up.map fun x => -x }) hd4 q4 TA.ne hv hp (Mo.up a4.gg po1) (by show Row (b.up.map fun x => -x) _ y; rw [en]; exact py4) (Mo.up a4.gg po3) ⟨wb.g, isUp_neg wb.up, wb.low⟩
      have a6 := (a3.trans a4).trans (hd4.aft (o := .ins CB dp (bF vg y wl)) (x := p) (by rw [hp]; simp))
      exact s_ret (σ := []) (e_lst0 (p := PI)) h6.sg fun v G7 H7 g7 p7 => k1 _ [] rfl v G7 _ H7 (a6.trans (Aft.gr g7)) (h6.gr g7) p7
    · rw [nb_no (by rw [ej]; exact po.isnon.mp hn), g_t] at k2
      exact k2 (-3) e.b (by decide) at_b rfl G3 B H3 a3 hd3
  · rw [hb, Bool.not_false, g_t] at k2
    exact k2 (-1) e.o (by decide) at_o rfl G2 B H2 (Aft.gr g2) (hd.gr g2)
abbrev st_later : Stmt := top 91
theorem sc_later : FnScope ["aid", "numbers", "lists", "changed", "up"] ["aid", "numbers", "lists"] (defScope st_later) := ⟨rfl, rfl, rfl, by decide +kernel, rfl, by decide +kernel, by decide +kernel⟩
theorem ok_later (A : At K mg "later" st_later ["aid", "numbers", "lists"] f fd) (TA : AidT K CA CB) (D_want_band_number : Dfn P w K mg base (L2.CX P w) 42 "want_band_number" ["i"] (sp_want_band_number e.o)) (D_want_later : Dfn P w K mg base (L2.CX P w) 42 "want_later" ["k"] (sp_want_later e.o))
    (M_band_at : MDfn P w K mg base (L2.CX P w) 41 CA "band_at" ["self", "i"] (sp_band_at CA e.b)) (D_want_room : Dfn P w K mg base (L2.CX P w) 41 "want_room" ["up"] (sp_want_room e.s)) : FnOk P w K mg base (L2.CX P w) 50 f fd ["aid", "numbers", "lists"] (spC CA CB e 15) := by
  refine A.fn.okX sc_later spC_len (fun cdv Ar outer s H vs Q E hr h => ⟨_,
    (pss_cons (ps_expr (pe_defX (E := E) D_want_band_number (hr.mono (by decide)) (passes_call (takes_of rfl rfl rfl rfl) (fun _ _ _ _ h => h)) (pa_cons (pe_ix (ix_listK (K := K) rfl) (pv 1) pe_int (fun _ _ => rfl)) pa_nil)))
  (pss_cons (ps_expr (pe_defX (E := E) D_want_later (hr.mono (by decide)) (passes_call (takes_of rfl rfl rfl rfl) (fun _ _ _ _ h => h)) (pa_cons (pe_ix (ix_listK (K := K) rfl) (pv 1) pe_int (fun _ _ => rfl)) pa_nil)))
  (pss_cons (ps_set (i := 3) sc_later.nd rfl (Or.inl rfl) (pe_mthX (E := E) M_band_at (pv 0) (hr.mono (by decide)) (passes_call (takes_of rfl rfl rfl rfl) (fun _ _ _ _ h => h)) (pa_cons (pe_ix (ix_listK (K := K) rfl) (pv 1) pe_int (fun _ _ => rfl)) pa_nil)))
  (pss_cons (ps_set (i := 4) sc_later.nd rfl (Or.inl rfl) (pe_op op_cat (pe_op op_rep (pe_lst (pa_cons pe_int pa_nil)) (pe_ix (ix_listK (K := K) rfl) (pv 1) pe_int (fun _ _ => rfl))) (pe_fld (pv 3) rfl)))
  (pss_cons (ps_expr (pe_defX (E := E) D_want_room (hr.mono (by decide)) (passes_call (takes_of rfl rfl rfl rfl) (fun _ _ _ _ h => h)) (pa_cons (pv 4) pa_nil)))
  (pss_cons (ps_fld (pv 3) (pv 4) rfl)
  (pss_one (ps_ret (pe_lst pa_nil))))))))), ?_⟩)
  obtain ⟨m, c, G, B, a, v2, v3, rfl, hd, p2, p3, hk, hf, k1, k2⟩ := h
  obtain ⟨i, kk, rfl⟩ := num_later hk
  have p2 : Row [i, kk] G v2 := p2
  have es : Vbhlae.step m (.later i kk) = guarded m [(-1, !(inr i 0 2 && inr kk 0 3)), noBand m i, (-6, decide ((Vbhlae.MOST : Int) < (((bandAt m i.toNat).map fun b => b.up.length).getD 0 : Nat) + kk))] fun _ => (setBand m i.toNat ((bandAt m i.toNat).map fun b => { b with up := List.replicate kk.toNat 0 ++ b.up }), [0]) := rfl
  rw [es] at k1 k2
  clear es
  refine want_oneQ (b := inr i 0 2) i (a_one (P := PI i) (e_num0 rfl p2)) rfl hd.sg (fun hb G2 H2 g2 => ?_) (fun hb G2 H2 g2 => ?_)
  · rw [hb, Bool.true_and] at k1 k2
    have p22 : Row [i, kk] G2 v2 := Mo.up (P := Row [i, kk]) g2.gg p2
    refine want_oneQ (b := inr kk 0 3) kk (a_one (P := PI kk) (e_num1 rfl p22)) rfl g2.gh (fun hc G3 H3 g3 => ?_) (fun hc G3 H3 g3 => ?_)
    · rw [hc, Bool.not_true, g_f] at k1 k2
      have hkk : 0 ≤ kk ∧ kk ≤ 3 := by
        unfold inr at hc
        simpa using hc
      have g23 := g2.trans g3
      have hd3 := hd.gr g23
      have p23 : Row [i, kk] G3 v2 := Mo.up (P := Row [i, kk]) g3.gg p22
      obtain ⟨da, L, vu, vl, xs, q⟩ := hd3.it
      refine ⟨_, rfl, a, da, _, rfl, hd3.sb a _ q.a, aF_m _ _ _ (by decide +kernel) (by decide +kernel) (by decide +kernel), (a_one (P := PI i) (e_num0 rfl p23)) H3 hd3.sg _ fun ws G4 H4 g4 al => ?_⟩
      obtain ⟨w1, rfl, r1⟩ := al_1 al
      obtain rfl : w1 = .int i := r1
      have hd4 := hd3.gr g4
      have q4 := q.mono g4.gg
      have a4 := (Aft.gr (B := B) g23).trans (Aft.gr g4)
      obtain ⟨j, v, ei, ej, hj, hv, po, hm⟩ := band_val hd4 q4 hb
      rw [ei]
      refine ⟨a, da, vu, vl, L, xs, v, j, rfl, hd4.sb a _ q4.a, hd4.sb L _ q4.b, hv, fun hne => ?_, fun hn => ?_⟩
      · obtain ⟨b, eb⟩ : ∃ b, bandAt m j = some b := by
          cases e1 : bandAt m j with
          | none => exact absurd (po.isnon.mpr e1) hne
          | some b => exact ⟨b, rfl⟩
        rw [nb_yes (b := b) (by rw [ej]; exact eb), g_f, ej, eb] at k1 k2
        rw [eb] at po
        have pb := po_band hd4 po
        obtain ⟨p, dp, vg, wu, wl, rfl, hp, po1, po2, po3⟩ := po
        have wb : WfB b := hd4.wf.b b (by rw [← eb]; exact List.mem_of_getElem? hm)
        obtain ⟨u1, u2, u3⟩ := up_is wb.up
        have p24 : Row [i, kk] (uni G4 B) v2 := Mo.up (P := Row [i, kk]) uni_l (Mo.up (P := Row [i, kk]) g4.gg p23)
        have ev : Ev (tOp rCat (tOp rRep (tLst (tCons (tC (.int 0)) tNil)) (tOp (rIxL K) (tVar 1) (tC (.int 1)))) (tFld K (tVar 3) "up")) [some (.ref a), some v2, some v3, some (.ref p), none] (uni G4 B) (Row (List.replicate kk.toNat 0 ++ b.up)) :=
          e_cat (p := PI) (l := List.replicate kk.toNat 0) (m := b.up) (e_rep (p := PI) (x := (0 : Int)) (e_lst1 (p := PI) e_int) (e_num1 rfl p24) (by omega)) (e_up TA (e_var rfl pb)) (by rw [List.length_replicate]; omega)
        refine ev H4 hd4.uni _ fun y G5 H5 g5 py => ?_
        obtain ⟨hd5, a5⟩ := hd4.read g5
        have py5 := hd4.row g5 py
        have q5 := q4.mono a5.gg
        have a45 := a4.trans a5
        have lup : (List.replicate kk.toNat 0 ++ b.up).length = kk.toNat + b.up.length := by rw [List.length_append, List.length_replicate]
        have eM : decide ((Vbhlae.MOST : Int) < ((Option.map (fun b => b.up.length) (some b)).getD 0 : Nat) + kk) = !decide ((List.replicate kk.toNat 0 ++ b.up).length ≤ 4) := by
          rw [lup]
          show decide ((4 : Int) < ((b.up.length : Nat) : Int) + kk) = _
          by_cases hz : kk.toNat + b.up.length ≤ 4
          · rw [decide_eq_true hz, decide_eq_false (by omega)]
            rfl
          · rw [decide_eq_false hz, decide_eq_true (by omega)]
            rfl
        rw [eM] at k1 k2
        refine want_oneQ (As := fun x : List Int => [Row x]) (R := fun x : List Int => okOr e.s (decide (x.length ≤ 4))) (b := decide ((List.replicate kk.toNat 0 ++ b.up).length ≤ 4)) (List.replicate kk.toNat 0 ++ b.up) (a_one (P := Row (List.replicate kk.toNat 0 ++ b.up)) (e_var (i := 4) (σ := [some (.ref a), some v2, some v3, some (.ref p), some y]) rfl py5)) rfl hd5.sg (fun hr4 G6 H6 g6 => ?_) (fun hr4 G6 H6 g6 => ?_)
        · rw [hr4, Bool.not_true, g_f, g_0] at k1
          have hr4 := of_decide_eq_true hr4
          have hd6 := hd5.gr g6
          have q6 := q5.mono g6.gg
          refine ⟨_, rfl, _, rfl, p, CB, dp, _, rfl, hd6.sb p _ hp, TA.b, TA.bu, (by show 3 < 1000; decide), ?_⟩
          rw [put_bU]
          have s56 := same_trans a5.gg g6.gg
          have h7 := hold_obj (b := { b with up := List.replicate kk.toNat 0 ++ b.up }) hd6 q6 TA.ne hv hp (Mo.up s56 po1) (Mo.up g6.gg py5) (Mo.up s56 po3) ⟨wb.g, isUp_later wb.up (by rw [← lup]; exact hr4), wb.low⟩
          have a7 := (a45.trans (Aft.gr g6)).trans (hd6.aft (o := .ins CB dp (bF vg y wl)) (x := p) (by rw [hp]; simp))
          exact s_ret (σ := []) (e_lst0 (p := PI)) h7.sg fun v G8 H8 g8 p8 => k1 _ [] rfl v G8 _ H8 (a7.trans (Aft.gr g8)) (h7.gr g8) p8
        · rw [hr4, Bool.not_false, g_t] at k2
          exact k2 (-6) e.s (by decide) at_s rfl G6 B H6 (a45.trans (Aft.gr g6)) (hd5.gr g6)
      · rw [nb_no (by rw [ej]; exact po.isnon.mp hn), g_t] at k2
        exact k2 (-3) e.b (by decide) at_b rfl G4 B H4 a4 hd4
    · rw [hc, Bool.not_false, g_t] at k2
      exact k2 (-1) e.o (by decide) at_o rfl G3 B H3 (Aft.gr (g2.trans g3)) (hd.gr (g2.trans g3))
  · rw [hb, Bool.false_and, Bool.not_false, g_t] at k2
    exact k2 (-1) e.o (by decide) at_o rfl G2 B H2 (Aft.gr g2) (hd.gr g2)
end
end Qa
set_option Elab.async false
set_option linter.all false
set_option maxRecDepth 100000
set_option maxHeartbeats 2000000
namespace Qa
open PySem PySem.Spec PyProof.Rows L2 Qm
open Vbhlae (at_ Call setBand guarded noRing noBand bandAt inr isUp isLow frac)
theorem al_4 {G : Hp} {P1 P2 P3 P4 : Pr} : ∀ {vs : List V}, Al2 G vs [P1, P2, P3, P4] → ∃ v1 v2 v3 v4, vs = [v1, v2, v3, v4] ∧ P1 G v1 ∧ P2 G v2 ∧ P3 G v3 ∧ P4 G v4
  | [], h => h.elim
  | v1 :: _, h => by
    obtain ⟨v2, v3, v4, rfl, p2, p3, p4⟩ := al_3 h.2
    exact ⟨v1, v2, v3, v4, rfl, h.1, p2, p3, p4⟩
theorem c_cons {te : TE} {tr : TA} {σ : L2.St} {H : Hp} {Q : List V → Hp → Prop} (h : te σ H fun v H1 => tr σ H1 fun vs H2 => Q (v :: vs) H2) : tCons te tr σ H Q := h
theorem c_make {C : Addr} {sp : Sp} {E : XK} {t : TA} {σ : L2.St} {H : Hp} {Q : VK} (h : t σ H fun vs H1 => ∀ x dx, H1 x = none → H1 dx = none → dx ≠ x → sp (.ref x :: (vs ++ [])) (upd (upd H1 dx (.own x)) x (.ins C dx [])) (fun v H2 => v = .non ∧ Q (.ref x) H2) E) : tMake C sp [] E t σ H Q := h
theorem c_nil {σ : L2.St} {H : Hp} {Q : List V → Hp → Prop} (h : Q [] H) : tNil σ H Q := h
section
variable {P : Program} {w : World} {K : PySem.W.Frag} {mg : Str → Option Value} {base : Heap} {f : Addr} {fd : FuncData} {CA CB : Addr} {e : Cl}
abbrev st_band : Stmt := top 77
theorem sc_band : FnScope ["aid", "numbers", "lists"] ["aid", "numbers", "lists"] (defScope st_band) := ⟨rfl, rfl, rfl, by decide +kernel, rfl, by decide +kernel, by decide +kernel⟩
theorem ok_band (A : At K mg "band" st_band ["aid", "numbers", "lists"] f fd) (TA : AidT K CA CB) (D_want_band_number : Dfn P w K mg base (L2.CX P w) 42 "want_band_number" ["i"] (sp_want_band_number e.o)) (D_want_gain : Dfn P w K mg base (L2.CX P w) 42 "want_gain" ["n", "d"] (sp_want_gain e.o))
    (D_want_filter : Dfn P w K mg base (L2.CX P w) 43 "want_filter" ["up", "low"] (sp_want_filter e.o)) (M_put_band : MDfn P w K mg base CX0 41 CA "put_band" ["self", "i", "band"] (sp_put_band CA)) (D_Band : MkD P w K mg base 43 "Band" CB ["self", "n", "d", "up", "low"] (sp_Band_init CB)) :
    FnOk P w K mg base (L2.CX P w) 50 f fd ["aid", "numbers", "lists"] (spC CA CB e 1) := by
  refine A.fn.okX sc_band spC_len (fun cdv Ar outer s H vs Q E hr h => ⟨_,
    (pss_cons (ps_expr (pe_defX (E := E) D_want_band_number (hr.mono (by decide)) (passes_call (takes_of rfl rfl rfl rfl) (fun _ _ _ _ h => h)) (pa_cons (pe_ix (ix_listK (K := K) rfl) (pv 1) pe_int (fun _ _ => rfl)) pa_nil)))
  (pss_cons (ps_expr (pe_defX (E := E) D_want_gain (hr.mono (by decide)) (passes_call (takes_of rfl rfl rfl rfl) (fun _ _ _ _ h => h)) (pa_cons (pe_ix (ix_listK (K := K) rfl) (pv 1) pe_int (fun _ _ => rfl)) (pa_cons (pe_ix (ix_listK (K := K) rfl) (pv 1) pe_int (fun _ _ => rfl)) pa_nil))))
  (pss_cons (ps_expr (pe_defX (E := E) D_want_filter (hr.mono (by decide)) (passes_call (takes_of rfl rfl rfl rfl) (fun _ _ _ _ h => h)) (pa_cons (pe_ix (ix_listK (K := K) rfl) (pv 2) pe_int (fun _ _ => rfl)) (pa_cons (pe_ix (ix_listK (K := K) rfl) (pv 2) pe_int (fun _ _ => rfl)) pa_nil))))
  (pss_cons (ps_expr (pe_mth M_put_band (pv 0) (hr.mono (by decide)) (pa_cons (pe_ix (ix_listK (K := K) rfl) (pv 1) pe_int (fun _ _ => rfl)) (pa_cons (pe_mkD D_Band (hr.mono (by decide)) (pa_cons (pe_ix (ix_listK (K := K) rfl) (pv 1) pe_int (fun _ _ => rfl)) (pa_cons (pe_ix (ix_listK (K := K) rfl) (pv 1) pe_int (fun _ _ => rfl)) (pa_cons (pe_ix (ix_listK (K := K) rfl) (pv 2) pe_int (fun _ _ => rfl)) (pa_cons (pe_ix (ix_listK (K := K) rfl) (pv 2) pe_int (fun _ _ => rfl)) pa_nil))))) pa_nil))))
  (pss_one (ps_ret (pe_lst pa_nil))))))), ?_⟩)
  obtain ⟨m, c, G, B, a, v2, v3, rfl, hd, p2, p3, hk, hf, k1, k2⟩ := h
  obtain ⟨i, n, d, u, l, rfl⟩ := num_band hk
  have p2 : Row [i, n, d] G v2 := p2
  have p3 : Rows [u, l] G v3 := p3
  have es : Vbhlae.step m (.band i n d u l) = guarded m [(-1, !(inr i 0 2 && (inr n (-1000) 1000 && (inr d 1 1000 && (isUp u && isLow l)))))] fun _ => (setBand m i.toNat (some ⟨frac n d.toNat, u, l⟩), [0]) := rfl
  have ea : (inr i 0 2 && (inr n (-1000) 1000 && (inr d 1 1000 && (isUp u && isLow l)))) = (inr i 0 2 && ((inr n (-1000) 1000 && inr d 1 1000) && (isUp u && isLow l))) := by simp only [Bool.and_assoc]
  rw [es, ea] at k1 k2
  clear es ea
  refine want_oneQ (b := inr i 0 2) i (a_one (P := PI i) (e_num0 rfl p2)) rfl hd.sg (fun hb G2 H2 g2 => ?_) (fun hb G2 H2 g2 => ?_)
  · rw [hb, Bool.true_and] at k1 k2
    have p22 : Row [i, n, d] G2 v2 := Mo.up (P := Row [i, n, d]) g2.gg p2
    refine want_oneQ (b := inr n (-1000) 1000 && inr d 1 1000) (n, d) (a_two (P := PI n) (P' := PI d) (e_num1 rfl p22) (e_num2 rfl p22)) rfl g2.gh (fun hc G3 H3 g3 => ?_) (fun hc G3 H3 g3 => ?_)
    · rw [hc, Bool.true_and] at k1 k2
      obtain ⟨wg, d0, eq⟩ := wfb_gain hc
      have g23 := g2.trans g3
      have p33 : Rows [u, l] G3 v3 := Mo.up (P := Rows [u, l]) g23.gg p3
      refine want_oneQ (b := isUp u && isLow l) (u, l) (a_two (P := Row u) (P' := Row l) (e_row0 rfl p33) (e_row1 rfl p33)) rfl g3.gh (fun he G4 H4 g4 => ?_) (fun he G4 H4 g4 => ?_)
      · rw [he, Bool.not_true, g_f, g_0] at k1
        obtain ⟨hu, hl⟩ := Bool.and_eq_true_iff.mp he
        have g24 := g23.trans g4
        have hd4 := hd.gr g24
        have p24 : Row [i, n, d] G4 v2 := Mo.up (P := Row [i, n, d]) g24.gg p2
        obtain ⟨da, L, vu, vl, xs, q⟩ := hd4.it
        refine ⟨_, rfl, a, da, _, rfl, hd4.sb a _ q.a, aF_m _ _ _ (by decide +kernel) (by decide +kernel) (by decide +kernel), (e_num0 rfl p24) H4 hd4.sg _ fun w0 G5 H5 g5 e0 => ?_⟩
        obtain rfl : w0 = .int i := e0
        have g25 := g24.trans g5
        have hd5 := hd.gr g25
        have p25 : Row [i, n, d] G5 v2 := Mo.up (P := Row [i, n, d]) g25.gg p2
        have p35 : Rows [u, l] G5 v3 := Mo.up (P := Rows [u, l]) g25.gg p3
        refine c_cons (c_make ((a_four (e_num1 rfl p25) (e_num2 rfl p25) (e_row0 rfl p35) (e_row1 rfl p35)) H5 hd5.sg _ fun ws G6 H6 g6 al => ?_))
        obtain ⟨w1, w2, w3, w4, rfl, r1, r2, r3, r4⟩ := al_4 al
        obtain rfl : w1 = .int n := r1
        obtain rfl : w2 = .int d := r2
        have g26 := g25.trans g6
        have hd6 := hd.gr g26
        have q6 := q.mono (same_trans g5.gg g6.gg)
        intro x dx hx hdx hne
        have gx : G6 x = none := gone g6.gh hx
        have gdx : G6 dx = none := gone g6.gh hdx
        have hx' : upd H6 dx (.own x) x = none := by
          rw [upd_ne (fun z => hne z.symm)]
          exact hx
        have gh : Gr G6 H6 G6 (upd (upd H6 dx (.own x)) x (.ins CB dx [])) := ((Gr.refl g6.gh).hold hdx).hold hx'
        refine ⟨x, dx, n, d, w3, w4, G6, rfl, upd_same, gx, gh.gh, d0, fun vg G7 H7 g7 pg => ⟨rfl, ?_⟩⟩
        have g7x : G7 x = none := g7.fr x gx (by rw [upd_same]; simp)
        have gg : Gr G6 H6 G7 (upd H7 x (.ins CB dx (bF vg w3 w4))) := (gh.trans g7).put hx g7x
        have hd7 := hd6.gr gg
        have q7 := q6.mono gg.gg
        have bx : B x = none := gone hd6.sb hx
        obtain ⟨j, v, ei, ej, hj, hv, po, hm⟩ := band_val hd7 q7 hb
        refine c_nil ?_
        dsimp only [List.append_nil]
        rw [ei]
        refine ⟨a, da, vu, vl, L, xs, .ref x, j, rfl, hd7.sb a _ q7.a, hd7.sb L _ q7.b, hj, ?_⟩
        rw [ej] at k1
        have h8 := hold_band (b := ⟨frac n d.toNat, u, l⟩) hd7 q7 j bx g7x upd_same (by show Pair (qp (frac n d.toNat)) G7 vg; rw [eq]; exact pg) (Mo.up gg.gg r3) (Mo.up gg.gg r4) ⟨wg, hu, hl⟩
        have a8 : Aft G B H G7 (upd (upd B x (.ins CB dx (bF vg w3 w4))) L (.lst (xs.set j (.ref x)))) (upd (upd H7 x (.ins CB dx (bF vg w3 w4))) L (.lst (xs.set j (.ref x)))) := by
          have g27 := g26.trans gg
          refine ⟨g27.gg, fun y h1 h2 h3 => ?_⟩
          have yx : y ≠ x := fun z => by
            rw [z] at h3
            exact h3 (gone g26.hh hx)
          have yL : y ≠ L := fun z => by
            rw [z, q.b] at h2
            cases h2
          rw [upd_ne yL, upd_ne yx, upd_ne yL]
          exact ⟨g27.fr y h1 h3, h2, hh_eq g27.hh h3⟩
        exact s_ret (σ := []) (e_lst0 (p := PI)) h8.sg fun v G9 H9 g9 p9 => k1 _ [] rfl v G9 _ H9 (a8.trans (Aft.gr g9)) (h8.gr g9) p9
      · rw [he, Bool.not_false, g_t] at k2
        exact k2 (-1) e.o (by decide) at_o rfl G4 B H4 (Aft.gr (g23.trans g4)) (hd.gr (g23.trans g4))
    · rw [hc, Bool.false_and, Bool.not_false, g_t] at k2
      exact k2 (-1) e.o (by decide) at_o rfl G3 B H3 (Aft.gr (g2.trans g3)) (hd.gr (g2.trans g3))
  · rw [hb, Bool.false_and, Bool.not_false, g_t] at k2
    exact k2 (-1) e.o (by decide) at_o rfl G2 B H2 (Aft.gr g2) (hd.gr g2)
theorem q_fld {te : TE} {σ : L2.St} {G H : Hp} {R : Pr} {D : Ends} {tz : TS} {i : Nat} {fn : Str} (h : Ev te σ G R) (s : Same G H) (k : ∀ y G2 H2, Gr G H G2 H2 → R G2 y → tVar i σ H2 fun x H3 => ∃ a C dx fs, x = .ref a ∧ H3 a = some (.ins C dx fs) ∧ Cls K C ∧ NoAttr K C fn ∧ fs.length < 1000 ∧ tz D σ (upd H3 a (.ins C dx (putF fn y fs)))) : tSeq (sFld K (tVar i) te fn) tz D σ H := h H s _ k
abbrev st_Aid_init : Stmt := inClass (top 40) 0
theorem sc_Aid_init : FnScope ["self"] ["self"] (defScope st_Aid_init) := ⟨rfl, rfl, rfl, by decide +kernel, rfl, by decide +kernel, by decide +kernel⟩
def sp_Aid_init (CA : Addr) : Sp := fun vs H Q _ => ∃ a da G, vs = [.ref a] ∧ H a = some (.ins CA da []) ∧ G a = none ∧ Same G H ∧
  ∀ vu vl L G2 H2, Gr G (upd H a (.ins CA da (aF vu vl (.ref L)))) G2 H2 → H L = none → G2 L = none → H2 L = some (.lst [.non, .non, .non]) → Row [0] G2 vu → Row [1] G2 vl → Q .non H2
theorem ok_Aid_init (F : Fun K "__init__" "Aid.__init__" st_Aid_init f fd) (A : AidT K CA CB) : FnOk P w K mg base CX0 41 f fd ["self"] (sp_Aid_init CA) := by
  refine F.ok sc_Aid_init (fun vs H Q E h => by obtain ⟨_, _, _, rfl, _⟩ := h; rfl) (fun cdv Ar outer s H vs Q E hr h => ⟨_,
    (pss_cons (ps_fld (pv 0) (pe_lst (pa_cons pe_int pa_nil)) rfl)
  (pss_cons (ps_fld (pv 0) (pe_lst (pa_cons pe_int pa_nil)) rfl)
  (pss_one (ps_fld (pv 0) (pe_lst (pa_cons pe_non (pa_cons pe_non (pa_cons pe_non pa_nil)))) rfl)))), ?_⟩)
  obtain ⟨a, da, G, rfl, ha, ga, sG, k⟩ := h
  refine q_fld (e_lst1 (p := PI) (x := 0) e_int) sG fun vu G1 H1 g1 pu => ?_
  refine ⟨_, rfl, a, CA, da, [], rfl, g1.hh a _ ha, A.a, A.au, (by show 0 < 1000; decide), ?_⟩
  have g1a : G1 a = none := g1.fr a ga (by rw [ha]; simp)
  have e1 : putF "leak_up" vu [] = ([("leak_up", vu)] : List (Str × V)) := rfl
  rw [e1]
  have g1' : Gr G (upd H a (.ins CA da [("leak_up", vu)])) G1 (upd H1 a (.ins CA da [("leak_up", vu)])) := Gr.reput (o := .ins CA da []) (by rw [upd_self ha]; exact g1) ga
  refine q_fld (e_lst1 (p := PI) (x := 1) e_int) g1'.gh fun vl G2 H2 g2 pl => ?_
  have h2a : H2 a = some (.ins CA da [("leak_up", vu)]) := g2.hh a _ upd_same
  have g2a : G2 a = none := g2.fr a g1a (by rw [upd_same]; simp)
  refine ⟨_, rfl, a, CA, da, _, rfl, h2a, A.a, A.al, (by show 1 < 1000; decide), ?_⟩
  have e2 : putF "leak_low" vl ([("leak_up", vu)] : List (Str × V)) = ([("leak_up", vu), ("leak_low", vl)] : List (Str × V)) := (put_past (by decide +kernel)).trans rfl
  rw [e2]
  have g2' : Gr G (upd H a (.ins CA da [("leak_up", vu), ("leak_low", vl)])) G2 (upd H2 a (.ins CA da [("leak_up", vu), ("leak_low", vl)])) := Gr.reput (g1'.trans g2) ga
  refine ⟨(by show 3 ≤ sizeLine; decide), fun L hL => ?_⟩
  have La : L ≠ a := fun z => by
    rw [z, upd_same] at hL
    cases hL
  have g3 := g2'.hold (o := .lst [.non, .non, .non]) hL
  have hL0 : H L = none := by
    have := gone g2'.hh hL
    rw [upd_ne La] at this
    exact this
  have gL : G2 L = none := gone g2'.gh hL
  refine ⟨_, rfl, a, CA, da, _, rfl, (by rw [upd_ne (fun z => La z.symm), upd_same]), A.a, A.ab, (by show 2 < 1000; decide), ?_⟩
  have e3 : putF "bands" (.ref L) ([("leak_up", vu), ("leak_low", vl)] : List (Str × V)) = aF vu vl (.ref L) := (put_past (by decide +kernel)).trans (congrArg _ ((put_past (by decide +kernel)).trans rfl))
  rw [e3]
  exact k vu vl L G2 _ (Gr.reput g3 ga) hL0 gL (by rw [upd_ne La, upd_same]) (Mo.up (P := Row [0]) g2.gg pu) pl
end
end Qa
set_option Elab.async false
set_option linter.all false
set_option maxRecDepth 100000
set_option maxHeartbeats 2000000
/-! A call taken off the line and made. -/
namespace Qa
open PySem PySem.Spec PyProof.Rows L2 Qm
open Vbhlae (at_ Call)
/-- a tuple that the top has given a name -/
def Tab (K : PySem.W.Frag) (mg : Str → Option Value) (x : Str) (xs : List V) : Prop := ∃ p, mg x = some (.ref p) ∧ ∀ H, SqT K H p xs
def hmN : List Int := [0, 3, 3, 1, 0, 0, 0, 0, 0, 0, 1, 2, 0, 0, 0, 2, 1, 0, 1, 2]
def hmL : List Int := [2, 2, 0, 0, 0, 0, 0, 1, 0, 1, 1, 0, 0, 1, 0, 0, 0, 0, 0, 0]
theorem hmN_at (c : Call) : hmN[numOf c]? = some ((numsOf c).length : Int) := by cases c <;> rfl
theorem hmL_at (c : Call) : hmL[numOf c]? = some ((listsOf c).length : Int) := by cases c <;> rfl
theorem num_lt (c : Call) : numOf c < 20 := by cases c <;> simp [numOf]
theorem lists_le (c : Call) : (listsOf c).length ≤ 1000 := by cases c <;> simp [listsOf]
/-- from the place p on stands the call c; p' is behind it -/
def ReadsAs (l : List Int) (p : Nat) (c : Call) (p' : Nat) : Prop := l[p]? = some (numOf c : Int) ∧ p + 1 + (numsOf c).length ≤ l.length ∧ (l.drop (p + 1)).take (numsOf c).length = numsOf c ∧ rdRows l (listsOf c).length (p + 1 + (numsOf c).length) = some (listsOf c, p')
section
variable {X : Cx} {k : Nat} {x : Str} {e : Expr} {es : List Expr} {t : TA} {p pos : Pos} {E : XK}
/-- a def that a slot holds, called -/
def tCallH (P : Program) (w : World) (K : PySem.W.Frag) (mg : Str → Option Value) (base : Heap) (k : Nat) (i : Nat) (E : XK) (t : TA) : TE := fun σ H Q => ∃ f sp, σ[i]? = some (some (.ref f)) ∧ HeldX P w K mg base k f sp ∧ t σ H fun vs H1 => sp vs H1 Q E
theorem pe_callH {i : Nat} (hr : Room k X.A) (hN : X.N[i]? = some x) (hv : Vis X.env.scope x) (hx : Passes (L2.CX X.prog X.w) X E) (ha : PA X (e :: es) t) (hdb : (x == ("__debug__" : Str)) = false := by decide) (hcd : (x == ("__classdict__" : Str)) = false := by decide)
    (he : starEach (e :: es) X.env = (false, eval e X.env) :: starEach es X.env := by rfl) (hpl : (backTo pos (starEach es X.env)).any (·.1) = false := by rfl) : PE X (.Call (.Name x p) (e :: es) [] pos) (tCallH X.prog X.w X.K X.mg X.base k i E t) := by
  refine ⟨fun pins s σ H Q I h => ?_⟩
  obtain ⟨f, sp, hs, ⟨fd, ps, F, hk, hb⟩, ht⟩ := h
  refine (pe_callL (i := i) (f := f) (sp := sp) (dvs := []) (E := E) F hr hN hv hk hb .nil hx ha hdb hcd he hpl).run pins s σ H Q I ⟨hs, ?_⟩
  simpa only [List.append_nil] using ht
end
theorem upd_swap {H : Hp} {a b : Addr} {x y : HO} (h : a ≠ b) : upd (upd H a x) b y = upd (upd H b y) a x := by
  funext c
  unfold upd
  by_cases e1 : c = b
  · rw [if_pos e1]
    by_cases e2 : c = a
    · exact absurd (e2.symm.trans e1) h
    · rw [if_neg e2, if_pos e1]
  · rw [if_neg e1]
    by_cases e2 : c = a
    · rw [if_pos e2, if_pos e2]
    · rw [if_neg e2, if_neg e2, if_neg e1]
theorem Hold.out {CA CB : Addr} {G B H : Hp} {a : Addr} {m : Vbhlae.Aid} (h : Hold CA CB G B H a m) {r : Addr} {o : HO} (g : G r = none) (b : B r = none) : Hold CA CB G B (upd H r o) a m := ⟨same_put h.sg g, same_put h.sb b, h.dj, h.wf, h.it⟩
theorem take_nums {l : List Int} {xs : List V} {i : Nat} {v : Int} (h : l[i]? = some v) : atI (l.map V.int) (i : Int) = some (.int v) := atI_nat' (by rw [List.getElem?_map, h]; rfl)
section
variable {P : Program} {w : World} {K : PySem.W.Frag} {mg : Str → Option Value} {base : Heap} {f : Addr} {fd : FuncData} {CA CB CR : Addr} {e : Cl}
/-- the calls, each at its number -/
def Calls (P : Program) (w : World) (K : PySem.W.Frag) (mg : Str → Option Value) (base : Heap) (CA CB : Addr) (e : Cl) (fs : List Addr) : Prop := ∀ k, k < 20 → ∃ f, fs[k]? = some f ∧ HeldX P w K mg base 50 f (spC CA CB e k)
abbrev st_make_next_call : Stmt := top 99
theorem sc_make_next_call : FnScope ["aid", "reader", "number", "numbers", "lists", "call"] ["aid", "reader"] (defScope st_make_next_call) := ⟨rfl, rfl, rfl, by decide +kernel, rfl, by decide +kernel, by decide +kernel⟩
def sp_make (K : PySem.W.Frag) (CA CB CR : Addr) (e : Cl) : Sp := fun vs H Q E => ∃ (m : Vbhlae.Aid) (c : Call) (G B : Hp) (a r dr la : Addr) (l : List Int) (p p' : Nat), vs = [.ref a, .ref r] ∧ Hold CA CB G B H a m ∧ H r = some (.ins CR dr (rF (.ref la) p)) ∧ G r = none ∧ B r = none ∧ SqL K G la (l.map V.int) ∧ ReadsAs l p c p' ∧ Fits c ∧
  (∀ m' rest, Vbhlae.step m c = (m', 0 :: rest) → ∀ v G2 B2 H2, Aft G B (upd H r (.ins CR dr (rF (.ref la) p'))) G2 B2 H2 → Hold CA CB G2 B2 H2 a m' → Row rest G2 v → Q v H2) ∧
  (∀ n c', n ≠ 0 → e.at n = c' → Vbhlae.step m c = (m, [n]) → ∀ G2 B2 H2, Aft G B (upd H r (.ins CR dr (rF (.ref la) p'))) G2 B2 H2 → Hold CA CB G2 B2 H2 a m → E (.ref c') none H2)
theorem ok_make_next_call {fs : List Addr} (A : At K mg "make_next_call" st_make_next_call ["aid", "reader"] f fd) (RT : RdT K CR) (TN : Tab K mg "HOW_MANY_NUMBERS" (hmN.map V.int)) (TL : Tab K mg "HOW_MANY_LISTS" (hmL.map V.int)) (TC : Tab K mg "CALLS" (fs.map V.ref)) (C : Calls P w K mg base CA CB e fs)
    (M_take_number : MDfn P w K mg base CX0 41 CR "take_number" ["self"] (sp_take_number K CR)) (M_take_numbers : MDfn P w K mg base CX0 41 CR "take_numbers" ["self", "how_many"] (sp_take_numbers K CR)) (M_take_lists : MDfn P w K mg base CX0 43 CR "take_lists" ["self", "how_many"] (sp_take_lists K CR)) :
    FnOk P w K mg base (L2.CX P w) 60 f fd ["aid", "reader"] (sp_make K CA CB CR e) := by
  obtain ⟨pN, gN, sN⟩ := TN
  obtain ⟨pL, gL, sL⟩ := TL
  obtain ⟨pC, gC, sC⟩ := TC
  refine A.fn.okX sc_make_next_call (fun vs H Q E h => by obtain ⟨_, _, _, _, _, _, _, _, _, _, _, rfl, _⟩ := h; rfl) (fun cdv Ar outer s H vs Q E hr h => ⟨_,
    (pss_cons (ps_set (i := 2) sc_make_next_call.nd rfl (Or.inl rfl) (pe_mth0 M_take_number (pv 1) (hr.mono (by decide))))
  (pss_cons (ps_set (i := 3) sc_make_next_call.nd rfl (Or.inl rfl) (pe_mth M_take_numbers (pv 1) (hr.mono (by decide)) (pa_cons (pe_ix (ix_tupK (K := K) rfl) (pe_glob (v := .ref pN) (by rfl) gN rfl) (pv 2) (fun _ _ => rfl)) pa_nil)))
  (pss_cons (ps_set (i := 4) sc_make_next_call.nd rfl (Or.inl rfl) (pe_mth M_take_lists (pv 1) (hr.mono (by decide)) (pa_cons (pe_ix (ix_tupK (K := K) rfl) (pe_glob (v := .ref pL) (by rfl) gL rfl) (pv 2) (fun _ _ => rfl)) pa_nil)))
  (pss_cons (ps_set (i := 5) sc_make_next_call.nd rfl (Or.inl rfl) (pe_ix (ix_tupK (K := K) rfl) (pe_glob (v := .ref pC) (by rfl) gC rfl) (pv 2) (fun _ _ => rfl)))
  (pss_one (ps_ret (pe_callH (i := 5) (E := E) (k := 50) (hr.mono (by decide)) rfl (Or.inl rfl) (passes_call (takes_of rfl rfl rfl rfl) (fun _ _ _ _ h => h)) (pa_cons (pv 0) (pa_cons (pv 3) (pa_cons (pv 4) pa_nil)))))))))), ?_⟩)
  obtain ⟨m, c, G, B, a, r, dr, la, l, p, p', rfl, hd, hr0, gr, br, sq, ⟨ra1, ra2, ra3, ra4⟩, hf, k1, k2⟩ := h
  obtain ⟨fc, ef, held⟩ := C (numOf c) (num_lt c)
  refine ⟨_, rfl, r, dr, _, rfl, hr0, rF_m _ _ (by decide +kernel) (by decide +kernel), r, dr, la, l, p, (numOf c : Int), rfl, hr0, Same.seq hd.sg sq, ra1, ?_⟩
  have sq1 : SqL K (upd H r (.ins CR dr (rF (.ref la) (p + 1)))) la (l.map V.int) := sq_put (Same.seq hd.sg sq) hr0
  refine ⟨_, rfl, r, dr, _, rfl, upd_same, rF_m _ _ (by decide +kernel) (by decide +kernel), _, rfl, pN, _, (numOf c : Int), .int ((numsOf c).length : Int), rfl, rfl, sN _, take_nums (xs := []) (hmN_at c), r, dr, la, l, p + 1, (numsOf c).length, rfl, upd_same, sq1, ra2, fun q hq => ?_⟩
  have qr : q ≠ r := fun z => by
    rw [z, upd_same] at hq
    cases hq
  rw [upd_ne qr] at hq
  rw [upd_upd, ra3]
  have gq : G q = none := gone hd.sg hq
  have hd1 : Hold CA CB G B (upd H r (.ins CR dr (rF (.ref la) (p + 1 + (numsOf c).length)))) a m := hd.out gr br
  have hq1 : upd H r (.ins CR dr (rF (.ref la) (p + 1 + (numsOf c).length))) q = none := by
    rw [upd_ne qr]
    exact hq
  have g1 : Gr G (upd H r (.ins CR dr (rF (.ref la) (p + 1 + (numsOf c).length)))) (upd G q (.lst ((numsOf c).map V.int))) (upd (upd H r (.ins CR dr (rF (.ref la) (p + 1 + (numsOf c).length)))) q (.lst ((numsOf c).map V.int))) := Gr.new hd1.sg hq1
  refine ⟨_, rfl, r, dr, _, rfl, (by rw [upd_ne (fun z => qr z.symm), upd_same]), rF_m _ _ (by decide +kernel) (by decide +kernel), _, rfl, pL, _, (numOf c : Int), .int ((listsOf c).length : Int), rfl, rfl, sL _, take_nums (xs := []) (hmL_at c), upd G q (.lst ((numsOf c).map V.int)), r, dr, la, l, p + 1 + (numsOf c).length, (listsOf c).length, p', listsOf c, rfl, (by rw [upd_ne (fun z => qr z.symm), upd_same]), (by rw [upd_ne (fun z => qr z.symm)]; exact gr), g1.gh, Same.seq g1.gg sq, lists_le c, ra4, fun v3 G3 H3 g3 p3 => ?_⟩
  rw [upd_swap qr, upd_upd] at g3
  have hd2 : Hold CA CB G B (upd H r (.ins CR dr (rF (.ref la) p'))) a m := hd.out gr br
  have hq2 : upd H r (.ins CR dr (rF (.ref la) p')) q = none := by
    rw [upd_ne qr]
    exact hq
  have g4 : Gr G (upd H r (.ins CR dr (rF (.ref la) p'))) G3 H3 := (Gr.new hd2.sg hq2).trans g3
  have hd3 := hd2.gr g4
  have a3 : Aft G B (upd H r (.ins CR dr (rF (.ref la) p'))) G3 B H3 := Aft.gr g4
  have p2 : Row (numsOf c) G3 (.ref q) := row_of (g3.gg q _ upd_same)
  refine ⟨_, rfl, pC, _, (numOf c : Int), .ref fc, rfl, rfl, sC _, atI_nat' (by rw [List.getElem?_map, ef]; rfl), ?_⟩
  refine ⟨fc, _, rfl, held, _, rfl, _, rfl, _, rfl, m, c, G3, B, a, .ref q, v3, rfl, hd3, p2, p3, rfl, hf, fun m' rest hs v G5 B5 H5 a5 h5 p5 => k1 m' rest hs v G5 B5 H5 (a3.trans a5) h5 p5, fun n c' hn hc hs G5 B5 H5 a5 h5 => k2 n c' hn hc hs G5 B5 H5 (a3.trans a5) h5⟩
end
end Qa
set_option Elab.async false
set_option linter.all false
set_option maxRecDepth 100000
set_option maxHeartbeats 2000000
namespace Qm
open Vbhlae
def Code (n : Int) : Prop := n = -1 ∨ n = -3 ∨ n = -5 ∨ n = -6 ∨ n = -8
theorem c1 : Code (-1) := .inl rfl
theorem c3 : Code (-3) := .inr (.inl rfl)
theorem c5 : Code (-5) := .inr (.inr (.inl rfl))
theorem c6 : Code (-6) := .inr (.inr (.inr (.inl rfl)))
theorem c8 : Code (-8) := .inr (.inr (.inr (.inr rfl)))
theorem code_ne {n : Int} (h : Code n) : n ≠ 0 := by
  unfold Code at h
  omega
def Res5 (s : Aid) (p : Aid × List Int) : Prop := (∃ m r, p = (m, 0 :: r)) ∨ ∃ n, Code n ∧ p = (s, [n])
theorem res_g5 {s : Aid} {k : Unit → Aid × List Int} (hk : ∃ m r, k () = (m, 0 :: r)) : ∀ {l : List (Int × Bool)}, (∀ x ∈ l, Code x.1) → Res5 s (guarded s l k)
  | [], _ => .inl hk
  | (n, true) :: l, h => .inr ⟨n, h (n, true) List.mem_cons_self, rfl⟩
  | (n, false) :: l, h => by
    rw [g_f]
    exact res_g5 hk fun x hx => h x (List.mem_cons_of_mem _ hx)
theorem all1 {a : Int × Bool} (ha : Code a.1) : ∀ x ∈ [a], Code x.1 := fun x hx => by
  rw [List.mem_singleton.mp hx]
  exact ha
theorem allc {a : Int × Bool} {l : List (Int × Bool)} (ha : Code a.1) (hl : ∀ x ∈ l, Code x.1) : ∀ x ∈ a :: l, Code x.1 := fun x hx => by
  rcases List.mem_cons.mp hx with rfl | hx
  · exact ha
  · exact hl x hx
theorem nrc {m : Aid} : Code (noRing m).1 := c5
theorem nbc {m : Aid} {i : Int} : Code (noBand m i).1 := c3
theorem step_res (m : Aid) (c : Call) : Res5 m (step m c) := by
  cases c with
  | leak u l =>
    unfold step
    dsimp only
    refine res_g5 ?_ ?_
    · exact ⟨_, _, rfl⟩
    · exact all1 c1
  | band i n d u l =>
    unfold step
    dsimp only
    refine res_g5 ?_ ?_
    · exact ⟨_, _, rfl⟩
    · exact all1 c1
  | gain i n d =>
    unfold step
    dsimp only
    refine res_g5 ?_ ?_
    · exact ⟨_, _, rfl⟩
    · exact allc c1 (all1 nbc)
  | mute i =>
    unfold step
    dsimp only
    refine res_g5 ?_ ?_
    · exact ⟨_, _, rfl⟩
    · exact allc c1 (all1 nbc)
  | ring =>
    unfold step
    dsimp only
    refine res_g5 ?_ ?_
    · exact ⟨_, _, rfl⟩
    · exact all1 nrc
  | quiet =>
    unfold step
    dsimp only
    refine res_g5 ?_ ?_
    · exact ⟨_, _, rfl⟩
    · exact all1 nrc
  | steps =>
    unfold step
    dsimp only
    refine res_g5 ?_ ?_
    · exact ⟨_, _, rfl⟩
    · exact all1 nrc
  | check l =>
    unfold step
    dsimp only
    refine res_g5 ?_ ?_
    · exact (by cases e : rowsIn (l.length + 1) l <;> exact ⟨_, _, rfl⟩)
    · exact allc c1 (all1 nrc)
  | loud =>
    unfold step
    dsimp only
    refine res_g5 ?_ ?_
    · exact ⟨_, _, rfl⟩
    · exact allc nrc (all1 c8)
  | play l =>
    unfold step
    dsimp only
    refine res_g5 ?_ ?_
    · exact ⟨_, _, rfl⟩
    · exact allc c1 (all1 nrc)
  | freed n l =>
    unfold step
    dsimp only
    refine res_g5 ?_ ?_
    · exact ⟨_, _, rfl⟩
    · exact allc c1 (allc nrc (all1 c6))
  | volume d mx =>
    unfold step
    dsimp only
    refine res_g5 ?_ ?_
    · exact (by cases e : Vbhlae.volume m d.toNat mx.toNat <;> exact ⟨_, _, rfl⟩)
    · exact all1 c1
  | alone => exact .inl ⟨_, _, rfl⟩
  | row l =>
    unfold step
    dsimp only
    refine res_g5 ?_ ?_
    · exact ⟨_, _, rfl⟩
    · exact allc c1 (all1 c5)
  | ends =>
    unfold step
    dsimp only
    refine res_g5 ?_ ?_
    · exact ⟨_, _, rfl⟩
    · exact all1 nrc
  | later i k =>
    unfold step
    dsimp only
    refine res_g5 ?_ ?_
    · exact ⟨_, _, rfl⟩
    · exact allc c1 (allc nbc (all1 c6))
  | turn i =>
    unfold step
    dsimp only
    refine res_g5 ?_ ?_
    · exact ⟨_, _, rfl⟩
    · exact allc c1 (all1 nbc)
  | told => exact .inl ⟨_, _, rfl⟩
  | click n =>
    unfold step
    dsimp only
    refine res_g5 ?_ ?_
    · exact ⟨_, _, rfl⟩
    · exact allc c1 (all1 nrc)
  | quietAt n d =>
    unfold step
    dsimp only
    refine res_g5 ?_ ?_
    · exact ⟨_, _, rfl⟩
    · exact all1 c1
/-- a call that only reads -/
theorem g_fst {s : Aid} {k : Unit → Aid × List Int} (hk : (k ()).1 = s) : ∀ {l : List (Int × Bool)}, (guarded s l k).1 = s
  | [] => hk
  | (n, true) :: l => rfl
  | (n, false) :: l => by
    rw [g_f]
    exact g_fst hk
theorem res_of {m : Aid} {p : Aid × List Int} (h5 : Res5 m p) (h1 : p.1 = m) : Res m p := by
  rcases h5 with ⟨m', r, rfl⟩ | ⟨n, hn, rfl⟩
  · have h1 : m' = m := h1
    subst h1
    exact .inl ⟨r, rfl⟩
  · exact .inr ⟨n, code_ne hn, rfl⟩
end Qm
namespace Qa
open PySem PySem.Spec PyProof.Rows L2 Qm
open Vbhlae (at_ Call)
section
variable {P : Program} {w : World} {K : PySem.W.Frag} {mg : Str → Option Value} {base : Heap} {f : Addr} {fd : FuncData} {CA CB CR : Addr} {e : Cl}
/-- the classes of the refusals are five -/
structure Errs (K : PySem.W.Frag) (mg : Str → Option Value) (e : Cl) : Prop where
  o : Err K mg "OutOfRange" e.o
  b : Err K mg "NoBand" e.b
  r : Err K mg "NoRing" e.r
  s : Err K mg "WrongSize" e.s
  q : Err K mg "NotQuiet" e.q
theorem r_cat {ta tb : TE} {D : Ends} {σ : L2.St} {H : Hp} (h : ta σ H fun x H1 => tb σ H1 fun y H2 => rCat x y H2 D.rt) : tRet (tOp rCat ta tb) D σ H := h
/-- which of them stands under which: each under itself alone -/
structure Exm (K : PySem.W.Frag) (e : Cl) : Prop where
  oo : PySem.W.exmOne K (.ref e.o) (.ref e.o) = some true
  bo : PySem.W.exmOne K (.ref e.b) (.ref e.o) = some false
  bb : PySem.W.exmOne K (.ref e.b) (.ref e.b) = some true
  ro : PySem.W.exmOne K (.ref e.r) (.ref e.o) = some false
  rb : PySem.W.exmOne K (.ref e.r) (.ref e.b) = some false
  rr : PySem.W.exmOne K (.ref e.r) (.ref e.r) = some true
  so : PySem.W.exmOne K (.ref e.s) (.ref e.o) = some false
  sb : PySem.W.exmOne K (.ref e.s) (.ref e.b) = some false
  sr : PySem.W.exmOne K (.ref e.s) (.ref e.r) = some false
  ss : PySem.W.exmOne K (.ref e.s) (.ref e.s) = some true
  qo : PySem.W.exmOne K (.ref e.q) (.ref e.o) = some false
  qb : PySem.W.exmOne K (.ref e.q) (.ref e.b) = some false
  qr : PySem.W.exmOne K (.ref e.q) (.ref e.r) = some false
  qs : PySem.W.exmOne K (.ref e.q) (.ref e.s) = some false
  qq : PySem.W.exmOne K (.ref e.q) (.ref e.q) = some true
abbrev tNeg (n : Int) : TS := tRet (tLst (tCons (tUn (rU fun i => V.int (-i)) (tC (V.int n))) tNil))
theorem many_neg (Y : Exm K e) {n : Int} (hn : Code n) {G H : Hp} (s : Same G H) {D : Ends} {σ : L2.St} (k : ∀ v G2 H2, Gr G H G2 H2 → Row [n] G2 v → D.rt v H2) : wMany K (fun _ _ _ _ => False) D [(.ref e.o, fun _ _ _ => tNeg 1), (.ref e.b, fun _ _ _ => tNeg 3), (.ref e.r, fun _ _ _ => tNeg 5), (.ref e.s, fun _ _ _ => tNeg 6), (.ref e.q, fun _ _ _ => tNeg 8)] (.ref (e.at n)) none σ H := by
  rcases hn with rfl | rfl | rfl | rfl | rfl
  · rw [at_o]
    exact ⟨true, Y.oo, fun _ a _ => s_ret (e_lst1 (p := PI) (e_neg e_int)) s k, fun z => by cases z⟩
  · rw [at_b]
    exact ⟨false, Y.bo, (fun z => by cases z), fun _ => ⟨true, Y.bb, fun _ a _ => s_ret (e_lst1 (p := PI) (e_neg e_int)) s k, fun z => by cases z⟩⟩
  · rw [at_r]
    exact ⟨false, Y.ro, (fun z => by cases z), fun _ => ⟨false, Y.rb, (fun z => by cases z), fun _ => ⟨true, Y.rr, fun _ a _ => s_ret (e_lst1 (p := PI) (e_neg e_int)) s k, fun z => by cases z⟩⟩⟩
  · rw [at_s]
    exact ⟨false, Y.so, (fun z => by cases z), fun _ => ⟨false, Y.sb, (fun z => by cases z), fun _ => ⟨false, Y.sr, (fun z => by cases z), fun _ => ⟨true, Y.ss, fun _ a _ => s_ret (e_lst1 (p := PI) (e_neg e_int)) s k, fun z => by cases z⟩⟩⟩⟩
  · rw [at_q]
    exact ⟨false, Y.qo, (fun z => by cases z), fun _ => ⟨false, Y.qb, (fun z => by cases z), fun _ => ⟨false, Y.qr, (fun z => by cases z), fun _ => ⟨false, Y.qs, (fun z => by cases z), fun _ => ⟨true, Y.qq, fun _ a _ => s_ret (e_lst1 (p := PI) (e_neg e_int)) s k, fun z => by cases z⟩⟩⟩⟩⟩
abbrev st_answer_next : Stmt := top 103
theorem sc_answer_next : FnScope ["aid", "reader"] ["aid", "reader"] (defScope st_answer_next) := ⟨rfl, rfl, rfl, by decide +kernel, rfl, by decide +kernel, by decide +kernel⟩
def sp_next (K : PySem.W.Frag) (CA CB CR : Addr) : Sp := fun vs H Q E => ∃ (m : Vbhlae.Aid) (c : Call) (G B : Hp) (a r dr la : Addr) (l : List Int) (p p' : Nat), vs = [.ref a, .ref r] ∧ Hold CA CB G B H a m ∧ H r = some (.ins CR dr (rF (.ref la) p)) ∧ G r = none ∧ B r = none ∧ SqL K G la (l.map V.int) ∧ ReadsAs l p c p' ∧ Fits c ∧ (Vbhlae.step m c).2.length ≤ 10000000 ∧
  (∀ v G2 B2 H2, Aft G B (upd H r (.ins CR dr (rF (.ref la) p'))) G2 B2 H2 → Hold CA CB G2 B2 H2 a (Vbhlae.step m c).1 → Row (Vbhlae.step m c).2 G2 v → Q v H2)
theorem ok_answer_next (A : At K mg "answer_next" st_answer_next ["aid", "reader"] f fd) (T : Errs K mg e) (Y : Exm K e) (D_make_next_call : Dfn P w K mg base (L2.CX P w) 60 "make_next_call" ["aid", "reader"] (sp_make K CA CB CR e)) :
    FnOk P w K mg base CX0 61 f fd ["aid", "reader"] (sp_next K CA CB CR) := by
  refine A.fn.ok sc_answer_next (fun vs H Q E h => by obtain ⟨_, _, _, _, _, _, _, _, _, _, _, rfl, _⟩ := h; rfl) (fun cdv Ar outer s H vs Q E hr h => ⟨_,
    (pss_one (ps_try_many (tb := fun W => tRet (tOp rCat (tLst (tCons (tC (.int 0)) tNil)) (tCallS (sp_make K CA CB CR e) (WE W) (tCons (tVar 0) (tCons (tVar 1) tNil))))) (Wout := fun _ _ _ _ => False) rfl rfl takes0
      (fun W pn xe tk _ => pss_one (ps_ret (pe_op op_cat (pe_lst (pa_cons pe_int pa_nil)) (pe_defS D_make_next_call (hr.mono (by decide)) (fun σ => passAt tk σ) (by exact (pa_cons (pv 0) (pa_cons (pv 1) pa_nil)))))))
      (.cons ⟨rfl, by decide, Or.inl T.o.g⟩ (fun _ _ _ _ _ _ _ => pss_one (ps_ret (pe_lst (pa_cons (pe_un un_neg pe_int) pa_nil))))
      (.cons ⟨rfl, by decide, Or.inl T.b.g⟩ (fun _ _ _ _ _ _ _ => pss_one (ps_ret (pe_lst (pa_cons (pe_un un_neg pe_int) pa_nil))))
      (.cons ⟨rfl, by decide, Or.inl T.r.g⟩ (fun _ _ _ _ _ _ _ => pss_one (ps_ret (pe_lst (pa_cons (pe_un un_neg pe_int) pa_nil))))
      (.cons ⟨rfl, by decide, Or.inl T.s.g⟩ (fun _ _ _ _ _ _ _ => pss_one (ps_ret (pe_lst (pa_cons (pe_un un_neg pe_int) pa_nil))))
      (.cons ⟨rfl, by decide, Or.inl T.q.g⟩ (fun _ _ _ _ _ _ _ => pss_one (ps_ret (pe_lst (pa_cons (pe_un un_neg pe_int) pa_nil)))) .nil))))))), ?_⟩)
  obtain ⟨m, c, G, B, a, r, dr, la, l, p, p', rfl, hd, hr0, gr, br, sq, ra, hf, hlen, k⟩ := h
  refine r_cat ((e_lst1 (p := PI) (x := 0) e_int) H hd.sg _ fun v0 G1 H1 g1 p0 => ?_)
  obtain ⟨a0, rfl, h0⟩ := row_at (r := [0]) p0
  have hd1 := hd.gr g1
  have g1r : G1 r = none := g1.fr r gr (by rw [hr0]; simp)
  have h1r := g1.hh r _ hr0
  have a1 : Aft G B (upd H r (.ins CR dr (rF (.ref la) p'))) G1 B (upd H1 r (.ins CR dr (rF (.ref la) p'))) := Aft.gr (Gr.reput (o := .ins CR dr (rF (.ref la) p)) (by rw [upd_self hr0]; exact g1) gr)
  refine ⟨_, rfl, _, rfl, m, c, G1, B, a, r, dr, la, l, p, p', rfl, hd1, h1r, g1r, br, Same.seq g1.gg sq, ra, hf, fun m' rest hs v G2 B2 H2 a2 h2 pr => ?_, fun n c' hn hc hs G2 B2 H2 a2 h2 => ?_⟩
  · obtain ⟨b0, rfl, hb⟩ := row_at pr
    rw [hs] at k hlen
    refine ⟨a0, b0, _, _, rfl, rfl, h2.sg a0 _ (a2.gg a0 _ h0), h2.sg b0 _ hb, ?_, fun q hq => ?_⟩
    · have : (10000000 : Nat) ≤ sizeLine := by decide
      simp only [List.length_cons, List.length_map, List.length_nil] at hlen ⊢
      omega
    · have g3 : Gr G2 H2 (upd G2 q (.lst ([0].map V.int ++ rest.map V.int))) (upd H2 q (.lst ([0].map V.int ++ rest.map V.int))) := Gr.new h2.sg hq
      exact k _ _ _ _ ((a1.trans a2).trans (Aft.gr g3)) (h2.gr g3) (row_of upd_same)
  · rw [hs] at k
    have hn5 : Code n := by
      rcases step_res m c with ⟨m', r', e1⟩ | ⟨n', h5, e1⟩
      · rw [hs] at e1
        cases e1
        exact absurd rfl hn
      · rw [hs] at e1
        cases e1
        exact h5
    subst hc
    exact many_neg Y hn5 h2.sg fun v G3 H3 g3 p3 => k v G3 B2 H3 ((a1.trans a2).trans (Aft.gr g3)) (h2.gr g3) p3
end
end Qa
set_option Elab.async false
set_option linter.all false
set_option maxRecDepth 100000
set_option maxHeartbeats 2000000
/-! A call as it stands on the line, and the specification's call. -/
namespace Qa
open PySem PySem.Spec PyProof.Rows L2 Qm
open Vbhlae (at_ Call)
theorem len_0 {α : Type} {l : List α} (h : l.length = 0) : l = [] := List.length_eq_zero_iff.mp h
theorem len_1 {α : Type} {l : List α} (h : l.length = 1) : ∃ a, l = [a] := List.length_eq_one_iff.mp h
theorem len_2 {α : Type} {l : List α} (h : l.length = 2) : ∃ a b, l = [a, b] := by
  match l, h with
  | [a, b], _ => exact ⟨a, b, rfl⟩
theorem len_3 {α : Type} {l : List α} (h : l.length = 3) : ∃ a b c, l = [a, b, c] := by
  match l, h with
  | [a, b, c], _ => exact ⟨a, b, c, rfl⟩
def RawIs (x : Int) (nums : List Int) (rows : List (List Int)) : Prop := ∃ c, VbhlaeNeutral.callOf (PyVbhlae.whole ((x :: nums) :: rows)) = some c ∧ (numOf c : Int) = x ∧ numsOf c = nums ∧ listsOf c = rows ∧ Fits c
theorem raw_0 {nums : List Int} {rows : List (List Int)} (hn : nums.length = 0) (hk : rows.length = 2) (ha : VbhlaeNeutral.asked1 (PyVbhlae.whole ((0 :: nums) :: rows)) = true) : RawIs 0 nums rows := by
  obtain rfl := len_0 hn
  obtain ⟨u0, u1, rfl⟩ := len_2 hk
  refine ⟨.leak u0 u1, rfl, rfl, rfl, rfl, fun l hl => ?_⟩
  have ha : VbhlaeNeutral.asked1 [[0], u0, u1] = true := ha
  simp only [VbhlaeNeutral.asked1, Bool.and_eq_true, decide_eq_true_eq] at ha
  have hl : l ∈ ([u0, u1] : List (List Int)) := hl
  simp only [List.mem_cons, List.not_mem_nil, or_false] at hl
  rcases hl with rfl | rfl <;> omega
theorem raw_1 {nums : List Int} {rows : List (List Int)} (hn : nums.length = 3) (hk : rows.length = 2) (ha : VbhlaeNeutral.asked1 (PyVbhlae.whole ((1 :: nums) :: rows)) = true) : RawIs 1 nums rows := by
  obtain ⟨x0, x1, x2, rfl⟩ := len_3 hn
  obtain ⟨u0, u1, rfl⟩ := len_2 hk
  refine ⟨.band x0 x1 x2 u0 u1, rfl, rfl, rfl, rfl, fun l hl => ?_⟩
  have ha : VbhlaeNeutral.asked1 [[1, x0, x1, x2], u0, u1] = true := ha
  simp only [VbhlaeNeutral.asked1, Bool.and_eq_true, decide_eq_true_eq] at ha
  have hl : l ∈ ([u0, u1] : List (List Int)) := hl
  simp only [List.mem_cons, List.not_mem_nil, or_false] at hl
  rcases hl with rfl | rfl <;> omega
theorem raw_2 {nums : List Int} {rows : List (List Int)} (hn : nums.length = 3) (hk : rows.length = 0) (ha : VbhlaeNeutral.asked1 (PyVbhlae.whole ((2 :: nums) :: rows)) = true) : RawIs 2 nums rows := by
  obtain ⟨x0, x1, x2, rfl⟩ := len_3 hn
  obtain rfl := len_0 hk
  exact ⟨.gain x0 x1 x2, rfl, rfl, rfl, rfl, fun l hl => by cases hl⟩
theorem raw_3 {nums : List Int} {rows : List (List Int)} (hn : nums.length = 1) (hk : rows.length = 0) (ha : VbhlaeNeutral.asked1 (PyVbhlae.whole ((3 :: nums) :: rows)) = true) : RawIs 3 nums rows := by
  obtain ⟨x0, rfl⟩ := len_1 hn
  obtain rfl := len_0 hk
  exact ⟨.mute x0, rfl, rfl, rfl, rfl, fun l hl => by cases hl⟩
theorem raw_4 {nums : List Int} {rows : List (List Int)} (hn : nums.length = 0) (hk : rows.length = 0) (ha : VbhlaeNeutral.asked1 (PyVbhlae.whole ((4 :: nums) :: rows)) = true) : RawIs 4 nums rows := by
  obtain rfl := len_0 hn
  obtain rfl := len_0 hk
  exact ⟨.ring, rfl, rfl, rfl, rfl, fun l hl => by cases hl⟩
theorem raw_5 {nums : List Int} {rows : List (List Int)} (hn : nums.length = 0) (hk : rows.length = 0) (ha : VbhlaeNeutral.asked1 (PyVbhlae.whole ((5 :: nums) :: rows)) = true) : RawIs 5 nums rows := by
  obtain rfl := len_0 hn
  obtain rfl := len_0 hk
  exact ⟨.quiet, rfl, rfl, rfl, rfl, fun l hl => by cases hl⟩
theorem raw_6 {nums : List Int} {rows : List (List Int)} (hn : nums.length = 0) (hk : rows.length = 0) (ha : VbhlaeNeutral.asked1 (PyVbhlae.whole ((6 :: nums) :: rows)) = true) : RawIs 6 nums rows := by
  obtain rfl := len_0 hn
  obtain rfl := len_0 hk
  exact ⟨.steps, rfl, rfl, rfl, rfl, fun l hl => by cases hl⟩
theorem raw_7 {nums : List Int} {rows : List (List Int)} (hn : nums.length = 0) (hk : rows.length = 1) (ha : VbhlaeNeutral.asked1 (PyVbhlae.whole ((7 :: nums) :: rows)) = true) : RawIs 7 nums rows := by
  obtain rfl := len_0 hn
  obtain ⟨u0, rfl⟩ := len_1 hk
  refine ⟨.check u0, rfl, rfl, rfl, rfl, fun l hl => ?_⟩
  have ha : VbhlaeNeutral.asked1 [[7], u0] = true := ha
  simp only [VbhlaeNeutral.asked1, Bool.and_eq_true, decide_eq_true_eq] at ha
  have hl : l ∈ ([u0] : List (List Int)) := hl
  simp only [List.mem_cons, List.not_mem_nil, or_false] at hl
  subst hl
  omega
theorem raw_8 {nums : List Int} {rows : List (List Int)} (hn : nums.length = 0) (hk : rows.length = 0) (ha : VbhlaeNeutral.asked1 (PyVbhlae.whole ((8 :: nums) :: rows)) = true) : RawIs 8 nums rows := by
  obtain rfl := len_0 hn
  obtain rfl := len_0 hk
  exact ⟨.loud, rfl, rfl, rfl, rfl, fun l hl => by cases hl⟩
theorem raw_9 {nums : List Int} {rows : List (List Int)} (hn : nums.length = 0) (hk : rows.length = 1) (ha : VbhlaeNeutral.asked1 (PyVbhlae.whole ((9 :: nums) :: rows)) = true) : RawIs 9 nums rows := by
  obtain rfl := len_0 hn
  obtain ⟨u0, rfl⟩ := len_1 hk
  refine ⟨.play u0, rfl, rfl, rfl, rfl, fun l hl => ?_⟩
  have ha : VbhlaeNeutral.asked1 [[9], u0] = true := ha
  simp only [VbhlaeNeutral.asked1, Bool.and_eq_true, decide_eq_true_eq] at ha
  have hl : l ∈ ([u0] : List (List Int)) := hl
  simp only [List.mem_cons, List.not_mem_nil, or_false] at hl
  subst hl
  omega
theorem raw_10 {nums : List Int} {rows : List (List Int)} (hn : nums.length = 1) (hk : rows.length = 1) (ha : VbhlaeNeutral.asked1 (PyVbhlae.whole ((10 :: nums) :: rows)) = true) : RawIs 10 nums rows := by
  obtain ⟨x0, rfl⟩ := len_1 hn
  obtain ⟨u0, rfl⟩ := len_1 hk
  refine ⟨.freed x0 u0, rfl, rfl, rfl, rfl, fun l hl => ?_⟩
  have ha : VbhlaeNeutral.asked1 [[10, x0], u0] = true := ha
  simp only [VbhlaeNeutral.asked1, Bool.and_eq_true, decide_eq_true_eq] at ha
  have hl : l ∈ ([u0] : List (List Int)) := hl
  simp only [List.mem_cons, List.not_mem_nil, or_false] at hl
  subst hl
  omega
theorem raw_11 {nums : List Int} {rows : List (List Int)} (hn : nums.length = 2) (hk : rows.length = 0) (ha : VbhlaeNeutral.asked1 (PyVbhlae.whole ((11 :: nums) :: rows)) = true) : RawIs 11 nums rows := by
  obtain ⟨x0, x1, rfl⟩ := len_2 hn
  obtain rfl := len_0 hk
  exact ⟨.volume x0 x1, rfl, rfl, rfl, rfl, fun l hl => by cases hl⟩
theorem raw_12 {nums : List Int} {rows : List (List Int)} (hn : nums.length = 0) (hk : rows.length = 0) (ha : VbhlaeNeutral.asked1 (PyVbhlae.whole ((12 :: nums) :: rows)) = true) : RawIs 12 nums rows := by
  obtain rfl := len_0 hn
  obtain rfl := len_0 hk
  exact ⟨.alone, rfl, rfl, rfl, rfl, fun l hl => by cases hl⟩
theorem raw_13 {nums : List Int} {rows : List (List Int)} (hn : nums.length = 0) (hk : rows.length = 1) (ha : VbhlaeNeutral.asked1 (PyVbhlae.whole ((13 :: nums) :: rows)) = true) : RawIs 13 nums rows := by
  obtain rfl := len_0 hn
  obtain ⟨u0, rfl⟩ := len_1 hk
  refine ⟨.row u0, rfl, rfl, rfl, rfl, fun l hl => ?_⟩
  have ha : VbhlaeNeutral.asked1 [[13], u0] = true := ha
  simp only [VbhlaeNeutral.asked1, Bool.and_eq_true, decide_eq_true_eq] at ha
  have hl : l ∈ ([u0] : List (List Int)) := hl
  simp only [List.mem_cons, List.not_mem_nil, or_false] at hl
  subst hl
  omega
theorem raw_14 {nums : List Int} {rows : List (List Int)} (hn : nums.length = 0) (hk : rows.length = 0) (ha : VbhlaeNeutral.asked1 (PyVbhlae.whole ((14 :: nums) :: rows)) = true) : RawIs 14 nums rows := by
  obtain rfl := len_0 hn
  obtain rfl := len_0 hk
  exact ⟨.ends, rfl, rfl, rfl, rfl, fun l hl => by cases hl⟩
theorem raw_15 {nums : List Int} {rows : List (List Int)} (hn : nums.length = 2) (hk : rows.length = 0) (ha : VbhlaeNeutral.asked1 (PyVbhlae.whole ((15 :: nums) :: rows)) = true) : RawIs 15 nums rows := by
  obtain ⟨x0, x1, rfl⟩ := len_2 hn
  obtain rfl := len_0 hk
  exact ⟨.later x0 x1, rfl, rfl, rfl, rfl, fun l hl => by cases hl⟩
theorem raw_16 {nums : List Int} {rows : List (List Int)} (hn : nums.length = 1) (hk : rows.length = 0) (ha : VbhlaeNeutral.asked1 (PyVbhlae.whole ((16 :: nums) :: rows)) = true) : RawIs 16 nums rows := by
  obtain ⟨x0, rfl⟩ := len_1 hn
  obtain rfl := len_0 hk
  exact ⟨.turn x0, rfl, rfl, rfl, rfl, fun l hl => by cases hl⟩
theorem raw_17 {nums : List Int} {rows : List (List Int)} (hn : nums.length = 0) (hk : rows.length = 0) (ha : VbhlaeNeutral.asked1 (PyVbhlae.whole ((17 :: nums) :: rows)) = true) : RawIs 17 nums rows := by
  obtain rfl := len_0 hn
  obtain rfl := len_0 hk
  exact ⟨.told, rfl, rfl, rfl, rfl, fun l hl => by cases hl⟩
theorem raw_18 {nums : List Int} {rows : List (List Int)} (hn : nums.length = 1) (hk : rows.length = 0) (ha : VbhlaeNeutral.asked1 (PyVbhlae.whole ((18 :: nums) :: rows)) = true) : RawIs 18 nums rows := by
  obtain ⟨x0, rfl⟩ := len_1 hn
  obtain rfl := len_0 hk
  exact ⟨.click x0, rfl, rfl, rfl, rfl, fun l hl => by cases hl⟩
theorem raw_19 {nums : List Int} {rows : List (List Int)} (hn : nums.length = 2) (hk : rows.length = 0) (ha : VbhlaeNeutral.asked1 (PyVbhlae.whole ((19 :: nums) :: rows)) = true) : RawIs 19 nums rows := by
  obtain ⟨x0, x1, rfl⟩ := len_2 hn
  obtain rfl := len_0 hk
  exact ⟨.quietAt x0 x1, rfl, rfl, rfl, rfl, fun l hl => by cases hl⟩
theorem raw_call {x : Int} {n k : Nat} {nums : List Int} {rows : List (List Int)} (h : PyVbhlae.shape x = some (n, k)) (hn : nums.length = n) (hk : rows.length = k) (ha : VbhlaeNeutral.asked1 (PyVbhlae.whole ((x :: nums) :: rows)) = true) : RawIs x nums rows := by
  unfold PyVbhlae.shape at h
  by_cases e0 : x = 0
  · subst e0
    have h : some (0, 2) = some (n, k) := h
    cases h
    exact raw_0 hn hk ha
  rw [if_neg e0] at h
  by_cases e1 : x = 1
  · subst e1
    have h : some (3, 2) = some (n, k) := h
    cases h
    exact raw_1 hn hk ha
  rw [if_neg e1] at h
  by_cases e2 : x = 2
  · subst e2
    have h : some (3, 0) = some (n, k) := h
    cases h
    exact raw_2 hn hk ha
  rw [if_neg e2] at h
  by_cases e3 : x = 3
  · subst e3
    have h : some (1, 0) = some (n, k) := h
    cases h
    exact raw_3 hn hk ha
  rw [if_neg e3] at h
  by_cases e4 : x = 4
  · subst e4
    have h : some (0, 0) = some (n, k) := h
    cases h
    exact raw_4 hn hk ha
  rw [if_neg e4] at h
  by_cases e5 : x = 5
  · subst e5
    have h : some (0, 0) = some (n, k) := h
    cases h
    exact raw_5 hn hk ha
  rw [if_neg e5] at h
  by_cases e6 : x = 6
  · subst e6
    have h : some (0, 0) = some (n, k) := h
    cases h
    exact raw_6 hn hk ha
  rw [if_neg e6] at h
  by_cases e7 : x = 7
  · subst e7
    have h : some (0, 1) = some (n, k) := h
    cases h
    exact raw_7 hn hk ha
  rw [if_neg e7] at h
  by_cases e8 : x = 8
  · subst e8
    have h : some (0, 0) = some (n, k) := h
    cases h
    exact raw_8 hn hk ha
  rw [if_neg e8] at h
  by_cases e9 : x = 9
  · subst e9
    have h : some (0, 1) = some (n, k) := h
    cases h
    exact raw_9 hn hk ha
  rw [if_neg e9] at h
  by_cases e10 : x = 10
  · subst e10
    have h : some (1, 1) = some (n, k) := h
    cases h
    exact raw_10 hn hk ha
  rw [if_neg e10] at h
  by_cases e11 : x = 11
  · subst e11
    have h : some (2, 0) = some (n, k) := h
    cases h
    exact raw_11 hn hk ha
  rw [if_neg e11] at h
  by_cases e12 : x = 12
  · subst e12
    have h : some (0, 0) = some (n, k) := h
    cases h
    exact raw_12 hn hk ha
  rw [if_neg e12] at h
  by_cases e13 : x = 13
  · subst e13
    have h : some (0, 1) = some (n, k) := h
    cases h
    exact raw_13 hn hk ha
  rw [if_neg e13] at h
  by_cases e14 : x = 14
  · subst e14
    have h : some (0, 0) = some (n, k) := h
    cases h
    exact raw_14 hn hk ha
  rw [if_neg e14] at h
  by_cases e15 : x = 15
  · subst e15
    have h : some (2, 0) = some (n, k) := h
    cases h
    exact raw_15 hn hk ha
  rw [if_neg e15] at h
  by_cases e16 : x = 16
  · subst e16
    have h : some (1, 0) = some (n, k) := h
    cases h
    exact raw_16 hn hk ha
  rw [if_neg e16] at h
  by_cases e17 : x = 17
  · subst e17
    have h : some (0, 0) = some (n, k) := h
    cases h
    exact raw_17 hn hk ha
  rw [if_neg e17] at h
  by_cases e18 : x = 18
  · subst e18
    have h : some (1, 0) = some (n, k) := h
    cases h
    exact raw_18 hn hk ha
  rw [if_neg e18] at h
  by_cases e19 : x = 19
  · subst e19
    have h : some (2, 0) = some (n, k) := h
    cases h
    exact raw_19 hn hk ha
  rw [if_neg e19] at h
  cases h
theorem told_cons (a : List Int) (r : List (List Int)) : PyFlat.told (a :: r) = ((a.length : Int) :: a) ++ PyFlat.told r := by
  unfold PyFlat.told
  rw [List.flatMap_cons]
theorem asked_raw {l : List Int} (h : PyVbhlae.answers_asked l = true) : ∃ cs, PyFlat.calls PyVbhlae.shape l.length l = some cs ∧ (∀ c ∈ cs, VbhlaeNeutral.asked1 (PyVbhlae.whole c) = true) ∧ (PyVbhlae.answers l).length ≤ 10000000 ∧ PyVbhlae.answers l = PyFlat.told (PyFlat.played VbhlaeNeutral.step Vbhlae.start (cs.map PyVbhlae.whole)) := by
  unfold PyVbhlae.answers_asked at h
  cases e : PyFlat.calls PyVbhlae.shape l.length l with
  | none =>
    rw [e] at h
    cases h
  | some cs =>
    rw [e] at h
    dsimp only at h
    simp only [Bool.and_eq_true] at h
    obtain ⟨⟨⟨⟨_, _⟩, _⟩, h4⟩, h5⟩ := h
    refine ⟨cs, rfl, fun c hc => ?_, of_decide_eq_true h5, ?_⟩
    · unfold VbhlaeNeutral.asked at h4
      simp only [Bool.and_eq_true, List.all_eq_true] at h4
      exact h4.1 _ (List.mem_map.mpr ⟨c, hc, rfl⟩)
    · unfold PyVbhlae.answers PyVbhlae.calls
      rw [e]
      rfl
end Qa
set_option Elab.async false
set_option linter.all false
set_option maxRecDepth 100000
set_option maxHeartbeats 2000000
/-! The whole line. -/
namespace Qa
open PySem PySem.Spec PyProof.Rows L2 Qm
open Vbhlae (at_ Call)
section
variable {te : TE} {σ : L2.St} {G H : Hp} {P : Pr} {K : PySem.W.Frag} {D : Ends} {tz : TS}
/-- l.append(e), l owned and long -/
theorem q_appB {L : Addr} {acc : List V} {i : Nat} (hs : σ[i]? = some (some (.ref L))) (hL : H L = some (.lst acc)) (hz : acc.length < 16000000) (h : Ev te σ G P) (s : Same G H) (k : ∀ v G2 H2, Gr G H G2 H2 → P G2 v → tz D σ (upd H2 L (.lst (acc ++ [v])))) :
    tSeq (tDrop (tBM K "list" rAppend (tVar i) (tCons te tNil))) tz D σ H :=
  ⟨_, hs, Or.inl ⟨rfl, acc, SqL.of hL⟩, h H s _ fun v G2 H2 g p => ⟨L, acc, v, rfl, rfl, g.hh L _ hL, Nat.lt_of_lt_of_le hz (by decide), k v G2 H2 g p⟩⟩
theorem s_extB {α : Type} {p : α → Pr} {l : List α} {L : Addr} {acc : List V} {i : Nat} (hs : σ[i]? = some (some (.ref L))) (hL : H L = some (.lst acc)) (hz : acc.length + l.length ≤ 16000000) (h : Ev te σ G (Ls p l)) (s : Same G H)
    (k : ∀ xs G2 H2, Gr G H G2 H2 → Al (fun x v => p x G2 v) l xs → D.nx σ (upd H2 L (.lst (acc ++ xs)))) : tDrop (tBM K "list" rExtend (tVar i) (tCons te tNil)) D σ H :=
  ⟨_, hs, Or.inl ⟨rfl, acc, SqL.of hL⟩, h H s _ fun v G2 H2 g ⟨b, xs, e, h1, al⟩ => ⟨L, b, acc, xs, rfl, by rw [e], g.hh L _ hL, g.gh b _ h1, by rw [al.length]; exact Nat.le_trans hz (by decide), k xs G2 H2 g al⟩⟩
end
theorem wf_start : Wf Vbhlae.start := ⟨by decide, by decide, rfl, fun b hb => by
  have hb : some b ∈ List.replicate 3 (none : Option Vbhlae.Band) := hb
  have := List.eq_of_mem_replicate hb
  cases this⟩
/-- a part of the heap: one place -/
def only1 (H : Hp) (x : Addr) : Hp := fun y => if y = x then H y else none
theorem only1_same {H : Hp} {x : Addr} : Same (only1 H x) H := fun y o h => by
  unfold only1 at h
  split at h
  · exact h
  · cases h
theorem only1_none {H : Hp} {x y : Addr} (h : H y = none) : only1 H x y = none := by
  unfold only1
  split
  · exact h
  · rfl
theorem only1_seq {K : PySem.W.Frag} {H : Hp} {x : Addr} {xs : List V} (h : SqL K H x xs) : SqL K (only1 H x) x xs := by
  have e : only1 H x x = H x := if_pos rfl
  rcases h with (h | ⟨o, h⟩) | h
  · exact .inl (.inl (e.trans h))
  · exact .inl (.inr ⟨o, e.trans h⟩)
  · exact .inr h
section
variable {P : Program} {w : World} {K : PySem.W.Frag} {mg : Str → Option Value} {base : Heap} {f : Addr} {fd : FuncData} {CA CB CR : Addr} {e : Cl}
/-- where the loop stands: what is answered, what is left -/
def At5 (K : PySem.W.Frag) (CA CB CR : Addr) (l : List Int) (la a r L : Addr) (j : Nat) (H : Hp) : Prop := ∃ (m : Vbhlae.Aid) (G B : Hp) (dr : Addr) (p fu : Nat) (cs : List (List (List Int))) (acc : List Int), Hold CA CB G B H a m ∧ H r = some (.ins CR dr (rF (.ref la) p)) ∧ G r = none ∧ B r = none ∧ SqL K G la (l.map V.int) ∧
  H L = some (.lst (acc.map V.int)) ∧ G L = none ∧ B L = none ∧ p ≤ l.length ∧ j = l.length - p ∧ PyFlat.calls PyVbhlae.shape fu (l.drop p) = some cs ∧ (∀ c ∈ cs, VbhlaeNeutral.asked1 (PyVbhlae.whole c) = true) ∧ PyVbhlae.answers l = acc ++ PyFlat.told (PyFlat.played VbhlaeNeutral.step m (cs.map PyVbhlae.whole))
abbrev st_answers : Stmt := top 104
theorem sc_answers : FnScope ["calls", "aid", "reader", "given", "answer"] ["calls"] (defScope st_answers) := ⟨rfl, rfl, rfl, by decide +kernel, rfl, by decide +kernel, by decide +kernel⟩
def sp_answers (K : PySem.W.Frag) : Sp := fun vs H Q _ => ∃ (la : Addr) (l : List Int), vs = [.ref la] ∧ SqL K H la (l.map V.int) ∧ PyVbhlae.answers_asked l = true ∧ ∀ L H', H' L = some (.lst ((PyVbhlae.answers l).map V.int)) → Q (.ref L) H'
theorem ok_answers (A : At K mg "answers" st_answers ["calls"] f fd) (T : Txt mg) (TA : AidT K CA CB) (RT : RdT K CR) (D_Aid : MkD P w K mg base 41 "Aid" CA ["self"] (sp_Aid_init CA)) (D_Reader : MkD P w K mg base 41 "Reader" CR ["self", "numbers"] (sp_Reader_init CR))
    (M_is_at_end : MDfn P w K mg base CX0 41 CR "is_at_end" ["self"] (sp_is_at_end K CR)) (D_answer_next : Dfn P w K mg base CX0 61 "answer_next" ["aid", "reader"] (sp_next K CA CB CR)) : FnOk P w K mg base CX0 70 f fd ["calls"] (sp_answers K) := by
  refine A.fn.ok sc_answers (fun vs H Q E h => by obtain ⟨_, _, rfl, _⟩ := h; rfl) (fun cdv Ar outer s H vs Q E hr h => ⟨_,
    (pss_cons (ps_set (i := 1) sc_answers.nd rfl (Or.inl rfl) (pe_mkD0 D_Aid (hr.mono (by decide))))
  (pss_cons (ps_set (i := 2) sc_answers.nd rfl (Or.inl rfl) (pe_mkD D_Reader (hr.mono (by decide)) (pa_cons (pv 0) pa_nil)))
  (pss_cons (ps_set (i := 3) sc_answers.nd rfl (Or.inl rfl) (pe_lst pa_nil))
  (pss_cons (ps_while PassesOwn.never (pt_not (pt_val (pe_mth0 M_is_at_end (pv 2) (hr.mono (by decide)))))
   (pss_cons (ps_set (i := 4) sc_answers.nd rfl (Or.inl rfl) (pe_def D_answer_next (hr.mono (by decide)) (pa_cons (pv 1) (pa_cons (pv 2) pa_nil))))
  (pss_cons (ps_expr (pe_bm PySem.F.plainAttrs_list PySem.F.slot_list_append PySem.F.type_list_append mt_append (pv 3) (pa_cons (pe_callB (len_K (K := K) rfl) (by rfl) T.len (by decide +kernel) (pa_cons (pv 4) pa_nil)) pa_nil)))
  (pss_one (ps_expr (pe_bm PySem.F.plainAttrs_list PySem.F.slot_list_extend PySem.F.type_list_extend mt_extend (pv 3) (pa_cons (pv 4) pa_nil)))))))
  (pss_one (ps_ret (pv 3))))))), ?_⟩)
  obtain ⟨la, l, rfl, hsq, hask, k⟩ := h
  obtain ⟨cs0, hcs0, hall0, hlen, hans⟩ := asked_raw hask
  -- the aid
  intro a da ha hda hne
  have ha' : upd H da (.own a) a = none := by
    rw [upd_ne (fun z => hne z.symm)]
    exact ha
  have s0 : Same (only1 H la) (upd (upd H da (.own a)) a (.ins CA da [])) := same_put (same_put only1_same (only1_none hda)) (only1_none ha)
  refine ⟨a, da, only1 H la, rfl, upd_same, only1_none ha, s0, fun vu vl L0 G2 H2 g2 hL0 gL0 hL02 pu pl => ⟨rfl, ?_⟩⟩
  rw [upd_upd] at g2
  have h2a : H2 a = some (.ins CA da (aF vu vl (.ref L0))) := g2.hh a _ upd_same
  have g2a : G2 a = none := g2.fr a (only1_none ha) (by rw [upd_same]; simp)
  have aL0 : a ≠ L0 := ins_ne h2a hL02
  have hold2 : Hold CA CB G2 (upd (upd (fun _ => none) a (.ins CA da (aF vu vl (.ref L0)))) L0 (.lst [.non, .non, .non])) H2 a Vbhlae.start := by
    refine ⟨g2.gh, fun y o hy => ?_, fun y hy => ?_, wf_start, da, L0, vu, vl, [.non, .non, .non], by rw [upd_ne aL0, upd_same], pu, pl, upd_same, ⟨rfl, rfl, rfl, trivial⟩, fun i j p hi => ?_, fun y ys hy => ?_⟩
    · by_cases z : y = L0
      · rw [z, upd_same] at hy
        rw [z, hL02]
        exact hy
      · rw [upd_ne z] at hy
        by_cases z2 : y = a
        · rw [z2, upd_same] at hy
          rw [z2, h2a]
          exact hy
        · rw [upd_ne z2] at hy
          cases hy
    · rcases upd_some hy with z | hy
      · rw [z]
        exact gL0
      · rcases upd_some hy with z | hy
        · rw [z]
          exact g2a
        · exact absurd rfl hy
    · have hm := List.mem_of_getElem? hi
      simp at hm
    · by_cases z : y = L0
      · exact z
      · rw [upd_ne z] at hy
        by_cases z2 : y = a
        · rw [z2, upd_same] at hy
          cases hy
        · rw [upd_ne z2] at hy
          cases hy
  have sq2 : SqL K G2 la (l.map V.int) := Same.seq g2.gg (only1_seq hsq)
  revert hold2
  generalize (upd (upd (fun _ => none) a (.ins CA da (aF vu vl (.ref L0)))) L0 (.lst [.non, .non, .non]) : Hp) = B
  intro hold2
  -- the reader
  refine ⟨_, rfl, ?_⟩
  intro r dr hr2 hdr2 hner
  have hr2' : upd H2 dr (.own r) r = none := by
    rw [upd_ne (fun z => hner z.symm)]
    exact hr2
  refine ⟨r, dr, .ref la, rfl, upd_same, rfl, ?_⟩
  have g2r : G2 r = none := gone hold2.sg hr2
  have b2r : B r = none := gone hold2.sb hr2
  have g3 : Gr G2 H2 G2 (upd (upd (upd H2 dr (.own r)) r (.ins CR dr [])) r (.ins CR dr (rF (.ref la) 0))) := (((Gr.refl hold2.sg).hold hdr2).hold hr2').put hr2 g2r
  rw [upd_upd] at g3 ⊢
  have hold3 := hold2.gr g3
  have h3r : upd (upd H2 dr (.own r)) r (.ins CR dr (rF (.ref la) 0)) r = some (.ins CR dr (rF (.ref la) 0)) := upd_same
  revert hold3 h3r
  generalize upd (upd H2 dr (.own r)) r (.ins CR dr (rF (.ref la) 0)) = H3
  intro hold3 h3r
  -- the list of answers
  refine ⟨Nat.zero_le _, fun L hL => ?_⟩
  have gL : G2 L = none := gone hold3.sg hL
  have bL : B L = none := gone hold3.sb hL
  have hold4 : Hold CA CB G2 B (upd H3 L (.lst [])) a Vbhlae.start := hold3.out gL bL
  have Lr : r ≠ L := fun z => by
    rw [z, hL] at h3r
    cases h3r
  show tSeq (tWhile _ _) _ _ _ _
  refine ⟨fun j σ Hi => ∃ x : Option V, σ = [some (.ref la), some (.ref a), some (.ref r), some (.ref L), x] ∧ At5 K CA CB CR l la a r L j Hi, ⟨l.length - 0, none, rfl, Vbhlae.start, G2, B, dr, 0, l.length, cs0, [], hold4, by rw [upd_ne Lr]; exact h3r, g2r, b2r, sq2, upd_same, gL, bL, Nat.zero_le _, rfl, hcs0, hall0, by rw [hans]; rfl⟩, ?_⟩
  rintro j σ Hi ⟨x, rfl, m, G, B, dr, p, fu, cs, acc, hd, hir, gr, br, sq, hiL, gL, bL, hp, rfl, hcs, hall, hans⟩
  refine ⟨_, rfl, r, dr, _, rfl, hir, rF_m _ _ (by decide +kernel) (by decide +kernel), r, dr, la, l, p, rfl, hir, Same.seq hd.sg sq, _, rfl, ?_⟩
  by_cases hc : l.length ≤ p
  · rw [decide_eq_true hc]
    refine iteF ?_
    have : p = l.length := by omega
    subst this
    rw [List.drop_length] at hcs
    have := flat_end hcs
    subst this
    have e : PyVbhlae.answers l = acc := by
      rw [hans]
      exact List.append_nil _
    rw [← e] at hiL
    exact ⟨_, rfl, k L Hi hiL⟩
  · rw [decide_eq_false hc]
    refine iteT ?_
    refine ⟨fun σ' H' => ∃ j', j' < l.length - p ∧ ∃ x : Option V, σ' = [some (.ref la), some (.ref a), some (.ref r), some (.ref L), x] ∧ At5 K CA CB CR l la a r L j' H', fun σ' H' ⟨j', h1, h2⟩ => ⟨j', h1, h2⟩, ?_⟩
    obtain ⟨y, n, kk, p', f', rows, cs', f1, f2, f3, f4, f5, f6, f7, f8⟩ := flat_calls (by omega) hcs
    subst f5
    have hask1 := hall _ List.mem_cons_self
    obtain ⟨c, e1, e2, e3, e4, hf⟩ := raw_call f2 (by rw [List.length_take, List.length_drop]; omega) (rdRows_len l kk _ rows p' f4) hask1
    have hn : (numsOf c).length = n := by
      rw [e3, List.length_take, List.length_drop]
      omega
    have ra : ReadsAs l p c p' := by
      refine ⟨by rw [e2]; exact f1, by omega, by rw [hn]; exact e3.symm, ?_⟩
      rw [hn, e4, rdRows_len l kk _ rows p' f4]
      exact f4
    have es : VbhlaeNeutral.step m (PyVbhlae.whole ((y :: (l.drop (p + 1)).take n) :: rows)) = Vbhlae.step m c := by
      unfold VbhlaeNeutral.step
      rw [e1]
    have hans2 : PyVbhlae.answers l = acc ++ ((((Vbhlae.step m c).2.length : Int) :: (Vbhlae.step m c).2) ++ PyFlat.told (PyFlat.played VbhlaeNeutral.step (Vbhlae.step m c).1 (cs'.map PyVbhlae.whole))) := by
      rw [hans, List.map_cons]
      show acc ++ PyFlat.told ((VbhlaeNeutral.step m _).2 :: PyFlat.played VbhlaeNeutral.step (VbhlaeNeutral.step m _).1 _) = _
      rw [told_cons, es]
    have hl2 : acc.length + 1 + (Vbhlae.step m c).2.length ≤ 10000000 := by
      have := hlen
      rw [hans2] at this
      simp only [List.length_append, List.length_cons] at this
      omega
    refine ⟨_, rfl, _, rfl, m, c, G, B, a, r, dr, la, l, p, p', rfl, hd, hir, gr, br, sq, ra, hf, by omega, fun v G5 B5 H5 a5 h5 p5 => ?_⟩
    have hrL : r ≠ L := fun z => by
      rw [z, hiL] at hir
      cases hir
    obtain ⟨g5r, b5r, h5r⟩ := a5.fr r gr br (by rw [upd_same]; simp)
    obtain ⟨g5L, b5L, h5L⟩ := a5.fr L gL bL (by rw [upd_ne (fun z => hrL z.symm), hiL]; simp)
    rw [upd_same] at h5r
    rw [upd_ne (fun z => hrL z.symm), hiL] at h5L
    revert hans2 hl2 p5 h5
    generalize Vbhlae.step m c = st
    obtain ⟨m', ans⟩ := st
    intro hans2 hl2 h5 p5
    dsimp only at hans2 hl2 h5 p5
    refine q_appB (G := G5) rfl h5L (by rw [List.length_map]; omega) (e_len (p := PI) (l := ans) (e_var rfl p5)) h5.sg fun v1 G6 H6 g6 e6 => ?_
    obtain rfl := e6
    have h6 := h5.gr g6
    have g6L : G6 L = none := g6.fr L g5L (by rw [h5L]; simp)
    have h6' : Hold CA CB G6 B5 (upd H6 L (.lst (acc.map V.int ++ [.int (ans.length : Int)]))) a m' := h6.out g6L b5L
    refine s_extB (G := G6) (p := PI) (l := ans) rfl upd_same (by rw [List.length_append, List.length_map, List.length_singleton]; omega) (e_var rfl (Mo.up (P := Row ans) g6.gg p5)) h6'.sg fun xs G7 H7 g7 e7 => ?_
    obtain rfl := ints_al e7
    have h7 := h6'.gr g7
    have g7L : G7 L = none := g7.fr L g6L (by rw [upd_same]; simp)
    have h7' : Hold CA CB G7 B5 (upd H7 L (.lst (acc.map V.int ++ [.int (ans.length : Int)] ++ ans.map V.int))) a m' := h7.out g7L b5L
    have g6r : G6 r = none := g6.fr r g5r (by rw [h5r]; simp)
    have h6r : upd H6 L (.lst (acc.map V.int ++ [.int (ans.length : Int)])) r = some (.ins CR dr (rF (.ref la) p')) := by
      rw [upd_ne hrL]
      exact g6.hh r _ h5r
    have h7r : upd H7 L (.lst (acc.map V.int ++ [.int (ans.length : Int)] ++ ans.map V.int)) r = some (.ins CR dr (rF (.ref la) p')) := by
      rw [upd_ne hrL]
      exact g7.hh r _ h6r
    refine ⟨l.length - p', by omega, some v, rfl, m', G7, B5, dr, p', f', cs', acc ++ (((ans.length : Int)) :: ans), h7', h7r, g7.fr r g6r (by rw [h6r]; simp), b5r, Same.seq (same_trans (same_trans a5.gg g6.gg) g7.gg) sq, ?_, g7L, b5L, f8, rfl, f6, fun c hc => hall c (List.mem_cons_of_mem _ hc), ?_⟩
    · rw [upd_same]
      simp
    · rw [hans2, List.append_assoc]
end
end Qa
set_option Elab.async false
set_option linter.all false
set_option maxRecDepth 100000
set_option maxHeartbeats 4000000
/-! All together. -/
namespace Qa
open PySem PySem.Spec PyProof.Rows L2 Qm
open Vbhlae (at_ Call)
theorem at_mk {K : PySem.W.Frag} {h : Heap} {mg : Str → Option Value} (X : K.In h) (G : h.Ns mainGlobals mg) {x : Str} {st : Stmt} {ps : List Str} {f : Addr} {oc : Value} {od an : Option Addr} {osl : Array (Option Value)} {kV doc pm cdv ct : Value}
    (a : PySem.W.nsIn K mainGlobals x = some (some (.ref f))) (l : K.lookup f = some ⟨oc, od, .func (PySem.W.fnOf x x (defArgs st) (defBody st) (defScope st) .none kV doc pm an cdv ct), osl⟩) (c : PySem.W.codeIn K cdv x = true) (k : PySem.W.keepIn K (.ref f) = true)
    (hb : ∀ (kV doc pm : Value) (an : Option Addr) (cdv ct : Value) (us : List Value), us.length = ps.length → bindArgs (PySem.W.fnOf x x (defArgs st) (defBody st) (defScope st) .none kV doc pm an cdv ct) ⟨us, []⟩ = pure (ps.zip us)) : ∃ fd, At K mg x st ps f fd ∧ ∀ (s : Shared) (us : List Value), us.length = ps.length → BindsTo s fd ⟨us, []⟩ (ps.zip us) := by
  have F := fun_mk (st := st) l c k
  exact ⟨_, ⟨F, PySem.W.mg_of X G a, F.binds hb⟩, fun s us hl => .of_eq (hb _ _ _ _ _ _ us hl)⟩
theorem cst_mk {K : PySem.W.Frag} {h : Heap} {mg : Str → Option Value} (X : K.In h) (G : h.Ns mainGlobals mg) {x : Str} {i : Int} {t : Tok} (a : PySem.W.nsIn K mainGlobals x = some (some (.int i t))) : Cst mg x i := ⟨t, PySem.W.mg_of X G a⟩
/-- a def at an address -/
def DefAt (K : PySem.W.Frag) (mg : Str → Option Value) (x : Str) (st : Stmt) (ps : List Str) (f : Addr) : Prop := ∃ fd, At K mg x st ps f fd ∧ ∀ (s : Shared) (us : List Value), us.length = ps.length → BindsTo s fd ⟨us, []⟩ (ps.zip us)
theorem mat_mk {K : PySem.W.Frag} {C : Addr} (cl : Cls K C) {m qual : Str} {st : Stmt} {ps : List Str} {f : Addr} {oc : Value} {od an : Option Addr} {osl : Array (Option Value)} {kV doc pm cdv ct : Value}
    (a : PySem.W.findIn K (.ref C) m = some (some (.ref f))) (i : PySem.W.isFn K (.ref f) = true) (l : K.lookup f = some ⟨oc, od, .func (PySem.W.fnOf m qual (defArgs st) (defBody st) (defScope st) .none kV doc pm an cdv ct), osl⟩) (c : PySem.W.codeIn K cdv qual = true) (k : PySem.W.keepIn K (.ref f) = true)
    (hb : ∀ (kV doc pm : Value) (an : Option Addr) (cdv ct : Value) (us : List Value), us.length = ps.length → bindArgs (PySem.W.fnOf m qual (defArgs st) (defBody st) (defScope st) .none kV doc pm an cdv ct) ⟨us, []⟩ = pure (ps.zip us)) : ∃ f fd, MAt K C m qual st ps f fd := by
  have F := fun_mk (st := st) l c k
  exact ⟨f, _, F, cl, ⟨a, i, k⟩, F.binds hb⟩
/-- a class's __init__ -/
def InitAt (K : PySem.W.Frag) (C : Addr) (qual : Str) (st : Stmt) (ps : List Str) : Prop := ∃ f fd, Mk K C f ∧ Fun K "__init__" qual st f fd ∧ Binds K fd ps []
theorem init_mk {K : PySem.W.Frag} {C : Addr} {qual : Str} {st : Stmt} {ps : List Str} {f : Addr} {oc : Value} {od an : Option Addr} {osl : Array (Option Value)} {kV doc pm cdv ct : Value} (mk : PySem.W.makesIn K C = true) (kc : PySem.W.keepIn K (.ref C) = true)
    (a : PySem.W.findIn K (.ref C) "__init__" = some (some (.ref f))) (i : PySem.W.isFn K (.ref f) = true) (l : K.lookup f = some ⟨oc, od, .func (PySem.W.fnOf "__init__" qual (defArgs st) (defBody st) (defScope st) .none kV doc pm an cdv ct), osl⟩) (c : PySem.W.codeIn K cdv qual = true) (k : PySem.W.keepIn K (.ref f) = true)
    (hb : ∀ (kV doc pm : Value) (an : Option Addr) (cdv ct : Value) (us : List Value), us.length = ps.length → bindArgs (PySem.W.fnOf "__init__" qual (defArgs st) (defBody st) (defScope st) .none kV doc pm an cdv ct) ⟨us, []⟩ = pure (ps.zip us)) : InitAt K C qual st ps := by
  have F := fun_mk (st := st) l c k
  exact ⟨f, _, ⟨mk, a, i, kc⟩, F, F.binds hb⟩
theorem exm_mk {K : PySem.W.Frag} {t c : Addr} {v : Bool} (h1 : PySem.W.subIn K (.ref c) (.type "BaseException") = some true) (h2 : PySem.W.isClsIn K c = true) (h3 : PySem.W.typeIn K (.ref c) = some (.type "type")) (h4 : PySem.W.subIn K (.ref t) (.ref c) = some v) : PySem.W.exmOne K (.ref t) (.ref c) = some v := by
  have e1 : (PySem.W.subIn K (.ref c) (.type "BaseException") == some true) = true := by rw [h1] <;> rfl
  have e2 : ((PySem.W.clsIn K c).isSome && PySem.W.typeIn K (.ref c) == some (.type "type")) = true := by
    have h2' : (PySem.W.clsIn K c).isSome = true := h2
    rw [h2', h3] <;> rfl
  show (if (PySem.W.subIn K (.ref c) (.type "BaseException") == some true) = true then (if ((PySem.W.clsIn K c).isSome && PySem.W.typeIn K (.ref c) == some (.type "type")) = true then PySem.W.subIn K (.ref t) (.ref c) else none) else none) = some v
  rw [if_pos e1, if_pos e2]
  exact h4
theorem rel_abs {u : Value} {x : V} (h : absV u = some x) : RelV x u := by
  cases u <;> first | (cases h; rfl) | (cases h; exact ⟨_, rfl⟩) | (cases h)
def absAll : List Value → Option (List V)
  | [] => some []
  | u :: us => match absV u, absAll us with
    | some x, some xs => some (x :: xs)
    | _, _ => none
theorem vals_abs : ∀ {us : List Value} {xs : List V}, absAll us = some xs → Vals xs us
  | [], xs, h => by
    cases h
    exact .nil
  | u :: us, xs, h => by
    unfold absAll at h
    cases e1 : absV u with
    | none =>
      rw [e1] at h
      cases h
    | some x =>
      cases e2 : absAll us with
      | none =>
        rw [e1, e2] at h
        cases h
      | some ys =>
        rw [e1, e2] at h
        cases h
        exact .cons (rel_abs e1) (vals_abs e2)
theorem tab_mk {K : PySem.W.Frag} {h : Heap} {mg : Str → Option Value} (X : K.In h) (G : h.Ns mainGlobals mg) {x : Str} {p : Addr} {od : Option Addr} {osl : Array (Option Value)} {its : List Value} {n : Nat} {xs : List V} (a : PySem.W.nsIn K mainGlobals x = some (some (.ref p))) (l : K.lookup p = some ⟨.type "tuple", od, .seq its.toArray n, osl⟩)
    (v : absAll its = some xs) (z : its.length ≤ 1000) : Tab K mg x xs := ⟨p, PySem.W.mg_of X G a, fun H => .inr ⟨_, _, n, l, rfl, rfl, by rw [List.size_toArray]; exact Nat.le_trans z (by decide), by simpa using vals_abs v⟩⟩
structure Facts (K : PySem.W.Frag) (mg : Str → Option Value) (CA CB CR cO cB cR cS cQ : Addr) (f0 f1 f2 f3 f4 f5 f6 f7 f8 f9 f10 f11 f12 f13 f14 f15 f16 f17 f18 f19 fa : Addr) : Prop where
  g_Aid : mg "Aid" = some (.ref CA)
  g_Band : mg "Band" = some (.ref CB)
  g_Reader : mg "Reader" = some (.ref CR)
  k_Aid : Cls K CA
  k_Band : Cls K CB
  k_Reader : Cls K CR
  n_Aid_leak_up : NoAttr K CA "leak_up"
  n_Aid_leak_low : NoAttr K CA "leak_low"
  n_Aid_bands : NoAttr K CA "bands"
  n_Band_gain : NoAttr K CB "gain"
  n_Band_up : NoAttr K CB "up"
  n_Band_low : NoAttr K CB "low"
  n_Reader_numbers : NoAttr K CR "numbers"
  n_Reader_place : NoAttr K CR "place"
  ne : CA ≠ CB
  e_o : Err K mg "OutOfRange" cO
  e_b : Err K mg "NoBand" cB
  e_r : Err K mg "NoRing" cR
  e_s : Err K mg "WrongSize" cS
  e_q : Err K mg "NotQuiet" cQ
  i_o : PySem.W.isClsIn K cO = true
  i_b : PySem.W.isClsIn K cB = true
  i_r : PySem.W.isClsIn K cR = true
  i_s : PySem.W.isClsIn K cS = true
  i_q : PySem.W.isClsIn K cQ = true
  s_oo : PySem.W.subIn K (.ref cO) (.ref cO) = some true
  s_bo : PySem.W.subIn K (.ref cB) (.ref cO) = some false
  s_bb : PySem.W.subIn K (.ref cB) (.ref cB) = some true
  s_ro : PySem.W.subIn K (.ref cR) (.ref cO) = some false
  s_rb : PySem.W.subIn K (.ref cR) (.ref cB) = some false
  s_rr : PySem.W.subIn K (.ref cR) (.ref cR) = some true
  s_so : PySem.W.subIn K (.ref cS) (.ref cO) = some false
  s_sb : PySem.W.subIn K (.ref cS) (.ref cB) = some false
  s_sr : PySem.W.subIn K (.ref cS) (.ref cR) = some false
  s_ss : PySem.W.subIn K (.ref cS) (.ref cS) = some true
  s_qo : PySem.W.subIn K (.ref cQ) (.ref cO) = some false
  s_qb : PySem.W.subIn K (.ref cQ) (.ref cB) = some false
  s_qr : PySem.W.subIn K (.ref cQ) (.ref cR) = some false
  s_qs : PySem.W.subIn K (.ref cQ) (.ref cS) = some false
  s_qq : PySem.W.subIn K (.ref cQ) (.ref cQ) = some true
  z_len : mg "len" = none
  z_abs : mg "abs" = none
  z_max : mg "max" = none
  z_min : mg "min" = none
  z_sum : mg "sum" = none
  z_any : mg "any" = none
  z_range : mg "range" = none
  z_zip : mg "zip" = none
  z_enumerate : mg "enumerate" = none
  c_LAST_BAND : Cst mg "LAST_BAND" 2
  c_GAIN_MOST : Cst mg "GAIN_MOST" 1000
  c_FILTER_MOST : Cst mg "FILTER_MOST" 100
  c_UPPER_LONGEST : Cst mg "UPPER_LONGEST" 4
  c_LOWER_LONGEST : Cst mg "LOWER_LONGEST" 3
  c_PROOF_LONGEST : Cst mg "PROOF_LONGEST" 200
  c_INPUTS_LONGEST : Cst mg "INPUTS_LONGEST" 16
  c_INPUT_MOST : Cst mg "INPUT_MOST" 1000
  c_ANSWERS_LONGEST : Cst mg "ANSWERS_LONGEST" 16
  c_BEGINNING_LONGEST : Cst mg "BEGINNING_LONGEST" 12
  c_BEGINNING_MOST : Cst mg "BEGINNING_MOST" 1000
  c_PARTS_MOST : Cst mg "PARTS_MOST" 100
  c_VOLUMES_MOST : Cst mg "VOLUMES_MOST" 60
  c_ROW_LONGEST : Cst mg "ROW_LONGEST" 12
  c_ROW_MOST : Cst mg "ROW_MOST" 1000000
  c_LATER_MOST : Cst mg "LATER_MOST" 3
  c_VOLUME_MOST : Cst mg "VOLUME_MOST" 1000
  a_common_of_two : ∃ f, DefAt K mg "common_of_two" (top 1) ["one", "other"] f
  a_common_divisor : ∃ f, DefAt K mg "common_divisor" (top 2) ["row"] f
  a_scaled : ∃ f, DefAt K mg "scaled" (top 3) ["row", "factor"] f
  a_divided : ∃ f, DefAt K mg "divided" (top 4) ["row", "divisor"] f
  a_padded : ∃ f, DefAt K mg "padded" (top 5) ["row", "size"] f
  a_added : ∃ f, DefAt K mg "added" (top 6) ["one", "other"] f
  a_product : ∃ f, DefAt K mg "product" (top 7) ["one", "other"] f
  a_without_end_zeros : ∃ f, DefAt K mg "without_end_zeros" (top 8) ["row"] f
  a_reduced : ∃ f, DefAt K mg "reduced" (top 9) ["row"] f
  a_plain : ∃ f, DefAt K mg "plain" (top 10) ["row"] f
  a_counted : ∃ f, DefAt K mg "counted" (top 11) ["rows"] f
  a_lowest : ∃ f, DefAt K mg "lowest" (top 13) ["upper", "lower"] f
  a_sum_of_two : ∃ f, DefAt K mg "sum_of_two" (top 14) ["one", "other"] f
  a_product_of_two : ∃ f, DefAt K mg "product_of_two" (top 15) ["one", "other"] f
  a_scaled_ratio : ∃ f, DefAt K mg "scaled_ratio" (top 16) ["ratio", "factor"] f
  a_spread : ∃ f, DefAt K mg "spread" (top 17) ["ratios"] f
  a_weighed : ∃ f, DefAt K mg "weighed" (top 19) ["row", "start", "values", "t"] f
  a_answers_to : ∃ f, DefAt K mg "answers_to" (top 20) ["upper", "lower", "inputs"] f
  a_click_inputs : ∃ f, DefAt K mg "click_inputs" (top 21) ["how_many"] f
  a_upper_behind : ∃ f, DefAt K mg "upper_behind" (top 22) ["beginning", "lower"] f
  a_less_turned_end : ∃ f, DefAt K mg "less_turned_end" (top 23) ["row", "beside"] f
  a_loudness : ∃ f, DefAt K mg "loudness" (top 24) ["upper", "lower"] f
  a_step_of : ∃ f, DefAt K mg "step_of" (top 26) ["row"] f
  a_told_steps : ∃ f, DefAt K mg "told_steps" (top 27) ["row"] f
  a_come_to_one_number : ∃ f, DefAt K mg "come_to_one_number" (top 28) ["steps"] f
  a_is_quiet : ∃ f, DefAt K mg "is_quiet" (top 29) ["row"] f
  a_is_proof : ∃ f, DefAt K mg "is_proof" (top 30) ["rows", "row"] f
  a_rows_told_in : ∃ f, DefAt K mg "rows_told_in" (top 31) ["numbers"] f
  a_want_between : ∃ f, DefAt K mg "want_between" (top 59) ["number", "least", "most"] f
  a_want_list : ∃ f, DefAt K mg "want_list" (top 60) ["numbers", "shortest", "longest", "most"] f
  a_want_band_number : ∃ f, DefAt K mg "want_band_number" (top 61) ["i"] f
  a_want_gain : ∃ f, DefAt K mg "want_gain" (top 62) ["n", "d"] f
  a_want_filter : ∃ f, DefAt K mg "want_filter" (top 63) ["up", "low"] f
  a_want_proof : ∃ f, DefAt K mg "want_proof" (top 64) ["numbers"] f
  a_want_inputs : ∃ f, DefAt K mg "want_inputs" (top 65) ["inputs"] f
  a_want_freed : ∃ f, DefAt K mg "want_freed" (top 66) ["n", "beginning"] f
  a_want_as_many : ∃ f, DefAt K mg "want_as_many" (top 67) ["beginning", "row"] f
  a_want_volumes : ∃ f, DefAt K mg "want_volumes" (top 68) ["d", "m"] f
  a_want_row : ∃ f, DefAt K mg "want_row" (top 69) ["numbers"] f
  a_want_later : ∃ f, DefAt K mg "want_later" (top 70) ["k"] f
  a_want_room : ∃ f, DefAt K mg "want_room" (top 71) ["up"] f
  a_want_click : ∃ f, DefAt K mg "want_click" (top 72) ["n"] f
  a_want_volume : ∃ f, DefAt K mg "want_volume" (top 73) ["n", "d"] f
  a_yes_or_no : ∃ f, DefAt K mg "yes_or_no" (top 75) ["holds"] f
  a_make_next_call : ∃ f, DefAt K mg "make_next_call" (top 99) ["aid", "reader"] f
  a_answer_next : ∃ f, DefAt K mg "answer_next" (top 103) ["aid", "reader"] f
  a_leak : DefAt K mg "leak" (top 76) ["aid", "numbers", "lists"] f0
  a_band : DefAt K mg "band" (top 77) ["aid", "numbers", "lists"] f1
  a_gain : DefAt K mg "gain" (top 78) ["aid", "numbers", "lists"] f2
  a_mute : DefAt K mg "mute" (top 79) ["aid", "numbers", "lists"] f3
  a_ring : DefAt K mg "ring" (top 80) ["aid", "numbers", "lists"] f4
  a_quiet : DefAt K mg "quiet" (top 81) ["aid", "numbers", "lists"] f5
  a_steps : DefAt K mg "steps" (top 82) ["aid", "numbers", "lists"] f6
  a_check : DefAt K mg "check" (top 83) ["aid", "numbers", "lists"] f7
  a_loud : DefAt K mg "loud" (top 84) ["aid", "numbers", "lists"] f8
  a_play : DefAt K mg "play" (top 85) ["aid", "numbers", "lists"] f9
  a_freed : DefAt K mg "freed" (top 86) ["aid", "numbers", "lists"] f10
  a_volume : DefAt K mg "volume" (top 87) ["aid", "numbers", "lists"] f11
  a_alone : DefAt K mg "alone" (top 88) ["aid", "numbers", "lists"] f12
  a_row : DefAt K mg "row" (top 89) ["aid", "numbers", "lists"] f13
  a_ends : DefAt K mg "ends" (top 90) ["aid", "numbers", "lists"] f14
  a_later : DefAt K mg "later" (top 91) ["aid", "numbers", "lists"] f15
  a_turn : DefAt K mg "turn" (top 92) ["aid", "numbers", "lists"] f16
  a_told : DefAt K mg "told" (top 93) ["aid", "numbers", "lists"] f17
  a_click : DefAt K mg "click" (top 94) ["aid", "numbers", "lists"] f18
  a_quiet_at : DefAt K mg "quiet_at" (top 95) ["aid", "numbers", "lists"] f19
  a_answers : DefAt K mg "answers" (top 104) ["calls"] fa
  m_put_leak : ∃ f fd, MAt K CA "put_leak" "Aid.put_leak" (inClass (top 40) 1) ["self", "up", "low"] f fd
  m_put_band : ∃ f fd, MAt K CA "put_band" "Aid.put_band" (inClass (top 40) 2) ["self", "i", "band"] f fd
  m_take_band_out : ∃ f fd, MAt K CA "take_band_out" "Aid.take_band_out" (inClass (top 40) 3) ["self", "i"] f fd
  m_band_at : ∃ f fd, MAt K CA "band_at" "Aid.band_at" (inClass (top 40) 4) ["self", "i"] f fd
  m_together : ∃ f fd, MAt K CA "together" "Aid.together" (inClass (top 40) 5) ["self", "n", "d"] f fd
  m_rows_at : ∃ f fd, MAt K CA "rows_at" "Aid.rows_at" (inClass (top 40) 6) ["self", "n", "d"] f fd
  m_heard_in_all : ∃ f fd, MAt K CA "heard_in_all" "Aid.heard_in_all" (inClass (top 40) 7) ["self"] f fd
  m_ring_row : ∃ f fd, MAt K CA "ring_row" "Aid.ring_row" (inClass (top 40) 8) ["self"] f fd
  m_is_quiet_at : ∃ f fd, MAt K CA "is_quiet_at" "Aid.is_quiet_at" (inClass (top 40) 9) ["self", "n", "d"] f fd
  m_is_at_end : ∃ f fd, MAt K CR "is_at_end" "Reader.is_at_end" (inClass (top 101) 1) ["self"] f fd
  m_take_number : ∃ f fd, MAt K CR "take_number" "Reader.take_number" (inClass (top 101) 2) ["self"] f fd
  m_take_numbers : ∃ f fd, MAt K CR "take_numbers" "Reader.take_numbers" (inClass (top 101) 3) ["self", "how_many"] f fd
  m_take_list : ∃ f fd, MAt K CR "take_list" "Reader.take_list" (inClass (top 101) 4) ["self"] f fd
  m_take_lists : ∃ f fd, MAt K CR "take_lists" "Reader.take_lists" (inClass (top 101) 5) ["self", "how_many"] f fd
  init_Aid : InitAt K CA "Aid.__init__" (inClass (top 40) 0) ["self"]
  init_Band : InitAt K CB "Band.__init__" (inClass (top 39) 0) ["self", "n", "d", "up", "low"]
  init_Reader : InitAt K CR "Reader.__init__" (inClass (top 101) 0) ["self", "numbers"]
  t_N : Tab K mg "HOW_MANY_NUMBERS" (hmN.map V.int)
  t_L : Tab K mg "HOW_MANY_LISTS" (hmL.map V.int)
  t_C : Tab K mg "CALLS" ([f0, f1, f2, f3, f4, f5, f6, f7, f8, f9, f10, f11, f12, f13, f14, f15, f16, f17, f18, f19].map V.ref)
set_option maxHeartbeats 16000000 in
theorem all_fin {P : Program} {w : World} {K : PySem.W.Frag} {mg : Str → Option Value} {CA CB CR : Addr} {e : Cl} {f0 f1 f2 f3 f4 f5 f6 f7 f8 f9 f10 f11 f12 f13 f14 f15 f16 f17 f18 f19 fa fb : Addr} (hT : P.given.tree = none) (hfa : mg "answers" = some (.ref fb)) (Z : Facts K mg CA CB CR e.o e.b e.r e.s e.q f0 f1 f2 f3 f4 f5 f6 f7 f8 f9 f10 f11 f12 f13 f14 f15 f16 f17 f18 f19 fa) :
    ∃ fd : FuncData, (∀ (s : Shared) (us : List Value), us.length = (["calls"] : List Str).length → BindsTo s fd ⟨us, []⟩ ((["calls"] : List Str).zip us)) ∧ ∀ base : Heap, base.NoSeer → FnOk P w K mg base CX0 70 fb fd ["calls"] (sp_answers K) := by
  obtain ⟨fd_answers, A_answers, bt⟩ := Z.a_answers
  have ef := hfa.symm.trans A_answers.mg
  cases ef
  refine ⟨fd_answers, bt, fun base hS => ?_⟩
  have T : Txt mg := ⟨Z.z_len, Z.z_abs, Z.z_max, Z.z_min, Z.z_sum, Z.z_any, Z.z_range, Z.z_zip, Z.z_enumerate⟩
  have TA : AidT K CA CB := ⟨Z.k_Aid, Z.k_Band, Z.n_Aid_leak_up, Z.n_Aid_leak_low, Z.n_Aid_bands, Z.n_Band_gain, Z.n_Band_up, Z.n_Band_low, Z.ne⟩
  have RT : RdT K CR := ⟨Z.k_Reader, Z.n_Reader_numbers, Z.n_Reader_place⟩
  have ER : Errs K mg e := ⟨Z.e_o, Z.e_b, Z.e_r, Z.e_s, Z.e_q⟩
  have EX : Exm K e := ⟨exm_mk Z.e_o.b Z.i_o Z.e_o.t Z.s_oo, exm_mk Z.e_o.b Z.i_o Z.e_o.t Z.s_bo, exm_mk Z.e_b.b Z.i_b Z.e_b.t Z.s_bb, exm_mk Z.e_o.b Z.i_o Z.e_o.t Z.s_ro, exm_mk Z.e_b.b Z.i_b Z.e_b.t Z.s_rb, exm_mk Z.e_r.b Z.i_r Z.e_r.t Z.s_rr, exm_mk Z.e_o.b Z.i_o Z.e_o.t Z.s_so, exm_mk Z.e_b.b Z.i_b Z.e_b.t Z.s_sb, exm_mk Z.e_r.b Z.i_r Z.e_r.t Z.s_sr, exm_mk Z.e_s.b Z.i_s Z.e_s.t Z.s_ss, exm_mk Z.e_o.b Z.i_o Z.e_o.t Z.s_qo, exm_mk Z.e_b.b Z.i_b Z.e_b.t Z.s_qb, exm_mk Z.e_r.b Z.i_r Z.e_r.t Z.s_qr, exm_mk Z.e_s.b Z.i_s Z.e_s.t Z.s_qs, exm_mk Z.e_q.b Z.i_q Z.e_q.t Z.s_qq⟩
  obtain ⟨f_common_of_two, fd_common_of_two, A_common_of_two, _⟩ := Z.a_common_of_two
  obtain ⟨f_common_divisor, fd_common_divisor, A_common_divisor, _⟩ := Z.a_common_divisor
  obtain ⟨f_scaled, fd_scaled, A_scaled, _⟩ := Z.a_scaled
  obtain ⟨f_divided, fd_divided, A_divided, _⟩ := Z.a_divided
  obtain ⟨f_padded, fd_padded, A_padded, _⟩ := Z.a_padded
  obtain ⟨f_added, fd_added, A_added, _⟩ := Z.a_added
  obtain ⟨f_product, fd_product, A_product, _⟩ := Z.a_product
  obtain ⟨f_without_end_zeros, fd_without_end_zeros, A_without_end_zeros, _⟩ := Z.a_without_end_zeros
  obtain ⟨f_reduced, fd_reduced, A_reduced, _⟩ := Z.a_reduced
  obtain ⟨f_plain, fd_plain, A_plain, _⟩ := Z.a_plain
  obtain ⟨f_counted, fd_counted, A_counted, _⟩ := Z.a_counted
  obtain ⟨f_lowest, fd_lowest, A_lowest, _⟩ := Z.a_lowest
  obtain ⟨f_sum_of_two, fd_sum_of_two, A_sum_of_two, _⟩ := Z.a_sum_of_two
  obtain ⟨f_product_of_two, fd_product_of_two, A_product_of_two, _⟩ := Z.a_product_of_two
  obtain ⟨f_scaled_ratio, fd_scaled_ratio, A_scaled_ratio, _⟩ := Z.a_scaled_ratio
  obtain ⟨f_spread, fd_spread, A_spread, _⟩ := Z.a_spread
  obtain ⟨f_weighed, fd_weighed, A_weighed, _⟩ := Z.a_weighed
  obtain ⟨f_answers_to, fd_answers_to, A_answers_to, _⟩ := Z.a_answers_to
  obtain ⟨f_click_inputs, fd_click_inputs, A_click_inputs, _⟩ := Z.a_click_inputs
  obtain ⟨f_upper_behind, fd_upper_behind, A_upper_behind, _⟩ := Z.a_upper_behind
  obtain ⟨f_less_turned_end, fd_less_turned_end, A_less_turned_end, _⟩ := Z.a_less_turned_end
  obtain ⟨f_loudness, fd_loudness, A_loudness, _⟩ := Z.a_loudness
  obtain ⟨f_step_of, fd_step_of, A_step_of, _⟩ := Z.a_step_of
  obtain ⟨f_told_steps, fd_told_steps, A_told_steps, _⟩ := Z.a_told_steps
  obtain ⟨f_come_to_one_number, fd_come_to_one_number, A_come_to_one_number, _⟩ := Z.a_come_to_one_number
  obtain ⟨f_is_quiet, fd_is_quiet, A_is_quiet, _⟩ := Z.a_is_quiet
  obtain ⟨f_is_proof, fd_is_proof, A_is_proof, _⟩ := Z.a_is_proof
  obtain ⟨f_rows_told_in, fd_rows_told_in, A_rows_told_in, _⟩ := Z.a_rows_told_in
  obtain ⟨f_want_between, fd_want_between, A_want_between, _⟩ := Z.a_want_between
  obtain ⟨f_want_list, fd_want_list, A_want_list, _⟩ := Z.a_want_list
  obtain ⟨f_want_band_number, fd_want_band_number, A_want_band_number, _⟩ := Z.a_want_band_number
  obtain ⟨f_want_gain, fd_want_gain, A_want_gain, _⟩ := Z.a_want_gain
  obtain ⟨f_want_filter, fd_want_filter, A_want_filter, _⟩ := Z.a_want_filter
  obtain ⟨f_want_proof, fd_want_proof, A_want_proof, _⟩ := Z.a_want_proof
  obtain ⟨f_want_inputs, fd_want_inputs, A_want_inputs, _⟩ := Z.a_want_inputs
  obtain ⟨f_want_freed, fd_want_freed, A_want_freed, _⟩ := Z.a_want_freed
  obtain ⟨f_want_as_many, fd_want_as_many, A_want_as_many, _⟩ := Z.a_want_as_many
  obtain ⟨f_want_volumes, fd_want_volumes, A_want_volumes, _⟩ := Z.a_want_volumes
  obtain ⟨f_want_row, fd_want_row, A_want_row, _⟩ := Z.a_want_row
  obtain ⟨f_want_later, fd_want_later, A_want_later, _⟩ := Z.a_want_later
  obtain ⟨f_want_room, fd_want_room, A_want_room, _⟩ := Z.a_want_room
  obtain ⟨f_want_click, fd_want_click, A_want_click, _⟩ := Z.a_want_click
  obtain ⟨f_want_volume, fd_want_volume, A_want_volume, _⟩ := Z.a_want_volume
  obtain ⟨f_yes_or_no, fd_yes_or_no, A_yes_or_no, _⟩ := Z.a_yes_or_no
  obtain ⟨f_make_next_call, fd_make_next_call, A_make_next_call, _⟩ := Z.a_make_next_call
  obtain ⟨f_answer_next, fd_answer_next, A_answer_next, _⟩ := Z.a_answer_next
  obtain ⟨fd_leak, A_leak, _⟩ := Z.a_leak
  obtain ⟨fd_band, A_band, _⟩ := Z.a_band
  obtain ⟨fd_gain, A_gain, _⟩ := Z.a_gain
  obtain ⟨fd_mute, A_mute, _⟩ := Z.a_mute
  obtain ⟨fd_ring, A_ring, _⟩ := Z.a_ring
  obtain ⟨fd_quiet, A_quiet, _⟩ := Z.a_quiet
  obtain ⟨fd_steps, A_steps, _⟩ := Z.a_steps
  obtain ⟨fd_check, A_check, _⟩ := Z.a_check
  obtain ⟨fd_loud, A_loud, _⟩ := Z.a_loud
  obtain ⟨fd_play, A_play, _⟩ := Z.a_play
  obtain ⟨fd_freed, A_freed, _⟩ := Z.a_freed
  obtain ⟨fd_volume, A_volume, _⟩ := Z.a_volume
  obtain ⟨fd_alone, A_alone, _⟩ := Z.a_alone
  obtain ⟨fd_row, A_row, _⟩ := Z.a_row
  obtain ⟨fd_ends, A_ends, _⟩ := Z.a_ends
  obtain ⟨fd_later, A_later, _⟩ := Z.a_later
  obtain ⟨fd_turn, A_turn, _⟩ := Z.a_turn
  obtain ⟨fd_told, A_told, _⟩ := Z.a_told
  obtain ⟨fd_click, A_click, _⟩ := Z.a_click
  obtain ⟨fd_quiet_at, A_quiet_at, _⟩ := Z.a_quiet_at
  obtain ⟨f_put_leak, fd_put_leak, A_put_leak⟩ := Z.m_put_leak
  obtain ⟨f_put_band, fd_put_band, A_put_band⟩ := Z.m_put_band
  obtain ⟨f_take_band_out, fd_take_band_out, A_take_band_out⟩ := Z.m_take_band_out
  obtain ⟨f_band_at, fd_band_at, A_band_at⟩ := Z.m_band_at
  obtain ⟨f_together, fd_together, A_together⟩ := Z.m_together
  obtain ⟨f_rows_at, fd_rows_at, A_rows_at⟩ := Z.m_rows_at
  obtain ⟨f_heard_in_all, fd_heard_in_all, A_heard_in_all⟩ := Z.m_heard_in_all
  obtain ⟨f_ring_row, fd_ring_row, A_ring_row⟩ := Z.m_ring_row
  obtain ⟨f_is_quiet_at, fd_is_quiet_at, A_is_quiet_at⟩ := Z.m_is_quiet_at
  obtain ⟨f_is_at_end, fd_is_at_end, A_is_at_end⟩ := Z.m_is_at_end
  obtain ⟨f_take_number, fd_take_number, A_take_number⟩ := Z.m_take_number
  obtain ⟨f_take_numbers, fd_take_numbers, A_take_numbers⟩ := Z.m_take_numbers
  obtain ⟨f_take_list, fd_take_list, A_take_list⟩ := Z.m_take_list
  obtain ⟨f_take_lists, fd_take_lists, A_take_lists⟩ := Z.m_take_lists
  obtain ⟨fi_Aid, fdi_Aid, mk_Aid, F_Aid, bi_Aid⟩ := Z.init_Aid
  obtain ⟨fi_Band, fdi_Band, mk_Band, F_Band, bi_Band⟩ := Z.init_Band
  obtain ⟨fi_Reader, fdi_Reader, mk_Reader, F_Reader, bi_Reader⟩ := Z.init_Reader
  have D_common_of_two : Dfn P w K mg base CX0 41 "common_of_two" ["one", "other"] (sp_common_of_two) := A_common_of_two.dfn (ok_common_of_two A_common_of_two T)
  have D_scaled : Dfn P w K mg base CX0 41 "scaled" ["row", "factor"] (sp_scaled) := A_scaled.dfn (ok_scaled A_scaled)
  have D_divided : Dfn P w K mg base CX0 41 "divided" ["row", "divisor"] (sp_divided) := A_divided.dfn (ok_divided A_divided hS hT)
  have D_common_divisor : Dfn P w K mg base CX0 42 "common_divisor" ["row"] (sp_common_divisor) := A_common_divisor.dfn (ok_common_divisor A_common_divisor D_common_of_two)
  have D_padded : Dfn P w K mg base CX0 41 "padded" ["row", "size"] (sp_padded) := A_padded.dfn (ok_padded A_padded T)
  have D_added : Dfn P w K mg base CX0 42 "added" ["one", "other"] (sp_added) := A_added.dfn (ok_added A_added T D_padded)
  have D_product : Dfn P w K mg base CX0 41 "product" ["one", "other"] (sp_product) := A_product.dfn (ok_product A_product T)
  have D_without_end_zeros : Dfn P w K mg base CX0 41 "without_end_zeros" ["row"] (sp_without_end_zeros) := A_without_end_zeros.dfn (ok_without_end_zeros A_without_end_zeros T)
  have D_reduced : Dfn P w K mg base CX0 43 "reduced" ["row"] (sp_reduced) := A_reduced.dfn (ok_reduced A_reduced D_without_end_zeros D_divided D_common_divisor)
  have D_plain : Dfn P w K mg base CX0 44 "plain" ["row"] (sp_plain) := A_plain.dfn (ok_plain A_plain D_reduced D_scaled)
  have D_lowest : Dfn P w K mg base CX0 42 "lowest" ["upper", "lower"] (sp_lowest) := A_lowest.dfn (ok_lowest A_lowest hS hT D_common_of_two)
  have D_want_between : Dfn P w K mg base (L2.CX P w) 41 "want_between" ["number", "least", "most"] (sp_want_between e.o) := A_want_between.dfn (ok_want_between A_want_between ER.o)
  have D_sum_of_two : Dfn P w K mg base CX0 43 "sum_of_two" ["one", "other"] (sp_sum_of_two) := A_sum_of_two.dfn (ok_sum_of_two A_sum_of_two D_lowest)
  have D_product_of_two : Dfn P w K mg base CX0 43 "product_of_two" ["one", "other"] (sp_product_of_two) := A_product_of_two.dfn (ok_product_of_two A_product_of_two D_lowest)
  have D_scaled_ratio : Dfn P w K mg base CX0 43 "scaled_ratio" ["ratio", "factor"] (sp_scaled_ratio) := A_scaled_ratio.dfn (ok_scaled_ratio A_scaled_ratio D_lowest)
  have D_spread : Dfn P w K mg base CX0 41 "spread" ["ratios"] (sp_spread) := A_spread.dfn (ok_spread A_spread)
  have D_step_of : Dfn P w K mg base CX0 45 "step_of" ["row"] (sp_step_of) := A_step_of.dfn (ok_step_of A_step_of T D_plain)
  have D_told_steps : Dfn P w K mg base CX0 46 "told_steps" ["row"] (sp_told_steps) := A_told_steps.dfn (ok_told_steps A_told_steps D_plain D_step_of)
  have D_come_to_one_number : Dfn P w K mg base CX0 41 "come_to_one_number" ["steps"] (sp_come_to_one_number) := A_come_to_one_number.dfn (ok_come_to_one_number A_come_to_one_number T)
  have D_is_quiet : Dfn P w K mg base CX0 47 "is_quiet" ["row"] (sp_is_quiet) := A_is_quiet.dfn (ok_is_quiet A_is_quiet D_told_steps D_come_to_one_number)
  have D_is_proof : Dfn P w K mg base CX0 47 "is_proof" ["rows", "row"] (sp_is_proof) := A_is_proof.dfn (ok_is_proof A_is_proof D_told_steps D_come_to_one_number D_reduced)
  have D_rows_told_in : Dfn P w K mg base CX0 41 "rows_told_in" ["numbers"] (sp_rows_told_in) := A_rows_told_in.dfn (ok_rows_told_in A_rows_told_in T)
  have D_weighed : Dfn P w K mg base CX0 41 "weighed" ["row", "start", "values", "t"] (sp_weighed) := A_weighed.dfn (ok_weighed A_weighed T)
  have D_answers_to : Dfn P w K mg base CX0 43 "answers_to" ["upper", "lower", "inputs"] (sp_answers_to) := A_answers_to.dfn (ok_answers_to A_answers_to T D_weighed D_lowest)
  have D_less_turned_end : Dfn P w K mg base CX0 41 "less_turned_end" ["row", "beside"] (sp_less_turned_end) := A_less_turned_end.dfn (ok_less_turned_end A_less_turned_end T)
  have D_loudness : Dfn P w K mg base CX0 44 "loudness" ["upper", "lower"] (sp_loudness) := A_loudness.dfn (ok_loudness A_loudness T D_padded D_common_divisor D_divided D_product_of_two D_sum_of_two D_scaled_ratio D_less_turned_end)
  have D_Reader : MkD P w K mg base 41 "Reader" CR ["self", "numbers"] ((sp_Reader_init CR)) := ⟨fi_Reader, fdi_Reader, mk_Reader, ok_Reader_init F_Reader RT, Z.g_Reader, bi_Reader⟩
  have M_is_at_end : MDfn P w K mg base CX0 41 CR "is_at_end" ["self"] (sp_is_at_end K CR) := A_is_at_end.dfn (ok_is_at_end A_is_at_end.fn RT T)
  have M_take_number : MDfn P w K mg base CX0 41 CR "take_number" ["self"] (sp_take_number K CR) := A_take_number.dfn (ok_take_number A_take_number.fn RT)
  have M_take_numbers : MDfn P w K mg base CX0 41 CR "take_numbers" ["self", "how_many"] (sp_take_numbers K CR) := A_take_numbers.dfn (ok_take_numbers A_take_numbers.fn RT)
  have M_take_list : MDfn P w K mg base CX0 42 CR "take_list" ["self"] (sp_take_list K CR) := A_take_list.dfn (ok_take_list A_take_list.fn M_take_number M_take_numbers)
  have M_take_lists : MDfn P w K mg base CX0 43 CR "take_lists" ["self", "how_many"] (sp_take_lists K CR) := A_take_lists.dfn (ok_take_lists A_take_lists.fn T M_take_list)
  have D_want_list : Dfn P w K mg base (L2.CX P w) 42 "want_list" ["numbers", "shortest", "longest", "most"] (sp_want_list e.o) := A_want_list.dfn (ok_want_list A_want_list T D_want_between)
  have D_want_band_number : Dfn P w K mg base (L2.CX P w) 42 "want_band_number" ["i"] (sp_want_band_number e.o) := A_want_band_number.dfn (ok_want_band_number A_want_band_number Z.c_LAST_BAND D_want_between)
  have D_want_gain : Dfn P w K mg base (L2.CX P w) 42 "want_gain" ["n", "d"] (sp_want_gain e.o) := A_want_gain.dfn (ok_want_gain A_want_gain Z.c_GAIN_MOST D_want_between)
  have D_want_proof : Dfn P w K mg base (L2.CX P w) 42 "want_proof" ["numbers"] (sp_want_proof e.o) := A_want_proof.dfn (ok_want_proof A_want_proof T Z.c_PROOF_LONGEST D_want_between)
  have D_want_inputs : Dfn P w K mg base (L2.CX P w) 43 "want_inputs" ["inputs"] (sp_want_inputs e.o) := A_want_inputs.dfn (ok_want_inputs A_want_inputs Z.c_INPUTS_LONGEST Z.c_INPUT_MOST D_want_list)
  have D_want_filter : Dfn P w K mg base (L2.CX P w) 43 "want_filter" ["up", "low"] (sp_want_filter e.o) := A_want_filter.dfn (ok_want_filter A_want_filter ER.o Z.c_UPPER_LONGEST Z.c_LOWER_LONGEST Z.c_FILTER_MOST D_want_list)
  have D_countedN : Dfn P w K mg base CX0 41 "counted" ["rows"] (sp_countedN) := A_counted.dfn (ok_countedN A_counted T)
  have D_counted : Dfn P w K mg base CX0 41 "counted" ["rows"] (sp_counted) := A_counted.dfn (ok_counted A_counted T)
  have D_yes_or_no : Dfn P w K mg base CX0 41 "yes_or_no" ["holds"] (sp_yes_or_no) := A_yes_or_no.dfn (ok_yes_or_no A_yes_or_no)
  have D_click_inputs : Dfn P w K mg base CX0 41 "click_inputs" ["how_many"] (sp_click_inputs) := A_click_inputs.dfn (ok_click_inputs A_click_inputs T)
  have D_upper_behind : Dfn P w K mg base CX0 41 "upper_behind" ["beginning", "lower"] (sp_upper_behind) := A_upper_behind.dfn (ok_upper_behind A_upper_behind T)
  have D_want_volumes : Dfn P w K mg base (L2.CX P w) 42 "want_volumes" ["d", "m"] (sp_want_volumes e.o) := A_want_volumes.dfn (ok_want_volumes A_want_volumes Z.c_PARTS_MOST Z.c_VOLUMES_MOST D_want_between)
  have D_want_volume : Dfn P w K mg base (L2.CX P w) 42 "want_volume" ["n", "d"] (sp_want_volume e.o) := A_want_volume.dfn (ok_want_volume A_want_volume Z.c_VOLUME_MOST D_want_between)
  have D_want_later : Dfn P w K mg base (L2.CX P w) 42 "want_later" ["k"] (sp_want_later e.o) := A_want_later.dfn (ok_want_later A_want_later Z.c_LATER_MOST D_want_between)
  have D_want_click : Dfn P w K mg base (L2.CX P w) 42 "want_click" ["n"] (sp_want_click e.o) := A_want_click.dfn (ok_want_click A_want_click Z.c_ANSWERS_LONGEST D_want_between)
  have D_want_row : Dfn P w K mg base (L2.CX P w) 43 "want_row" ["numbers"] (sp_want_row e.o) := A_want_row.dfn (ok_want_row A_want_row Z.c_ROW_LONGEST Z.c_ROW_MOST D_want_list)
  have D_want_freed : Dfn P w K mg base (L2.CX P w) 43 "want_freed" ["n", "beginning"] (sp_want_freed e.o) := A_want_freed.dfn (ok_want_freed A_want_freed Z.c_ANSWERS_LONGEST Z.c_BEGINNING_LONGEST Z.c_BEGINNING_MOST D_want_between D_want_list)
  have D_want_as_many : Dfn P w K mg base (L2.CX P w) 41 "want_as_many" ["beginning", "row"] (sp_want_as_many e.s) := A_want_as_many.dfn (ok_want_as_many A_want_as_many T ER.s)
  have D_want_room : Dfn P w K mg base (L2.CX P w) 41 "want_room" ["up"] (sp_want_room e.s) := A_want_room.dfn (ok_want_room A_want_room T Z.c_UPPER_LONGEST ER.s)
  have M_together : MDfn P w K mg base CX0 43 CA "together" ["self", "n", "d"] (sp_together CA CB) := A_together.dfn (ok_together A_together.fn TA D_lowest D_scaled D_added D_product)
  have M_rows_at : MDfn P w K mg base CX0 44 CA "rows_at" ["self", "n", "d"] (sp_rows_at CA CB) := A_rows_at.dfn (ok_rows_at A_rows_at.fn TA M_together D_scaled D_added D_product)
  have M_heard_in_all : MDfn P w K mg base (L2.CX P w) 45 CA "heard_in_all" ["self"] (sp_heard_in_all CA CB e.r) := A_heard_in_all.dfn (ok_heard_in_all A_heard_in_all.fn TA ER.r M_rows_at)
  have M_ring_row : MDfn P w K mg base (L2.CX P w) 46 CA "ring_row" ["self"] (sp_ring_row CA CB e.r) := A_ring_row.dfn (ok_ring_row A_ring_row.fn M_heard_in_all)
  have M_is_quiet_at : MDfn P w K mg base CX0 48 CA "is_quiet_at" ["self", "n", "d"] (sp_is_quiet_at CA CB) := A_is_quiet_at.dfn (ok_is_quiet_at A_is_quiet_at.fn TA M_rows_at D_is_quiet)
  have H_ring : HeldX P w K mg base 50 f4 (spC CA CB e 4) := ⟨fd_ring, _, read_call (fun c h => by cases c <;> first | exact ⟨(), rfl⟩ | (simp [numOf] at h)) (fun m x => res_of (step_res m _) (by unfold Vbhlae.step; dsimp only; refine g_fst ?_; rfl)) (ok_ring A_ring M_ring_row D_plain), A_ring.fn.kp, A_ring.b⟩
  have H_steps : HeldX P w K mg base 50 f6 (spC CA CB e 6) := ⟨fd_steps, _, read_call (fun c h => by cases c <;> first | exact ⟨(), rfl⟩ | (simp [numOf] at h)) (fun m x => res_of (step_res m _) (by unfold Vbhlae.step; dsimp only; refine g_fst ?_; rfl)) (ok_steps A_steps M_ring_row D_told_steps D_counted), A_steps.fn.kp, A_steps.b⟩
  have H_quiet : HeldX P w K mg base 50 f5 (spC CA CB e 5) := ⟨fd_quiet, _, read_call (fun c h => by cases c <;> first | exact ⟨(), rfl⟩ | (simp [numOf] at h)) (fun m x => res_of (step_res m _) (by unfold Vbhlae.step; dsimp only; refine g_fst ?_; rfl)) (ok_quiet A_quiet T M_ring_row D_told_steps D_yes_or_no D_come_to_one_number D_spread D_lowest), A_quiet.fn.kp, A_quiet.b⟩
  have H_check : HeldX P w K mg base 50 f7 (spC CA CB e 7) := ⟨fd_check, _, read_call (fun c h => by cases c <;> first | exact ⟨_, rfl⟩ | (simp [numOf] at h)) (fun m x => res_of (step_res m _) (by unfold Vbhlae.step; dsimp only; refine g_fst ?_; split <;> rfl)) (ok_check A_check M_ring_row D_want_proof D_yes_or_no D_is_proof D_rows_told_in), A_check.fn.kp, A_check.b⟩
  have H_loud : HeldX P w K mg base 50 f8 (spC CA CB e 8) := ⟨fd_loud, _, read_call (fun c h => by cases c <;> first | exact ⟨(), rfl⟩ | (simp [numOf] at h)) (fun m x => res_of (step_res m _) (by unfold Vbhlae.step; dsimp only; refine g_fst ?_; rfl)) (ok_loud A_loud ER.q M_heard_in_all D_is_quiet D_spread D_loudness), A_loud.fn.kp, A_loud.b⟩
  have H_play : HeldX P w K mg base 50 f9 (spC CA CB e 9) := ⟨fd_play, _, read_call (fun c h => by cases c <;> first | exact ⟨_, rfl⟩ | (simp [numOf] at h)) (fun m x => res_of (step_res m _) (by unfold Vbhlae.step; dsimp only; refine g_fst ?_; rfl)) (ok_play A_play M_heard_in_all D_want_inputs D_spread D_answers_to), A_play.fn.kp, A_play.b⟩
  have H_click : HeldX P w K mg base 50 f18 (spC CA CB e 18) := ⟨fd_click, _, read_call (fun c h => by cases c <;> first | exact ⟨_, rfl⟩ | (simp [numOf] at h)) (fun m x => res_of (step_res m _) (by unfold Vbhlae.step; dsimp only; refine g_fst ?_; rfl)) (ok_click A_click M_heard_in_all D_want_click D_spread D_answers_to D_click_inputs), A_click.fn.kp, A_click.b⟩
  have H_quiet_at : HeldX P w K mg base 50 f19 (spC CA CB e 19) := ⟨fd_quiet_at, _, read_call (fun c h => by cases c <;> first | exact ⟨(_, _), rfl⟩ | (simp [numOf] at h)) (fun m x => res_of (step_res m _) (by unfold Vbhlae.step; dsimp only; refine g_fst ?_; rfl)) (ok_quiet_at A_quiet_at M_is_quiet_at D_want_volume D_yes_or_no), A_quiet_at.fn.kp, A_quiet_at.b⟩
  have H_row : HeldX P w K mg base 50 f13 (spC CA CB e 13) := ⟨fd_row, _, read_call (fun c h => by cases c <;> first | exact ⟨_, rfl⟩ | (simp [numOf] at h)) (fun m x => res_of (step_res m _) (by unfold Vbhlae.step; dsimp only; refine g_fst ?_; rfl)) (ok_row A_row ER.r D_want_row D_told_steps D_yes_or_no D_come_to_one_number D_counted), A_row.fn.kp, A_row.b⟩
  have H_ends : HeldX P w K mg base 50 f14 (spC CA CB e 14) := ⟨fd_ends, _, read_call (fun c h => by cases c <;> first | exact ⟨(), rfl⟩ | (simp [numOf] at h)) (fun m x => res_of (step_res m _) (by unfold Vbhlae.step; dsimp only; refine g_fst ?_; rfl)) (ok_ends A_ends T M_ring_row D_plain), A_ends.fn.kp, A_ends.b⟩
  have H_volume : HeldX P w K mg base 50 f11 (spC CA CB e 11) := ⟨fd_volume, _, read_call (fun c h => by cases c <;> first | exact ⟨(_, _), rfl⟩ | (simp [numOf] at h)) (fun m x => res_of (step_res m _) (by unfold Vbhlae.step; dsimp only; refine g_fst ?_; rfl)) (ok_volume A_volume M_is_quiet_at D_want_volumes), A_volume.fn.kp, A_volume.b⟩
  have H_alone : HeldX P w K mg base 50 f12 (spC CA CB e 12) := ⟨fd_alone, _, read_call (fun c h => by cases c <;> first | exact ⟨(), rfl⟩ | (simp [numOf] at h)) (fun m x => res_of (step_res m _) rfl) (ok_alone A_alone TA D_is_quiet D_yes_or_no), A_alone.fn.kp, A_alone.b⟩
  have H_told : HeldX P w K mg base 50 f17 (spC CA CB e 17) := ⟨fd_told, _, read_call (fun c h => by cases c <;> first | exact ⟨(), rfl⟩ | (simp [numOf] at h)) (fun m x => res_of (step_res m _) rfl) (ok_told A_told TA D_counted D_countedN D_spread), A_told.fn.kp, A_told.b⟩
  have H_freed : HeldX P w K mg base 50 f10 (spC CA CB e 10) := ⟨fd_freed, _, read_call (fun c h => by cases c <;> first | exact ⟨(_, _), rfl⟩ | (simp [numOf] at h)) (fun m x => res_of (step_res m _) (by unfold Vbhlae.step; dsimp only; refine g_fst ?_; rfl)) (ok_freed A_freed M_ring_row D_want_freed D_want_as_many D_plain D_upper_behind D_is_quiet D_spread D_answers_to D_click_inputs D_loudness), A_freed.fn.kp, A_freed.b⟩
  have M_put_leak : MDfn P w K mg base CX0 41 CA "put_leak" ["self", "up", "low"] (sp_put_leak CA) := A_put_leak.dfn (ok_put_leak A_put_leak.fn TA)
  have M_put_band : MDfn P w K mg base CX0 41 CA "put_band" ["self", "i", "band"] (sp_put_band CA) := A_put_band.dfn (ok_put_band A_put_band.fn TA)
  have M_take_band_out : MDfn P w K mg base CX0 41 CA "take_band_out" ["self", "i"] (sp_take_band_out CA) := A_take_band_out.dfn (ok_take_band_out A_take_band_out.fn TA)
  have M_band_at : MDfn P w K mg base (L2.CX P w) 41 CA "band_at" ["self", "i"] (sp_band_at CA e.b) := A_band_at.dfn (ok_band_at A_band_at.fn TA ER.b)
  have D_Band : MkD P w K mg base 43 "Band" CB ["self", "n", "d", "up", "low"] ((sp_Band_init CB)) := ⟨fi_Band, fdi_Band, mk_Band, ok_Band_init F_Band TA D_lowest, Z.g_Band, bi_Band⟩
  have H_leak : HeldX P w K mg base 50 f0 (spC CA CB e 0) := ⟨fd_leak, _, ok_leak A_leak TA D_want_filter M_put_leak, A_leak.fn.kp, A_leak.b⟩
  have H_mute : HeldX P w K mg base 50 f3 (spC CA CB e 3) := ⟨fd_mute, _, ok_mute A_mute TA D_want_band_number M_band_at M_take_band_out, A_mute.fn.kp, A_mute.b⟩
  have H_gain : HeldX P w K mg base 50 f2 (spC CA CB e 2) := ⟨fd_gain, _, ok_gain A_gain TA D_want_band_number D_want_gain M_band_at D_lowest, A_gain.fn.kp, A_gain.b⟩
  have H_turn : HeldX P w K mg base 50 f16 (spC CA CB e 16) := ⟨fd_turn, _, ok_turn A_turn TA D_want_band_number M_band_at D_scaled, A_turn.fn.kp, A_turn.b⟩
  have H_later : HeldX P w K mg base 50 f15 (spC CA CB e 15) := ⟨fd_later, _, ok_later A_later TA D_want_band_number D_want_later M_band_at D_want_room, A_later.fn.kp, A_later.b⟩
  have H_band : HeldX P w K mg base 50 f1 (spC CA CB e 1) := ⟨fd_band, _, ok_band A_band TA D_want_band_number D_want_gain D_want_filter M_put_band D_Band, A_band.fn.kp, A_band.b⟩
  have CALLS : Calls P w K mg base CA CB e [f0, f1, f2, f3, f4, f5, f6, f7, f8, f9, f10, f11, f12, f13, f14, f15, f16, f17, f18, f19] := fun k hk => by
    match k, hk with
    | 0, _ => exact ⟨f0, rfl, H_leak⟩
    | 1, _ => exact ⟨f1, rfl, H_band⟩
    | 2, _ => exact ⟨f2, rfl, H_gain⟩
    | 3, _ => exact ⟨f3, rfl, H_mute⟩
    | 4, _ => exact ⟨f4, rfl, H_ring⟩
    | 5, _ => exact ⟨f5, rfl, H_quiet⟩
    | 6, _ => exact ⟨f6, rfl, H_steps⟩
    | 7, _ => exact ⟨f7, rfl, H_check⟩
    | 8, _ => exact ⟨f8, rfl, H_loud⟩
    | 9, _ => exact ⟨f9, rfl, H_play⟩
    | 10, _ => exact ⟨f10, rfl, H_freed⟩
    | 11, _ => exact ⟨f11, rfl, H_volume⟩
    | 12, _ => exact ⟨f12, rfl, H_alone⟩
    | 13, _ => exact ⟨f13, rfl, H_row⟩
    | 14, _ => exact ⟨f14, rfl, H_ends⟩
    | 15, _ => exact ⟨f15, rfl, H_later⟩
    | 16, _ => exact ⟨f16, rfl, H_turn⟩
    | 17, _ => exact ⟨f17, rfl, H_told⟩
    | 18, _ => exact ⟨f18, rfl, H_click⟩
    | 19, _ => exact ⟨f19, rfl, H_quiet_at⟩
    | k + 20, hk => exact absurd hk (by omega)
  have D_Aid : MkD P w K mg base 41 "Aid" CA ["self"] ((sp_Aid_init CA)) := ⟨fi_Aid, fdi_Aid, mk_Aid, ok_Aid_init F_Aid TA, Z.g_Aid, bi_Aid⟩
  have D_make_next_call : Dfn P w K mg base (L2.CX P w) 60 "make_next_call" ["aid", "reader"] (sp_make K CA CB CR e) := A_make_next_call.dfn (ok_make_next_call A_make_next_call RT Z.t_N Z.t_L Z.t_C CALLS M_take_number M_take_numbers M_take_lists)
  have D_answer_next : Dfn P w K mg base CX0 61 "answer_next" ["aid", "reader"] (sp_next K CA CB CR) := A_answer_next.dfn (ok_answer_next A_answer_next ER EX D_make_next_call)
  exact ok_answers A_answers T TA RT D_Aid D_Reader M_is_at_end D_answer_next
theorem all_fin2 {P : Program} {w : World} {K : PySem.W.Frag} {mg : Str → Option Value} {CA CB CR cO cB cR cS cQ : Addr} {f0 f1 f2 f3 f4 f5 f6 f7 f8 f9 f10 f11 f12 f13 f14 f15 f16 f17 f18 f19 fa fb : Addr} {x : Str} (hfa : mg x = some (.ref fb)) (hx : x = "answers") (hT : P.given.tree = none) (Z : Facts K mg CA CB CR cO cB cR cS cQ f0 f1 f2 f3 f4 f5 f6 f7 f8 f9 f10 f11 f12 f13 f14 f15 f16 f17 f18 f19 fa) :
    ∃ fd : FuncData, (∀ (s : Shared) (us : List Value), us.length = (["calls"] : List Str).length → BindsTo s fd ⟨us, []⟩ ((["calls"] : List Str).zip us)) ∧ ∀ base : Heap, K.In base → base.Ns mainGlobals mg → base.NoSeer → FnOk P w K mg base CX0 70 fb fd ["calls"] (sp_answers K) := by
  subst hx
  obtain ⟨fd, h1, h2⟩ := all_fin (P := P) (w := w) (e := ⟨cO, cB, cR, cS, cQ⟩) hT hfa Z
  exact ⟨fd, h1, fun base _ _ hS => h2 base hS⟩
end Qa
set_option Elab.async false
set_option linter.all false
open PySem PySem.W PyProof.Rows
set_option maxRecDepth 100000 in
set_option maxHeartbeats 16000000 in
theorem PySem.Challenge.cw_quietaids_s01_answers_holds : PySem.Challenge.rw_quietaids_s01_answers.Holds := by
  w_on; k_headS; (case hw => exact ⟨[.list [.int 4]], by decide +kernel, by decide +kernel⟩)
  k_fillS
  refine Qa.walk_seen (r := PySem.Challenge.rw_quietaids_s01_answers) (k := 70) (CX := L2.CX0) (ps := ["calls"]) (sp := Qa.sp_answers) (by decide +kernel) (by decide +kernel) rfl ⟨rfl, by decide, by decide⟩ (fun w h Y => PySem.W.kIn_of Y) (fun _ _ _ _ _ h => by obtain ⟨_, _, rfl, _⟩ := h; rfl) ?F ?S (fun _ _ _ _ z => z)
  case F =>
    intro w mg fa h Y KX G hmg
    refine' Qa.all_fin2 hmg ?hx ?hT (Qa.Facts.mk ?q0 ?q1 ?q2 ?q3 ?q4 ?q5 ?q6 ?q7 ?q8 ?q9 ?q10 ?q11 ?q12 ?q13 ?q14 ?q15 ?q16 ?q17 ?q18 ?q19 ?q20 ?q21 ?q22 ?q23 ?q24 ?q25 ?q26 ?q27 ?q28 ?q29 ?q30 ?q31 ?q32 ?q33 ?q34 ?q35 ?q36 ?q37 ?q38 ?q39 ?q40 ?q41 ?q42 ?q43 ?q44 ?q45 ?q46 ?q47 ?q48 ?q49 ?q50 ?q51 ?q52 ?q53 ?q54 ?q55 ?q56 ?q57 ?q58 ?q59 ?q60 ?q61 ?q62 ?q63 ?q64 ?q65 ?q66 ?q67 ?q68 ?q69 ?q70 ?q71 ?q72 ?q73 ?q74 ?q75 ?q76 ?q77 ?q78 ?q79 ?q80 ?q81 ?q82 ?q83 ?q84 ?q85 ?q86 ?q87 ?q88 ?q89 ?q90 ?q91 ?q92 ?q93 ?q94 ?q95 ?q96 ?q97 ?q98 ?q99 ?q100 ?q101 ?q102 ?q103 ?q104 ?q105 ?q106 ?q107 ?q108 ?q109 ?q110 ?q111 ?q112 ?q113 ?q114 ?q115 ?q116 ?q117 ?q118 ?q119 ?q120 ?q121 ?q122 ?q123 ?q124 ?q125 ?q126 ?q127 ?q128 ?q129 ?q130 ?q131 ?q132 ?q133 ?q134 ?q135 ?q136 ?q137 ?q138 ?q139 ?q140 ?q141 ?q142 ?q143 ?q144 ?q145 ?q146 ?q147 ?q148 ?q149 ?q150 ?q151 ?q152)
    case hx => rfl
    case hT => rfl
    case q0 =>
      refine' PySem.W.mg_of KX G ?a
      (case a => k_is)
    case q1 =>
      refine' PySem.W.mg_of KX G ?a
      (case a => k_is)
    case q2 =>
      refine' PySem.W.mg_of KX G ?a
      (case a => k_is)
    case q3 =>
      refine' ⟨?a, ?b, ?c, ?d⟩
      (case a => k_is); (case b => k_is); (case c => k_is); (case d => k_is)
    case q4 =>
      refine' ⟨?a, ?b, ?c, ?d⟩
      (case a => k_is); (case b => k_is); (case c => k_is); (case d => k_is)
    case q5 =>
      refine' ⟨?a, ?b, ?c, ?d⟩
      (case a => k_is); (case b => k_is); (case c => k_is); (case d => k_is)
    case q6 =>
      show PySem.W.findIn _ _ _ = _
      k_is
    case q7 =>
      show PySem.W.findIn _ _ _ = _
      k_is
    case q8 =>
      show PySem.W.findIn _ _ _ = _
      k_is
    case q9 =>
      show PySem.W.findIn _ _ _ = _
      k_is
    case q10 =>
      show PySem.W.findIn _ _ _ = _
      k_is
    case q11 =>
      show PySem.W.findIn _ _ _ = _
      k_is
    case q12 =>
      show PySem.W.findIn _ _ _ = _
      k_is
    case q13 =>
      show PySem.W.findIn _ _ _ = _
      k_is
    case q14 =>
      decide
    case q15 =>
      refine' ⟨PySem.W.mg_of KX G ?g, ?x, ?k, ?b, ?t⟩
      (case g => k_is); (case x => k_exc); (case k => k_is); (case b => k_is); (case t => k_is)
    case q16 =>
      refine' ⟨PySem.W.mg_of KX G ?g, ?x, ?k, ?b, ?t⟩
      (case g => k_is); (case x => k_exc); (case k => k_is); (case b => k_is); (case t => k_is)
    case q17 =>
      refine' ⟨PySem.W.mg_of KX G ?g, ?x, ?k, ?b, ?t⟩
      (case g => k_is); (case x => k_exc); (case k => k_is); (case b => k_is); (case t => k_is)
    case q18 =>
      refine' ⟨PySem.W.mg_of KX G ?g, ?x, ?k, ?b, ?t⟩
      (case g => k_is); (case x => k_exc); (case k => k_is); (case b => k_is); (case t => k_is)
    case q19 =>
      refine' ⟨PySem.W.mg_of KX G ?g, ?x, ?k, ?b, ?t⟩
      (case g => k_is); (case x => k_exc); (case k => k_is); (case b => k_is); (case t => k_is)
    case q20 =>
      k_is
    case q21 =>
      k_is
    case q22 =>
      k_is
    case q23 =>
      k_is
    case q24 =>
      k_is
    case q25 =>
      first | rfl | k_is
    case q26 =>
      first | rfl | k_is
    case q27 =>
      first | rfl | k_is
    case q28 =>
      first | rfl | k_is
    case q29 =>
      first | rfl | k_is
    case q30 =>
      first | rfl | k_is
    case q31 =>
      first | rfl | k_is
    case q32 =>
      first | rfl | k_is
    case q33 =>
      first | rfl | k_is
    case q34 =>
      first | rfl | k_is
    case q35 =>
      first | rfl | k_is
    case q36 =>
      first | rfl | k_is
    case q37 =>
      first | rfl | k_is
    case q38 =>
      first | rfl | k_is
    case q39 =>
      first | rfl | k_is
    case q40 =>
      refine' PySem.W.mg_none_of KX G ?a
      (case a => k_is)
    case q41 =>
      refine' PySem.W.mg_none_of KX G ?a
      (case a => k_is)
    case q42 =>
      refine' PySem.W.mg_none_of KX G ?a
      (case a => k_is)
    case q43 =>
      refine' PySem.W.mg_none_of KX G ?a
      (case a => k_is)
    case q44 =>
      refine' PySem.W.mg_none_of KX G ?a
      (case a => k_is)
    case q45 =>
      refine' PySem.W.mg_none_of KX G ?a
      (case a => k_is)
    case q46 =>
      refine' PySem.W.mg_none_of KX G ?a
      (case a => k_is)
    case q47 =>
      refine' PySem.W.mg_none_of KX G ?a
      (case a => k_is)
    case q48 =>
      refine' PySem.W.mg_none_of KX G ?a
      (case a => k_is)
    case q49 =>
      exact Qa.cst_mk KX G (by k_is)
    case q50 =>
      exact Qa.cst_mk KX G (by k_is)
    case q51 =>
      exact Qa.cst_mk KX G (by k_is)
    case q52 =>
      exact Qa.cst_mk KX G (by k_is)
    case q53 =>
      exact Qa.cst_mk KX G (by k_is)
    case q54 =>
      exact Qa.cst_mk KX G (by k_is)
    case q55 =>
      exact Qa.cst_mk KX G (by k_is)
    case q56 =>
      exact Qa.cst_mk KX G (by k_is)
    case q57 =>
      exact Qa.cst_mk KX G (by k_is)
    case q58 =>
      exact Qa.cst_mk KX G (by k_is)
    case q59 =>
      exact Qa.cst_mk KX G (by k_is)
    case q60 =>
      exact Qa.cst_mk KX G (by k_is)
    case q61 =>
      exact Qa.cst_mk KX G (by k_is)
    case q62 =>
      exact Qa.cst_mk KX G (by k_is)
    case q63 =>
      exact Qa.cst_mk KX G (by k_is)
    case q64 =>
      exact Qa.cst_mk KX G (by k_is)
    case q65 =>
      exact Qa.cst_mk KX G (by k_is)
    case q66 =>
      refine' ⟨_, Qa.at_mk KX G ?a ?l ?c ?k (fun _ _ _ _ _ _ us hl => match us, hl with | [_, _], _ => rfl)⟩
      (case a => k_is); (case l => k_is); (case c => k_is); (case k => k_is)
    case q67 =>
      refine' ⟨_, Qa.at_mk KX G ?a ?l ?c ?k (fun _ _ _ _ _ _ us hl => match us, hl with | [_], _ => rfl)⟩
      (case a => k_is); (case l => k_is); (case c => k_is); (case k => k_is)
    case q68 =>
      refine' ⟨_, Qa.at_mk KX G ?a ?l ?c ?k (fun _ _ _ _ _ _ us hl => match us, hl with | [_, _], _ => rfl)⟩
      (case a => k_is); (case l => k_is); (case c => k_is); (case k => k_is)
    case q69 =>
      refine' ⟨_, Qa.at_mk KX G ?a ?l ?c ?k (fun _ _ _ _ _ _ us hl => match us, hl with | [_, _], _ => rfl)⟩
      (case a => k_is); (case l => k_is); (case c => k_is); (case k => k_is)
    case q70 =>
      refine' ⟨_, Qa.at_mk KX G ?a ?l ?c ?k (fun _ _ _ _ _ _ us hl => match us, hl with | [_, _], _ => rfl)⟩
      (case a => k_is); (case l => k_is); (case c => k_is); (case k => k_is)
    case q71 =>
      refine' ⟨_, Qa.at_mk KX G ?a ?l ?c ?k (fun _ _ _ _ _ _ us hl => match us, hl with | [_, _], _ => rfl)⟩
      (case a => k_is); (case l => k_is); (case c => k_is); (case k => k_is)
    case q72 =>
      refine' ⟨_, Qa.at_mk KX G ?a ?l ?c ?k (fun _ _ _ _ _ _ us hl => match us, hl with | [_, _], _ => rfl)⟩
      (case a => k_is); (case l => k_is); (case c => k_is); (case k => k_is)
    case q73 =>
      refine' ⟨_, Qa.at_mk KX G ?a ?l ?c ?k (fun _ _ _ _ _ _ us hl => match us, hl with | [_], _ => rfl)⟩
      (case a => k_is); (case l => k_is); (case c => k_is); (case k => k_is)
    case q74 =>
      refine' ⟨_, Qa.at_mk KX G ?a ?l ?c ?k (fun _ _ _ _ _ _ us hl => match us, hl with | [_], _ => rfl)⟩
      (case a => k_is); (case l => k_is); (case c => k_is); (case k => k_is)
    case q75 =>
      refine' ⟨_, Qa.at_mk KX G ?a ?l ?c ?k (fun _ _ _ _ _ _ us hl => match us, hl with | [_], _ => rfl)⟩
      (case a => k_is); (case l => k_is); (case c => k_is); (case k => k_is)
    case q76 =>
      refine' ⟨_, Qa.at_mk KX G ?a ?l ?c ?k (fun _ _ _ _ _ _ us hl => match us, hl with | [_], _ => rfl)⟩
      (case a => k_is); (case l => k_is); (case c => k_is); (case k => k_is)
    case q77 =>
      refine' ⟨_, Qa.at_mk KX G ?a ?l ?c ?k (fun _ _ _ _ _ _ us hl => match us, hl with | [_, _], _ => rfl)⟩
      (case a => k_is); (case l => k_is); (case c => k_is); (case k => k_is)
    case q78 =>
      refine' ⟨_, Qa.at_mk KX G ?a ?l ?c ?k (fun _ _ _ _ _ _ us hl => match us, hl with | [_, _], _ => rfl)⟩
      (case a => k_is); (case l => k_is); (case c => k_is); (case k => k_is)
    case q79 =>
      refine' ⟨_, Qa.at_mk KX G ?a ?l ?c ?k (fun _ _ _ _ _ _ us hl => match us, hl with | [_, _], _ => rfl)⟩
      (case a => k_is); (case l => k_is); (case c => k_is); (case k => k_is)
    case q80 =>
      refine' ⟨_, Qa.at_mk KX G ?a ?l ?c ?k (fun _ _ _ _ _ _ us hl => match us, hl with | [_, _], _ => rfl)⟩
      (case a => k_is); (case l => k_is); (case c => k_is); (case k => k_is)
    case q81 =>
      refine' ⟨_, Qa.at_mk KX G ?a ?l ?c ?k (fun _ _ _ _ _ _ us hl => match us, hl with | [_], _ => rfl)⟩
      (case a => k_is); (case l => k_is); (case c => k_is); (case k => k_is)
    case q82 =>
      refine' ⟨_, Qa.at_mk KX G ?a ?l ?c ?k (fun _ _ _ _ _ _ us hl => match us, hl with | [_, _, _, _], _ => rfl)⟩
      (case a => k_is); (case l => k_is); (case c => k_is); (case k => k_is)
    case q83 =>
      refine' ⟨_, Qa.at_mk KX G ?a ?l ?c ?k (fun _ _ _ _ _ _ us hl => match us, hl with | [_, _, _], _ => rfl)⟩
      (case a => k_is); (case l => k_is); (case c => k_is); (case k => k_is)
    case q84 =>
      refine' ⟨_, Qa.at_mk KX G ?a ?l ?c ?k (fun _ _ _ _ _ _ us hl => match us, hl with | [_], _ => rfl)⟩
      (case a => k_is); (case l => k_is); (case c => k_is); (case k => k_is)
    case q85 =>
      refine' ⟨_, Qa.at_mk KX G ?a ?l ?c ?k (fun _ _ _ _ _ _ us hl => match us, hl with | [_, _], _ => rfl)⟩
      (case a => k_is); (case l => k_is); (case c => k_is); (case k => k_is)
    case q86 =>
      refine' ⟨_, Qa.at_mk KX G ?a ?l ?c ?k (fun _ _ _ _ _ _ us hl => match us, hl with | [_, _], _ => rfl)⟩
      (case a => k_is); (case l => k_is); (case c => k_is); (case k => k_is)
    case q87 =>
      refine' ⟨_, Qa.at_mk KX G ?a ?l ?c ?k (fun _ _ _ _ _ _ us hl => match us, hl with | [_, _], _ => rfl)⟩
      (case a => k_is); (case l => k_is); (case c => k_is); (case k => k_is)
    case q88 =>
      refine' ⟨_, Qa.at_mk KX G ?a ?l ?c ?k (fun _ _ _ _ _ _ us hl => match us, hl with | [_], _ => rfl)⟩
      (case a => k_is); (case l => k_is); (case c => k_is); (case k => k_is)
    case q89 =>
      refine' ⟨_, Qa.at_mk KX G ?a ?l ?c ?k (fun _ _ _ _ _ _ us hl => match us, hl with | [_], _ => rfl)⟩
      (case a => k_is); (case l => k_is); (case c => k_is); (case k => k_is)
    case q90 =>
      refine' ⟨_, Qa.at_mk KX G ?a ?l ?c ?k (fun _ _ _ _ _ _ us hl => match us, hl with | [_], _ => rfl)⟩
      (case a => k_is); (case l => k_is); (case c => k_is); (case k => k_is)
    case q91 =>
      refine' ⟨_, Qa.at_mk KX G ?a ?l ?c ?k (fun _ _ _ _ _ _ us hl => match us, hl with | [_], _ => rfl)⟩
      (case a => k_is); (case l => k_is); (case c => k_is); (case k => k_is)
    case q92 =>
      refine' ⟨_, Qa.at_mk KX G ?a ?l ?c ?k (fun _ _ _ _ _ _ us hl => match us, hl with | [_, _], _ => rfl)⟩
      (case a => k_is); (case l => k_is); (case c => k_is); (case k => k_is)
    case q93 =>
      refine' ⟨_, Qa.at_mk KX G ?a ?l ?c ?k (fun _ _ _ _ _ _ us hl => match us, hl with | [_], _ => rfl)⟩
      (case a => k_is); (case l => k_is); (case c => k_is); (case k => k_is)
    case q94 =>
      refine' ⟨_, Qa.at_mk KX G ?a ?l ?c ?k (fun _ _ _ _ _ _ us hl => match us, hl with | [_, _, _], _ => rfl)⟩
      (case a => k_is); (case l => k_is); (case c => k_is); (case k => k_is)
    case q95 =>
      refine' ⟨_, Qa.at_mk KX G ?a ?l ?c ?k (fun _ _ _ _ _ _ us hl => match us, hl with | [_, _, _, _], _ => rfl)⟩
      (case a => k_is); (case l => k_is); (case c => k_is); (case k => k_is)
    case q96 =>
      refine' ⟨_, Qa.at_mk KX G ?a ?l ?c ?k (fun _ _ _ _ _ _ us hl => match us, hl with | [_], _ => rfl)⟩
      (case a => k_is); (case l => k_is); (case c => k_is); (case k => k_is)
    case q97 =>
      refine' ⟨_, Qa.at_mk KX G ?a ?l ?c ?k (fun _ _ _ _ _ _ us hl => match us, hl with | [_, _], _ => rfl)⟩
      (case a => k_is); (case l => k_is); (case c => k_is); (case k => k_is)
    case q98 =>
      refine' ⟨_, Qa.at_mk KX G ?a ?l ?c ?k (fun _ _ _ _ _ _ us hl => match us, hl with | [_, _], _ => rfl)⟩
      (case a => k_is); (case l => k_is); (case c => k_is); (case k => k_is)
    case q99 =>
      refine' ⟨_, Qa.at_mk KX G ?a ?l ?c ?k (fun _ _ _ _ _ _ us hl => match us, hl with | [_], _ => rfl)⟩
      (case a => k_is); (case l => k_is); (case c => k_is); (case k => k_is)
    case q100 =>
      refine' ⟨_, Qa.at_mk KX G ?a ?l ?c ?k (fun _ _ _ _ _ _ us hl => match us, hl with | [_], _ => rfl)⟩
      (case a => k_is); (case l => k_is); (case c => k_is); (case k => k_is)
    case q101 =>
      refine' ⟨_, Qa.at_mk KX G ?a ?l ?c ?k (fun _ _ _ _ _ _ us hl => match us, hl with | [_, _], _ => rfl)⟩
      (case a => k_is); (case l => k_is); (case c => k_is); (case k => k_is)
    case q102 =>
      refine' ⟨_, Qa.at_mk KX G ?a ?l ?c ?k (fun _ _ _ _ _ _ us hl => match us, hl with | [_, _], _ => rfl)⟩
      (case a => k_is); (case l => k_is); (case c => k_is); (case k => k_is)
    case q103 =>
      refine' ⟨_, Qa.at_mk KX G ?a ?l ?c ?k (fun _ _ _ _ _ _ us hl => match us, hl with | [_, _], _ => rfl)⟩
      (case a => k_is); (case l => k_is); (case c => k_is); (case k => k_is)
    case q104 =>
      refine' ⟨_, Qa.at_mk KX G ?a ?l ?c ?k (fun _ _ _ _ _ _ us hl => match us, hl with | [_], _ => rfl)⟩
      (case a => k_is); (case l => k_is); (case c => k_is); (case k => k_is)
    case q105 =>
      refine' ⟨_, Qa.at_mk KX G ?a ?l ?c ?k (fun _ _ _ _ _ _ us hl => match us, hl with | [_], _ => rfl)⟩
      (case a => k_is); (case l => k_is); (case c => k_is); (case k => k_is)
    case q106 =>
      refine' ⟨_, Qa.at_mk KX G ?a ?l ?c ?k (fun _ _ _ _ _ _ us hl => match us, hl with | [_], _ => rfl)⟩
      (case a => k_is); (case l => k_is); (case c => k_is); (case k => k_is)
    case q107 =>
      refine' ⟨_, Qa.at_mk KX G ?a ?l ?c ?k (fun _ _ _ _ _ _ us hl => match us, hl with | [_], _ => rfl)⟩
      (case a => k_is); (case l => k_is); (case c => k_is); (case k => k_is)
    case q108 =>
      refine' ⟨_, Qa.at_mk KX G ?a ?l ?c ?k (fun _ _ _ _ _ _ us hl => match us, hl with | [_, _], _ => rfl)⟩
      (case a => k_is); (case l => k_is); (case c => k_is); (case k => k_is)
    case q109 =>
      refine' ⟨_, Qa.at_mk KX G ?a ?l ?c ?k (fun _ _ _ _ _ _ us hl => match us, hl with | [_], _ => rfl)⟩
      (case a => k_is); (case l => k_is); (case c => k_is); (case k => k_is)
    case q110 =>
      refine' ⟨_, Qa.at_mk KX G ?a ?l ?c ?k (fun _ _ _ _ _ _ us hl => match us, hl with | [_, _], _ => rfl)⟩
      (case a => k_is); (case l => k_is); (case c => k_is); (case k => k_is)
    case q111 =>
      refine' ⟨_, Qa.at_mk KX G ?a ?l ?c ?k (fun _ _ _ _ _ _ us hl => match us, hl with | [_, _], _ => rfl)⟩
      (case a => k_is); (case l => k_is); (case c => k_is); (case k => k_is)
    case q112 =>
      refine' Qa.at_mk KX G ?a ?l ?c ?k (fun _ _ _ _ _ _ us hl => match us, hl with | [_, _, _], _ => rfl)
      (case a => k_is); (case l => k_is); (case c => k_is); (case k => k_is)
    case q113 =>
      refine' Qa.at_mk KX G ?a ?l ?c ?k (fun _ _ _ _ _ _ us hl => match us, hl with | [_, _, _], _ => rfl)
      (case a => k_is); (case l => k_is); (case c => k_is); (case k => k_is)
    case q114 =>
      refine' Qa.at_mk KX G ?a ?l ?c ?k (fun _ _ _ _ _ _ us hl => match us, hl with | [_, _, _], _ => rfl)
      (case a => k_is); (case l => k_is); (case c => k_is); (case k => k_is)
    case q115 =>
      refine' Qa.at_mk KX G ?a ?l ?c ?k (fun _ _ _ _ _ _ us hl => match us, hl with | [_, _, _], _ => rfl)
      (case a => k_is); (case l => k_is); (case c => k_is); (case k => k_is)
    case q116 =>
      refine' Qa.at_mk KX G ?a ?l ?c ?k (fun _ _ _ _ _ _ us hl => match us, hl with | [_, _, _], _ => rfl)
      (case a => k_is); (case l => k_is); (case c => k_is); (case k => k_is)
    case q117 =>
      refine' Qa.at_mk KX G ?a ?l ?c ?k (fun _ _ _ _ _ _ us hl => match us, hl with | [_, _, _], _ => rfl)
      (case a => k_is); (case l => k_is); (case c => k_is); (case k => k_is)
    case q118 =>
      refine' Qa.at_mk KX G ?a ?l ?c ?k (fun _ _ _ _ _ _ us hl => match us, hl with | [_, _, _], _ => rfl)
      (case a => k_is); (case l => k_is); (case c => k_is); (case k => k_is)
    case q119 =>
      refine' Qa.at_mk KX G ?a ?l ?c ?k (fun _ _ _ _ _ _ us hl => match us, hl with | [_, _, _], _ => rfl)
      (case a => k_is); (case l => k_is); (case c => k_is); (case k => k_is)
    case q120 =>
      refine' Qa.at_mk KX G ?a ?l ?c ?k (fun _ _ _ _ _ _ us hl => match us, hl with | [_, _, _], _ => rfl)
      (case a => k_is); (case l => k_is); (case c => k_is); (case k => k_is)
    case q121 =>
      refine' Qa.at_mk KX G ?a ?l ?c ?k (fun _ _ _ _ _ _ us hl => match us, hl with | [_, _, _], _ => rfl)
      (case a => k_is); (case l => k_is); (case c => k_is); (case k => k_is)
    case q122 =>
      refine' Qa.at_mk KX G ?a ?l ?c ?k (fun _ _ _ _ _ _ us hl => match us, hl with | [_, _, _], _ => rfl)
      (case a => k_is); (case l => k_is); (case c => k_is); (case k => k_is)
    case q123 =>
      refine' Qa.at_mk KX G ?a ?l ?c ?k (fun _ _ _ _ _ _ us hl => match us, hl with | [_, _, _], _ => rfl)
      (case a => k_is); (case l => k_is); (case c => k_is); (case k => k_is)
    case q124 =>
      refine' Qa.at_mk KX G ?a ?l ?c ?k (fun _ _ _ _ _ _ us hl => match us, hl with | [_, _, _], _ => rfl)
      (case a => k_is); (case l => k_is); (case c => k_is); (case k => k_is)
    case q125 =>
      refine' Qa.at_mk KX G ?a ?l ?c ?k (fun _ _ _ _ _ _ us hl => match us, hl with | [_, _, _], _ => rfl)
      (case a => k_is); (case l => k_is); (case c => k_is); (case k => k_is)
    case q126 =>
      refine' Qa.at_mk KX G ?a ?l ?c ?k (fun _ _ _ _ _ _ us hl => match us, hl with | [_, _, _], _ => rfl)
      (case a => k_is); (case l => k_is); (case c => k_is); (case k => k_is)
    case q127 =>
      refine' Qa.at_mk KX G ?a ?l ?c ?k (fun _ _ _ _ _ _ us hl => match us, hl with | [_, _, _], _ => rfl)
      (case a => k_is); (case l => k_is); (case c => k_is); (case k => k_is)
    case q128 =>
      refine' Qa.at_mk KX G ?a ?l ?c ?k (fun _ _ _ _ _ _ us hl => match us, hl with | [_, _, _], _ => rfl)
      (case a => k_is); (case l => k_is); (case c => k_is); (case k => k_is)
    case q129 =>
      refine' Qa.at_mk KX G ?a ?l ?c ?k (fun _ _ _ _ _ _ us hl => match us, hl with | [_, _, _], _ => rfl)
      (case a => k_is); (case l => k_is); (case c => k_is); (case k => k_is)
    case q130 =>
      refine' Qa.at_mk KX G ?a ?l ?c ?k (fun _ _ _ _ _ _ us hl => match us, hl with | [_, _, _], _ => rfl)
      (case a => k_is); (case l => k_is); (case c => k_is); (case k => k_is)
    case q131 =>
      refine' Qa.at_mk KX G ?a ?l ?c ?k (fun _ _ _ _ _ _ us hl => match us, hl with | [_, _, _], _ => rfl)
      (case a => k_is); (case l => k_is); (case c => k_is); (case k => k_is)
    case q132 =>
      refine' Qa.at_mk KX G ?a ?l ?c ?k (fun _ _ _ _ _ _ us hl => match us, hl with | [_], _ => rfl)
      (case a => k_is); (case l => k_is); (case c => k_is); (case k => k_is)
    case q133 =>
      refine' Qa.mat_mk ?cl ?a ?i ?l ?c ?k (fun _ _ _ _ _ _ us hl => match us, hl with | [_, _, _], _ => rfl)
      (case cl => exact ⟨by k_is, by k_is, by k_is, by k_is⟩); (case a => k_is); (case i => k_is); (case l => k_is); (case c => k_is); (case k => k_is)
    case q134 =>
      refine' Qa.mat_mk ?cl ?a ?i ?l ?c ?k (fun _ _ _ _ _ _ us hl => match us, hl with | [_, _, _], _ => rfl)
      (case cl => exact ⟨by k_is, by k_is, by k_is, by k_is⟩); (case a => k_is); (case i => k_is); (case l => k_is); (case c => k_is); (case k => k_is)
    case q135 =>
      refine' Qa.mat_mk ?cl ?a ?i ?l ?c ?k (fun _ _ _ _ _ _ us hl => match us, hl with | [_, _], _ => rfl)
      (case cl => exact ⟨by k_is, by k_is, by k_is, by k_is⟩); (case a => k_is); (case i => k_is); (case l => k_is); (case c => k_is); (case k => k_is)
    case q136 =>
      refine' Qa.mat_mk ?cl ?a ?i ?l ?c ?k (fun _ _ _ _ _ _ us hl => match us, hl with | [_, _], _ => rfl)
      (case cl => exact ⟨by k_is, by k_is, by k_is, by k_is⟩); (case a => k_is); (case i => k_is); (case l => k_is); (case c => k_is); (case k => k_is)
    case q137 =>
      refine' Qa.mat_mk ?cl ?a ?i ?l ?c ?k (fun _ _ _ _ _ _ us hl => match us, hl with | [_, _, _], _ => rfl)
      (case cl => exact ⟨by k_is, by k_is, by k_is, by k_is⟩); (case a => k_is); (case i => k_is); (case l => k_is); (case c => k_is); (case k => k_is)
    case q138 =>
      refine' Qa.mat_mk ?cl ?a ?i ?l ?c ?k (fun _ _ _ _ _ _ us hl => match us, hl with | [_, _, _], _ => rfl)
      (case cl => exact ⟨by k_is, by k_is, by k_is, by k_is⟩); (case a => k_is); (case i => k_is); (case l => k_is); (case c => k_is); (case k => k_is)
    case q139 =>
      refine' Qa.mat_mk ?cl ?a ?i ?l ?c ?k (fun _ _ _ _ _ _ us hl => match us, hl with | [_], _ => rfl)
      (case cl => exact ⟨by k_is, by k_is, by k_is, by k_is⟩); (case a => k_is); (case i => k_is); (case l => k_is); (case c => k_is); (case k => k_is)
    case q140 =>
      refine' Qa.mat_mk ?cl ?a ?i ?l ?c ?k (fun _ _ _ _ _ _ us hl => match us, hl with | [_], _ => rfl)
      (case cl => exact ⟨by k_is, by k_is, by k_is, by k_is⟩); (case a => k_is); (case i => k_is); (case l => k_is); (case c => k_is); (case k => k_is)
    case q141 =>
      refine' Qa.mat_mk ?cl ?a ?i ?l ?c ?k (fun _ _ _ _ _ _ us hl => match us, hl with | [_, _, _], _ => rfl)
      (case cl => exact ⟨by k_is, by k_is, by k_is, by k_is⟩); (case a => k_is); (case i => k_is); (case l => k_is); (case c => k_is); (case k => k_is)
    case q142 =>
      refine' Qa.mat_mk ?cl ?a ?i ?l ?c ?k (fun _ _ _ _ _ _ us hl => match us, hl with | [_], _ => rfl)
      (case cl => exact ⟨by k_is, by k_is, by k_is, by k_is⟩); (case a => k_is); (case i => k_is); (case l => k_is); (case c => k_is); (case k => k_is)
    case q143 =>
      refine' Qa.mat_mk ?cl ?a ?i ?l ?c ?k (fun _ _ _ _ _ _ us hl => match us, hl with | [_], _ => rfl)
      (case cl => exact ⟨by k_is, by k_is, by k_is, by k_is⟩); (case a => k_is); (case i => k_is); (case l => k_is); (case c => k_is); (case k => k_is)
    case q144 =>
      refine' Qa.mat_mk ?cl ?a ?i ?l ?c ?k (fun _ _ _ _ _ _ us hl => match us, hl with | [_, _], _ => rfl)
      (case cl => exact ⟨by k_is, by k_is, by k_is, by k_is⟩); (case a => k_is); (case i => k_is); (case l => k_is); (case c => k_is); (case k => k_is)
    case q145 =>
      refine' Qa.mat_mk ?cl ?a ?i ?l ?c ?k (fun _ _ _ _ _ _ us hl => match us, hl with | [_], _ => rfl)
      (case cl => exact ⟨by k_is, by k_is, by k_is, by k_is⟩); (case a => k_is); (case i => k_is); (case l => k_is); (case c => k_is); (case k => k_is)
    case q146 =>
      refine' Qa.mat_mk ?cl ?a ?i ?l ?c ?k (fun _ _ _ _ _ _ us hl => match us, hl with | [_, _], _ => rfl)
      (case cl => exact ⟨by k_is, by k_is, by k_is, by k_is⟩); (case a => k_is); (case i => k_is); (case l => k_is); (case c => k_is); (case k => k_is)
    case q147 =>
      refine' Qa.init_mk ?mk ?kc ?a ?i ?l ?c ?k (fun _ _ _ _ _ _ us hl => match us, hl with | [_], _ => rfl)
      (case mk => k_is); (case kc => k_is); (case a => k_is); (case i => k_is); (case l => k_is); (case c => k_is); (case k => k_is)
    case q148 =>
      refine' Qa.init_mk ?mk ?kc ?a ?i ?l ?c ?k (fun _ _ _ _ _ _ us hl => match us, hl with | [_, _, _, _, _], _ => rfl)
      (case mk => k_is); (case kc => k_is); (case a => k_is); (case i => k_is); (case l => k_is); (case c => k_is); (case k => k_is)
    case q149 =>
      refine' Qa.init_mk ?mk ?kc ?a ?i ?l ?c ?k (fun _ _ _ _ _ _ us hl => match us, hl with | [_, _], _ => rfl)
      (case mk => k_is); (case kc => k_is); (case a => k_is); (case i => k_is); (case l => k_is); (case c => k_is); (case k => k_is)
    case q150 =>
      refine' Qa.tab_mk KX G ?a ?l ?v ?z
      (case a => k_is); (case l => k_is); (case v => rfl); (case z => decide)
    case q151 =>
      refine' Qa.tab_mk KX G ?a ?l ?v ?z
      (case a => k_is); (case l => k_is); (case v => rfl); (case z => decide)
    case q152 =>
      refine' Qa.tab_mk KX G ?a ?l ?v ?z
      (case a => k_is); (case l => k_is); (case v => rfl); (case z => decide)
  case S =>
    intro K L H xs a hO hwi hask hx
    cases hx with
    | cons h1 h2 =>
      cases h2
      cases h1 with
      | lst hs ha =>
        have e := L2.ints_dw a.1 _ ha
        subst e
        exact ⟨_, a.1, rfl, hO _ _ hs, hask, fun L' H' hp => .lst (L2.SqL.of hp) (L2.dw_ints _)⟩
