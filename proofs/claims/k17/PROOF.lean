import PyProof.Rows.All
import Wide.All
import OpenK.AllK
import Wide.FinOn
import HandS.ForMost
import HandS.Wide
import HandS.WideBits
import HandS.IsInst
import HandS.Style
import HandS.Deep
import HandS.RaiseMore
import HandS.Conv
import HandS.Flow
import HandS.SortRule
import HandS.Exc
import HandS.ExcOwn
import HandS.ExcValue
import HandS.ExcIs
import HandS.WordsExc
import PyProof.ReprRoads
import PyProof.Rows.NestShow
import PySem.Challenge.RW_logtrees_k17_errors_of_older_lists
set_option Elab.async false
set_option linter.all false
set_option maxRecDepth 100000
set_option maxHeartbeats 4000000
namespace LT
/-- the greatest power of two less than m (m from 2) -/
def gp (m : Nat) : Nat := 2 ^ Nat.log2 (m - 1)
theorem gp_pos (m : Nat) : 0 < gp m := Nat.pow_pos (by decide)
theorem gp_lt {m : Nat} (h : 2 ≤ m) : gp m < m := by
  have := Nat.log2_self_le (n := m - 1) (by omega)
  unfold gp; omega
theorem gp_ge {m : Nat} (h : 2 ≤ m) : m ≤ 2 * gp m := by
  have := Nat.lt_log2_self (n := m - 1)
  unfold gp; rw [Nat.pow_succ] at this; omega
theorem pow_eq_of {i j : Nat} {m : Nat} (h1 : 2 ^ i < m) (h2 : m ≤ 2 * 2 ^ i) (h3 : 2 ^ j < m) (h4 : m ≤ 2 * 2 ^ j) : i = j := by
  have a : 2 ^ i < 2 ^ (j + 1) := by rw [Nat.pow_succ]; omega
  have b : 2 ^ j < 2 ^ (i + 1) := by rw [Nat.pow_succ]; omega
  have a' := (Nat.pow_lt_pow_iff_right (by decide : 1 < 2)).mp a
  have b' := (Nat.pow_lt_pow_iff_right (by decide : 1 < 2)).mp b
  omega
theorem gp_eq {i m : Nat} (h1 : 2 ^ i < m) (h2 : m ≤ 2 * 2 ^ i) : gp m = 2 ^ i := by
  have h : 2 ≤ m := by have := Nat.pow_pos (a := 2) (n := i) (by decide); omega
  have := pow_eq_of (gp_lt h) (gp_ge h) h1 h2
  unfold gp; rw [this]
theorem gp_pow (i : Nat) : gp (2 ^ (i + 1)) = 2 ^ i := gp_eq (by rw [Nat.pow_succ]; have := Nat.pow_pos (a := 2) (n := i) (by decide); omega) (by rw [Nat.pow_succ]; omega)

/-- siblings from the root's half down to the leaf's: nodes as (begin, length-end) pairs -/
def sib (b m e : Nat) : List (Nat × Nat) :=
  if h : m ≤ 1 then [] else
    if e < b + gp m then (b + gp m, b + m) :: sib b (gp m) e
    else (b, b + gp m) :: sib (b + gp m) (m - gp m) e
termination_by m
decreasing_by
  · exact gp_lt (by omega)
  · have := gp_pos m; omega
theorem sib_one {b m e : Nat} (h : m ≤ 1) : sib b m e = [] := by rw [sib]; simp [h]
theorem sib_low {b m e : Nat} (h : 2 ≤ m) (k : e < b + gp m) : sib b m e = (b + gp m, b + m) :: sib b (gp m) e := by
  rw [sib]; rw [dif_neg (by omega), if_pos k]
theorem sib_high {b m e : Nat} (h : 2 ≤ m) (k : ¬ e < b + gp m) : sib b m e = (b, b + gp m) :: sib (b + gp m) (m - gp m) e := by
  rw [sib]; rw [dif_neg (by omega), if_neg k]

/-! ### joining up again -/
def join (x y : Nat × Nat) : Nat × Nat := (min x.1 y.1, max x.2 y.2)
/-- the halves of a node -/
def halv (x : Nat × Nat) : (Nat × Nat) × (Nat × Nat) := ((x.1, x.1 + gp (x.2 - x.1)), (x.1 + gp (x.2 - x.1), x.2))
def ok1 (x y : Nat × Nat) : Prop := (join x y).1 + 2 ≤ (join x y).2 ∧ (halv (join x y) = (x, y) ∨ halv (join x y) = (y, x))
def oks : Nat × Nat → List (Nat × Nat) → Prop
  | _, [] => True
  | x, y :: r => ok1 x y ∧ oks (join x y) r
def top : Nat × Nat → List (Nat × Nat) → Nat × Nat
  | x, [] => x
  | x, y :: r => top (join x y) r
theorem oks_append : ∀ (x : Nat × Nat) (l r : List (Nat × Nat)), oks x l → oks (top x l) r → oks x (l ++ r)
  | _, [], _, _, h => h
  | x, y :: l, r, h1, h2 => ⟨h1.1, oks_append (join x y) l r h1.2 h2⟩
theorem top_append : ∀ (x : Nat × Nat) (l r : List (Nat × Nat)), top x (l ++ r) = top (top x l) r
  | _, [], _ => rfl
  | x, y :: l, r => top_append (join x y) l r
theorem sib_up : ∀ (m b e : Nat), b ≤ e → e < b + m → oks (e, e + 1) (sib b m e).reverse ∧ top (e, e + 1) (sib b m e).reverse = (b, b + m) := by
  intro m
  induction m using Nat.strongRecOn with
  | ind m ih =>
    intro b e h1 h2
    by_cases hm : m ≤ 1
    · have : m = 1 := by omega
      subst this
      rw [sib_one (by omega)]
      have : e = b := by omega
      subst this
      exact ⟨True.intro, rfl⟩
    · have g1 := gp_lt (m := m) (by omega)
      have g2 := gp_pos m
      by_cases k : e < b + gp m
      · rw [sib_low (by omega) k, List.reverse_cons]
        obtain ⟨p, q⟩ := ih (gp m) g1 b e h1 k
        have j : join (b, b + gp m) (b + gp m, b + m) = (b, b + m) := by
          unfold join; simp only []; rw [Nat.min_eq_left (by omega), Nat.max_eq_right (by omega)]
        refine ⟨oks_append _ _ _ p ?_, ?_⟩
        · rw [q]
          refine ⟨⟨?_, .inl ?_⟩, True.intro⟩
          · rw [j]; simp only []; omega
          · rw [j]; unfold halv; simp only []; rw [Nat.add_sub_cancel_left]
        · rw [top_append, q]; exact j
      · rw [sib_high (by omega) k, List.reverse_cons]
        obtain ⟨p, q⟩ := ih (m - gp m) (by omega) (b + gp m) e (by omega) (by omega)
        have e2 : b + gp m + (m - gp m) = b + m := by omega
        rw [e2] at q
        have j : join (b + gp m, b + m) (b, b + gp m) = (b, b + m) := by
          unfold join; simp only []; rw [Nat.min_eq_right (by omega), Nat.max_eq_left (by omega)]
        refine ⟨oks_append _ _ _ p ?_, ?_⟩
        · rw [q]
          refine ⟨⟨?_, .inr ?_⟩, True.intro⟩
          · rw [j]; simp only []; omega
          · rw [j]; unfold halv; simp only []; rw [Nat.add_sub_cancel_left]
        · rw [top_append, q]; exact j
theorem sib_len_pow (i : Nat) : ∀ (b e : Nat), b ≤ e → e < b + 2 ^ i → (sib b (2 ^ i) e).length = i := by
  induction i with
  | zero => intro b e h1 h2; rw [sib_one (by simp)]; rfl
  | succ i ih =>
    intro b e h1 h2
    have h3 : 2 ≤ 2 ^ (i + 1) := by rw [Nat.pow_succ]; have := Nat.pow_pos (a := 2) (n := i) (by decide); omega
    have g := gp_pow i
    have e2 : 2 ^ (i + 1) - 2 ^ i = 2 ^ i := by rw [Nat.pow_succ]; omega
    by_cases k : e < b + gp (2 ^ (i + 1))
    · rw [sib_low h3 k, List.length_cons, g, ih b e h1 (by omega)]
    · rw [sib_high h3 k, List.length_cons, g, e2, ih (b + 2 ^ i) e (by omega) (by rw [Nat.pow_succ] at h2; omega)]
/-! ### the peaks by digits: (begin, height) -/
def pk : Nat → Nat → Nat → List (Nat × Nat)
  | 0, _, _ => []
  | i + 1, n, b => if n.testBit i then (b, i) :: pk i n (b + 2 ^ i) else pk i n b
theorem mod_succ (n i : Nat) : n % 2 ^ (i + 1) = (if n.testBit i then 2 ^ i else 0) + n % 2 ^ i := by
  rw [Nat.mod_pow_succ, Nat.testBit_eq_decide_div_mod_eq, Nat.add_comm]
  have h : n / 2 ^ i % 2 = 0 ∨ n / 2 ^ i % 2 = 1 := by omega
  rcases h with h | h <;> rw [h] <;> simp
theorem pk_nil : ∀ (i n b : Nat), n % 2 ^ i = 0 → pk i n b = []
  | 0, _, _, _ => rfl
  | i + 1, n, b, h => by
    rw [mod_succ] at h
    have p := Nat.pow_pos (a := 2) (n := i) (by decide)
    unfold pk
    cases t : n.testBit i with
    | true => rw [t] at h; simp at h
    | false => rw [t] at h; simp at h; simp; exact pk_nil i n b h
theorem pk_ne : ∀ (i n b : Nat), n % 2 ^ i ≠ 0 → pk i n b ≠ []
  | 0, _, _, h => by simp [Nat.mod_one] at h
  | i + 1, n, b, h => by
    rw [mod_succ] at h
    unfold pk
    cases t : n.testBit i with
    | true => simp
    | false => rw [t] at h; simp at h; simp; exact pk_ne i n b (by omega)
theorem pk_begin : ∀ (i n b : Nat) (x : Nat × Nat), x ∈ pk i n b → b ≤ x.1 ∧ x.2 < i
  | 0, _, _, _, h => by simp [pk] at h
  | i + 1, n, b, x, h => by
    unfold pk at h
    cases t : n.testBit i with
    | true =>
      rw [t] at h; simp at h
      rcases h with h | h
      · subst h; exact ⟨Nat.le_refl _, Nat.lt_succ_self _⟩
      · have := pk_begin i n _ x h; have p := Nat.pow_pos (a := 2) (n := i) (by decide); omega
    | false =>
      rw [t] at h; simp at h
      have := pk_begin i n _ x h; omega
/-- what the law says of the levels: s the place of the first row, of t rows in all -/
def lev (t : Nat) : Nat → List (Nat × Nat) → List (Nat × Nat × Nat)
  | _, [] => []
  | s, x :: r => (x.1, x.1 + 2 ^ x.2, x.2 + min (s + 1) (t - 1)) :: lev t (s + 1) r
def due (e : Nat) (l : List (Nat × Nat × Nat)) : List Nat := (l.filter fun x => decide (x.1 ≤ e) && decide (e < x.2.1)).map fun x => x.2.2
theorem due_none (t e : Nat) : ∀ (l : List (Nat × Nat)) (s : Nat), (∀ x ∈ l, e < x.1) → due e (lev t s l) = []
  | [], _, _ => rfl
  | x :: r, s, h => by
    have h1 := h x (List.mem_cons_self)
    have ih := due_none t e r (s + 1) fun y hy => h y (List.mem_cons_of_mem _ hy)
    show List.map _ (List.filter _ ((x.1, x.1 + 2 ^ x.2, x.2 + min (s + 1) (t - 1)) :: lev t (s + 1) r)) = []
    rw [List.filter_cons, if_neg (by simp; omega)]
    exact ih
theorem due_is (n e : Nat) : ∀ (i b s : Nat), b ≤ e → e < b + n % 2 ^ i → due e (lev (s + (pk i n b).length) s (pk i n b)) = [(sib b (n % 2 ^ i) e).length + min s (s + (pk i n b).length - 1)] := by
  intro i
  induction i with
  | zero => intro b s h1 h2; simp [Nat.mod_one] at h2; omega
  | succ i ih =>
    intro b s h1 h2
    have p := Nat.pow_pos (a := 2) (n := i) (by decide)
    have ml := Nat.mod_lt n p
    cases t : n.testBit i with
    | false =>
      have e1 : n % 2 ^ (i + 1) = n % 2 ^ i := by rw [mod_succ, t]; simp
      have e2 : pk (i + 1) n b = pk i n b := by show (if n.testBit i = true then _ else _) = _; rw [t]; simp
      rw [e1] at h2
      rw [e1, e2]; exact ih b s h1 h2
    | true =>
      have e1 : n % 2 ^ (i + 1) = 2 ^ i + n % 2 ^ i := by rw [mod_succ, t]; simp
      have e2 : pk (i + 1) n b = (b, i) :: pk i n (b + 2 ^ i) := by show (if n.testBit i = true then _ else _) = _; rw [t]; simp
      rw [e1] at h2
      rw [e1, e2, List.length_cons]
      by_cases r0 : n % 2 ^ i = 0
      · rw [pk_nil i n _ r0, r0]
        rw [r0] at h2
        rw [Nat.add_zero] at h2
        rw [Nat.add_zero (2 ^ i), sib_len_pow i b e h1 h2]
        show List.map _ (List.filter _ [(b, b + 2 ^ i, i + min (s + 1) (s + (0 + 1) - 1))]) = _
        rw [List.filter_cons, if_pos (by simp; omega)]
        simp
      · have hne : 1 ≤ (pk i n (b + 2 ^ i)).length := by
          have := pk_ne i n (b + 2 ^ i) r0
          cases hh : pk i n (b + 2 ^ i) with
          | nil => exact absurd hh this
          | cons _ _ => rw [List.length_cons]; omega
        have g : gp (2 ^ i + n % 2 ^ i) = 2 ^ i := gp_eq (by omega) (by omega)
        by_cases k : e < b + 2 ^ i
        · rw [sib_low (by omega) (by rw [g]; exact k), g, List.length_cons, sib_len_pow i b e h1 k]
          have d := due_none (s + ((pk i n (b + 2 ^ i)).length + 1)) e (pk i n (b + 2 ^ i)) (s + 1) fun x hx => by have := pk_begin _ _ _ x hx; omega
          show List.map _ (List.filter _ ((b, b + 2 ^ i, i + min (s + 1) (s + ((pk i n (b + 2 ^ i)).length + 1) - 1)) :: lev (s + ((pk i n (b + 2 ^ i)).length + 1)) (s + 1) (pk i n (b + 2 ^ i)))) = _
          rw [List.filter_cons, if_pos (by simp; omega), List.map_cons]
          have d' : List.map (fun x => x.2.2) (List.filter (fun x => decide (x.1 ≤ e) && decide (e < x.2.1)) (lev (s + ((pk i n (b + 2 ^ i)).length + 1)) (s + 1) (pk i n (b + 2 ^ i)))) = [] := d
          rw [d']
          simp
          omega
        · rw [sib_high (by omega) (by rw [g]; exact k), g, List.length_cons, Nat.add_sub_cancel_left]
          have q := ih (b + 2 ^ i) (s + 1) (by omega) (by omega)
          have e3 : s + 1 + (pk i n (b + 2 ^ i)).length = s + ((pk i n (b + 2 ^ i)).length + 1) := by omega
          rw [e3] at q
          show List.map _ (List.filter _ ((b, b + 2 ^ i, i + min (s + 1) (s + ((pk i n (b + 2 ^ i)).length + 1) - 1)) :: lev (s + ((pk i n (b + 2 ^ i)).length + 1)) (s + 1) (pk i n (b + 2 ^ i)))) = _
          rw [List.filter_cons, if_neg (by simp; omega)]
          refine Eq.trans q ?_
          congr 1
          omega
/-! ### which pairs are nodes -/
/-- the bits of m - 1 -/
def lb (m : Nat) : Nat := if m ≤ 1 then 0 else Nat.log2 (m - 1) + 1
theorem lb_le {x i : Nat} (h : x ≤ 2 ^ i) : lb x ≤ i := by
  unfold lb
  by_cases k : x ≤ 1
  · rw [if_pos k]; omega
  · rw [if_neg k]
    have h1 := Nat.log2_self_le (n := x - 1) (by omega)
    have h2 : 2 ^ Nat.log2 (x - 1) < 2 ^ i := by omega
    exact (Nat.pow_lt_pow_iff_right (by decide : 1 < 2)).mp h2
theorem lb_ge (x : Nat) : x ≤ 2 ^ lb x := by
  unfold lb
  by_cases k : x ≤ 1
  · rw [if_pos k]; omega
  · rw [if_neg k]
    have := Nat.lt_log2_self (n := x - 1)
    omega
theorem lb_pow (i : Nat) : lb (2 ^ i) = i := by
  have h1 := lb_le (Nat.le_refl (2 ^ i))
  have h2 := (Nat.pow_le_pow_iff_right (by decide : 1 < 2)).mp (lb_ge (2 ^ i))
  omega
theorem lb_gp {m : Nat} (h : 2 ≤ m) : 2 ^ lb m = 2 * gp m := by
  unfold lb gp; rw [if_neg (by omega), Nat.pow_succ]; omega
def tree (n b m : Nat) : Prop := 2 ^ lb m ∣ b ∧ (m = 2 ^ lb m ∨ b + m = n)
theorem tree_root (n : Nat) : tree n 0 n := ⟨Nat.dvd_zero _, .inr (Nat.zero_add _)⟩
theorem tree_low {n b m : Nat} (h : 2 ≤ m) (t : tree n b m) : tree n b (gp m) := by
  obtain ⟨d, _⟩ := t
  rw [lb_gp h] at d
  have e : 2 ^ lb (gp m) = gp m := by unfold gp; rw [lb_pow]
  exact ⟨by rw [e]; exact Nat.dvd_trans (Nat.dvd_mul_left _ _) d, .inl e.symm⟩
theorem tree_high {n b m : Nat} (h : 2 ≤ m) (t : tree n b m) : tree n (b + gp m) (m - gp m) := by
  obtain ⟨d, k⟩ := t
  rw [lb_gp h] at d k
  have g1 := gp_lt h
  have g2 := gp_ge h
  have dg : 2 ^ lb (m - gp m) ∣ gp m := by
    have : lb (m - gp m) ≤ Nat.log2 (m - 1) := lb_le (by unfold gp at g1 g2 ⊢; omega)
    exact Nat.pow_dvd_pow 2 this
  refine ⟨Nat.dvd_add (Nat.dvd_trans dg (Nat.dvd_trans (Nat.dvd_mul_left _ _) d)) dg, ?_⟩
  rcases k with k | k
  · left
    have e : m - gp m = gp m := by omega
    rw [e]
    unfold gp; rw [lb_pow]
  · right; omega
theorem sib_len_le : ∀ (m b e : Nat), b ≤ e → e < b + m → (sib b m e).length ≤ lb m := by
  intro m
  induction m using Nat.strongRecOn with
  | ind m ih =>
    intro b e h1 h2
    by_cases hm : m ≤ 1
    · rw [sib_one hm]; exact Nat.zero_le _
    · have g1 := gp_lt (m := m) (by omega)
      have g2 := gp_ge (m := m) (by omega)
      have g3 := gp_pos m
      have e1 : lb m = Nat.log2 (m - 1) + 1 := by unfold lb; rw [if_neg hm]
      by_cases k : e < b + gp m
      · rw [sib_low (by omega) k, List.length_cons]
        have := ih (gp m) g1 b e h1 k
        have e2 : lb (gp m) = Nat.log2 (m - 1) := by unfold gp; rw [lb_pow]
        omega
      · rw [sib_high (by omega) k, List.length_cons]
        have := ih (m - gp m) (by omega) (b + gp m) e (by omega) (by omega)
        have e2 : lb (m - gp m) ≤ Nat.log2 (m - 1) := lb_le (by unfold gp at g1 g2 ⊢; omega)
        omega
end LT
namespace LT
open PySem PySem.Spec PyProof.Rows L2
def topS (i : Nat) : Stmt := PySem.Challenge.pw_logtrees_k17_errors_of_older_lists.main.body.getD i (.Pass ⟨0, 0, 0, 0⟩)
abbrev sIsWhole : Stmt := topS 19
theorem scIsWhole : FnScope ["value"] ["value"] (defScope sIsWhole) := ⟨rfl, rfl, rfl, by decide +kernel, rfl, by decide +kernel, by decide +kernel⟩
abbrev sIsBetween : Stmt := topS 20
theorem scIsBetween : FnScope ["value", "low", "high"] ["value", "low", "high"] (defScope sIsBetween) := ⟨rfl, rfl, rfl, by decide +kernel, rfl, by decide +kernel, by decide +kernel⟩
abbrev sIsTreeNode : Stmt := topS 21
theorem scIsTreeNode : FnScope ["size", "value", "begin", "end", "room"] ["size", "value"] (defScope sIsTreeNode) := ⟨rfl, rfl, rfl, by decide +kernel, rfl, by decide +kernel, by decide +kernel⟩
abbrev sCheckSize : Stmt := topS 22
theorem scCheckSize : FnScope ["size"] ["size"] (defScope sCheckSize) := ⟨rfl, rfl, rfl, by decide +kernel, rfl, by decide +kernel, by decide +kernel⟩
abbrev sCheckOlder : Stmt := topS 23
theorem scCheckOlder : FnScope ["size", "older"] ["size", "older"] (defScope sCheckOlder) := ⟨rfl, rfl, rfl, by decide +kernel, rfl, by decide +kernel, by decide +kernel⟩
abbrev sPowerWithin : Stmt := topS 25
theorem scPowerWithin : FnScope ["number"] ["number"] (defScope sPowerWithin) := ⟨rfl, rfl, rfl, by decide +kernel, rfl, by decide +kernel, by decide +kernel⟩
abbrev sFirstFull : Stmt := topS 26
theorem scFirstFull : FnScope ["begin", "end", "room"] ["begin", "end"] (defScope sFirstFull) := ⟨rfl, rfl, rfl, by decide +kernel, rfl, by decide +kernel, by decide +kernel⟩
abbrev sNodesWithin : Stmt := topS 27
theorem scNodesWithin : FnScope ["size", "begin", "end", "found", "node"] ["size", "begin", "end"] (defScope sNodesWithin) := ⟨rfl, rfl, rfl, by decide +kernel, rfl, by decide +kernel, by decide +kernel⟩
abbrev sPeaks : Stmt := topS 28
theorem scPeaks : FnScope ["size", "found", "begin", "end"] ["size"] (defScope sPeaks) := ⟨rfl, rfl, rfl, by decide +kernel, rfl, by decide +kernel, by decide +kernel⟩
abbrev sOlderList : Stmt := topS 30
theorem scOlderList : FnScope ["size", "older", "tops"] ["size", "older"] (defScope sOlderList) := ⟨rfl, rfl, rfl, by decide +kernel, rfl, by decide +kernel, by decide +kernel⟩
abbrev sOlderCount : Stmt := topS 31
theorem scOlderCount : FnScope ["size", "older"] ["size", "older"] (defScope sOlderCount) := ⟨rfl, rfl, rfl, by decide +kernel, rfl, by decide +kernel, by decide +kernel⟩
abbrev sLongestOlder : Stmt := topS 32
theorem scLongestOlder : FnScope ["size", "longest"] ["size"] (defScope sLongestOlder) := ⟨rfl, rfl, rfl, by decide +kernel, rfl, by decide +kernel, by decide +kernel⟩
abbrev sLawWound : Stmt := topS 34
theorem scLawWound : FnScope ["script", "k", "cell"] ["script", "k"] (defScope sLawWound) := ⟨rfl, rfl, rfl, by decide +kernel, rfl, by decide +kernel, by decide +kernel⟩
abbrev sLawSpin : Stmt := topS 35
theorem scLawSpin : FnScope ["reel", "many", "drawn", "mixed"] ["reel", "many"] (defScope sLawSpin) := ⟨rfl, rfl, rfl, by decide +kernel, rfl, by decide +kernel, by decide +kernel⟩
abbrev sLawDrawnSize : Stmt := topS 36
theorem scLawDrawnSize : FnScope ["reel", "power", "other", "some"] ["reel"] (defScope sLawDrawnSize) := ⟨rfl, rfl, rfl, by decide +kernel, rfl, by decide +kernel, by decide +kernel⟩
abbrev sLawToldKind : Stmt := topS 37
theorem scLawToldKind : FnScope ["e", "found", "name", "told"] ["e"] (defScope sLawToldKind) := ⟨rfl, rfl, rfl, by decide +kernel, rfl, by decide +kernel, by decide +kernel⟩
abbrev sLawKinds : Stmt := topS 38
theorem scLawKinds : FnScope ["e", "found"] ["e"] (defScope sLawKinds) := ⟨rfl, rfl, rfl, by decide +kernel, rfl, by decide +kernel, by decide +kernel⟩
abbrev sLawTold : Stmt := topS 39
theorem scLawTold : FnScope ["door", "one", "two", "kept", "caught", "e"] ["door", "one", "two"] (defScope sLawTold) := ⟨rfl, rfl, rfl, by decide +kernel, rfl, by decide +kernel, by decide +kernel⟩
abbrev sLawRight : Stmt := topS 40
theorem scLawRight : FnScope ["reel", "size", "odd", "bad", "two", "early", "door"] ["reel", "size"] (defScope sLawRight) := ⟨rfl, rfl, rfl, by decide +kernel, rfl, by decide +kernel, by decide +kernel⟩
abbrev sLaw : Stmt := topS 41
theorem scLaw : FnScope ["script", "k", "reel", "size"] ["script"] (defScope sLaw) := ⟨rfl, rfl, rfl, by decide +kernel, rfl, by decide +kernel, by decide +kernel⟩
/-- a def as it stands behind the top -/
structure At (K : PySem.W.Frag) (mg : Str → Option Value) (x : Str) (f : Addr) (fd : FuncData) (ps : List Str) : Prop where
  m : mg x = some (.ref f)
  kp : PySem.W.keepIn K (.ref f) = true
  b : Binds K fd ps []
theorem units1 {k : Nat} {A : Around} (r : Room k A) : A.units + 65 < cLine := by have := r.un; omega
/-- all but b as it was -/
def But (b : Addr) (H H' : Hp) : Prop := ∀ a o, a ≠ b → H a = some o → H' a = some o
theorem But.refl (b : Addr) (H : Hp) : But b H H := fun _ _ _ h => h
theorem But.trans {b : Addr} {H H1 H2 : Hp} (x : But b H H1) (y : But b H1 H2) : But b H H2 := fun a o n h => y a o n (x a o n h)
theorem But.of {b : Addr} {H H1 : Hp} (x : Same H H1) : But b H H1 := fun a o _ h => x a o h
theorem same_upd {H : Hp} {p : Addr} {o : HO} (h : H p = none) : Same H (upd H p o) := fun b x e => by
  rw [upd_ne (ne_of_none e h)]
  exact e
def BagAt (H : Hp) (b : Addr) : Prop := ∃ x y z : Int, H b = some (.lst [.int x, .int y, .int z])
theorem BagAt.same {H H' : Hp} {b : Addr} (h : BagAt H b) (s : Same H H') : BagAt H' b := by
  obtain ⟨x, y, z, e⟩ := h
  exact ⟨x, y, z, s _ _ e⟩
/-- a pair of ints -/
def Nd (H : Hp) (v : V) (x : Nat × Nat) : Prop := ∃ p, v = .ref p ∧ H p = some (.tup [.int x.1, .int x.2])
theorem Nd.same {H H' : Hp} {v : V} {x : Nat × Nat} (h : Nd H v x) (s : Same H H') : Nd H' v x := by
  obtain ⟨p, e, q⟩ := h
  exact ⟨p, e, s _ _ q⟩
theorem Nd.dp {K : PySem.W.Frag} {H : Hp} {v : V} {x : Nat × Nat} (h : Nd H v x) : Dp K H v (.tuple [.int x.1, .int x.2]) := by
  obtain ⟨p, rfl, q⟩ := h
  exact .tup (SqT.of q) (.cons (.int _) (.cons (.int _) .nil))
theorem nd_shaped (a b : Int) : SeqAt.shaped (.tuple [.int a, .int b]) = true := by
  show (PyData.canLay0 _ && decide (PyData.depth _ ≤ 64)) = true
  simp [PyData.canLay0, PyData.canLayAll0, PyData.depth, PyData.depthAll]
theorem nd_eqv (a b c d : Int) : PyData.eqv (.tuple [.int a, .int b]) (.tuple [.int c, .int d]) = (decide (a = c) && decide (b = d)) := by
  have e : PyData.eqv (.tuple [.int a, .int b]) (.tuple [.int c, .int d]) = ((a == c) && ((b == d) && true)) := by simp only [PyData.eqv, PyData.eqvAll]
  rw [e, Bool.and_true]
  by_cases h1 : a = c <;> by_cases h2 : b = d <;> simp [h1, h2]
/-- lists of values and what they stand for -/
inductive All2 {α : Type} (R : V → α → Prop) : List V → List α → Prop
  | nil : All2 R [] []
  | cons {v : V} {x : α} {vs : List V} {xs : List α} : R v x → All2 R vs xs → All2 R (v :: vs) (x :: xs)
section
variable {α : Type} {R R' : V → α → Prop}
theorem All2.mono (f : ∀ v x, R v x → R' v x) : ∀ {vs : List V} {xs : List α}, All2 R vs xs → All2 R' vs xs
  | _, _, .nil => .nil
  | _, _, .cons h t => .cons (f _ _ h) (All2.mono f t)
theorem All2.len : ∀ {vs : List V} {xs : List α}, All2 R vs xs → vs.length = xs.length
  | _, _, .nil => rfl
  | _, _, .cons _ t => by rw [List.length_cons, List.length_cons, All2.len t]
theorem All2.app : ∀ {vs : List V} {xs : List α} {us : List V} {ys : List α}, All2 R vs xs → All2 R us ys → All2 R (vs ++ us) (xs ++ ys)
  | _, _, _, _, .nil, h => h
  | _, _, _, _, .cons h t, k => .cons h (All2.app t k)
theorem All2.rev : ∀ {vs : List V} {xs : List α}, All2 R vs xs → All2 R vs.reverse xs.reverse
  | _, _, .nil => .nil
  | _, _, .cons h t => by
    rw [List.reverse_cons, List.reverse_cons]
    exact All2.app (All2.rev t) (.cons h .nil)
theorem All2.nth : ∀ {vs : List V} {xs : List α} {i : Nat} {v : V}, All2 R vs xs → vs[i]? = some v → ∃ x, xs[i]? = some x ∧ R v x
  | _, _, _, _, .nil, h => by simp at h
  | _, _, 0, _, .cons h t, e => by
    have := Option.some.inj e
    subst this
    exact ⟨_, rfl, h⟩
  | _, _, i + 1, _, .cons h t, e => by
    rw [List.getElem?_cons_succ] at e ⊢
    exact All2.nth t e
theorem All2.nth2 : ∀ {vs : List V} {xs : List α} {i : Nat} {x : α}, All2 R vs xs → xs[i]? = some x → ∃ v, vs[i]? = some v ∧ R v x
  | _, _, _, _, .nil, h => by simp at h
  | _, _, 0, _, .cons h t, e => by
    have := Option.some.inj e
    subst this
    exact ⟨_, rfl, h⟩
  | _, _, i + 1, _, .cons h t, e => by
    rw [List.getElem?_cons_succ] at e ⊢
    exact All2.nth2 t e
end

/-! ### rules within a comprehension: what they say of the written part is said of the def's -/
section
open PySem L2
variable {X : Cx} {s : Shared} {H : Hp} {sc : Scope} {ce : Env} {fp : List Addr}
theorem pg_tupB {es : List Expr} {k : Nat} {pos : Pos} {t : TGs} {n : Nat} (hc : X.calm = true) (h : PGs (X.blk s H sc ce fp) es t)
    (hn : (assignEach es (X.blk s H sc ce fp).env).length = n := by rfl) (hst : (assignEach es (X.blk s H sc ce fp).env).findIdx? (·.1) = none := by rfl) : PG (X.blk s H sc ce fp) (.Tuple es k pos) (gTup X.K n t) := pg_tup hc h hn hst
theorem ix_listB : IxR (X.blk s H sc ce fp) (rIxL X.K) := ix_list
theorem ix_tupB : IxR (X.blk s H sc ce fp) (rIxT X.K) := ix_tup
theorem call_len_seqB : CallR (X.blk s H sc ce fp) (.builtin "len") (fun xs H Q => ∃ p ys, xs = [.ref p] ∧ (SqL X.K H p ys ∨ SqT X.K H p ys) ∧ Q (.int ys.length) H) := call_len_seq
theorem op_eqDB (hu : X.A.units + 64 < cLine) : OpR (X.blk s H sc ce fp) (compareOp .Eq) (rEqD X.K) := op_eqD (X := X.blk s H sc ce fp) hu
theorem op_neDB (hu : X.A.units + 64 < cLine) : OpR (X.blk s H sc ce fp) (compareOp .NotEq) (rNeD X.K) := op_neD (X := X.blk s H sc ce fp) hu
theorem op_inDB (hu : X.A.units + 65 < cLine) : OpR (X.blk s H sc ce fp) (compareOp .In) (rInD X.K) := op_inD (X := X.blk s H sc ce fp) hu
theorem op_notInDB (hu : X.A.units + 65 < cLine) : OpR (X.blk s H sc ce fp) (compareOp .NotIn) (rNotInD X.K) := op_notInD (X := X.blk s H sc ce fp) hu
end
theorem Nd.upd {H : Hp} {v : V} {x : Nat × Nat} {s : Addr} {xs : List V} {o : HO} (h : Nd H v x) (hs : H s = some (.lst xs)) : Nd (upd H s o) v x := by
  obtain ⟨p, e, q⟩ := h
  exact ⟨p, e, by rw [upd_ne (ne_of q hs (by intro z; cases z))]; exact q⟩
def full (x : Nat × Nat) : Nat × Nat := (x.1, x.1 + 2 ^ x.2)
theorem pk_len : ∀ (i n b : Nat), (pk i n b).length ≤ i
  | 0, _, _ => Nat.le_refl _
  | i + 1, n, b => by
    show (if n.testBit i = true then (b, i) :: pk i n (b + 2 ^ i) else pk i n b).length ≤ i + 1
    by_cases t : n.testBit i = true
    · rw [if_pos t, List.length_cons]
      exact Nat.succ_le_succ (pk_len i n _)
    · rw [if_neg t]
      exact Nat.le_succ_of_le (pk_len i n b)
theorem take_more {α : Type} : ∀ {l : List α} {i : Nat} {x : α}, l[i]? = some x → l.take (i + 1) = l.take i ++ [x]
  | [], i, x, h => by simp at h
  | a :: l, 0, x, h => by
    have e : a = x := Option.some.inj h
    subst e
    rfl
  | a :: l, i + 1, x, h => by
    have ih := take_more (l := l) (i := i) (x := x) h
    show a :: l.take (i + 1) = a :: l.take i ++ [x]
    rw [ih]
    rfl
theorem szle {n : Nat} (h : n ≤ 100000) : n ≤ sizeLine := Nat.le_trans h (by decide)
theorem szlt {n : Nat} (h : n < 100000) : n < sizeLine := Nat.lt_of_lt_of_le h (by decide)
end LT

namespace LT
open PySem PySem.Spec PyProof.Rows L2
/-! ### a caught exception that is kept behind its suite -/
/-- an exception of the class cls at a, its own dict at d, if any -/
def ExK (cls : Value) (d : Option Addr) (a : Addr) : HO := .ext fun h => ∃ (ob : Obj) (fs : Array Value), h.get? a = some ob ∧ Zc cls d ob ∧ ob.data = .fields fs
theorem exK_ok {P : Program} {w : World} {H : Hp} {h : Heap} {a : Addr} {cls : Value} {d : Option Addr} {ob : Obj} {fs : Array Value} (e : h.get? a = some ob) (z : Zc cls d ob) (df : ob.data = .fields fs) : ObjOk P w H h a (ExK cls d a) :=
  ⟨⟨ob, fs, e, z, df⟩, ⟨ob, e⟩, fun _ _ ⟨o, v, q, r⟩ k => ⟨o, v, k o q, r⟩⟩
section
variable {X : Cx} {pins : List (Addr × Obj)} {σ : L2.St} {H : Hp} {s : Shared}
/-- it is told of from now on -/
theorem Inv.adopt {a : Addr} {cls : Value} {d : Option Addr} {ob : Obj} {fs : Array Value} (I : Inv X pins σ H s) (e : s.heap.get? a = some ob) (z : Zc cls d ob) (df : ob.data = .fields fs) (na : H a = none) (n0 : X.s_0.heap.get? a = none)
    (nL : a ≠ X.env.locals) (np : ∀ p ∈ X.pn ++ pins, p.1 ≠ a) : Inv X pins σ (upd H a (ExK cls d a)) s := by
  have ne0 : ∀ b o, X.s_0.heap.get? b = some o → b ≠ a := fun b o q y => by
    rw [y, n0] at q
    cases q
  refine ⟨I.ok, I.os, I.bare, ⟨I.base.keep, I.base.slot, ?_, I.base.there, ?_, ?_, ?_⟩, I.loc, I.cell, ?_, ?_, ?_, ?_, I.len⟩
  · intro b o q n hx
    rw [upd_ne (ne0 b o q)]
    exact I.base.free b o q n hx
  · intro b xs q
    have y := I.base.tups b xs q
    rw [upd_ne (ne_of_none y na)]
    exact y
  · intro b o u q
    have y := I.base.frzs b o u q
    rw [upd_ne (ne_of_none y na)]
    exact y
  · intro b ps q
    obtain ⟨m, y⟩ := I.base.tbls b ps q
    exact ⟨m, by rw [upd_ne (ne_of_none y na)]; exact y⟩
  · rw [upd_ne (fun y => nL y.symm)]
    exact I.free
  · intro x c q
    obtain ⟨v, o, ho, hd⟩ := I.cell x c q
    rw [upd_ne (fun y => by rw [y, e] at ho; cases ho; rw [df] at hd; cases hd)]
    exact I.freeC x c q
  · intro p hp
    obtain ⟨q1, q2, q3⟩ := I.pin p hp
    exact ⟨q1, by rw [upd_ne (np p hp)]; exact q2, q3⟩
  · exact HOk.laidN I.hok (fun _ _ q => q) na (exK_ok e z df)
end
/-- what the ends of a suite say, once the name of its clause has gone and the exception is told of -/
def endsK (i : Nat) (a : Addr) (cls : Value) (d : Option Addr) (D : Ends) : Ends :=
  { nx := fun σ' H' => H' a = none → D.nx (σ'.set i none) (upd H' a (ExK cls d a)), rt := fun v H' => H' a = none → D.rt v (upd H' a (ExK cls d a)),
    bk := fun σ' H' => H' a = none → D.bk (σ'.set i none) (upd H' a (ExK cls d a)), ct := fun σ' H' => H' a = none → D.ct (σ'.set i none) (upd H' a (ExK cls d a)) }
def wKeep (K : PySem.W.Frag) (c : Value) (i : Nat) (ts : Addr → Value → Option Addr → TS) (Wout : WX) (D : Ends) : WX := fun cls d σ H =>
  ∃ b, PySem.W.exmOne K cls c = some b ∧ (b = true → ∀ a, H a = none → ts a cls d (endsK i a cls d D) (σ.set i (some (.ref a))) H) ∧ (b = false → Wout cls d σ H)
section
variable {X : Cx} {x n : Str} {c : Value} {i : Nat} {body suite : List Stmt} {st0 : Stmt} {p1 p2 p3 : Pos} {tb : WX → TS} {ts : Addr → Value → Option Addr → TS} {Wout : WX}
theorem ps_try_keep (hst : X.stack = X.env :: X.outer) (hex : X.ex = []) (hfr : X.env.frame = some X.env.locals) (nod : X.N.Nodup) (slot : X.N[i]? = some n) (own : X.env.kindOf n = some .local) (hc : Names X x c) (tk : Takes X Wout)
    (hb : ∀ (W : WX) (pn : List (Addr × Obj)) (xe : Value → Shared → Prop), Takes (X.tr pn xe) W → PassesOwn (model X.prog X.w) X.A X.env xe → PSs (X.tr pn xe) body (tb W))
    (hsu : ∀ (a : Addr) (ob : Obj) (cls : Value) (d : Option Addr) (pn : List (Addr × Obj)), Zc cls d ob → (∃ fs, ob.data = .fields fs) → PSs (X.suite a ((a, ob) :: pn)) (st0 :: suite) (ts a cls d)) :
    PS X (.Try body [.ExceptHandler (some (.Name x p1)) (some n) (st0 :: suite) p2] [] [] p3) (fun D σ H => tb (wKeep X.K c i ts Wout D) D σ H) := by
  refine ⟨?_⟩
  intro pins s σ H D I h
  have okX := I.ok
  have frms : X.A.frames = some (X.env :: X.outer) := okX.frames.trans (congrArg some hst)
  have locn : Loc X.env.scope n := .inl own
  refine wpAny_Try_except ?_
  let land : Value → Shared → Prop := fun e u1 => wpAny (model X.prog X.w) X.A (noteFrame e X.env) (fun _ u2 => wpAny (model X.prog X.w) X.A (setFlight e none)
    (fun _ u3 => wpAny (model X.prog X.w) X.A (handleBy e X.env [.ExceptHandler (some (.Name x p1)) (some n) (st0 :: suite) p2]) (SP X pins D) X.xe u3) X.xe u2) X.xe u1
  have catch_ : Takes (X.tr (X.pn ++ pins) land) (wKeep X.K c i ts Wout D) := by
    rintro u s' ⟨a, B, sI, pins', τ, G, cls, d, rfl, J', ground, up, sky, na, os, ag, b, hb1, yes, no⟩
    have J : Inv X pins τ G sI := J'.ofTry okX
    have sky1 : Sky B (X.env :: X.outer) a (Zc cls d) X.env.locals s'.heap := hst ▸ sky
    show wpAny (model X.prog X.w) X.A (noteFrame (.ref a) X.env) _ _ _
    refine Sky.land Zc.steady frms hfr sky1 fun ha fa upa => ?_
    have Ja : Inv X pins τ G { s' with heap := ha } := J.landed ground fa.1 (up.trans upa) os ag
    obtain ⟨oa, va, geta, za, da⟩ := fa.there
    have offStack : a ∉ frs (X.env :: X.outer) := fun hm => by
      obtain ⟨_, o', e', hnf⟩ := Heap.FunFrames.mem fa.2.2.1 hm
      rw [geta] at e'
      cases e'
      exact hnf _ da
    have nL : a ≠ X.env.locals := fun y => offStack (List.mem_filterMap.mpr ⟨X.env, List.mem_cons_self, by rw [hfr, y]⟩)
    have nF : a ∉ X.fs := fun hm => by
      obtain ⟨e, he, q⟩ := List.mem_filterMap.mp hm
      exact offStack (List.mem_filterMap.mpr ⟨e, List.mem_cons_of_mem _ he, q⟩)
    -- it was not there before
    have newI : sI.heap.get? a = none := by
      cases q : sI.heap.get? a with
      | none => rfl
      | some o =>
        have y := ground a o q (by rw [hst]; exact offStack)
        rw [fa.2.1] at y
        cases y
    have new0 : X.s_0.heap.get? a = none := by
      cases q : X.s_0.heap.get? a with
      | none => rfl
      | some o =>
        obtain ⟨o', y⟩ := J.base.there a o q (by rw [hex]; exact List.not_mem_nil)
        rw [newI] at y
        cases y
    have npin : ∀ p ∈ X.pn ++ pins, p.1 ≠ a := fun p hp y => by
      have q := (J.pin p hp).1
      rw [y, newI] at q
      cases q
    have Sa := Ja.suite geta da na nL nF
    refine wpAny_handleBy_cons (codeAny_handlers_test ?_) (fun q => by cases q)
    have tyA : PySem.W.Looks (model X.prog X.w) ha (typeOf (.ref a)) cls := fun A Q E s k q => wpAny_typeOf_ref (k _ _ geta) (by rw [za.1]; exact q)
    have asked := PySem.W.exm_one (M := model X.prog X.w) (Ja.kIn) tyA hb1
    have named : ∀ {Q : Value → Shared → Prop} {E : Value → Shared → Prop}, Q c { s' with heap := ha } → wpAny (model X.prog X.w) (X.A.mark (some (.ref a))) (eval (.Name x p1) X.env) Q E { s' with heap := ha } := by
      intro Q E q
      obtain ⟨hg, hdbg, hm | ⟨hm, hv, hnn⟩⟩ := hc
      · exact ld_glob (X := X.suite a ((a, oa) :: (X.pn ++ pins))) Sa hg hm q hdbg
      · exact ld_blt (X := X.suite a ((a, oa) :: (X.pn ++ pins))) Sa hg hm hv q hnn hdbg
    refine named (asked.here ?_)
    cases b with
    | true =>
      refine codeAny_handlers_suite_as ?_
      refine HandSPX.lands_againZ fa fun hz fz upz => ?_
      have Jz : Inv X pins τ G { s' with heap := hz } := J.landed ground fz.1 ((up.trans upa).trans upz) os ag
      obtain ⟨oz, vz, getz, zz, dz⟩ := fz.there
      have Sz := Jz.suite getz dz na nL nF
      refine store_ok (X := X.suite a ((a, oz) :: (X.pn ++ pins))) (v := .ref a) Sz nod slot locn rfl ?_ (.inr own)
      intro s5 S5
      refine wpAny_mono ((hsu a oz cls d (X.pn ++ pins) zz ⟨_, dz⟩).run [] s5 _ G _ S5 (yes rfl a na)) ?_ (fun _ _ y => False.elim y)
      intro fl s6 sp
      have fin : ∀ {σ6 : L2.St} {H6 : Hp} {Q : Shared → Prop}, Inv (X.suite a ((a, oz) :: (X.pn ++ pins))) [] σ6 H6 s6 → H6 a = none ∧ ((∀ s7, Inv X pins (σ6.set i none) (upd H6 a (ExK cls d a)) s7 → Q s7) →
          wpAny (model X.prog X.w) X.A (do bindName X.env n .none; unbindBehindTheSuite X.env n p2) (fun _ s7 => Q s7) X.xe s6) := by
        intro σ6 H6 Q S6
        refine ⟨(S6.pin (a, oz) (List.mem_append_left _ List.mem_cons_self)).2.1, fun hq => ?_⟩
        refine gone_ok (X := X.suite a ((a, oz) :: (X.pn ++ pins))) S6 nod slot own fun s7 S7 => hq s7 ?_
        have pa := S7.pin (a, oz) (List.mem_append_left _ List.mem_cons_self)
        exact Inv.adopt (S7.unsuite okX) pa.1 zz dz pa.2.1 new0 nL npin
      cases fl with
      | next =>
        obtain ⟨σ6, H6, S6, q6⟩ := sp
        exact (fin S6).2 fun s7 J7 => ⟨_, _, J7, q6 (fin (Q := fun _ => True) S6).1⟩
      | brk =>
        obtain ⟨σ6, H6, S6, q6⟩ := sp
        exact (fin S6).2 fun s7 J7 => ⟨_, _, J7, q6 (fin (Q := fun _ => True) S6).1⟩
      | cont =>
        obtain ⟨σ6, H6, S6, q6⟩ := sp
        exact (fin S6).2 fun s7 J7 => ⟨_, _, J7, q6 (fin (Q := fun _ => True) S6).1⟩
      | ret u =>
        obtain ⟨v6, σ6, H6, S6, r6, q6⟩ := sp
        exact (fin S6).2 fun s7 J7 => ⟨_, _, _, J7, r6, q6 (fin (Q := fun _ => True) S6).1⟩
    | false =>
      show wpAny _ X.A (handleBy (.ref a) X.env []) _ _ _
      refine wpAny_handleBy_nil ?_
      obtain ⟨_, _, _, ob, fv, T, oT, ts', he, hz, hd, h1, hr⟩ := id fa
      unfold PySem.passOn
      refine wpAny_bind (wpAny_field he hd h1 ?_)
      rw [if_neg (show ¬ ((Value.ref T == Value.none) = true) from by simp)]
      have on_ : wpAny (model X.prog X.w) X.A (setFlight (.ref a) X.env.frame) (fun _ u4 => wpAny (model X.prog X.w) X.A (throw (.ref a) : Sem Flow) (SP X pins D) X.xe u4) X.xe { s' with heap := ha } := by
        rw [hfr]
        refine HandSPX.setFlight_upZ fa fun h4 hh4 up4 => wpAny_throw (tk _ _ ?_)
        exact ⟨a, B, sI, pins, τ, G, cls, d, rfl, J, ground, (up.trans upa).trans up4, .inr (.inr (by rw [hst]; exact hh4)), na, os, ag, no rfl⟩
      first
        | exact wpAny_bind (wpAny_pure (wpAny_bind on_))
        | exact wpAny_bind on_
  refine wpAny_mono ((hb (wKeep X.K c i ts Wout D) (X.pn ++ pins) land catch_ PassesOwn.looking).run [] s σ H D (I.toTry _) h) ?_ (fun e s1 he => he)
  intro fl s1 sp
  cases fl with
  | next =>
    obtain ⟨σ', H', J', q⟩ := sp
    exact wpAny_execs_nil ⟨σ', H', J'.ofTry okX, q⟩
  | brk =>
    obtain ⟨σ', H', J', q⟩ := sp
    exact ⟨σ', H', J'.ofTry okX, q⟩
  | cont =>
    obtain ⟨σ', H', J', q⟩ := sp
    exact ⟨σ', H', J'.ofTry okX, q⟩
  | ret u =>
    obtain ⟨v, σ', H', J', r, q⟩ := sp
    exact ⟨v, σ', H', J'.ofTry okX, r, q⟩
end
section
variable {X : Cx}
/-- isinstance(e, c), e an exception that is kept, without a dict of its own -/
def rIsK (K : PySem.W.Frag) : List V → Hp → VK → Prop := fun xs H Q => ∃ (a D : Addr) (c : V) (cv : Value) (b : Bool), xs = [.ref a, c] ∧ H a = some (ExK (.ref D) none a) ∧ ExcC K D ∧ (∀ u, RelV c u → u = cv) ∧ PySem.W.kitOne K (.ref D) cv = some b ∧ Q (.bl b) H
theorem call_isK : CallR X (.builtin "isinstance") (rIsK X.K) := by
  intro pins s σ H xs us Q I r h
  obtain ⟨a, D, c, cv, b, rfl, ha, C, hcv, e, q⟩ := h
  obtain ⟨u1, us1, rfl, r1, r2⟩ : ∃ u us', us = u :: us' ∧ RelV (.ref a) u ∧ Vals [c] us' := by
    cases r with | cons h t => exact ⟨_, _, rfl, h, t⟩
  obtain ⟨u2, rfl, r3⟩ := vals1 r2
  cases r1
  have ec := hcv _ r3
  subst ec
  obtain ⟨⟨ob, fs, hget, hz, hd⟩, _, _⟩ := I.hok a _ ha
  have J : PySem.W.InstAt s.heap a ob D none := by
    obtain ⟨oc, od, oda, osl⟩ := ob
    obtain ⟨z1, z2⟩ := hz
    dsimp only at z1 z2 hd
    subst z1 z2 hd
    exact ⟨hget, rfl, rfl, trivial⟩
  refine PySem.W.kia_one (PySem.W.handS_kitx_exc C.hg C.hk C.hs C.hd C.ha C.hn C.ht C.hm) I.kIn J e (fun z => nomatch z) ?_
  intro tk
  exact ⟨.bl b, H, I.kept (t' := tk) fun _ _ z => z, rfl, q⟩
end
end LT

namespace LT
open PySem PySem.Spec PyProof.Rows L2
/-! ### repr of a new list of plain values, one of them an empty dict, perhaps -/
inductive Sm (H : Hp) : V → PyData → Prop
  | non : Sm H .non .none
  | bl (b) : Sm H (.bl b) (.bool b)
  | int (i) : Sm H (.int i) (.int i)
  | str (x) : Sm H (.str x) (.str x)
  | tup {p i} (e : H p = some (.tup [.int i])) : Sm H (.ref p) (.tuple [.int i])
  | lst {p i} (e : H p = some (.lst [.int i])) : Sm H (.ref p) (.list [.int i])
  | dict {p} (e : H p = some (.dK [])) : Sm H (.ref p) (.dict [])
theorem Sm.same {H H' : Hp} {v : V} {d : PyData} (h : Sm H v d) (s : Same H H') : Sm H' v d := by
  cases h with
  | non => exact .non
  | bl b => exact .bl b
  | int i => exact .int i
  | str x => exact .str x
  | tup e => exact .tup (s _ _ e)
  | lst e => exact .lst (s _ _ e)
  | dict e => exact .dict (s _ _ e)
def noL : PyData → Bool
  | .list _ => false
  | _ => true
section
variable {X : Cx} {pins : List (Addr × Obj)} {σ : L2.St} {H : Hp} {s : Shared}
theorem Sm.reads (I : Inv X pins σ H s) {v : V} {d : PyData} {u : Value} (h : Sm H v d) (r : RelV v u) : ∃ as, Reads s.heap u d as ∧ (noL d = true → sysModules ∉ as) := by
  cases h with
  | non =>
    cases r
    exact ⟨_, Reads.none, fun _ => List.not_mem_nil⟩
  | bl b =>
    cases r
    exact ⟨_, Reads.bool b, fun _ => List.not_mem_nil⟩
  | int i =>
    obtain ⟨t, rfl⟩ := r
    exact ⟨_, Reads.int i t, fun _ => List.not_mem_nil⟩
  | str x =>
    obtain ⟨t, rfl⟩ := r
    exact ⟨_, Reads.str x t, fun _ => List.not_mem_nil⟩
  | @tup p i e =>
    cases r
    obtain ⟨its, rv, ⟨o, ho, hc, n, hd⟩, _⟩ := I.tuple (SqT.of e)
    obtain ⟨u1, e1, r1⟩ := vals1 rv
    obtain ⟨t, rfl⟩ := r1
    refine ⟨_, Reads.tuple ho hc hd (xs := [.int i]) (as := [] ++ []) ?_, fun _ => List.not_mem_nil⟩
    rw [show its.toArray.toList = [.int i t] by rw [e1]]
    exact .cons (.int i t) .nil
  | @lst p i e =>
    cases r
    obtain ⟨its, rv, ⟨o, n, ho, hc, _, hd⟩, _⟩ := I.list (SqL.of e)
    obtain ⟨u1, e1, r1⟩ := vals1 rv
    obtain ⟨t, rfl⟩ := r1
    refine ⟨_, Reads.list ho hc hd (xs := [.int i]) (as := [] ++ []) ?_, fun z => nomatch z⟩
    rw [show its.toArray.toList = [.int i t] by rw [e1]]
    exact .cons (.int i t) .nil
  | @dict p e =>
    cases r
    obtain ⟨_, hs, vs, kv, o, es, ep, ho, hx, hd, _, hp, _⟩ := dk_of I.hok e
    cases kv
    have e0 : es.toList = [] := by
      cases h : es.toList with
      | nil => rfl
      | cons a l => rw [h] at hp; cases hp
    refine ⟨_, Reads.dict (kvs := []) (as := []) (bs := []) ho hx.1 hd ?_ ?_, fun _ z => ?_⟩
    · rw [e0]; exact .nil
    · rw [e0]; exact .nil
    · rcases List.mem_cons.mp z with z | z
      · rw [← z] at hs; exact absurd hs (by decide)
      · cases z
theorem Sm.readsAll (I : Inv X pins σ H s) : ∀ {vs : List V} {ds : List PyData} {us : List Value}, All2 (Sm H) vs ds → Vals vs us → ∃ as, ReadsAll s.heap us ds as ∧ (ds.all noL = true → sysModules ∉ as)
  | _, _, _, .nil, r => by
    cases r
    exact ⟨_, .nil, fun _ => List.not_mem_nil⟩
  | _, _, _, .cons h t, r => by
    cases r with
    | cons r1 r2 =>
      obtain ⟨as, a1, a2⟩ := Sm.reads I h r1
      obtain ⟨bs, b1, b2⟩ := Sm.readsAll I t r2
      refine ⟨_, .cons a1 b1, fun z => ?_⟩
      rw [List.all_cons, Bool.and_eq_true] at z
      exact fun m => (List.mem_append.mp m).elim (a2 z.1) (b2 z.2)
theorem Sm.deep {vs : List V} {ds : List PyData} (h : All2 (Sm H) vs ds) : PyData.depthAll ds ≤ 2 := by
  induction h with
  | nil => simp [PyData.depthAll]
  | cons h _ ih =>
    have : ∀ {v d}, Sm H v d → PyData.depth d ≤ 2 := fun h => by
      cases h <;> simp [PyData.depth, PyData.depthAll, PyData.depthKv]
    simp only [PyData.depthAll]
    have := this h
    omega
/-- [..], not where sys.modules stands -/
def tLstN (t : TA) : TE := fun σ H Q => t σ H fun xs H1 => xs.length ≤ sizeLine ∧ ∀ p, H1 p = none → (p == sysModules) = false → Q (.ref p) (upd H1 p (.lst xs))
theorem pe_lstN {es : List Expr} {pos : Pos} {t : TA} (h : PA X es t) : PE X (.List es pos) (tLstN t) := by
  refine ⟨fun pins s σ H Q I hq => ?_⟩
  refine wpAny_List_spliced (thn (h.run pos pins s σ H _ I hq) fun us s1 ⟨xs, H1, I1, r, z, q⟩ => ⟨by rw [← r.length]; exact z, ?_⟩)
  have hf : H1 s1.heap.objs.size = none := I1.hok.fresh (Nat.le_refl _)
  refine ⟨.ref s1.heap.objs.size, upd H1 s1.heap.objs.size (.lst xs), I1.laid (t' := s1.toks) (fun b u e => Heap.get?_push_of_some _ e) (Nat.le_refl _) ?_, rfl, q _ hf (beq_eq_false_iff_ne.mpr (Ne.symm (Nat.ne_of_lt I1.big)))⟩
  exact ⟨z, us, 0, r, Heap.get?_push_size _ rfl⟩
/-- repr of it -/
theorem call_reprN (hg : X.A.guards = some []) (hu : X.A.units + 65 < cLine) :
    CallR X (.builtin "repr") (fun xs H Q => ∃ p vs ds, xs = [.ref p] ∧ H p = some (.lst vs) ∧ (p == sysModules) = false ∧ All2 (Sm H) vs ds ∧ (PyData.hasDictAll ds = true → ds.all noL = true) ∧ (PyData.list ds).showable = true ∧ (PyData.list ds).shown.length ≤ sizeLine ∧ Q (.str (PyData.list ds).shown) H) := by
  intro pins s σ H xs us Q I r h
  obtain ⟨p, vs, ds, rfl, hp, hn, hs, hl, hsh, hlen, q⟩ := h
  obtain ⟨u, rfl, r1⟩ := vals1 r
  cases r1
  obtain ⟨its, rv, ⟨o, n, ho, hc, _, hd⟩, _⟩ := I.list (SqL.of hp)
  obtain ⟨as, a1, a2⟩ := Sm.readsAll I hs rv
  have rd : Reads s.heap (.ref p) (.list ds) (p :: as) := Reads.list ho hc hd a1
  have dp := Sm.deep hs
  refine repr_of_reads' rd hsh (fun z m => ?_) hg (by simp only [PyData.depth]; omega) (fun _ _ q => q) ?_ hlen
  · rcases List.mem_cons.mp m with m | m
    · rw [← m] at hn; exact absurd hn (by decide)
    · exact a2 (hl z) m
  · intro h' u tk kept
    exact ⟨.str (PyData.list ds).shown, H, I.kept kept, ⟨_, rfl⟩, q⟩
end
end LT

namespace LT
open PySem PySem.Spec PyProof.Rows L2
section
variable {P : Program} {w : World} {K : PySem.W.Frag} {mg : Str → Option Value} {base : Heap}
def spWhole : Sp := fun vs H Q _ => ∃ i : Int, vs = [.int i] ∧ Q (.bl true) H
theorem ok_is_whole {f : Addr} {fd : FuncData} (F : Fun K "is_whole" "is_whole" sIsWhole f fd) (z_isinstance : mg "isinstance" = none) (z_int : mg "int" = none) (z_bool : mg "bool" = none) : FnOk P w K mg base CX0 1 f fd ["value"] spWhole := by
  refine F.ok scIsWhole (fun vs H Q E h => ?_) (fun cdv A outer s H vs Q E hr h => ?_)
  · obtain ⟨i, rfl, _⟩ := h
    rfl
  obtain ⟨i, rfl, q⟩ := h
  refine ⟨_, (pss_one (ps_ret (pe_and (pe_callB call_isi (by rfl) z_isinstance (by decide +kernel) (pa_cons (pv 0) (pa_cons (pe_bltn (v := .ty "int") (u := .type "int") (by rfl) z_int (by decide +kernel) rfl) pa_nil))) (pe_one (pe_not (pe_callB call_isi (by rfl) z_isinstance (by decide +kernel) (pa_cons (pv 0) (pa_cons (pe_bltn (v := .ty "bool") (u := .type "bool") (by rfl) z_bool (by decide +kernel) rfl) pa_nil)))))))), ?_⟩
  refine ⟨_, rfl, _, _, _, _, true, rfl, .ty "int", .base (.int i), kit_ty (by decide +kernel), true, rfl, ?_⟩
  refine ⟨_, rfl, _, _, _, _, false, rfl, .ty "bool", .base (.int i), kit_ty (by decide +kernel), false, rfl, ?_⟩
  exact q
def spBetween : Sp := fun vs H Q _ => ∃ v lo hi : Int, vs = [.int v, .int lo, .int hi] ∧ Q (.bl (decide (lo ≤ v) && decide (v ≤ hi))) H
theorem ok_is_between {f g : Addr} {fd gd : FuncData} (F : Fun K "is_between" "is_between" sIsBetween f fd) (GIsWhole : FnOk P w K mg base CX0 1 g gd ["value"] spWhole) (AIsWhole : At K mg "is_whole" g gd ["value"]) : FnOk P w K mg base CX0 2 f fd ["value", "low", "high"] spBetween := by
  refine F.ok scIsBetween (fun vs H Q E h => ?_) (fun cdv A outer s H vs Q E hr h => ?_)
  · obtain ⟨i, _, _, rfl, _⟩ := h
    rfl
  obtain ⟨v, lo, hi, rfl, q⟩ := h
  refine ⟨_, (pss_one (ps_ret (pe_and (pe_call GIsWhole (hr.mono (by decide)) rfl AIsWhole.m AIsWhole.kp AIsWhole.b .nil pass0 (pa_cons (pv 0) pa_nil)) (pe_one (pe_chain op_le op_le (pv 1) (pv 0) (pv 2)))))), ?_⟩
  refine ⟨_, rfl, v, rfl, true, rfl, ?_⟩
  refine ⟨_, rfl, _, rfl, _, _, rfl, rfl, _, rfl, ?_⟩
  by_cases h1 : lo ≤ v
  · rw [decide_eq_true h1] at q ⊢
    exact ⟨_, rfl, _, _, rfl, rfl, q⟩
  · rw [decide_eq_false h1] at q ⊢
    exact q
def spCheckSize : Sp := fun vs H Q _ => ∃ n : Int, vs = [.int n] ∧ 1 ≤ n ∧ n ≤ 10 ^ 30 ∧ Q .non H
theorem ok_check_size {f g : Addr} {fd gd : FuncData} {t : Tok} (F : Fun K "check_size" "check_size" sCheckSize f fd) (GIsBetween : FnOk P w K mg base CX0 2 g gd ["value", "low", "high"] spBetween) (AIsBetween : At K mg "is_between" g gd ["value", "low", "high"]) (g_MOST_ENTRIES : mg "MOST_ENTRIES" = some (.int 1000000000000000000000000000000 t)) : FnOk P w K mg base CX0 3 f fd ["size"] spCheckSize := by
  refine F.ok scCheckSize (fun vs H Q E h => ?_) (fun cdv A outer s H vs Q E hr h => ?_)
  · obtain ⟨i, rfl, _⟩ := h
    rfl
  obtain ⟨n, rfl, h1, h2, q⟩ := h
  refine ⟨_, (pss_one (ps_if (pt_not (pt_val (pe_call GIsBetween (hr.mono (by decide)) rfl AIsBetween.m AIsBetween.kp AIsBetween.b .nil pass0 (pa_cons (pv 0) (pa_cons pe_int (pa_cons (pe_glob (v := .int 1000000000000000000000000000000) rfl g_MOST_ENTRIES ⟨_, rfl⟩) pa_nil))))))
    (pss_one ps_never)
    pss_nil)), ?_⟩
  refine ⟨_, rfl, n, 1, 1000000000000000000000000000000, rfl, _, rfl, ?_⟩
  rw [decide_eq_true h1, decide_eq_true (show n ≤ 1000000000000000000000000000000 from h2)]
  exact q
end
end LT

namespace LT
open PySem PySem.Spec PyProof.Rows L2
/-- values of the plain kinds, with their types -/
inductive Pl (K : PySem.W.Frag) (H : Hp) : V → String → Prop
  | non : Pl K H .non "NoneType"
  | bl (b : Bool) : Pl K H (.bl b) "bool"
  | int (i : Int) : Pl K H (.int i) "int"
  | str (s : Str) : Pl K H (.str s) "str"
  | lst {a : Addr} {xs : List V} : H a = some (.lst xs) → Pl K H (.ref a) "list"
  | tup {a : Addr} {xs : List V} : H a = some (.tup xs) → Pl K H (.ref a) "tuple"
  | dict {a : Addr} {kvs : List (Key × V)} : H a = some (.dK kvs) → Pl K H (.ref a) "dict"
theorem Pl.ty {K : PySem.W.Frag} {H : Hp} {v : V} {t : String} (h : Pl K H v t) : TyX K H v (.type t) := by
  cases h with
  | non => exact .base .non
  | bl b => exact .base (.bl b)
  | int i => exact .base (.int i)
  | str s => exact .base (.str s)
  | lst e => exact .base (.lst e)
  | tup e => exact .base (.tup e)
  | dict e => exact .base (.dK e)
def isInt : V → Bool
  | .int _ => true
  | _ => false
def inRange (lo hi : Int) : V → Bool
  | .int i => decide (lo ≤ i) && decide (i ≤ hi)
  | _ => false
section
variable {P : Program} {w : World} {K : PySem.W.Frag} {mg : Str → Option Value} {base : Heap}
def spWholeV (K : PySem.W.Frag) : Sp := fun vs H Q _ => ∃ (v : V) (t : String), vs = [v] ∧ Pl K H v t ∧ Q (.bl (isInt v)) H
theorem ok_is_wholeV {f : Addr} {fd : FuncData} (F : Fun K "is_whole" "is_whole" sIsWhole f fd) (z_isinstance : mg "isinstance" = none) (z_int : mg "int" = none) (z_bool : mg "bool" = none) : FnOk P w K mg base CX0 1 f fd ["value"] (spWholeV K) := by
  refine F.ok scIsWhole (fun vs H Q E h => ?_) (fun cdv A outer s H vs Q E hr h => ?_)
  · obtain ⟨_, _, rfl, _⟩ := h
    rfl
  obtain ⟨v, t, rfl, hv, q⟩ := h
  refine ⟨_, (pss_one (ps_ret (pe_and (pe_callB call_isi (by rfl) z_isinstance (by decide +kernel) (pa_cons (pv 0) (pa_cons (pe_bltn (v := .ty "int") (u := .type "int") (by rfl) z_int (by decide +kernel) rfl) pa_nil))) (pe_one (pe_not (pe_callB call_isi (by rfl) z_isinstance (by decide +kernel) (pa_cons (pv 0) (pa_cons (pe_bltn (v := .ty "bool") (u := .type "bool") (by rfl) z_bool (by decide +kernel) rfl) pa_nil)))))))), ?_⟩
  cases hv with
  | non => exact ⟨_, rfl, _, _, _, _, false, rfl, .ty "int", (Pl.non (K := K) (H := H)).ty, kit_ty (by decide +kernel), false, rfl, q⟩
  | bl b => exact ⟨_, rfl, _, _, _, _, true, rfl, .ty "int", (Pl.bl (K := K) (H := H) b).ty, kit_ty (by decide +kernel), true, rfl, _, rfl, _, _, _, _, true, rfl, .ty "bool", (Pl.bl (K := K) (H := H) b).ty, kit_ty (by decide +kernel), true, rfl, q⟩
  | int i => exact ⟨_, rfl, _, _, _, _, true, rfl, .ty "int", (Pl.int (K := K) (H := H) i).ty, kit_ty (by decide +kernel), true, rfl, _, rfl, _, _, _, _, false, rfl, .ty "bool", (Pl.int (K := K) (H := H) i).ty, kit_ty (by decide +kernel), false, rfl, q⟩
  | str s => exact ⟨_, rfl, _, _, _, _, false, rfl, .ty "int", (Pl.str (K := K) (H := H) s).ty, kit_ty (by decide +kernel), false, rfl, q⟩
  | lst e => exact ⟨_, rfl, _, _, _, _, false, rfl, .ty "int", (Pl.lst (K := K) e).ty, kit_ty (by decide +kernel), false, rfl, q⟩
  | tup e => exact ⟨_, rfl, _, _, _, _, false, rfl, .ty "int", (Pl.tup (K := K) e).ty, kit_ty (by decide +kernel), false, rfl, q⟩
  | dict e => exact ⟨_, rfl, _, _, _, _, false, rfl, .ty "int", (Pl.dict (K := K) e).ty, kit_ty (by decide +kernel), false, rfl, q⟩
def spBetweenV (K : PySem.W.Frag) : Sp := fun vs H Q _ => ∃ (v : V) (t : String) (lo hi : Int), vs = [v, .int lo, .int hi] ∧ Pl K H v t ∧ Q (.bl (inRange lo hi v)) H
theorem ok_is_betweenV {f g : Addr} {fd gd : FuncData} (F : Fun K "is_between" "is_between" sIsBetween f fd) (GIsWhole : FnOk P w K mg base CX0 1 g gd ["value"] (spWholeV K)) (AIsWhole : At K mg "is_whole" g gd ["value"]) : FnOk P w K mg base CX0 2 f fd ["value", "low", "high"] (spBetweenV K) := by
  refine F.ok scIsBetween (fun vs H Q E h => ?_) (fun cdv A outer s H vs Q E hr h => ?_)
  · obtain ⟨_, _, _, _, rfl, _⟩ := h
    rfl
  obtain ⟨v, t, lo, hi, rfl, hv, q⟩ := h
  refine ⟨_, (pss_one (ps_ret (pe_and (pe_call GIsWhole (hr.mono (by decide)) rfl AIsWhole.m AIsWhole.kp AIsWhole.b .nil pass0 (pa_cons (pv 0) pa_nil)) (pe_one (pe_chain op_le op_le (pv 1) (pv 0) (pv 2)))))), ?_⟩
  refine ⟨_, rfl, v, t, rfl, hv, isInt v, rfl, ?_⟩
  cases v with
  | int i =>
    have q' : Q (.bl (decide (lo ≤ i) && decide (i ≤ hi))) H := q
    refine ⟨_, rfl, _, rfl, _, _, rfl, rfl, _, rfl, ?_⟩
    by_cases h1 : lo ≤ i
    · rw [decide_eq_true h1] at q' ⊢
      exact ⟨_, rfl, _, _, rfl, rfl, q'⟩
    · rw [decide_eq_false h1] at q' ⊢
      exact q'
  | non => exact q
  | bl _ => exact q
  | str _ => exact q
  | byt _ => exact q
  | flt _ => exact q
  | ref _ => exact q
  | ty _ => exact q
theorem whole_of {k : Nat} {f : Addr} {fd : FuncData} (F : FnOk P w K mg base CX0 k f fd ["value"] (spWholeV K)) : FnOk P w K mg base CX0 k f fd ["value"] spWhole :=
  F.imp fun vs H Q E h => by
    obtain ⟨i, rfl, q⟩ := h
    exact ⟨_, _, rfl, .int i, q⟩
theorem between_of {k : Nat} {f : Addr} {fd : FuncData} (F : FnOk P w K mg base CX0 k f fd ["value", "low", "high"] (spBetweenV K)) : FnOk P w K mg base CX0 k f fd ["value", "low", "high"] spBetween :=
  F.imp fun vs H Q E h => by
    obtain ⟨v, lo, hi, rfl, q⟩ := h
    exact ⟨_, _, _, _, rfl, .int v, q⟩
end
end LT

namespace LT
open PySem PySem.Spec PyProof.Rows L2
theorem bits_nat (k : Nat) : Builtin.Int.intBits (k : Int) = if k = 0 then 0 else k.log2 + 1 := by
  unfold Builtin.Int.intBits
  by_cases h : k = 0
  · subst h; rfl
  · rw [if_neg h, if_neg (by simpa using h)]
    rfl
theorem bits_lb {m : Nat} (h : 1 ≤ m) : Builtin.Int.intBits ((m - 1 : Nat) : Int) = lb m := by
  rw [bits_nat]
  unfold lb
  by_cases k : m ≤ 1
  · rw [if_pos k, if_pos (by omega)]
  · rw [if_neg k, if_neg (by omega)]
theorem lb100 {m : Nat} (h : m ≤ 10 ^ 30) : lb m ≤ 100 := lb_le (Nat.le_trans h (by decide))
theorem fmod_of_dvd {a b : Nat} (h : a ∣ b) : Int.fmod (b : Int) (a : Int) = 0 := by
  rw [Int.fmod_eq_emod_of_nonneg _ (Int.natCast_nonneg _)]
  exact Int.emod_eq_zero_of_dvd (Int.natCast_dvd_natCast.mpr h)
end LT

namespace LT
open PySem PySem.Spec PyProof.Rows L2
section
variable {P : Program} {w : World} {K : PySem.W.Frag} {mg : Str → Option Value} {base : Heap}
def spPower : Sp := fun vs H Q _ => ∃ (k : Nat), vs = [.int k] ∧ 1 ≤ k ∧ k ≤ 10 ^ 30 ∧ Q (.int ((2 ^ k.log2 : Nat) : Int)) H
theorem ok_power_within {f : Addr} {fd : FuncData} (F : Fun K "power_within" "power_within" sPowerWithin f fd) : FnOk P w K mg base CX0 1 f fd ["number"] spPower := by
  refine F.ok scPowerWithin (fun vs H Q E h => ?_) (fun cdv A outer s H vs Q E hr h => ?_)
  · obtain ⟨_, rfl, _⟩ := h
    rfl
  obtain ⟨k, rfl, h1, h30, q⟩ := h
  refine ⟨_, (pss_one (ps_ret (pe_op op_shl pe_int (pe_op op_sub (pe_bits (pv 0)) pe_int)))), ?_⟩
  refine ⟨_, rfl, _, rfl, _, _, rfl, rfl, ?_⟩
  dsimp only
  have e : ((Builtin.Int.intBits (k : Int) : Nat) : Int) - 1 = ((k.log2 : Nat) : Int) := by
    rw [bits_nat, if_neg (by omega)]
    omega
  rw [e]
  have l100 : k.log2 < 100 := (Nat.log2_lt (by omega)).mpr (Nat.lt_of_le_of_lt h30 (by decide))
  refine ⟨_, _, rfl, rfl, ⟨Int.natCast_nonneg _, by omega, by decide⟩, ?_⟩
  have e2 : (1 : Int) * 2 ^ ((k.log2 : Nat) : Int).toNat = ((2 ^ k.log2 : Nat) : Int) := by rw [Int.one_mul, Int.toNat_natCast]; exact (Int.natCast_pow 2 _).symm
  show Q (.int ((1 : Int) * 2 ^ ((k.log2 : Nat) : Int).toNat)) H
  rw [e2]
  exact q
end
end LT

namespace LT
/-- the nodes from (b, b + m) down, as the law lists them -/
def nodesF : Nat → Nat → Nat → List (Nat × Nat)
  | 0, _, _ => []
  | i + 1, b, m => if m ≤ 1 then [(b, b + m)] else (b, b + m) :: (nodesF i b (gp m) ++ nodesF i (b + gp m) (m - gp m))
theorem nodesF_one {i b m : Nat} (h : m ≤ 1) : nodesF (i + 1) b m = [(b, b + m)] := if_pos h
theorem nodesF_two {i b m : Nat} (h : ¬ m ≤ 1) : nodesF (i + 1) b m = (b, b + m) :: (nodesF i b (gp m) ++ nodesF i (b + gp m) (m - gp m)) := if_neg h
theorem gp_half {i m : Nat} (h : 2 ≤ m) (k : 2 * m ≤ 2 ^ (i + 1)) : 2 * gp m ≤ 2 ^ i ∧ 2 * (m - gp m) ≤ 2 ^ i := by
  have g1 := gp_lt h
  have g2 := gp_ge h
  have p := Nat.pow_succ (n := 2) (m := i)
  have : gp m < 2 ^ i := by omega
  unfold gp at this ⊢
  have e := (Nat.pow_lt_pow_iff_right (by decide : 1 < 2)).mp this
  have e2 : 2 ^ ((m - 1).log2 + 1) ≤ 2 ^ i := Nat.pow_le_pow_right (by decide) (by omega)
  rw [Nat.pow_succ] at e2
  unfold gp at g1 g2
  omega
theorem nodesF_len : ∀ (i b m : Nat), 1 ≤ m → 2 * m ≤ 2 ^ i → (nodesF i b m).length = 2 * m - 1
  | 0, b, m, h1, h2 => by simp at h2; omega
  | i + 1, b, m, h1, h2 => by
    by_cases c : m ≤ 1
    · rw [nodesF_one c]
      simp
      omega
    · rw [nodesF_two c, List.length_cons, List.length_append]
      have g1 := gp_lt (m := m) (by omega)
      have g3 := gp_pos m
      obtain ⟨k1, k2⟩ := gp_half (by omega) h2
      rw [nodesF_len i b (gp m) g3 k1, nodesF_len i (b + gp m) (m - gp m) (by omega) k2]
      omega
/-- a node of tree(n) -/
def isN (n : Nat) (x : Nat × Nat) : Prop := x.1 < x.2 ∧ x.2 ≤ n ∧ tree n x.1 (x.2 - x.1)
theorem mul_le_of_lt {R a b : Nat} (h1 : R ∣ a) (h2 : R ∣ b) (h : a < b) : a + R ≤ b := by
  obtain ⟨x, rfl⟩ := h1
  obtain ⟨y, rfl⟩ := h2
  have : x < y := Nat.lt_of_mul_lt_mul_left h
  calc R * x + R = R * (x + 1) := by rw [Nat.mul_succ]
    _ ≤ R * y := Nat.mul_le_mul_left R this
/-- a node within another one is it, or lies within one of its halves -/
theorem node_in {n b m : Nat} (h : 2 ≤ m) (t : tree n b m) (hn : b + m ≤ n) {x : Nat × Nat} (hx : isN n x) (h1 : b ≤ x.1) (h2 : x.2 ≤ b + m) : x = (b, b + m) ∨ x.2 ≤ b + gp m ∨ b + gp m ≤ x.1 := by
  obtain ⟨x1, x2⟩ := x
  obtain ⟨k1, k2, d, k3⟩ := hx
  simp only at k1 k2 d k3 h1 h2
  by_cases c1 : x2 ≤ b + gp m
  · exact .inr (.inl c1)
  by_cases c2 : b + gp m ≤ x1
  · exact .inr (.inr c2)
  left
  obtain ⟨td, tk⟩ := t
  have e := lb_gp h
  rw [e] at td tk
  have g1 := gp_lt h
  have g2 := gp_ge h
  have gR : gp m = 2 ^ Nat.log2 (m - 1) := rfl
  generalize hr : lb (x2 - x1) = r at d k3
  have ge := lb_ge (x2 - x1)
  rw [hr] at ge
  by_cases c : r ≤ Nat.log2 (m - 1)
  · -- small: a multiple of 2 ^ r below b + gp m ends there at most
    have dg : 2 ^ r ∣ gp m := by rw [gR]; exact Nat.pow_dvd_pow 2 c
    have db : 2 ^ r ∣ b := Nat.dvd_trans dg (Nat.dvd_trans (Nat.dvd_mul_left _ _) td)
    have := mul_le_of_lt d (Nat.dvd_add db dg) (by omega : x1 < b + gp m)
    omega
  · have dd : 2 * gp m ∣ 2 ^ r := by
      rw [gR, Nat.mul_comm, ← Nat.pow_succ]
      exact Nat.pow_dvd_pow 2 (by omega)
    have dx := Nat.dvd_trans dd d
    have ex : x1 = b := by
      by_cases z : b < x1
      · have := mul_le_of_lt td dx z
        omega
      · omega
    subst ex
    have le : 2 * gp m ≤ 2 ^ r := Nat.le_of_dvd (Nat.pow_pos (by decide)) dd
    have rl : r ≤ Nat.log2 (m - 1) + 1 := by
      rw [← hr]
      refine lb_le ?_
      rw [Nat.pow_succ, ← gR]
      omega
    have e2 : 2 ^ r ≤ 2 * gp m := by
      rw [gR, Nat.mul_comm, ← Nat.pow_succ]
      exact Nat.pow_le_pow_right (by decide) rl
    have : x2 = x1 + m := by
      rcases k3 with k3 | k3 <;> omega
    rw [this]
theorem mem_nodesF (n : Nat) (x : Nat × Nat) : ∀ (i b m : Nat), 1 ≤ m → 2 * m ≤ 2 ^ i → tree n b m → b + m ≤ n → (x ∈ nodesF i b m ↔ isN n x ∧ b ≤ x.1 ∧ x.2 ≤ b + m)
  | 0, b, m, h1, h2, _, _ => by simp at h2; omega
  | i + 1, b, m, h1, h2, t, hn => by
    by_cases c : m ≤ 1
    · have em : m = 1 := by omega
      subst em
      rw [nodesF_one (by omega), List.mem_singleton]
      constructor
      · rintro rfl
        exact ⟨⟨by simp, by simpa using hn, by simpa using t⟩, by simp, by simp⟩
      · rintro ⟨⟨k1, _⟩, k2, k3⟩
        have : x.1 = b ∧ x.2 = b + 1 := by omega
        exact Prod.ext this.1 this.2
    · rw [nodesF_two c, List.mem_cons, List.mem_append]
      have g1 := gp_lt (m := m) (by omega)
      have g3 := gp_pos m
      obtain ⟨k1, k2⟩ := gp_half (by omega) h2
      have e : b + gp m + (m - gp m) = b + m := by omega
      have il := mem_nodesF n x i b (gp m) g3 k1 (tree_low (by omega) t) (by omega)
      have ih := mem_nodesF n x i (b + gp m) (m - gp m) (by omega) k2 (tree_high (by omega) t) (by omega)
      rw [il, ih, e]
      constructor
      · rintro (rfl | ⟨p, q, r⟩ | ⟨p, q, r⟩)
        · exact ⟨⟨by simp; omega, by simpa using hn, by simpa using t⟩, by simp, by simp⟩
        · exact ⟨p, q, by omega⟩
        · exact ⟨p, by omega, r⟩
      · rintro ⟨p, q, r⟩
        rcases node_in (by omega) t hn p q r with z | z | z
        · exact .inl z
        · exact .inr (.inl ⟨p, q, z⟩)
        · exact .inr (.inr ⟨p, z, r⟩)
instance (n : Nat) (x : Nat × Nat) : Decidable (tree n x.1 (x.2 - x.1)) := by unfold tree; infer_instance
instance (n : Nat) (x : Nat × Nat) : Decidable (isN n x) := by unfold isN; infer_instance
end LT

namespace LT
open PySem PySem.Spec PyProof.Rows L2
def tnV (n : Nat) : V → V → Bool
  | .int b, .int e => decide (0 ≤ b ∧ isN n (b.toNat, e.toNat))
  | _, _ => false
theorem tn_out {n : Nat} {b e : Int} (h : ¬ (0 ≤ b ∧ b < e ∧ e ≤ n)) : tnV n (.int b) (.int e) = false := by
  refine decide_eq_false (fun ⟨h0, k⟩ => h ⟨h0, ?_, ?_⟩)
  · have := k.1
    simp only at this
    omega
  · have := k.1
    have := k.2.1
    simp only at *
    omega
/-- what may be asked whether it is a node -/
inductive Ask (K : PySem.W.Frag) (H : Hp) (n : Nat) : V → Bool → Prop
  | kind {v : V} {t : String} : Pl K H v t → t ≠ "tuple" → Ask K H n v false
  | long {p : Addr} {xs : List V} : H p = some (.tup xs) → xs.length ≠ 2 → xs.length ≤ 1000 → Ask K H n (.ref p) false
  | pair {p : Addr} {v1 v2 : V} {t1 t2 : String} : H p = some (.tup [v1, v2]) → Pl K H v1 t1 → Pl K H v2 t2 → Ask K H n (.ref p) (tnV n v1 v2)
theorem kit_tup {t : String} {K : PySem.W.Frag} {H : Hp} {v : V} (h : Pl K H v t) (hn : t ≠ "tuple") : PySem.W.kitOne K (.type t) (.type "tuple") = some false := by
  cases h with
  | non => exact kit_ty (by decide +kernel)
  | bl _ => exact kit_ty (by decide +kernel)
  | int _ => exact kit_ty (by decide +kernel)
  | str _ => exact kit_ty (by decide +kernel)
  | lst _ => exact kit_ty (by decide +kernel)
  | tup _ => exact absurd rfl hn
  | dict _ => exact kit_ty (by decide +kernel)
section
variable {P : Program} {w : World} {K : PySem.W.Frag} {mg : Str → Option Value} {base : Heap}
def spTreeV (K : PySem.W.Frag) : Sp := fun vs H Q _ => ∃ (n : Nat) (v : V) (r : Bool), vs = [.int n, v] ∧ 1 ≤ n ∧ n ≤ 2 ^ 100 ∧ Ask K H n v r ∧ Q (.bl r) H
theorem ok_is_tree_nodeV {f g : Addr} {fd gd : FuncData} (F : Fun K "is_tree_node" "is_tree_node" sIsTreeNode f fd) (GIsBetween : FnOk P w K mg base CX0 2 g gd ["value", "low", "high"] (spBetweenV K)) (AIsBetween : At K mg "is_between" g gd ["value", "low", "high"])
    (z_isinstance : mg "isinstance" = none) (z_tuple : mg "tuple" = none) (z_len : mg "len" = none) : FnOk P w K mg base CX0 3 f fd ["size", "value"] (spTreeV K) := by
  refine F.ok scIsTreeNode (fun vs H Q E h => ?_) (fun cdv A outer s H vs Q E hr h => ?_)
  · obtain ⟨_, _, _, rfl, _⟩ := h
    rfl
  obtain ⟨n, v, r, rfl, n1, h30, ask, q⟩ := h
  refine ⟨_, (pss_cons (ps_if (PW.pt (pw_or (pt_not (pt_val (pe_callB call_isi (by rfl) z_isinstance (by decide +kernel) (pa_cons (pv 1) (pa_cons (pe_bltn (v := .ty "tuple") (u := .type "tuple") (by rfl) z_tuple (by decide +kernel) rfl) pa_nil))))) (pw_or1 (pt_cmpR op_ne (pe_callB call_len_seq (by rfl) z_len PySem.boot_len (pa_cons (pv 1) pa_nil)) pe_int (nomark _)))))
    (pss_one (ps_ret pe_bl))
    pss_nil)
    (pss_cons (ps_asg (pv 1) (pg_tup (by rfl) (pgs_cons (pg_name (i := 2) scIsTreeNode.nd rfl (Or.inl rfl)) (pgs_cons (pg_name (i := 3) scIsTreeNode.nd rfl (Or.inl rfl)) pgs_nil))))
    (pss_cons (ps_if (PW.pt (pw_or (pt_not (pt_val (pe_call GIsBetween (hr.mono (by decide)) rfl AIsBetween.m AIsBetween.kp AIsBetween.b .nil pass0 (pa_cons (pv 2) (pa_cons pe_int (pa_cons (pe_op op_sub (pv 0) pe_int) pa_nil)))))) (pw_or1 (pt_not (pt_val (pe_call GIsBetween (hr.mono (by decide)) rfl AIsBetween.m AIsBetween.kp AIsBetween.b .nil pass0 (pa_cons (pv 3) (pa_cons (pe_op op_add (pv 2) pe_int) (pa_cons (pv 0) pa_nil)))))))))
    (pss_one (ps_ret pe_bl))
    pss_nil)
    (pss_cons (ps_set (i := 4) scIsTreeNode.nd rfl (Or.inl rfl) (pe_op op_shl pe_int (pe_bits (pe_op op_sub (pe_op op_sub (pv 3) (pv 2)) pe_int))))
    (pss_one (ps_ret (pe_and (pe_cmpR op_eq (pe_op op_modN (pv 2) (pv 4)) pe_int (nomark _)) (pe_one (pe_or (pe_cmpR op_eq (pe_op op_sub (pv 3) (pv 2)) (pv 4) (nomark _)) (pe_one (pe_cmpR op_eq (pv 3) (pv 0) (nomark _)))))))))))), ?_⟩
  cases ask with
  | @kind _ t hv ht => exact ⟨_, rfl, _, _, _, _, false, rfl, .ty "tuple", hv.ty, kit_tup hv ht, false, rfl, q⟩
  | @long p xs hp hl h1000 =>
    refine ⟨_, rfl, _, _, _, _, true, rfl, .ty "tuple", .base (.tup hp), kit_ty (by decide +kernel), true, rfl, ?_⟩
    refine ⟨_, rfl, p, _, rfl, .inr (SqT.of hp), rfl, true, ?_, q⟩
    refine congrArg V.bl ?_
    rw [Bool.not_eq_true']
    exact decide_eq_false (fun z => hl (by have := V.int.inj z; omega))
  | @pair p v1 v2 ty1 ty2 hp p1 p2 =>
    refine ⟨_, rfl, _, _, _, _, true, rfl, .ty "tuple", .base (.tup hp), kit_ty (by decide +kernel), true, rfl, ?_⟩
    refine ⟨_, rfl, p, _, rfl, .inr (SqT.of hp), rfl, false, rfl, ?_⟩
    refine ⟨_, rfl, p, _, rfl, SqT.of hp, rfl, _, _, rfl, _, _, rfl, rfl, ?_⟩
    refine ⟨_, rfl, _, rfl, _, _, rfl, rfl, v1, ty1, _, _, rfl, p1, inRange 0 ((n : Int) - 1) v1, rfl, ?_⟩
    cases h1 : inRange 0 ((n : Int) - 1) v1 with
    | false =>
      have e : tnV n v1 v2 = false := by
        cases v1 with
        | int b =>
          cases v2 with
          | int e =>
            refine tn_out (fun k => ?_)
            have h1' : (decide (0 ≤ b) && decide (b ≤ (n : Int) - 1)) = false := h1
            rw [decide_eq_true k.1, decide_eq_true (show b ≤ (n : Int) - 1 by omega)] at h1'
            exact absurd h1' (by decide)
          | _ => rfl
        | _ => rfl
      rw [e] at q
      exact q
    | true =>
      cases p1 with
      | int b =>
        have h1' : (decide (0 ≤ b) && decide (b ≤ (n : Int) - 1)) = true := h1
        rw [Bool.and_eq_true] at h1'
        have b0 := of_decide_eq_true h1'.1
        have b1 := of_decide_eq_true h1'.2
        refine ⟨_, rfl, _, rfl, _, _, rfl, rfl, _, rfl, v2, ty2, _, _, rfl, p2, inRange (b + 1) (n : Int) v2, rfl, ?_⟩
        cases h2 : inRange (b + 1) (n : Int) v2 with
        | false =>
          have e : tnV n (.int b) v2 = false := by
            cases v2 with
            | int e =>
              refine tn_out (fun k => ?_)
              have h2' : (decide (b + 1 ≤ e) && decide (e ≤ (n : Int))) = false := h2
              rw [decide_eq_true (show b + 1 ≤ e by omega), decide_eq_true k.2.2] at h2'
              exact absurd h2' (by decide)
            | _ => rfl
          rw [e] at q
          exact q
        | true =>
          cases p2 with
          | int e =>
            have h2' : (decide (b + 1 ≤ e) && decide (e ≤ (n : Int))) = true := h2
            rw [Bool.and_eq_true] at h2'
            have e0 := of_decide_eq_true h2'.1
            have e1 := of_decide_eq_true h2'.2
            obtain ⟨bn, rfl⟩ := Int.eq_ofNat_of_zero_le b0
            obtain ⟨en, rfl⟩ := Int.eq_ofNat_of_zero_le (show 0 ≤ e by omega)
            have hlt : bn < en := by omega
            have ev : tnV n (.int (bn : Int)) (.int (en : Int)) = decide (isN n (bn, en)) := by
              show decide (0 ≤ (bn : Int) ∧ isN n ((bn : Int).toNat, (en : Int).toNat)) = decide (isN n (bn, en))
              rw [Int.toNat_natCast, Int.toNat_natCast]
              by_cases k : isN n (bn, en)
              · rw [decide_eq_true k, decide_eq_true ⟨b0, k⟩]
              · rw [decide_eq_false k, decide_eq_false (fun z => k z.2)]
            rw [ev] at q
            have em : (en : Int) - (bn : Int) - 1 = ((en - bn - 1 : Nat) : Int) := by omega
            refine ⟨_, rfl, _, rfl, _, _, rfl, rfl, _, _, rfl, rfl, _, rfl, ?_⟩
            dsimp only
            rw [em, bits_lb (show 1 ≤ en - bn by omega)]
            have l100 := lb_le (show en - bn ≤ 2 ^ 100 by omega)
            refine ⟨_, _, rfl, rfl, ⟨Int.natCast_nonneg _, by omega, by decide⟩, ?_⟩
            have e2 : (1 : Int) * 2 ^ ((lb (en - bn) : Nat) : Int).toNat = ((2 ^ lb (en - bn) : Nat) : Int) := by rw [Int.one_mul, Int.toNat_natCast]; exact (Int.natCast_pow 2 _).symm
            dsimp only
            rw [e2]
            have pz : 0 < 2 ^ lb (en - bn) := Nat.pow_pos (by decide)
            have isE : isN n (bn, en) ↔ (bn % 2 ^ lb (en - bn) = 0 ∧ (en - bn = 2 ^ lb (en - bn) ∨ en = n)) := by
              unfold isN tree
              simp only
              constructor
              · rintro ⟨_, _, k1, k2⟩
                exact ⟨Nat.mod_eq_zero_of_dvd k1, k2.elim .inl (fun z => .inr (by omega))⟩
              · rintro ⟨k1, k2⟩
                exact ⟨hlt, by omega, Nat.dvd_of_mod_eq_zero k1, k2.elim .inl (fun z => .inr (by omega))⟩
            generalize 2 ^ lb (en - bn) = R at pz isE
            have fm : Int.fmod (bn : Int) (R : Int) = ((bn % R : Nat) : Int) := by
              rw [Int.fmod_eq_emod_of_nonneg _ (Int.natCast_nonneg _)]
              exact (Int.natCast_emod _ _).symm
            refine ⟨_, rfl, _, rfl, _, _, rfl, rfl, by omega, rfl, decide (bn % R = 0), ?_, ?_⟩
            · show V.bl (decide (V.int (Int.fmod (bn : Int) (R : Int)) = V.int 0)) = V.bl (decide (bn % R = 0))
              rw [fm]
              refine congrArg V.bl ?_
              by_cases k : bn % R = 0
              · rw [decide_eq_true k, k]; rfl
              · rw [decide_eq_false k]
                exact decide_eq_false (fun z => k (by have := V.int.inj z; omega))
            by_cases k : bn % R = 0
            · rw [decide_eq_true k]
              refine iteT ?_
              refine ⟨_, rfl, _, rfl, _, _, rfl, rfl, _, rfl, rfl, _, rfl, ite2 (fun c => ?_) (fun c => ?_)⟩
              · have c1 : V.int ((en : Int) - (bn : Int)) = V.int (R : Int) := of_decide_eq_true c
                have c2 := V.int.inj c1
                rw [decide_eq_true (isE.mpr ⟨k, .inl (by omega)⟩)] at q
                exact q
              · have c1 : ¬ V.int ((en : Int) - (bn : Int)) = V.int (R : Int) := of_decide_eq_false (Bool.eq_false_iff.mpr c)
                refine ⟨_, rfl, _, rfl, rfl, ?_⟩
                have ed : decide (V.int (en : Int) = V.int (n : Int)) = decide (isN n (bn, en)) := by
                  by_cases z : en = n
                  · rw [decide_eq_true (isE.mpr ⟨k, .inr z⟩), decide_eq_true (by rw [z])]
                  · rw [decide_eq_false (fun y => z (by have := V.int.inj y; omega)), decide_eq_false (fun y => (isE.mp y).2.elim (fun u => c1 (congrArg V.int (by omega))) z)]
                show Q (.bl (decide (V.int (en : Int) = V.int (n : Int)))) H
                rw [ed]
                exact q
            · rw [decide_eq_false k]
              refine iteF ?_
              rw [decide_eq_false (fun z => k (isE.mp z).1)] at q
              exact q
          | _ => exact absurd h2 (by intro z; cases z)
      | _ => exact absurd h1 (by intro z; cases z)
end
end LT

namespace LT
open PySem PySem.Spec PyProof.Rows L2
theorem fm0 (x : Int) {m : Int} (h : 0 < m) : 0 ≤ x.fmod m := by
  rw [Int.fmod_eq_emod_of_nonneg _ (by omega)]
  exact Int.emod_nonneg _ (by omega)
theorem fm1 (x : Int) {m : Int} (h : 0 < m) : x.fmod m < m := by
  rw [Int.fmod_eq_emod_of_nonneg _ (by omega)]
  exact Int.emod_lt_of_pos _ h
def CPowW (i j : Int) : Prop := 0 ≤ j ∧ (Builtin.Int.intBits i : Int) * j ≤ 2 ^ 27
theorem op_powW {X : Cx} : OpR X (binaryOp .Pow) (rI CPowW fun i j => .int (i ^ j.toNat)) := opI fun _ _ _ _ _ _ _ hc q => pow_int hc.1 hc.2 q
theorem intBits_le {i : Int} {k : Nat} (h : i.natAbs < 2 ^ k) : Builtin.Int.intBits i ≤ k := by
  unfold Builtin.Int.intBits
  split
  · omega
  · rename_i c
    have : i.natAbs ≠ 0 := by simpa using c
    have := (Nat.log2_lt this).mpr h
    omega
theorem powW3 {i : Int} (h : i.natAbs < 2 ^ 1000) : CPowW i 3 := by
  have := intBits_le h
  refine ⟨by decide, ?_⟩
  omega
/-- a reel: three ints, the last one a count -/
def ReelAt (H : Hp) (b : Addr) (c : Nat) : Prop := ∃ x y z : Int, H b = some (.lst [.int x, .int y, .int z]) ∧ y.natAbs < 2 ^ 200 ∧ 0 ≤ z ∧ z ≤ c
theorem ReelAt.same {H H' : Hp} {b : Addr} {c : Nat} (h : ReelAt H b c) (s : Same H H') : ReelAt H' b c := by
  obtain ⟨x, y, z, e, r⟩ := h
  exact ⟨x, y, z, s _ _ e, r⟩
theorem ReelAt.mono {H : Hp} {b : Addr} {c d : Nat} (h : ReelAt H b c) (k : c ≤ d) : ReelAt H b d := by
  obtain ⟨x, y, z, e, r1, r2, r3⟩ := h
  exact ⟨x, y, z, e, r1, r2, by omega⟩
theorem ReelAt.ne {H : Hp} {b p : Addr} {c : Nat} (h : ReelAt H b c) (n : H p = none) : p ≠ b := fun z => by
  obtain ⟨_, _, _, e, _⟩ := h
  rw [← z, n] at e
  cases e
theorem ReelAt.upd {H : Hp} {b p : Addr} {c : Nat} {o : HO} (h : ReelAt H b c) (n : p ≠ b) : ReelAt (upd H p o) b c := by
  obtain ⟨x, y, z, e, r⟩ := h
  exact ⟨x, y, z, by rw [upd_ne (fun z => n z.symm)]; exact e, r⟩
section
variable {P : Program} {w : World} {K : PySem.W.Frag} {mg : Str → Option Value} {base : Heap}
def spWound (K : PySem.W.Frag) : Sp := fun vs H Q _ => ∃ (a : Addr) (ns : List Int) (k : Nat), vs = [.ref a, .int k] ∧ SqL K H a (ns.map V.int) ∧ k ≤ 63 ∧ ∀ (H' : Hp) (p : Addr), Same H H' → H p = none → ReelAt H' p 0 → Q (.ref p) H'
theorem ok_law_wound {f : Addr} {fd : FuncData} (F : Fun K "_law_wound" "_law_wound" sLawWound f fd) (z_max : mg "max" = none) (z_len : mg "len" = none) (z_int : mg "int" = none) : FnOk P w K mg base CX0 1 f fd ["script", "k"] (spWound K) := by
  refine F.ok scLawWound (fun vs H Q E h => ?_) (fun cdv A outer s H vs Q E hr h => ?_)
  · obtain ⟨_, _, _, rfl, _⟩ := h
    rfl
  obtain ⟨a, ns, k, rfl, hS, hk, q⟩ := h
  refine ⟨_, (pss_cons (ps_set (i := 2) scLawWound.nd rfl (Or.inl rfl) pe_int)
    (pss_cons (ps_if (pt_cmpR op_lt (pv 1) (pe_callB call_len_seq (by rfl) z_len PySem.boot_len (pa_cons (pv 0) pa_nil)) (nomark _))
    (pss_one (ps_set (i := 2) scLawWound.nd rfl (Or.inl rfl) (pe_ix ix_list (pv 0) (pv 1) (fun _ _ => rfl))))
    pss_nil)
    (pss_one (ps_ret (pe_lst (pa_cons (pe_callB (call_max2 rfl) (by rfl) z_max (by decide +kernel) (pa_cons pe_int (pa_cons (pe_op op_sub (pv 2) (pe_op op_pow pe_int pe_int)) pa_nil))) (pa_cons (pe_op op_add (pe_op op_add (pe_op op_mul (pe_op op_modN (pe_callTy call_int1 (by rfl) z_int (by decide +kernel) (pa_cons (pv 2) pa_nil)) (pe_op op_add (pe_op op_pow pe_int pe_int) pe_int)) pe_int) (pe_op op_mul pe_int (pv 1))) pe_int) (pa_cons pe_int pa_nil)))))))), ?_⟩
  have fin : ∀ (cell : Int), Q (.ref 0) H → True := fun _ _ => trivial
  refine ⟨_, rfl, _, rfl, a, _, rfl, .inl hS, _, _, rfl, rfl, _, rfl, ite2 (fun c => ?_) (fun c => ?_)⟩
  · have c1 : (k : Int) < ((ns.map V.int).length : Int) := of_decide_eq_true c
    have c2 : k < (ns.map V.int).length := by omega
    have c3 : k < ns.length := by rw [List.length_map] at c2; exact c2
    have e : (ns.map V.int)[k]? = some (.int ns[k]) := by rw [List.getElem?_map, List.getElem?_eq_getElem c3]; rfl
    generalize ns[k] = cell at e
    refine ⟨_, rfl, _, rfl, a, _, _, _, rfl, rfl, hS, atI_nat e, ?_⟩
    refine ⟨_, rfl, _, _, rfl, rfl, ⟨by decide, by decide, by decide⟩, _, _, rfl, rfl, _, _, rfl, _, rfl, .inl ⟨_, rfl, _, _, rfl, rfl, ⟨by decide, by decide, by decide⟩, _, _, rfl, rfl, _, _, rfl, rfl, (by show (10 ^ (38 : Int).toNat + 133 : Int) ≠ 0; decide), _, _, rfl, rfl, .inr ⟨by decide, by decide⟩, _, rfl, _, _, rfl, rfl, .inl ⟨by decide, by decide⟩, _, _, rfl, rfl, _, _, rfl, rfl, (by show 3 ≤ sizeLine; decide), fun p np => ?_⟩⟩
    have f0 := fm0 cell (m := 10 ^ (38 : Int).toNat + 133) (by decide)
    have f1 := fm1 cell (m := 10 ^ (38 : Int).toNat + 133) (by decide)
    have e10 : (10 : Int) ^ (38 : Int).toNat = 100000000000000000000000000000000000000 := by decide
    rw [e10] at f0 f1
    refine q _ p (same_upd np) np ⟨_, _, _, upd_same, ?_, by decide, by decide⟩
    rw [e10]
    generalize cell.fmod (100000000000000000000000000000000000000 + 133) = z at f0 f1
    omega
  · refine ⟨_, rfl, _, _, rfl, rfl, ⟨by decide, by decide, by decide⟩, _, _, rfl, rfl, _, _, rfl, _, rfl, .inl ⟨_, rfl, _, _, rfl, rfl, ⟨by decide, by decide, by decide⟩, _, _, rfl, rfl, _, _, rfl, rfl, (by show (10 ^ (38 : Int).toNat + 133 : Int) ≠ 0; decide), _, _, rfl, rfl, .inr ⟨by decide, by decide⟩, _, rfl, _, _, rfl, rfl, .inl ⟨by decide, by decide⟩, _, _, rfl, rfl, _, _, rfl, rfl, (by show 3 ≤ sizeLine; decide), fun p np => ?_⟩⟩
    have f0 := fm0 0 (m := 10 ^ (38 : Int).toNat + 133) (by decide)
    have f1 := fm1 0 (m := 10 ^ (38 : Int).toNat + 133) (by decide)
    have e10 : (10 : Int) ^ (38 : Int).toNat = 100000000000000000000000000000000000000 := by decide
    rw [e10] at f0 f1
    refine q _ p (same_upd np) np ⟨_, _, _, upd_same, ?_, by decide, by decide⟩
    rw [e10]
    generalize (0 : Int).fmod (100000000000000000000000000000000000000 + 133) = z at f0 f1
    omega
def spSpin : Sp := fun vs H Q _ => ∃ (b : Addr) (many : Int) (c : Nat), vs = [.ref b, .int many] ∧ 0 < many ∧ many.natAbs < 2 ^ 250 ∧ ReelAt H b c ∧ c ≤ 10 ^ 9 ∧
  ∀ (r : Nat) (H' : Hp), (r : Int) < many → (∀ a, a ≠ b → H' a = H a) → ReelAt H' b (c + 1) → Q (.int r) H'
theorem ok_law_spin {f : Addr} {fd : FuncData} (F : Fun K "_law_spin" "_law_spin" sLawSpin f fd) (z_int : mg "int" = none) : FnOk P w K mg base CX0 1 f fd ["reel", "many"] spSpin := by
  refine F.ok scLawSpin (fun vs H Q E h => ?_) (fun cdv A outer s H vs Q E hr h => ?_)
  · obtain ⟨_, _, _, rfl, _⟩ := h
    rfl
  obtain ⟨b, many, cn, rfl, hm, hm2, ⟨x, y, z, h0, hy, z0, zc⟩, hc, q0⟩ := h
  have q : ∀ (i : Int) (H' : Hp), (∀ a, a ≠ b → H' a = H a) → ReelAt H' b (cn + 1) → Q (.int (i.fmod many)) H' := fun i H' k1 k2 => by
    have a0 := fm0 i hm
    have a1 := fm1 i hm
    obtain ⟨r, e⟩ := Int.eq_ofNat_of_zero_le a0
    rw [e] at a1 ⊢
    exact q0 r H' a1 k1 k2
  refine ⟨_, (pss_cons (ps_if (pt_cmpR op_gt (pe_ix ix_list (pv 0) pe_int (fun _ _ => rfl)) pe_int (nomark _))
    (pss_cons (ps_set (i := 2) scLawSpin.nd rfl (Or.inl rfl) (pe_op op_modN (pe_callTy call_int1 (by rfl) z_int (by decide +kernel) (pa_cons (pe_ix ix_list (pv 0) pe_int (fun _ _ => rfl)) pa_nil)) (pv 1)))
    (pss_cons (ps_asg (pe_op op_fdivW (pe_ix ix_list (pv 0) pe_int (fun _ _ => rfl)) (pv 1)) (pg_sub (pv 0) pe_int set_list))
    (pss_one (ps_ret (pv 2)))))
    pss_nil)
    (pss_cons (ps_asg (pe_op op_add (pe_ix ix_list (pv 0) pe_int (fun _ _ => rfl)) pe_int) (pg_sub (pv 0) pe_int set_list))
    (pss_cons (ps_set (i := 3) scLawSpin.nd rfl (Or.inl rfl) (pe_op op_modN (pe_callTy call_int1 (by rfl) z_int (by decide +kernel) (pa_cons (pe_op op_powW (pe_op op_add (pe_ix ix_list (pv 0) pe_int (fun _ _ => rfl)) (pe_op op_mul pe_int (pe_ix ix_list (pv 0) pe_int (fun _ _ => rfl)))) pe_int) pa_nil)) (pe_op op_add (pe_op op_pow pe_int pe_int) pe_int)))
    (pss_cons (ps_set (i := 3) scLawSpin.nd rfl (Or.inl rfl) (pe_op op_modN (pe_callTy call_int1 (by rfl) z_int (by decide +kernel) (pa_cons (pe_op op_powW (pe_op op_add (pv 3) (pe_op op_mul pe_int (pe_ix ix_list (pv 0) pe_int (fun _ _ => rfl)))) pe_int) pa_nil)) (pe_op op_add (pe_op op_pow pe_int pe_int) pe_int)))
    (pss_one (ps_ret (pe_op op_modN (pe_callTy call_int1 (by rfl) z_int (by decide +kernel) (pa_cons (pe_op op_fdivW (pv 3) pe_int) pa_nil)) (pv 1)))))))), ?_⟩
  refine ⟨_, rfl, b, _, _, _, rfl, rfl, SqL.of h0, atI_nat (j := 0) rfl, _, _, rfl, rfl, _, rfl, ite2 (fun c => ?_) (fun c => ?_)⟩
  · refine ⟨_, rfl, b, _, _, _, rfl, rfl, SqL.of h0, atI_nat (j := 0) rfl, .inl ⟨_, rfl, _, rfl, _, _, rfl, rfl, by omega, ?_⟩⟩
    refine ⟨_, rfl, b, _, _, _, rfl, rfl, SqL.of h0, atI_nat (j := 0) rfl, _, rfl, _, _, rfl, rfl, wide_div hm hm2 (by decide) (by decide), _, rfl, b, _, _, 0, rfl, rfl, h0, rfl, ?_⟩
    refine ⟨_, rfl, ?_⟩
    exact q x _ (fun a ha => upd_ne ha) ⟨_, y, z, upd_same, hy, z0, by omega⟩
  · refine ⟨_, rfl, b, _, _, _, rfl, rfl, SqL.of h0, atI_nat (j := 2) rfl, _, _, rfl, rfl, _, rfl, b, _, _, 2, rfl, rfl, h0, rfl, ?_⟩
    dsimp only
    have h1 : (upd H b (.lst ([.int x, .int y, .int z].set 2 (.int (z + 1))))) b = some (.lst [.int x, .int y, .int (z + 1)]) := upd_same
    have k1 : ∀ a, a ≠ b → (upd H b (.lst ([.int x, .int y, .int z].set 2 (.int (z + 1))))) a = H a := fun a ha => upd_ne ha
    generalize upd H b (.lst ([.int x, .int y, .int z].set 2 (.int (z + 1)))) = H1 at h1 k1
    refine ⟨_, rfl, b, _, _, _, rfl, rfl, SqL.of h1, atI_nat (j := 1) rfl, _, rfl, b, _, _, _, rfl, rfl, SqL.of h1, atI_nat (j := 2) rfl, _, _, rfl, rfl, .inl ⟨by decide, by decide⟩, _, _, rfl, rfl, _, _, rfl, rfl, powW3 (by omega), .inl ⟨_, rfl, _, _, rfl, rfl, ⟨by decide, by decide, by decide⟩, _, _, rfl, rfl, _, _, rfl, rfl, (by show (10 ^ (42 : Int).toNat + 63 : Int) ≠ 0; decide), ?_⟩⟩
    dsimp only
    have e10 : (10 : Int) ^ (42 : Int).toNat = 1000000000000000000000000000000000000000000 := by decide
    rw [e10]
    have a0 := fm0 ((y + 86028121 * (z + 1)) ^ (3 : Int).toNat) (m := 1000000000000000000000000000000000000000000 + 63) (by decide)
    have a1 := fm1 ((y + 86028121 * (z + 1)) ^ (3 : Int).toNat) (m := 1000000000000000000000000000000000000000000 + 63) (by decide)
    generalize ((y + 86028121 * (z + 1)) ^ (3 : Int).toNat).fmod (1000000000000000000000000000000000000000000 + 63) = mi at a0 a1
    refine ⟨_, rfl, _, rfl, b, _, _, _, rfl, rfl, SqL.of h1, atI_nat (j := 2) rfl, _, _, rfl, rfl, .inl ⟨by decide, by decide⟩, _, _, rfl, rfl, _, _, rfl, rfl, powW3 (by omega), .inl ⟨_, rfl, _, _, rfl, rfl, ⟨by decide, by decide, by decide⟩, _, _, rfl, rfl, _, _, rfl, rfl, (by show (10 ^ (44 : Int).toNat + 57 : Int) ≠ 0; decide), ?_⟩⟩
    dsimp only
    generalize ((mi + 67867967 * (z + 1)) ^ (3 : Int).toNat).fmod (10 ^ (44 : Int).toNat + 57) = mj
    refine ⟨_, rfl, _, _, rfl, rfl, wide_div (by decide) (b := 20) (by decide) (by decide) (by decide), .inl ⟨_, rfl, _, rfl, _, _, rfl, rfl, by omega, ?_⟩⟩
    exact q _ _ k1 ⟨_, _, _, h1, hy, by omega, by omega⟩
end
end LT

namespace LT
open PySem PySem.Spec PyProof.Rows L2
section
variable {P : Program} {w : World} {K : PySem.W.Frag} {mg : Str → Option Value} {base : Heap}
theorem shl_nat (k : Nat) : (1 : Int) * 2 ^ ((k : Nat) : Int).toNat = ((2 ^ k : Nat) : Int) := by rw [Int.one_mul, Int.toNat_natCast]; exact (Int.natCast_pow 2 k).symm
def spDrawnSize : Sp := fun vs H Q _ => ∃ (b : Addr) (c : Nat), vs = [.ref b] ∧ ReelAt H b c ∧ c ≤ 10 ^ 8 ∧
  ∀ (n : Nat) (H' : Hp), 1 ≤ n → n ≤ 10 ^ 30 → But b H H' → ReelAt H' b (c + 5) → Q (.int n) H'
theorem ok_law_drawn_size {f g1 : Addr} {fd d1 : FuncData} (F : Fun K "_law_drawn_size" "_law_drawn_size" sLawDrawnSize f fd) (GLawSpin : FnOk P w K mg base CX0 1 g1 d1 ["reel", "many"] spSpin) (ALawSpin : At K mg "_law_spin" g1 d1 ["reel", "many"]) (z_min : mg "min" = none) (z_int : mg "int" = none) :
    FnOk P w K mg base CX0 2 f fd ["reel"] spDrawnSize := by
  refine F.ok scLawDrawnSize (fun vs H Q E h => ?_) (fun cdv A outer s H vs Q E hr h => ?_)
  · obtain ⟨_, _, rfl, _⟩ := h
    rfl
  obtain ⟨b, c, rfl, hb, hc, q⟩ := h
  refine ⟨_, (pss_cons (ps_par (i := 1) (j := 2) (by rfl) scLawDrawnSize.nd rfl rfl (by decide) rfl rfl (pa_cons (pe_call GLawSpin (hr.mono (by decide)) rfl ALawSpin.m ALawSpin.kp ALawSpin.b .nil pass0 (pa_cons (pv 0) (pa_cons pe_int pa_nil))) (pa_cons (pe_call GLawSpin (hr.mono (by decide)) rfl ALawSpin.m ALawSpin.kp ALawSpin.b .nil pass0 (pa_cons (pv 0) (pa_cons pe_int pa_nil))) pa_nil)) (by rfl))
    (pss_cons (ps_set (i := 3) scLawDrawnSize.nd rfl (Or.inl rfl) (pe_lst (pa_cons (pe_op op_add pe_int (pe_call GLawSpin (hr.mono (by decide)) rfl ALawSpin.m ALawSpin.kp ALawSpin.b .nil pass0 (pa_cons (pv 0) (pa_cons (pe_op op_pow pe_int pe_int) pa_nil)))) (pa_cons (pe_op op_add (pe_op op_shl pe_int (pv 1)) (pe_op op_shl pe_int (pv 2))) (pa_cons (pe_op op_sub (pe_op op_shl pe_int (pe_op op_add (pv 1) pe_int)) pe_int) pa_nil)))))
    (pss_cons (ps_set (i := 3) scLawDrawnSize.nd rfl (Or.inl rfl) (pe_op op_cat (pv 3) (pe_lst (pa_cons (pe_op op_add (pe_op op_sub (pe_op op_sub (pe_op op_shl pe_int (pe_op op_add (pv 1) pe_int)) pe_int) (pe_op op_shl pe_int (pe_callB (call_min2 rfl) (by rfl) z_min (by decide +kernel) (pa_cons (pv 1) (pa_cons (pv 2) pa_nil))))) (pe_callTy call_int1 (by rfl) z_int (by decide +kernel) (pa_cons (pe_cmpR op_eq (pv 1) pe_int (nomark _)) pa_nil))) (pa_cons (pe_op op_add pe_int (pe_call GLawSpin (hr.mono (by decide)) rfl ALawSpin.m ALawSpin.kp ALawSpin.b .nil pass0 (pa_cons (pv 0) (pa_cons pe_int pa_nil)))) pa_nil)))))
    (pss_one (ps_ret (pe_ix ix_list (pv 3) (pe_call GLawSpin (hr.mono (by decide)) rfl ALawSpin.m ALawSpin.kp ALawSpin.b .nil pass0 (pa_cons (pv 0) (pa_cons pe_int pa_nil))) (fun _ _ => rfl))))))), ?_⟩
  refine ⟨_, rfl, b, 99, c, rfl, by decide, by decide, hb, by omega, fun pw H1 p1 k1 b1 => ?_⟩
  refine ⟨_, rfl, b, 99, _, rfl, by decide, by decide, b1, by omega, fun ot H2 o1 k2 b2 => ?_⟩
  refine ⟨_, _, rfl, ?_⟩
  have B2 : But b H H2 := fun a o n h => by rw [k2 a n, k1 a n]; exact h
  refine ⟨_, rfl, _, _, rfl, rfl, ⟨by decide, by decide, by decide⟩, b, _, _, rfl, by decide, by decide, b2, by omega, fun r3 H3 r31 k3 b3 => ?_⟩
  have B3 : But b H H3 := fun a o n h => by rw [k3 a n]; exact B2 a o n h
  refine ⟨_, _, rfl, rfl, ?_⟩
  refine ⟨_, rfl, _, _, rfl, rfl, ⟨Int.natCast_nonneg _, by omega, by decide⟩, _, rfl, _, _, rfl, rfl, ⟨Int.natCast_nonneg _, by omega, by decide⟩, _, _, rfl, rfl, ?_⟩
  refine ⟨_, rfl, _, _, rfl, rfl, _, _, rfl, rfl, ⟨by omega, by omega, by decide⟩, _, _, rfl, rfl, (by show 3 ≤ sizeLine; decide), fun l nl => ?_⟩
  dsimp only
  have ep : (pw : Int) + 1 = ((pw + 1 : Nat) : Int) := by omega
  rw [ep, shl_nat, shl_nat, shl_nat]
  have p0 := Nat.pow_pos (a := 2) (n := pw) (by decide)
  have q0 := Nat.pow_pos (a := 2) (n := ot) (by decide)
  have pb : 2 ^ pw ≤ 2 ^ 98 := Nat.pow_le_pow_right (by decide) (by omega)
  have qb : 2 ^ ot ≤ 2 ^ 98 := Nat.pow_le_pow_right (by decide) (by omega)
  have ps : 2 ^ (pw + 1) = 2 * 2 ^ pw := by rw [Nat.pow_succ]; omega
  have lb_ : l ≠ b := b3.ne nl
  have s4 := same_upd (o := .lst [.int (1 + (r3 : Int)), .int (((2 ^ pw : Nat) : Int) + ((2 ^ ot : Nat) : Int)), .int (((2 ^ (pw + 1) : Nat) : Int) - 1)]) nl
  have h4 : (upd H3 l (.lst [.int (1 + (r3 : Int)), .int (((2 ^ pw : Nat) : Int) + ((2 ^ ot : Nat) : Int)), .int (((2 ^ (pw + 1) : Nat) : Int) - 1)])) l = some (.lst [.int (1 + (r3 : Int)), .int (((2 ^ pw : Nat) : Int) + ((2 ^ ot : Nat) : Int)), .int (((2 ^ (pw + 1) : Nat) : Int) - 1)]) := upd_same
  have B4 := B3.trans (But.of (b := b) s4)
  have b4 := b3.same s4
  generalize upd H3 l (.lst [.int (1 + (r3 : Int)), .int (((2 ^ pw : Nat) : Int) + ((2 ^ ot : Nat) : Int)), .int (((2 ^ (pw + 1) : Nat) : Int) - 1)]) = H4 at h4 B4 b4
  have em : (if (ot : Int) < (pw : Int) then (ot : Int) else (pw : Int)) = ((min pw ot : Nat) : Int) := by split <;> omega
  have mb : 2 ^ (min pw ot) ≤ 2 ^ pw := Nat.pow_le_pow_right (by decide) (by omega)
  have m0 := Nat.pow_pos (a := 2) (n := min pw ot) (by decide)
  refine ⟨_, rfl, _, rfl, _, _, rfl, rfl, _, _, rfl, rfl, ⟨by omega, by omega, by decide⟩, _, _, rfl, rfl, _, rfl, _, rfl, _, _, rfl, ?_⟩
  rw [em]
  refine ⟨_, _, rfl, rfl, ⟨Int.natCast_nonneg _, by omega, by decide⟩, _, _, rfl, rfl, _, rfl, rfl, .inr ⟨_, rfl, _, _, rfl, rfl, ?_⟩⟩
  dsimp only
  rw [ep, shl_nat, shl_nat]
  refine ⟨_, rfl, b, 99, _, rfl, by decide, by decide, b4, by omega, fun r5 H5 r51 k5 b5 => ⟨_, _, rfl, rfl, (by show 2 ≤ sizeLine; decide), fun l2 n2 => ?_⟩⟩
  have B5 : But b H H5 := fun a o n h => by rw [k5 a n]; exact B4 a o n h
  have h5 : H5 l = some _ := (k5 l lb_).trans h4
  have s6 := same_upd (o := .lst [.int (((2 ^ (pw + 1) : Nat) : Int) - 1 - ((2 ^ min pw ot : Nat) : Int) + if decide ((V.int (pw : Int)) = V.int 0) = true then 1 else 0), .int (1 + (r5 : Int))]) n2
  refine ⟨l, l2, _, _, rfl, rfl, s6 _ _ h5, upd_same, (by show 3 + 2 ≤ sizeLine; decide), fun l3 n3 => ?_⟩
  have s7 := same_upd (o := .lst ([.int (1 + (r3 : Int)), .int (((2 ^ pw : Nat) : Int) + ((2 ^ ot : Nat) : Int)), .int (((2 ^ (pw + 1) : Nat) : Int) - 1)] ++ [.int (((2 ^ (pw + 1) : Nat) : Int) - 1 - ((2 ^ min pw ot : Nat) : Int) + if decide ((V.int (pw : Int)) = V.int 0) = true then 1 else 0), .int (1 + (r5 : Int))])) n3
  have hz : (if decide ((V.int (pw : Int)) = V.int 0) = true then (1 : Int) else 0) = if pw = 0 then 1 else 0 := by
    by_cases c : pw = 0
    · subst c; rfl
    · rw [if_neg c]
      exact if_neg (fun z => c (by have := V.int.inj (of_decide_eq_true z); omega))
  have e30 : (10 : Int) ^ (30 : Int).toNat = 1000000000000000000000000000000 := by decide
  rw [e30] at r31
  have hv : ∀ r : Nat, (r : Int) < 5 → ∃ n : Nat, atI ([V.int (1 + (r3 : Int)), .int (((2 ^ pw : Nat) : Int) + ((2 ^ ot : Nat) : Int)), .int (((2 ^ (pw + 1) : Nat) : Int) - 1)] ++ [.int (((2 ^ (pw + 1) : Nat) : Int) - 1 - ((2 ^ min pw ot : Nat) : Int) + if decide ((V.int (pw : Int)) = V.int 0) = true then 1 else 0), .int (1 + (r5 : Int))]) (r : Int) = some (.int (n : Int)) ∧ 1 ≤ n ∧ n ≤ 10 ^ 30 := by
    intro r hr5
    have key : ∀ (i : Int), (1 ≤ i ∧ i ≤ 10 ^ 30) → ∀ (o : Option V), o = some (.int i) → ∃ n : Nat, o = some (.int (n : Int)) ∧ 1 ≤ n ∧ n ≤ 10 ^ 30 := fun i hi o ho => by
      obtain ⟨n, rfl⟩ := Int.eq_ofNat_of_zero_le (show 0 ≤ i by omega)
      exact ⟨n, ho, by omega, by omega⟩
    rw [hz]
    have : r = 0 ∨ r = 1 ∨ r = 2 ∨ r = 3 ∨ r = 4 := by omega
    rcases this with rfl | rfl | rfl | rfl | rfl
    · exact key _ (by omega) _ (atI_nat (j := 0) rfl)
    · exact key _ (by omega) _ (atI_nat (j := 1) rfl)
    · exact key _ (by omega) _ (atI_nat (j := 2) rfl)
    · refine key _ ?_ _ (atI_nat (j := 3) rfl)
      by_cases c : pw = 0
      · subst c
        rw [if_pos rfl]
        have : min 0 ot = 0 := by omega
        rw [this]
        decide
      · rw [if_neg c]
        have : 2 ≤ 2 ^ pw := Nat.pow_le_pow_right (n := 2) (by decide) (show 1 ≤ pw by omega)
        omega
    · exact key _ (by omega) _ (atI_nat (j := 4) rfl)
  generalize [V.int (1 + (r3 : Int)), .int (((2 ^ pw : Nat) : Int) + ((2 ^ ot : Nat) : Int)), .int (((2 ^ (pw + 1) : Nat) : Int) - 1)] ++ [.int (((2 ^ (pw + 1) : Nat) : Int) - 1 - ((2 ^ min pw ot : Nat) : Int) + if decide ((V.int (pw : Int)) = V.int 0) = true then 1 else 0), .int (1 + (r5 : Int))] = L at s7 hv ⊢
  have b7 := (b5.same s6).same s7
  have h7 : (upd (upd H5 l2 (.lst [.int (((2 ^ (pw + 1) : Nat) : Int) - 1 - ((2 ^ min pw ot : Nat) : Int) + if decide ((V.int (pw : Int)) = V.int 0) = true then 1 else 0), .int (1 + (r5 : Int))])) l3 (.lst L)) l3 = some (.lst L) := upd_same
  have B7 := (B5.trans (But.of (b := b) s6)).trans (But.of (b := b) s7)
  generalize upd (upd H5 l2 (.lst [.int (((2 ^ (pw + 1) : Nat) : Int) - 1 - ((2 ^ min pw ot : Nat) : Int) + if decide ((V.int (pw : Int)) = V.int 0) = true then 1 else 0), .int (1 + (r5 : Int))])) l3 (.lst L) = H7 at b7 h7 B7
  have l3b : l3 ≠ b := (b5.same s6).ne n3
  refine ⟨_, rfl, _, rfl, b, 5, _, rfl, by decide, by decide, b7, by omega, fun r H8 r8 k8 b8 => ?_⟩
  obtain ⟨n, hn, n1, n30⟩ := hv r r8
  exact ⟨l3, _, _, _, rfl, rfl, SqL.of ((k8 l3 l3b).trans h7), hn, q n H8 n1 n30 (fun a o z h => by rw [k8 a z]; exact B7 a o z h) b8⟩
end
end LT

namespace LT
/-! ### the greatest nodes within a stretch -/
theorem and_pred_odd (c : Nat) : (2 * c + 1) &&& (2 * c) = 2 * c := by
  apply Nat.eq_of_testBit_eq
  intro i
  rw [Nat.testBit_and]
  cases i with
  | zero => simp
  | succ i =>
    rw [Nat.testBit_succ, Nat.testBit_succ, show (2 * c + 1) / 2 = c by omega, show 2 * c / 2 = c by omega, Bool.and_self]
theorem and_pred_even (c : Nat) (h : 0 < c) : (2 * c) &&& (2 * c - 1) = 2 * (c &&& (c - 1)) := by
  apply Nat.eq_of_testBit_eq
  intro i
  rw [Nat.testBit_and]
  cases i with
  | zero => simp
  | succ i =>
    rw [Nat.testBit_succ, Nat.testBit_succ, Nat.testBit_succ, show 2 * c / 2 = c by omega, show (2 * c - 1) / 2 = c - 1 by omega, show 2 * (c &&& (c - 1)) / 2 = c &&& (c - 1) by omega, Nat.testBit_and]
def low (b : Nat) : Nat := b - (b &&& (b - 1))
theorem low_is : ∀ b : Nat, 0 < b → ∃ k, low b = 2 ^ k ∧ 2 ^ k ∣ b ∧ ¬ 2 ^ (k + 1) ∣ b := by
  intro b
  induction b using Nat.strongRecOn with
  | ind b ih =>
    intro hb
    rcases Nat.mod_two_eq_zero_or_one b with h | h
    · obtain ⟨c, rfl⟩ : ∃ c, b = 2 * c := ⟨b / 2, by omega⟩
      obtain ⟨k, e, d1, d2⟩ := ih c (by omega) (by omega)
      refine ⟨k + 1, ?_, ?_, ?_⟩
      · unfold low at e ⊢
        rw [and_pred_even c (by omega), Nat.pow_succ]
        omega
      · rw [Nat.pow_succ, Nat.mul_comm]
        exact Nat.mul_dvd_mul_left 2 d1
      · rw [Nat.pow_succ, Nat.mul_comm (2 ^ (k + 1)) 2]
        exact fun z => d2 (Nat.dvd_of_mul_dvd_mul_left (by decide) z)
    · obtain ⟨c, rfl⟩ : ∃ c, b = 2 * c + 1 := ⟨b / 2, by omega⟩
      refine ⟨0, ?_, Nat.one_dvd _, ?_⟩
      · unfold low
        rw [show 2 * c + 1 - 1 = 2 * c by omega, and_pred_odd]
        omega
      · intro z
        have := Nat.mod_eq_zero_of_dvd z
        omega
/-- the room of the greatest full node that begins at b, up to e -/
def rm (b e : Nat) : Nat := if b = 0 then 2 ^ (e - b).log2 else min (2 ^ (e - b).log2) (low b)
theorem rm_is {b e : Nat} (h : b < e) : ∃ k, rm b e = 2 ^ k ∧ 2 ^ k ∣ b ∧ b + 2 ^ k ≤ e ∧ (2 ^ (k + 1) ∣ b → e < b + 2 ^ (k + 1)) := by
  have l1 := Nat.log2_self_le (n := e - b) (by omega)
  have l2 := Nat.lt_log2_self (n := e - b)
  unfold rm
  by_cases c : b = 0
  · subst c
    rw [if_pos rfl]
    exact ⟨_, rfl, Nat.dvd_zero _, by omega, fun _ => by omega⟩
  · rw [if_neg c]
    obtain ⟨k, e1, d1, d2⟩ := low_is b (by omega)
    rw [e1]
    by_cases c2 : (e - b).log2 ≤ k
    · have := Nat.pow_le_pow_right (n := 2) (by decide) c2
      rw [Nat.min_eq_left this]
      exact ⟨_, rfl, Nat.dvd_trans (Nat.pow_dvd_pow 2 c2) d1, by omega, fun _ => by omega⟩
    · have := Nat.pow_le_pow_right (n := 2) (by decide) (show k ≤ (e - b).log2 by omega)
      rw [Nat.min_eq_right this]
      exact ⟨k, rfl, d1, by omega, fun z => absurd z d2⟩
def rw1 (n b e : Nat) : Nat := if isN n (b, e) then e - b else rm b e
def nwF (n : Nat) : Nat → Nat → Nat → List (Nat × Nat)
  | 0, _, _ => []
  | f + 1, b, e => if b < e then (b, b + rw1 n b e) :: nwF n f (b + rw1 n b e) e else []
def nw (n b e : Nat) : List (Nat × Nat) := nwF n (e - b) b e
theorem rw1_pos {n b e : Nat} (h : b < e) : 0 < rw1 n b e ∧ b + rw1 n b e ≤ e := by
  unfold rw1
  split
  · omega
  · obtain ⟨k, e1, _, e2, _⟩ := rm_is h
    have := Nat.pow_pos (a := 2) (n := k) (by decide)
    omega
theorem nwF_eq (n e : Nat) : ∀ (f g b : Nat), e - b ≤ f → e - b ≤ g → nwF n f b e = nwF n g b e
  | 0, 0, _, _, _ => rfl
  | 0, g + 1, b, h, _ => by
    show [] = if b < e then _ else _
    rw [if_neg (by omega)]
  | f + 1, 0, b, _, h => by
    show (if b < e then _ else _) = []
    rw [if_neg (by omega)]
  | f + 1, g + 1, b, h1, h2 => by
    show (if b < e then _ else _) = if b < e then _ else _
    by_cases c : b < e
    · have := rw1_pos (n := n) c
      rw [if_pos c, if_pos c, nwF_eq n e f g (b + rw1 n b e) (by omega) (by omega)]
    · rw [if_neg c, if_neg c]
theorem nw_nil {n b e : Nat} (h : e ≤ b) : nw n b e = [] := by
  unfold nw
  rw [show e - b = 0 by omega]
  rfl
theorem nw_step {n b e : Nat} (h : b < e) : nw n b e = (b, b + rw1 n b e) :: nw n (b + rw1 n b e) e := by
  have p := rw1_pos (n := n) h
  unfold nw
  rw [show e - b = (e - b - 1) + 1 by omega]
  show (if b < e then _ else _) = _
  rw [if_pos h, nwF_eq n e (e - b - 1) (e - (b + rw1 n b e)) (b + rw1 n b e) (by omega) (by omega)]
/-- induction over the nodes within -/
theorem nw_ind {n e : Nat} {p : Nat → Prop} (h0 : ∀ b, e ≤ b → p b) (h1 : ∀ b, b < e → p (b + rw1 n b e) → p b) (b : Nat) : p b := by
  have : ∀ (f b : Nat), e - b ≤ f → p b := by
    intro f
    induction f with
    | zero => exact fun b h => h0 b (by omega)
    | succ f ih =>
      intro b h
      by_cases c : b < e
      · have := rw1_pos (n := n) c
        exact h1 b c (ih _ (by omega))
      · exact h0 b (by omega)
  exact this _ b (Nat.le_refl _)
theorem nw_len2 {n e : Nat} : ∀ (L b : Nat), 2 ^ L ∣ b → e < b + 2 ^ L → (nw n b e).length ≤ L
  | 0, b, _, h => by rw [nw_nil (by simp at h; omega)]; exact Nat.zero_le _
  | L + 1, b, d, h => by
    have d' : 2 ^ L ∣ b := Nat.dvd_trans (Nat.pow_dvd_pow 2 (Nat.le_succ L)) d
    by_cases c : b < e
    · by_cases c2 : e < b + 2 ^ L
      · have := nw_len2 (n := n) (e := e) L b d' c2
        omega
      · rw [nw_step c, List.length_cons]
        unfold rw1
        split
        · rw [nw_nil (by omega)]
          simp
        · obtain ⟨k, e1, e2, e3, e4⟩ := rm_is c
          rw [e1]
          have kL : k = L := by
            by_cases z : k < L
            · have := e4 (Nat.dvd_trans (Nat.pow_dvd_pow 2 z) d')
              have := Nat.pow_le_pow_right (n := 2) (by decide) (show k + 1 ≤ L from z)
              omega
            · have : 2 ^ k < 2 ^ (L + 1) := by omega
              have := (Nat.pow_lt_pow_iff_right (by decide : 1 < 2)).mp this
              omega
          subst kL
          have := nw_len2 (n := n) (e := e) k (b + 2 ^ k) (Nat.dvd_add e2 (Nat.dvd_refl _)) (by rw [Nat.pow_succ] at h; omega)
          omega
    · rw [nw_nil (by omega)]
      exact Nat.zero_le _
theorem nw_len1 {n e L : Nat} : ∀ (t j b : Nat), j + t = L → 2 ^ j ∣ b → e < b + 2 ^ L → (nw n b e).length ≤ L + t
  | 0, j, b, hj, d, h => by
    have : j = L := by omega
    subst this
    exact nw_len2 j b d h
  | t + 1, j, b, hj, d, h => by
    by_cases c : b < e
    · by_cases d1 : 2 ^ (j + 1) ∣ b
      · have := nw_len1 (n := n) (e := e) (L := L) t (j + 1) b (by omega) d1 h
        omega
      · rw [nw_step c, List.length_cons]
        unfold rw1
        split
        · rw [nw_nil (by omega)]
          simp
          omega
        · obtain ⟨k, e1, e2, e3, e4⟩ := rm_is c
          rw [e1]
          by_cases z : k < j
          · have e5 := e4 (Nat.dvd_trans (Nat.pow_dvd_pow 2 z) d)
            have := nw_len2 (n := n) (e := e) k (b + 2 ^ k) (Nat.dvd_add e2 (Nat.dvd_refl _)) (by rw [Nat.pow_succ] at e5; omega)
            omega
          · have kj : k = j := by
              by_cases y : j < k
              · exact absurd (Nat.dvd_trans (Nat.pow_dvd_pow 2 y) e2) d1
              · omega
            subst kj
            have d2 : 2 ^ (k + 1) ∣ b + 2 ^ k := by
              obtain ⟨x, rfl⟩ := d
              rcases Nat.mod_two_eq_zero_or_one x with y | y
              · exact absurd (by rw [Nat.pow_succ]; exact Nat.mul_dvd_mul_left _ (Nat.dvd_of_mod_eq_zero y)) d1
              · refine ⟨x / 2 + 1, ?_⟩
                have : x = 2 * (x / 2) + 1 := by omega
                rw [Nat.pow_succ]
                generalize x / 2 = u at this
                subst this
                rw [Nat.mul_add, Nat.mul_add, Nat.mul_assoc (2 ^ k) 2 u]
                omega
            have p := Nat.pow_pos (a := 2) (n := k) (by decide)
            have := nw_len1 (n := n) (e := e) (L := L) t (k + 1) (b + 2 ^ k) (by omega) d2 (by omega)
            omega
    · rw [nw_nil (by omega)]
      exact Nat.zero_le _
theorem nw_len {n b e : Nat} (h : e ≤ 2 ^ 100) : (nw n b e).length ≤ 202 := by
  have := nw_len1 (n := n) (e := e) (L := 101) 101 0 b (by decide) (by simp) (by rw [Nat.pow_succ]; omega)
  omega
/-- nodes are nested or apart -/
theorem lam {n b m B M : Nat} (t : tree n b m) (hm : 1 ≤ m) (T : tree n B M) (hn : b + m ≤ n) (HN : B + M ≤ n) (h1 : b < B) (h2 : B < b + m) : B + M ≤ b + m := by
  obtain ⟨d, k⟩ := t
  obtain ⟨D, _⟩ := T
  have ge := lb_ge m
  have gE := lb_ge M
  by_cases c : lb m ≤ lb M
  · have := mul_le_of_lt d (Nat.dvd_trans (Nat.pow_dvd_pow 2 c) D) h1
    omega
  · have c1 : lb M ≤ lb m := by omega
    have := mul_le_of_lt D (Nat.dvd_add (Nat.dvd_trans (Nat.pow_dvd_pow 2 c1) d) (Nat.pow_dvd_pow 2 c1)) (show B < b + 2 ^ lb m by omega)
    rcases k with k | k
    · omega
    · omega
theorem isN_tree {n b e : Nat} (h : isN n (b, e)) : b < e ∧ e ≤ n ∧ tree n b (e - b) := h
theorem isN_of {n b m : Nat} (h1 : 1 ≤ m) (h2 : b + m ≤ n) (t : tree n b m) : isN n (b, b + m) := ⟨by show b < b + m; omega, h2, by show tree n b (b + m - b); rw [Nat.add_sub_cancel_left]; exact t⟩
theorem full_isN {n b k : Nat} (h2 : b + 2 ^ k ≤ n) (d : 2 ^ k ∣ b) : isN n (b, b + 2 ^ k) := isN_of (Nat.pow_pos (by decide)) h2 ⟨by rw [lb_pow]; exact d, .inl (by rw [lb_pow])⟩
theorem rw1_isN {n b e : Nat} (h : b < e) (hn : e ≤ n) : isN n (b, b + rw1 n b e) := by
  unfold rw1
  split
  · rename_i c
    rw [show b + (e - b) = e by omega]
    exact c
  · obtain ⟨k, e1, e2, e3, _⟩ := rm_is h
    rw [e1]
    exact full_isN (by omega) e2
/-- the first node is the greatest one that begins there -/
theorem rw1_max {n b e y : Nat} (hn : e ≤ n) (hy : isN n (b, y)) (h : y ≤ e) : y ≤ b + rw1 n b e := by
  have hb : b < y := hy.1
  unfold rw1
  split
  · omega
  · rename_i c
    obtain ⟨k, e1, e2, e3, e4⟩ := rm_is (show b < e by omega)
    rw [e1]
    obtain ⟨_, y1, d, t⟩ := isN_tree hy
    rcases t with t | t
    · by_cases z : k < lb (y - b)
      · have := e4 (Nat.dvd_trans (Nat.pow_dvd_pow 2 z) d)
        have := Nat.pow_le_pow_right (n := 2) (by decide) (show k + 1 ≤ lb (y - b) from z)
        omega
      · have := Nat.pow_le_pow_right (n := 2) (by decide) (show lb (y - b) ≤ k by omega)
        omega
    · have : y = e := by omega
      subst this
      exact absurd hy c
/-- a list of nodes one behind the other -/
def Ch (n : Nat) : Nat → Nat → List (Nat × Nat) → Prop
  | lo, hi, [] => lo = hi
  | lo, hi, x :: l => x.1 = lo ∧ isN n x ∧ x.2 ≤ hi ∧ Ch n x.2 hi l
theorem nw_ch {n e : Nat} (hn : e ≤ n) (b : Nat) : b ≤ e → Ch n b e (nw n b e) := by
  refine nw_ind (n := n) (e := e) (p := fun b => b ≤ e → Ch n b e (nw n b e)) (fun b h h2 => ?_) (fun b h ih _ => ?_) b
  · rw [nw_nil h]
    exact Nat.le_antisymm h2 h
  · rw [nw_step h]
    have := rw1_pos (n := n) h
    exact ⟨rfl, rw1_isN h hn, this.2, ih this.2⟩
/-- nothing greater in the stretch has one of them -/
def Mx (n lo hi : Nat) (l : List (Nat × Nat)) : Prop := ∀ x ∈ l, ∀ p, isN n p → lo ≤ p.1 → p.2 ≤ hi → p.1 ≤ x.1 → x.2 ≤ p.2 → p = x
theorem nw_mx {n lo e : Nat} (hn : e ≤ n) (b : Nat) : b ≤ e → lo ≤ b → (∀ p, isN n p → lo ≤ p.1 → p.2 ≤ e → p.1 < b → p.2 ≤ b) → Mx n lo e (nw n b e) := by
  refine nw_ind (n := n) (e := e) (p := fun b => b ≤ e → lo ≤ b → (∀ p, isN n p → lo ≤ p.1 → p.2 ≤ e → p.1 < b → p.2 ≤ b) → Mx n lo e (nw n b e)) (fun b h h2 _ _ => ?_) (fun b h ih h1 h2 h3 => ?_) b
  · rw [nw_nil h]
    exact fun x hx => by cases hx
  · have w := rw1_pos (n := n) h
    have wN := rw1_isN h hn
    have wM : ∀ p, isN n p → lo ≤ p.1 → p.2 ≤ e → p.1 = b → p.2 ≤ b + rw1 n b e := by
      rintro ⟨p1, p2⟩ k1 k2 k3 rfl
      exact rw1_max hn k1 k3
    rw [nw_step h]
    intro x hx
    rcases List.mem_cons.mp hx with rfl | hx
    · rintro ⟨p1, p2⟩ k1 k2 k3 k4 k5
      simp only at k2 k3 k4 k5
      by_cases c : p1 < b
      · have := h3 _ k1 k2 k3 c
        simp only at this
        omega
      · have : p1 = b := by omega
        subst this
        have := wM _ k1 k2 k3 rfl
        simp only at this
        exact Prod.ext rfl (by show p2 = _; omega)
    · refine ih w.2 (by omega) ?_ x hx
      rintro ⟨p1, p2⟩ k1 k2 k3 k4
      simp only at k2 k3 k4 ⊢
      by_cases c : p1 < b
      · have := h3 _ k1 k2 k3 c
        simp only at this
        omega
      · by_cases c2 : p1 = b
        · subst c2
          exact wM _ k1 k2 k3 rfl
        · obtain ⟨q1, q2, q3⟩ := isN_tree k1
          obtain ⟨u1, u2, u3⟩ := isN_tree wN
          have := lam (n := n) (b := b) (m := b + rw1 n b e - b) (B := p1) (M := p2 - p1) u3 (by omega) q3 (by omega) (by omega) (by omega) (by omega)
          omega
theorem nw_max {n b e : Nat} (hn : e ≤ n) (h : b ≤ e) : Mx n b e (nw n b e) := nw_mx hn b h (Nat.le_refl _) (fun p _ k1 _ k3 => by omega)
theorem Ch.mem {n : Nat} : ∀ {lo hi : Nat} {l : List (Nat × Nat)}, Ch n lo hi l → ∀ x ∈ l, isN n x ∧ lo ≤ x.1 ∧ x.2 ≤ hi
  | lo, hi, y :: l, ⟨h1, h2, h3, h4⟩, x, hx => by
    have k := h2.1
    rcases List.mem_cons.mp hx with rfl | hx
    · exact ⟨h2, by omega, h3⟩
    · obtain ⟨k1, k2, k3⟩ := Ch.mem h4 x hx
      exact ⟨k1, by omega, k3⟩
theorem Ch.le {n : Nat} : ∀ {lo hi : Nat} {l : List (Nat × Nat)}, Ch n lo hi l → lo ≤ hi
  | _, _, [], h => Nat.le_of_eq h
  | lo, hi, y :: l, ⟨h1, h2, h3, h4⟩ => by
    have k := h2.1
    omega
theorem Ch.app {n : Nat} : ∀ {lo mid hi : Nat} {l r : List (Nat × Nat)}, Ch n lo mid l → Ch n mid hi r → Ch n lo hi (l ++ r)
  | _, _, _, [], _, h, k => by
    have h : _ = _ := h
    subst h
    exact k
  | _, _, _, x :: l, r, ⟨h1, h2, h3, h4⟩, k => ⟨h1, h2, Nat.le_trans h3 k.le, Ch.app h4 k⟩
/-- each entry between is in one of them -/
theorem Ch.at {n : Nat} : ∀ {lo hi : Nat} {l : List (Nat × Nat)}, Ch n lo hi l → ∀ i, lo ≤ i → i < hi → ∃ x ∈ l, x.1 ≤ i ∧ i < x.2
  | lo, hi, [], h, i, h1, h2 => by
    have h : lo = hi := h
    omega
  | lo, hi, y :: l, ⟨h1, h2, h3, h4⟩, i, k1, k2 => by
    by_cases c : i < y.2
    · exact ⟨y, List.mem_cons_self, by omega, c⟩
    · obtain ⟨x, hx, r⟩ := Ch.at h4 i (by omega) k2
      exact ⟨x, List.mem_cons_of_mem _ hx, r⟩
theorem Ch.sum {n : Nat} : ∀ {lo hi : Nat} {l : List (Nat × Nat)}, Ch n lo hi l → (l.map fun x => x.2 - x.1).sum = hi - lo
  | lo, hi, [], h => by
    have h : lo = hi := h
    simp; omega
  | lo, hi, y :: l, ⟨h1, h2, h3, h4⟩ => by
    have := Ch.sum h4
    have k := h2.1
    have := h4.le
    rw [List.map_cons, List.sum_cons]
    omega
/-- any node within the stretch lies in one of them -/
theorem nw_in {n b e : Nat} (hn : e ≤ n) (h : b ≤ e) {p : Nat × Nat} (hp : isN n p) (h1 : b ≤ p.1) (h2 : p.2 ≤ e) : ∃ x ∈ nw n b e, x.1 ≤ p.1 ∧ p.2 ≤ x.2 := by
  have k := hp.1
  obtain ⟨x, hx, a1, a2⟩ := (nw_ch hn b h).at p.1 h1 (by omega)
  refine ⟨x, hx, a1, ?_⟩
  obtain ⟨x1, x2, x3⟩ := (nw_ch hn b h).mem x hx
  have kx := x1.1
  have kn := x1.2.1
  have pn := hp.2.1
  by_cases c : x.1 < p.1
  · have := lam (n := n) (b := x.1) (m := x.2 - x.1) (B := p.1) (M := p.2 - p.1) x1.2.2 (by omega) hp.2.2 (by omega) (by omega) c (by omega)
    omega
  · by_cases c2 : p.2 ≤ x.2
    · exact c2
    · have := nw_max hn h x hx p hp h1 h2 (by omega) (by omega)
      rw [this]
      exact Nat.le_refl _
/-- a list of nodes one behind the other, none within a greater one of the stretch, is that of the greatest ones -/
theorem nw_unique {n hi lo0 : Nat} (hn : hi ≤ n) : ∀ (l r : List (Nat × Nat)) (lo : Nat), lo0 ≤ lo → Ch n lo hi l → Ch n lo hi r → Mx n lo0 hi l → Mx n lo0 hi r → l = r
  | [], [], _, _, _, _, _, _ => rfl
  | [], y :: r, lo, _, h1, ⟨k1, k2, k3, k4⟩, _, _ => by
    have h1 : lo = hi := h1
    have := k2.1
    omega
  | x :: l, [], lo, _, ⟨k1, k2, k3, k4⟩, h1, _, _ => by
    have h1 : lo = hi := h1
    have := k2.1
    omega
  | x :: l, y :: r, lo, h0, ⟨k1, k2, k3, k4⟩, ⟨j1, j2, j3, j4⟩, m1, m2 => by
    have e : x = y := by
      by_cases c : x.2 ≤ y.2
      · exact (m1 x List.mem_cons_self y j2 (by omega) j3 (by omega) c).symm
      · exact m2 y List.mem_cons_self x k2 (by omega) k3 (by omega) (by omega)
    subst e
    have := k2.1
    rw [nw_unique hn l r x.2 (by omega) k4 j4 (fun z hz => m1 z (List.mem_cons_of_mem _ hz)) (fun z hz => m2 z (List.mem_cons_of_mem _ hz))]
end LT

namespace LT
open PySem PySem.Spec PyProof.Rows L2
theorem bitAnd_low (b : Nat) (h : 0 < b) : Builtin.bitAnd (b : Int) (-(b : Int)) = ((low b : Nat) : Int) := by
  rw [bitAnd_pn (Int.natCast_nonneg b) (by omega)]
  have e : (Builtin.bitNot (-(b : Int))).toNat = b - 1 := by
    show (-(-(b : Int)) - 1).toNat = b - 1
    omega
  rw [e, Int.toNat_natCast]
  have : b &&& (b - 1) ≤ b := Nat.and_le_left
  unfold low
  omega
section
variable {P : Program} {w : World} {K : PySem.W.Frag} {mg : Str → Option Value} {base : Heap}
def spFirstFull : Sp := fun vs H Q _ => ∃ (b e : Nat), vs = [.int b, .int e] ∧ b < e ∧ e ≤ 10 ^ 30 ∧ ∀ (H' : Hp) (p : Addr), Same H H' → H p = none → H' p = some (.tup [.int b, .int ((b + rm b e : Nat) : Int)]) → Q (.ref p) H'
theorem ok_first_full {f g1 : Addr} {fd d1 : FuncData} (F : Fun K "_first_full" "_first_full" sFirstFull f fd) (GPowerWithin : FnOk P w K mg base CX0 1 g1 d1 ["number"] spPower) (APowerWithin : At K mg "power_within" g1 d1 ["number"]) (z_min : mg "min" = none) :
    FnOk P w K mg base CX0 2 f fd ["begin", "end"] spFirstFull := by
  refine F.ok scFirstFull (fun vs H Q E h => ?_) (fun cdv A outer s H vs Q E hr h => ?_)
  · obtain ⟨_, _, rfl, _⟩ := h
    rfl
  obtain ⟨b, e, rfl, hb, h30, q⟩ := h
  refine ⟨_, (pss_cons (ps_set (i := 2) scFirstFull.nd rfl (Or.inl rfl) (pe_call GPowerWithin (hr.mono (by decide)) rfl APowerWithin.m APowerWithin.kp APowerWithin.b .nil pass0 (pa_cons (pe_op op_sub (pv 1) (pv 0)) pa_nil)))
    (pss_cons (ps_if (pt_cmpR op_gt (pv 0) pe_int (nomark _))
    (pss_one (ps_set (i := 2) scFirstFull.nd rfl (Or.inl rfl) (pe_callB (call_min2 rfl) (by rfl) z_min (by decide +kernel) (pa_cons (pv 2) (pa_cons (pe_op op_and (pv 0) (pe_un un_neg (pv 0))) pa_nil)))))
    pss_nil)
    (pss_one (ps_ret (pe_tup (pa_cons (pv 0) (pa_cons (pe_op op_add (pv 0) (pv 2)) pa_nil))))))), ?_⟩
  have two : 2 ≤ sizeLine := by decide
  refine ⟨_, rfl, _, rfl, _, _, rfl, rfl, e - b, congrArg (fun z => [V.int z]) (by omega), by omega, by omega, ?_⟩
  refine ⟨_, rfl, _, _, rfl, rfl, _, rfl, ite2 (fun c => ?_) (fun c => ?_)⟩
  · have c1 : (b : Int) > 0 := of_decide_eq_true c
    refine ⟨_, rfl, _, rfl, _, rfl, _, rfl, _, _, rfl, rfl, _, _, rfl, ?_⟩
    rw [bitAnd_low b (by omega)]
    have em : (if ((low b : Nat) : Int) < ((2 ^ (e - b).log2 : Nat) : Int) then ((low b : Nat) : Int) else ((2 ^ (e - b).log2 : Nat) : Int)) = ((rm b e : Nat) : Int) := by
      unfold rm
      rw [if_neg (show ¬ b = 0 by omega)]
      split <;> omega
    refine ⟨_, rfl, _, rfl, _, rfl, _, _, rfl, rfl, two, fun t nt => ?_⟩
    dsimp only
    rw [em]
    refine q _ t (same_upd nt) nt ?_
    rw [upd_same, show (b : Int) + ((rm b e : Nat) : Int) = ((b + rm b e : Nat) : Int) by omega]
  · have c1 : ¬ (b : Int) > 0 := of_decide_eq_false (Bool.eq_false_iff.mpr c)
    have b0 : b = 0 := by omega
    have em : rm b e = 2 ^ (e - b).log2 := by unfold rm; rw [if_pos b0]
    refine ⟨_, rfl, _, rfl, _, rfl, _, _, rfl, rfl, two, fun t nt => ?_⟩
    refine q _ t (same_upd nt) nt ?_
    rw [upd_same, em]
    rfl
def spWithin : Sp := fun vs H Q _ => ∃ (n b e : Nat), vs = [.int n, .int b, .int e] ∧ 1 ≤ n ∧ n ≤ 2 ^ 100 ∧ b ≤ e ∧ e ≤ n ∧ e ≤ 10 ^ 30 ∧
  ∀ (H' : Hp) (p : Addr) (xs : List V), Same H H' → H p = none → H' p = some (.lst xs) → All2 (Nd H') xs (nw n b e) → Q (.ref p) H'
theorem tn_nat (n b e : Nat) : tnV n (.int (b : Int)) (.int (e : Int)) = decide (isN n (b, e)) := by
  show decide (0 ≤ (b : Int) ∧ isN n ((b : Int).toNat, (e : Int).toNat)) = decide (isN n (b, e))
  rw [Int.toNat_natCast, Int.toNat_natCast]
  by_cases k : isN n (b, e)
  · rw [decide_eq_true k, decide_eq_true ⟨Int.natCast_nonneg _, k⟩]
  · rw [decide_eq_false k, decide_eq_false (fun z => k z.2)]
theorem ok_nodes_within {f g1 g2 : Addr} {fd d1 d2 : FuncData} (F : Fun K "nodes_within" "nodes_within" sNodesWithin f fd) (GIsTreeNode : FnOk P w K mg base CX0 3 g1 d1 ["size", "value"] (spTreeV K)) (AIsTreeNode : At K mg "is_tree_node" g1 d1 ["size", "value"])
    (GFirstFull : FnOk P w K mg base CX0 2 g2 d2 ["begin", "end"] spFirstFull) (AFirstFull : At K mg "_first_full" g2 d2 ["begin", "end"]) : FnOk P w K mg base CX0 4 f fd ["size", "begin", "end"] spWithin := by
  refine F.ok scNodesWithin (fun vs H Q E h => ?_) (fun cdv A outer s H vs Q E hr h => ?_)
  · obtain ⟨_, _, _, rfl, _⟩ := h
    rfl
  obtain ⟨n, b0, e, rfl, n1, n100, hb0, he, h30, q⟩ := h
  refine ⟨_, (pss_cons (ps_set (i := 3) scNodesWithin.nd rfl (Or.inl rfl) (pe_lst pa_nil))
    (pss_cons (ps_while PassesOwn.never (pt_cmpR op_lt (pv 1) (pv 2) (nomark _))
    (pss_cons (ps_if (pt_val (pe_call GIsTreeNode (hr.mono (by decide)) rfl AIsTreeNode.m AIsTreeNode.kp AIsTreeNode.b .nil pass0 (pa_cons (pv 0) (pa_cons (pe_tup (pa_cons (pv 1) (pa_cons (pv 2) pa_nil))) pa_nil))))
    (pss_one (ps_set (i := 4) scNodesWithin.nd rfl (Or.inl rfl) (pe_tup (pa_cons (pv 1) (pa_cons (pv 2) pa_nil)))))
    (pss_one (ps_set (i := 4) scNodesWithin.nd rfl (Or.inl rfl) (pe_call GFirstFull (hr.mono (by decide)) rfl AFirstFull.m AFirstFull.kp AFirstFull.b .nil pass0 (pa_cons (pv 1) (pa_cons (pv 2) pa_nil))))))
    (pss_cons (ps_expr (pe_bm PySem.F.plainAttrs_list PySem.F.slot_list_append PySem.F.type_list_append mt_append (pv 3) (pa_cons (pv 4) pa_nil)))
    (pss_one (ps_set (i := 1) scNodesWithin.nd rfl (Or.inl rfl) (pe_ix ix_tup (pv 4) pe_int (fun _ _ => rfl)))))))
    (pss_one (ps_ret (pv 3))))), ?_⟩
  have two : 2 ≤ sizeLine := by decide
  refine ⟨Nat.zero_le _, fun fa nf => ?_⟩
  refine ⟨fun mu σ H' => ∃ (b : Nat) (v4 : Option V) (xs : List V) (done : List (Nat × Nat)), σ = [some (.int n), some (.int (b : Int)), some (.int (e : Int)), some (.ref fa), v4] ∧ Same H H' ∧ H' fa = some (.lst xs) ∧ All2 (Nd H') xs done ∧ done ++ nw n b e = nw n b0 e ∧ b ≤ e ∧ mu = e - b,
    ⟨e - b0, b0, none, [], [], rfl, same_upd nf, upd_same, .nil, rfl, hb0, rfl⟩, ?_⟩
  rintro m σ H1 ⟨b, v4, xs, done, rfl, sm, hf, hx, hd, hbe, rfl⟩
  refine ⟨_, rfl, _, rfl, _, _, rfl, rfl, _, rfl, ite2 (fun c => ?_) (fun c => ?_)⟩
  · have c1 : (b : Int) < (e : Int) := of_decide_eq_true c
    have dl : done.length ≤ 202 := by
      have k1 := congrArg List.length hd
      rw [List.length_append] at k1
      have k2 := nw_len (n := n) (b := b0) (e := e) (by omega)
      omega
    have w1 := rw1_pos (n := n) (show b < e by omega)
    have st := nw_step (n := n) (show b < e by omega)
    refine ⟨fun σ' H' => ∃ mu, mu < e - b ∧ ∃ (b : Nat) (v4 : Option V) (xs : List V) (done : List (Nat × Nat)), σ' = [some (.int n), some (.int (b : Int)), some (.int (e : Int)), some (.ref fa), v4] ∧ Same H H' ∧ H' fa = some (.lst xs) ∧ All2 (Nd H') xs done ∧ done ++ nw n b e = nw n b0 e ∧ b ≤ e ∧ mu = e - b, fun σ' H' h => h, ?_⟩
    -- behind the choice
    have fin : ∀ (H2 : Hp) (p : Addr), Same H1 H2 → H2 p = some (.tup [.int (b : Int), .int ((b + rw1 n b e : Nat) : Int)]) →
        (pss_term_fin : True) → ∃ (b' : Nat) (xs' : List V) (done' : List (Nat × Nat)), b' = b + rw1 n b e ∧ xs' = xs ++ [.ref p] ∧ Same H (upd H2 fa (.lst xs')) ∧ All2 (Nd (upd H2 fa (.lst xs'))) xs' done' ∧ done' ++ nw n b' e = nw n b0 e := fun H2 p s2 hp _ => by
      have hf2 := s2 _ _ hf
      refine ⟨_, _, done ++ [(b, b + rw1 n b e)], rfl, rfl, ?_, ?_, ?_⟩
      · exact fun a o k => by rw [upd_ne (ne_of_none k nf)]; exact s2 _ _ (sm _ _ k)
      · refine (hx.mono (fun v x (k : Nd H1 v x) => (k.same s2).upd hf2)).app (.cons ?_ .nil)
        exact Nd.upd (x := (b, b + rw1 n b e)) ⟨p, rfl, hp⟩ hf2
      · rw [← hd, st, List.append_assoc]
        rfl
    refine ⟨_, rfl, _, rfl, _, rfl, two, fun t nt => ?_⟩
    have s1 := same_upd (o := .tup [.int (b : Int), .int (e : Int)]) nt
    have ht : (upd H1 t (.tup [.int (b : Int), .int (e : Int)])) t = some (.tup [.int (b : Int), .int (e : Int)]) := upd_same
    generalize upd H1 t (.tup [.int (b : Int), .int (e : Int)]) = H2 at s1 ht
    refine ⟨n, .ref t, _, rfl, n1, n100, .pair ht (.int _) (.int _), ?_⟩
    rw [tn_nat]
    by_cases c2 : isN n (b, e)
    · rw [decide_eq_true c2]
      refine ⟨true, rfl, ?_⟩
      have rw_e : rw1 n b e = e - b := by unfold rw1; rw [if_pos c2]
      refine ⟨_, rfl, _, rfl, two, fun t2 nt2 => ?_⟩
      have s2 := same_upd (o := .tup [.int (b : Int), .int (e : Int)]) nt2
      obtain ⟨b', xs', done', eb, ex, f1, f2, f3⟩ := fin _ t2 (s1.trans s2) (by rw [upd_same, rw_e, show b + (e - b) = e by omega]) trivial
      subst ex
      have hf3 := s2 _ _ (s1 _ _ hf)
      have ht3 : (upd H2 t2 (.tup [.int (b : Int), .int (e : Int)])) t2 = some (.tup [.int (b : Int), .int (e : Int)]) := upd_same
      refine ⟨_, rfl, .inl ⟨rfl, _, SqL.of hf3⟩, _, rfl, fa, _, _, rfl, rfl, hf3, szlt (by rw [hx.len]; omega), ?_⟩
      refine ⟨_, rfl, t2, _, _, _, rfl, rfl, SqT.of ((upd_ne (ne_of ht3 hf3 (by intro z; cases z))).trans ht3), atI_nat (j := 1) rfl, ?_⟩
      refine ⟨e - b', by omega, b', some (.ref t2), xs ++ [.ref t2], done', ?_, f1, ?_, f2, f3, by omega, rfl⟩
      · rw [eb, rw_e, show b + (e - b) = e by omega]
        rfl
      · exact upd_same
    · rw [decide_eq_false c2]
      refine ⟨false, rfl, ?_⟩
      have rw_e : rw1 n b e = rm b e := by unfold rw1; rw [if_neg c2]
      refine ⟨_, rfl, _, rfl, b, e, rfl, by omega, by omega, fun H3 t2 s2 nt2 ht2 => ?_⟩
      obtain ⟨b', xs', done', eb, ex, f1, f2, f3⟩ := fin _ t2 (s1.trans s2) (by rw [ht2, rw_e]) trivial
      subst ex
      have hf3 := s2 _ _ (s1 _ _ hf)
      refine ⟨_, rfl, .inl ⟨rfl, _, SqL.of hf3⟩, _, rfl, fa, _, _, rfl, rfl, hf3, szlt (by rw [hx.len]; omega), ?_⟩
      refine ⟨_, rfl, t2, _, _, _, rfl, rfl, SqT.of ((upd_ne (ne_of ht2 hf3 (by intro z; cases z))).trans ht2), atI_nat (j := 1) rfl, ?_⟩
      refine ⟨e - b', by omega, b', some (.ref t2), xs ++ [.ref t2], done', ?_, f1, ?_, f2, f3, by omega, rfl⟩
      · rw [eb, rw_e]
        rfl
      · exact upd_same
  · have c1 : ¬ (b : Int) < (e : Int) := of_decide_eq_false (Bool.eq_false_iff.mpr c)
    rw [nw_nil (show e ≤ b by omega), List.append_nil] at hd
    rw [hd] at hx
    exact ⟨_, rfl, q H1 fa xs sm nf hf hx⟩
end
end LT

namespace LT
/-! ### an entry's siblings, by side -/
def lft (b m e : Nat) : List (Nat × Nat) :=
  if h : m ≤ 1 then [] else
    if e < b + gp m then lft b (gp m) e
    else (b, b + gp m) :: lft (b + gp m) (m - gp m) e
termination_by m
decreasing_by
  · exact gp_lt (by omega)
  · have := gp_pos m; omega
theorem lft_one {b m e : Nat} (h : m ≤ 1) : lft b m e = [] := by rw [lft]; simp [h]
theorem lft_low {b m e : Nat} (h : 2 ≤ m) (k : e < b + gp m) : lft b m e = lft b (gp m) e := by
  rw [lft, dif_neg (by omega), if_pos k]
theorem lft_high {b m e : Nat} (h : 2 ≤ m) (k : ¬ e < b + gp m) : lft b m e = (b, b + gp m) :: lft (b + gp m) (m - gp m) e := by
  rw [lft, dif_neg (by omega), if_neg k]
def rgt (b m e : Nat) : List (Nat × Nat) :=
  if h : m ≤ 1 then [] else
    if e < b + gp m then rgt b (gp m) e ++ [(b + gp m, b + m)]
    else rgt (b + gp m) (m - gp m) e
termination_by m
decreasing_by
  · exact gp_lt (by omega)
  · have := gp_pos m; omega
theorem rgt_one {b m e : Nat} (h : m ≤ 1) : rgt b m e = [] := by rw [rgt]; simp [h]
theorem rgt_low {b m e : Nat} (h : 2 ≤ m) (k : e < b + gp m) : rgt b m e = rgt b (gp m) e ++ [(b + gp m, b + m)] := by
  rw [rgt, dif_neg (by omega), if_pos k]
theorem rgt_high {b m e : Nat} (h : 2 ≤ m) (k : ¬ e < b + gp m) : rgt b m e = rgt (b + gp m) (m - gp m) e := by
  rw [rgt, dif_neg (by omega), if_neg k]
/-- induction down the way to an entry -/
theorem way_ind {n e : Nat} {p : Nat → Nat → Prop} (h1 : ∀ b m, m ≤ 1 → b ≤ e → e < b + m → b + m ≤ n → p b m)
    (h2 : ∀ b m, 2 ≤ m → tree n b m → b ≤ e → e < b + gp m → b + m ≤ n → p b (gp m) → p b m)
    (h3 : ∀ b m, 2 ≤ m → tree n b m → b ≤ e → ¬ e < b + gp m → e < b + m → b + m ≤ n → p (b + gp m) (m - gp m) → p b m) :
    ∀ (m b : Nat), tree n b m → b ≤ e → e < b + m → b + m ≤ n → p b m := by
  intro m
  induction m using Nat.strongRecOn with
  | ind m ih =>
    intro b t k1 k2 k3
    by_cases c : m ≤ 1
    · exact h1 b m c k1 k2 k3
    · have m2 : 2 ≤ m := by omega
      have g1 := gp_lt m2
      have g3 := gp_pos m
      by_cases k : e < b + gp m
      · exact h2 b m m2 t k1 k k3 (ih _ g1 b (tree_low m2 t) k1 k (by omega))
      · exact h3 b m m2 t k1 k k2 k3 (ih _ (by omega) _ (tree_high m2 t) (by omega) (by omega) (by omega))
theorem sides_len {n e : Nat} : ∀ (m b : Nat), tree n b m → b ≤ e → e < b + m → b + m ≤ n → (lft b m e).length + (rgt b m e).length = (sib b m e).length := by
  refine way_ind (fun b m h _ _ _ => ?_) (fun b m h _ _ k _ ih => ?_) (fun b m h _ _ k _ _ ih => ?_)
  · rw [lft_one h, rgt_one h, sib_one h]; rfl
  · rw [lft_low h k, rgt_low h k, sib_low h k]; simp only [List.length_append, List.length_cons, List.length_nil]; omega
  · rw [lft_high h k, rgt_high h k, sib_high h k, List.length_cons, List.length_cons]; omega
theorem half_low_isN {n b m : Nat} (h : 2 ≤ m) (t : tree n b m) (hn : b + m ≤ n) : isN n (b, b + gp m) := isN_of (gp_pos m) (by have := gp_lt h; omega) (tree_low h t)
theorem half_high_isN {n b m : Nat} (h : 2 ≤ m) (t : tree n b m) (hn : b + m ≤ n) : isN n (b + gp m, b + m) := by
  have g := gp_lt h
  have := isN_of (n := n) (b := b + gp m) (m := m - gp m) (by omega) (by omega) (tree_high h t)
  rw [show b + gp m + (m - gp m) = b + m by omega] at this
  exact this
theorem lft_ch {n e : Nat} : ∀ (m b : Nat), tree n b m → b ≤ e → e < b + m → b + m ≤ n → Ch n b e (lft b m e) := by
  refine way_ind (fun b m h _ _ _ => ?_) (fun b m h _ _ k _ ih => ?_) (fun b m h t _ k k2 hn ih => ?_)
  · rw [lft_one h]; show b = e; omega
  · rw [lft_low h k]; exact ih
  · rw [lft_high h k]
    exact ⟨rfl, half_low_isN h t hn, by show b + gp m ≤ e; omega, ih⟩
theorem rgt_ch {n e : Nat} : ∀ (m b : Nat), tree n b m → b ≤ e → e < b + m → b + m ≤ n → Ch n (e + 1) (b + m) (rgt b m e) := by
  refine way_ind (fun b m h _ _ _ => ?_) (fun b m h t _ k hn ih => ?_) (fun b m h _ _ k _ _ ih => ?_)
  · rw [rgt_one h]; show e + 1 = b + m; omega
  · rw [rgt_low h k]
    refine ih.app ⟨rfl, half_high_isN h t hn, Nat.le_refl _, rfl⟩
  · rw [rgt_high h k]
    have := gp_lt h
    rw [show b + gp m + (m - gp m) = b + m by omega] at ih
    exact ih
theorem lft_mx {n e : Nat} (he : e < n) : ∀ (m b : Nat), tree n b m → b ≤ e → e < b + m → b + m ≤ n → Mx n 0 e (lft b m e) := by
  refine way_ind (fun b m h _ _ _ => ?_) (fun b m h _ _ k _ ih => ?_) (fun b m h t _ k k2 hn ih => ?_)
  · rw [lft_one h]; exact fun x hx => by cases hx
  · rw [lft_low h k]; exact ih
  · rw [lft_high h k]
    intro x hx
    rcases List.mem_cons.mp hx with rfl | hx
    · rintro ⟨p1, p2⟩ hp _ q2 q3 q4
      simp only at q2 q3 q4
      have g := gp_pos m
      obtain ⟨a1, a2, a3⟩ := isN_tree hp
      by_cases c : p1 < b
      · have := lam (n := n) (b := p1) (m := p2 - p1) (B := b) (M := m) a3 (by omega) t (by omega) hn c (by omega)
        omega
      · have e1 : p1 = b := by omega
        subst e1
        rcases node_in h t hn hp (Nat.le_refl _) (by show p2 ≤ p1 + m; omega) with z | z | z
        · have : p2 = p1 + m := congrArg Prod.snd z
          omega
        · simp only at z
          exact Prod.ext rfl (by show p2 = _; omega)
        · simp only at z
          omega
    · exact ih x hx
theorem rgt_mx {n e : Nat} : ∀ (m b : Nat), tree n b m → b ≤ e → e < b + m → b + m ≤ n → Mx n (e + 1) n (rgt b m e) := by
  refine way_ind (fun b m h _ _ _ => ?_) (fun b m h t hb k hn ih => ?_) (fun b m h _ _ k _ _ ih => ?_)
  · rw [rgt_one h]; exact fun x hx => by cases hx
  · rw [rgt_low h k]
    intro x hx
    rcases List.mem_append.mp hx with hx | hx
    · exact ih x hx
    · rw [List.mem_singleton] at hx
      subst hx
      rintro ⟨p1, p2⟩ hp q1 q2 q3 q4
      simp only at q1 q2 q3 q4
      have g := gp_lt h
      obtain ⟨a1, a2, a3⟩ := isN_tree hp
      have := lam (n := n) (b := b) (m := m) (B := p1) (M := p2 - p1) t (by omega) a3 hn (by omega) (by omega) (by omega)
      have e2 : p2 = b + m := by omega
      rcases node_in h t hn hp (by show b ≤ p1; omega) (by show p2 ≤ b + m; omega) with z | z | z
      · have : p1 = b := congrArg Prod.fst z
        omega
      · simp only at z
        omega
      · simp only at z
        exact Prod.ext (by show p1 = _; omega) (by show p2 = _; omega)
  · rw [rgt_high h k]; exact ih
/-- what lies ahead of an entry, and behind it -/
theorem nw_lft {n e : Nat} (h : e < n) : nw n 0 e = lft 0 n e := by
  have r := tree_root n
  exact nw_unique (n := n) (hi := e) (lo0 := 0) (by omega) _ _ 0 (Nat.le_refl _) (nw_ch (by omega) 0 (by omega)) (lft_ch n 0 r (by omega) (by omega) (by omega)) (nw_max (by omega) (by omega)) (lft_mx h n 0 r (by omega) (by omega) (by omega))
theorem nw_rgt {n e : Nat} (h : e < n) : nw n (e + 1) n = rgt 0 n e := by
  have r := tree_root n
  have c := rgt_ch (e := e) n 0 r (by omega) (by omega) (by omega)
  rw [Nat.zero_add] at c
  exact nw_unique (n := n) (hi := n) (lo0 := e + 1) (Nat.le_refl _) _ _ (e + 1) (Nat.le_refl _) (nw_ch (Nat.le_refl _) (e + 1) (by omega)) c (nw_max (Nat.le_refl _) (by omega)) (rgt_mx n 0 r (by omega) (by omega) (by omega))
theorem nw_single {n e : Nat} (h : e < n) : (nw n 0 e).length + (nw n (e + 1) n).length = (sib 0 n e).length := by
  rw [nw_lft h, nw_rgt h]
  exact sides_len n 0 (tree_root n) (by omega) (by omega) (by omega)
/-! ### peaks -/
theorem pk_ch {n e : Nat} (he : e ≤ n) : ∀ (i b : Nat), 2 ^ i ∣ b → b + e % 2 ^ i = e → Ch n b e ((pk i e b).map full)
  | 0, b, _, h => by rw [Nat.pow_zero, Nat.mod_one] at h; exact h
  | i + 1, b, d, h => by
    rw [mod_succ] at h
    have d' : 2 ^ i ∣ b := Nat.dvd_trans (Nat.pow_dvd_pow 2 (Nat.le_succ i)) d
    show Ch n b e ((if e.testBit i = true then (b, i) :: pk i e (b + 2 ^ i) else pk i e b).map full)
    by_cases t : e.testBit i = true
    · rw [if_pos t] at h ⊢
      refine ⟨rfl, (show isN n (b, b + 2 ^ i) from full_isN (by omega) d'), ?_, pk_ch he i (b + 2 ^ i) (Nat.dvd_add d' (Nat.dvd_refl _)) (by omega)⟩
      show b + 2 ^ i ≤ e
      omega
    · rw [if_neg t] at h ⊢
      exact pk_ch he i b d' (by omega)
theorem pk_mx {n e : Nat} (he : e < n) : ∀ (i b : Nat), 2 ^ i ∣ b → b + e % 2 ^ i = e → Mx n 0 e ((pk i e b).map full)
  | 0, b, _, h => fun x hx => by cases hx
  | i + 1, b, d, h => by
    have ml := Nat.mod_lt e (Nat.pow_pos (a := 2) (n := i + 1) (by decide))
    have hh := h
    rw [mod_succ] at h
    have d' : 2 ^ i ∣ b := Nat.dvd_trans (Nat.pow_dvd_pow 2 (Nat.le_succ i)) d
    show Mx n 0 e ((if e.testBit i = true then (b, i) :: pk i e (b + 2 ^ i) else pk i e b).map full)
    by_cases t : e.testBit i = true
    · rw [if_pos t] at h ⊢
      intro x hx
      rw [List.map_cons] at hx
      rcases List.mem_cons.mp hx with rfl | hx
      · rintro ⟨p1, p2⟩ hp _ q2 q3 q4
        have q3 : p1 ≤ b := q3
        have q4 : b + 2 ^ i ≤ p2 := q4
        simp only at q2
        have pz := Nat.pow_pos (a := 2) (n := i) (by decide)
        obtain ⟨a1, a2, a3, a4⟩ := isN_tree hp
        have a5 : p2 - p1 = 2 ^ lb (p2 - p1) := by
          rcases a4 with a4 | a4
          · exact a4
          · omega
        by_cases c : i < lb (p2 - p1)
        · have m1 := Nat.pow_le_pow_right (n := 2) (by decide) (show i + 1 ≤ lb (p2 - p1) from c)
          have m2 := mul_le_of_lt (R := 2 ^ (i + 1)) d (Nat.dvd_add (Nat.dvd_trans (Nat.pow_dvd_pow 2 (show i + 1 ≤ lb (p2 - p1) from c)) a3) (Nat.pow_dvd_pow 2 (show i + 1 ≤ lb (p2 - p1) from c))) (show b < p1 + 2 ^ lb (p2 - p1) by omega)
          omega
        · have m1 := Nat.pow_le_pow_right (n := 2) (by decide) (show lb (p2 - p1) ≤ i by omega)
          exact Prod.ext (by show p1 = b; omega) (by show p2 = b + 2 ^ i; omega)
      · exact pk_mx he i (b + 2 ^ i) (Nat.dvd_add d' (Nat.dvd_refl _)) (by omega) x hx
    · rw [if_neg t] at h ⊢
      exact pk_mx he i b d' (by omega)
theorem nw_pk {n e : Nat} (h : e < n) (h100 : e < 2 ^ 101) : nw n 0 e = (pk 101 e 0).map full := by
  have em : 0 + e % 2 ^ 101 = e := by rw [Nat.mod_eq_of_lt h100, Nat.zero_add]
  exact nw_unique (n := n) (hi := e) (lo0 := 0) (by omega) _ _ 0 (Nat.le_refl _) (nw_ch (by omega) 0 (by omega)) (pk_ch (by omega) 101 0 (Nat.dvd_zero _) em) (nw_max (by omega) (by omega)) (pk_mx h 101 0 (Nat.dvd_zero _) em)
theorem pk_even : ∀ (i c b b' : Nat), (pk (i + 1) (2 * c) b).length = (pk i c b').length
  | 0, c, b, b' => by
    show (if (2 * c).testBit 0 = true then _ else _ : List (Nat × Nat)).length = 0
    have : (2 * c).testBit 0 = false := by simp
    rw [this]
    rfl
  | i + 1, c, b, b' => by
    show (if (2 * c).testBit (i + 1) = true then (b, i + 1) :: pk (i + 1) (2 * c) (b + 2 ^ (i + 1)) else pk (i + 1) (2 * c) b).length = (if c.testBit i = true then (b', i) :: pk i c (b' + 2 ^ i) else pk i c b').length
    rw [Nat.testBit_succ, show 2 * c / 2 = c by omega]
    by_cases t : c.testBit i = true
    · rw [if_pos t, if_pos t, List.length_cons, List.length_cons, pk_even i c _ (b' + 2 ^ i)]
    · rw [if_neg t, if_neg t, pk_even i c b b']
theorem pk_odd : ∀ (i c b b' : Nat), (pk (i + 1) (2 * c + 1) b).length = (pk i c b').length + 1
  | 0, c, b, b' => by
    show (if (2 * c + 1).testBit 0 = true then (b, 0) :: ([] : List (Nat × Nat)) else []).length = 0 + 1
    have : (2 * c + 1).testBit 0 = true := by simp
    rw [this]
    rfl
  | i + 1, c, b, b' => by
    show (if (2 * c + 1).testBit (i + 1) = true then (b, i + 1) :: pk (i + 1) (2 * c + 1) (b + 2 ^ (i + 1)) else pk (i + 1) (2 * c + 1) b).length = (if c.testBit i = true then (b', i) :: pk i c (b' + 2 ^ i) else pk i c b').length + 1
    rw [Nat.testBit_succ, show (2 * c + 1) / 2 = c by omega]
    by_cases t : c.testBit i = true
    · rw [if_pos t, if_pos t, List.length_cons, List.length_cons, pk_odd i c _ (b' + 2 ^ i)]
    · rw [if_neg t, if_neg t, pk_odd i c b b']
theorem pow_dvd_odd {k c : Nat} (h : 2 ^ k ∣ 2 * c + 1) : k = 0 := by
  cases k with
  | zero => rfl
  | succ k =>
    have := Nat.dvd_trans (⟨2 ^ k, by rw [Nat.pow_succ, Nat.mul_comm]⟩ : 2 ∣ 2 ^ (k + 1)) h
    omega
theorem pk_pred : ∀ (i e k b b' : Nat), 0 < e → e < 2 ^ i → 2 ^ k ∣ e → ¬ 2 ^ (k + 1) ∣ e → (pk i e b).length + k = (pk i (e - 1) b').length + 1
  | 0, e, k, _, _, h, h2, _, _ => by simp at h2; omega
  | i + 1, e, k, b, b', h, h2, d1, d2 => by
    rcases Nat.mod_two_eq_zero_or_one e with z | z
    · obtain ⟨c, rfl⟩ : ∃ c, e = 2 * c := ⟨e / 2, by omega⟩
      have kp : k ≠ 0 := fun y => d2 (by rw [y]; exact ⟨c, by simp⟩)
      obtain ⟨j, rfl⟩ : ∃ j, k = j + 1 := ⟨k - 1, by omega⟩
      rw [Nat.pow_succ] at h2
      have ih := pk_pred i c j 0 0 (by omega) (by omega) (by rw [Nat.pow_succ, Nat.mul_comm] at d1; exact Nat.dvd_of_mul_dvd_mul_left (by decide) d1) (fun y => d2 (by rw [Nat.pow_succ, Nat.mul_comm]; exact Nat.mul_dvd_mul_left 2 y))
      rw [show 2 * c - 1 = 2 * (c - 1) + 1 by omega, pk_even i c b 0, pk_odd i (c - 1) b' 0]
      omega
    · obtain ⟨c, rfl⟩ : ∃ c, e = 2 * c + 1 := ⟨e / 2, by omega⟩
      have := pow_dvd_odd d1
      subst this
      rw [show 2 * c + 1 - 1 = 2 * c by omega, pk_odd i c b 0, pk_even i c b' 0]
theorem lb_big {n : Nat} (h : 2 ≤ n) : lb n = Nat.log2 (n - 1) + 1 := by unfold lb; rw [if_neg (by omega)]
end LT

namespace LT
open PySem PySem.Spec PyProof.Rows L2
theorem log2_is {r h : Nat} (h1 : 2 ^ h ≤ r) (h2 : r < 2 ^ (h + 1)) : r.log2 = h := (Nat.log2_eq_iff (by have := Nat.pow_pos (a := 2) (n := h) (by decide); omega)).mpr ⟨h1, h2⟩
theorem pk_step : ∀ (i n b : Nat), n % 2 ^ i ≠ 0 → ∃ h, h < i ∧ pk i n b = (b, h) :: pk h n (b + 2 ^ h) ∧ n % 2 ^ i = 2 ^ h + n % 2 ^ h
  | 0, n, b, hr => by simp [Nat.mod_one] at hr
  | i + 1, n, b, hr => by
    rw [mod_succ] at hr
    by_cases t : n.testBit i = true
    · refine ⟨i, Nat.lt_succ_self i, ?_, by rw [mod_succ, if_pos t]⟩
      show (if n.testBit i = true then _ else _) = _
      rw [if_pos t]
    · rw [if_neg t, Nat.zero_add] at hr
      obtain ⟨h, h1, h2, h3⟩ := pk_step i n b hr
      refine ⟨h, by omega, ?_, by rw [mod_succ, if_neg t, Nat.zero_add]; exact h3⟩
      show (if n.testBit i = true then _ else _) = _
      rw [if_neg t]
      exact h2
section
variable {P : Program} {w : World} {K : PySem.W.Frag} {mg : Str → Option Value} {base : Heap}
def spTops : Sp := fun vs H Q _ => ∃ (n : Nat), vs = [.int n] ∧ 1 ≤ n ∧ n ≤ 10 ^ 30 ∧ ∀ (H' : Hp) (p : Addr) (xs : List V), Same H H' → H p = none → H' p = some (.lst xs) → All2 (Nd H') xs ((pk 101 n 0).map full) → Q (.ref p) H'
theorem ok_peaks {f g1 g2 : Addr} {fd d1 d2 : FuncData} (F : Fun K "peaks" "peaks" sPeaks f fd) (GCheckSize : FnOk P w K mg base CX0 3 g1 d1 ["size"] spCheckSize) (ACheckSize : At K mg "check_size" g1 d1 ["size"])
    (GPowerWithin : FnOk P w K mg base CX0 1 g2 d2 ["number"] spPower) (APowerWithin : At K mg "power_within" g2 d2 ["number"]) : FnOk P w K mg base CX0 4 f fd ["size"] spTops := by
  refine F.ok scPeaks (fun vs H Q E h => ?_) (fun cdv A outer s H vs Q E hr h => ?_)
  · obtain ⟨_, rfl, _⟩ := h
    rfl
  obtain ⟨n, rfl, h1, h30, q⟩ := h
  refine ⟨_, (pss_cons (ps_expr (pe_call GCheckSize (hr.mono (by decide)) rfl ACheckSize.m ACheckSize.kp ACheckSize.b .nil pass0 (pa_cons (pv 0) pa_nil)))
    (pss_cons (ps_set (i := 1) scPeaks.nd rfl (Or.inl rfl) (pe_lst pa_nil))
    (pss_cons (ps_set (i := 2) scPeaks.nd rfl (Or.inl rfl) pe_int)
    (pss_cons (ps_while PassesOwn.never (pt_cmpR op_lt (pv 2) (pv 0) (nomark _))
    (pss_cons (ps_set (i := 3) scPeaks.nd rfl (Or.inl rfl) (pe_op op_add (pv 2) (pe_call GPowerWithin (hr.mono (by decide)) rfl APowerWithin.m APowerWithin.kp APowerWithin.b .nil pass0 (pa_cons (pe_op op_sub (pv 0) (pv 2)) pa_nil))))
    (pss_cons (ps_expr (pe_bm PySem.F.plainAttrs_list PySem.F.slot_list_append PySem.F.type_list_append mt_append (pv 1) (pa_cons (pe_tup (pa_cons (pv 2) (pa_cons (pv 3) pa_nil))) pa_nil)))
    (pss_one (ps_set (i := 2) scPeaks.nd rfl (Or.inl rfl) (pv 3))))))
    (pss_one (ps_ret (pv 1))))))), ?_⟩
  refine ⟨_, rfl, n, rfl, by omega, by omega, ?_⟩
  refine ⟨Nat.zero_le _, fun fa nf => ?_⟩
  have nm : n % 2 ^ 101 = n := Nat.mod_eq_of_lt (Nat.lt_of_le_of_lt h30 (by decide))
  refine ⟨fun mu σ H' => ∃ (i b : Nat) (v3 : Option V) (xs : List V) (done : List (Nat × Nat)), σ = [some (.int n), some (.ref fa), some (.int b), v3] ∧ Same H H' ∧ H' fa = some (.lst xs) ∧ All2 (Nd H') xs (done.map full) ∧ done ++ pk i n b = pk 101 n 0 ∧ b + n % 2 ^ i = n ∧ mu = n - b,
    ⟨n, 101, 0, none, [], [], rfl, same_upd nf, upd_same, .nil, rfl, by omega, by omega⟩, ?_⟩
  rintro m σ H1 ⟨i, b, v3, xs, done, rfl, sm, hf, hx, hd, hb, rfl⟩
  refine ⟨_, rfl, _, rfl, _, _, rfl, rfl, _, rfl, ite2 (fun c => ?_) (fun c => ?_)⟩
  · have c1 : (b : Int) < (n : Int) := of_decide_eq_true c
    obtain ⟨h, hi, hp, hm⟩ := pk_step i n b (by omega)
    have ph := Nat.pow_pos (a := 2) (n := h) (by decide)
    have lh : (n - b).log2 = h := log2_is (by omega) (by have := Nat.mod_lt n ph; rw [Nat.pow_succ]; omega)
    have dl : done.length ≤ 101 := by
      have k1 := congrArg List.length hd
      rw [List.length_append] at k1
      have k2 := pk_len 101 n 0
      omega
    refine ⟨fun σ' H' => ∃ mu, mu < n - b ∧ ∃ (i b : Nat) (v3 : Option V) (xs : List V) (done : List (Nat × Nat)), σ' = [some (.int n), some (.ref fa), some (.int b), v3] ∧ Same H H' ∧ H' fa = some (.lst xs) ∧ All2 (Nd H') xs (done.map full) ∧ done ++ pk i n b = pk 101 n 0 ∧ b + n % 2 ^ i = n ∧ mu = n - b, fun σ' H' h => h, ?_⟩
    have e1 : (n : Int) - (b : Int) = ((n - b : Nat) : Int) := by omega
    refine ⟨_, rfl, _, rfl, _, rfl, _, _, rfl, rfl, n - b, congrArg (fun z => [V.int z]) e1, by omega, by omega, _, _, rfl, rfl, ?_⟩
    have e2 : (b : Int) + ((2 ^ (n - b).log2 : Nat) : Int) = ((b + 2 ^ h : Nat) : Int) := by rw [lh]; omega
    dsimp only
    rw [e2]
    refine ⟨_, rfl, .inl ⟨rfl, _, SqL.of hf⟩, _, rfl, _, rfl, (by show 2 ≤ sizeLine; decide), fun t nt => ?_⟩
    have s1 := same_upd (o := .tup [.int (b : Int), .int ((b + 2 ^ h : Nat) : Int)]) nt
    have hf1 := s1 _ _ hf
    refine ⟨fa, _, _, rfl, rfl, hf1, szlt (by rw [hx.len, List.length_map]; omega), ?_⟩
    refine ⟨_, rfl, ?_⟩
    refine ⟨n - (b + 2 ^ h), by omega, h, b + 2 ^ h, _, xs ++ [.ref t], done ++ [(b, h)], rfl, ?_, upd_same, ?_, ?_, by omega, rfl⟩
    · exact fun a o k => by rw [upd_ne (ne_of_none k nf)]; exact s1 _ _ (sm _ _ k)
    · rw [List.map_append]
      refine (hx.mono (fun v x (k : Nd H1 v x) => (k.same s1).upd hf1)).app (.cons ?_ .nil)
      exact Nd.upd (x := full (b, h)) ⟨t, rfl, upd_same⟩ hf1
    · rw [← hd, hp, List.append_assoc]
      rfl
  · have c1 : ¬ (b : Int) < (n : Int) := of_decide_eq_false (Bool.eq_false_iff.mpr c)
    rw [pk_nil i n b (by omega), List.append_nil] at hd
    rw [hd] at hx
    exact ⟨_, rfl, q H1 fa xs sm nf hf hx⟩
end
end LT

namespace LT
open PySem PySem.Spec PyProof.Rows L2
def ol (n e : Nat) : List (Nat × Nat) := if e = n then [] else (if (pk 101 e 0).length = 1 then [] else (pk 101 e 0).map full) ++ nw n e n
def oc (n e : Nat) : Nat := (ol n e).length
def lg (n : Nat) : Nat := if 3 < n then 3 else 1
section
variable {P : Program} {w : World} {K : PySem.W.Frag} {mg : Str → Option Value} {base : Heap}
def spCheckOlder : Sp := fun vs H Q _ => ∃ n e : Int, vs = [.int n, .int e] ∧ 1 ≤ e ∧ e ≤ n ∧ Q .non H
theorem ok_check_older {f g : Addr} {fd gd : FuncData} (F : Fun K "check_older" "check_older" sCheckOlder f fd) (GIsBetween : FnOk P w K mg base CX0 2 g gd ["value", "low", "high"] spBetween) (AIsBetween : At K mg "is_between" g gd ["value", "low", "high"]) : FnOk P w K mg base CX0 3 f fd ["size", "older"] spCheckOlder := by
  refine F.ok scCheckOlder (fun vs H Q E h => ?_) (fun cdv A outer s H vs Q E hr h => ?_)
  · obtain ⟨_, _, rfl, _⟩ := h
    rfl
  obtain ⟨n, e, rfl, h1, h2, q⟩ := h
  refine ⟨_, (pss_one (ps_if (pt_not (pt_val (pe_call GIsBetween (hr.mono (by decide)) rfl AIsBetween.m AIsBetween.kp AIsBetween.b .nil pass0 (pa_cons (pv 1) (pa_cons pe_int (pa_cons (pv 0) pa_nil))))))
    (pss_one ps_never)
    pss_nil)), ?_⟩
  refine ⟨_, rfl, _, rfl, e, 1, n, rfl, _, rfl, ?_⟩
  rw [decide_eq_true h1, decide_eq_true h2]
  exact q
def spOlderList : Sp := fun vs H Q _ => ∃ n e : Nat, vs = [.int n, .int e] ∧ 1 ≤ e ∧ e ≤ n ∧ n ≤ 10 ^ 30 ∧ ∀ (H' : Hp) (p : Addr) (xs : List V), Same H H' → H p = none → H' p = some (.lst xs) → All2 (Nd H') xs (ol n e) → Q (.ref p) H'
theorem ok_older_list {f g1 g2 g3 g4 : Addr} {fd d1 d2 d3 d4 : FuncData} (F : Fun K "older_list" "older_list" sOlderList f fd) (GCheckSize : FnOk P w K mg base CX0 3 g1 d1 ["size"] spCheckSize) (ACheckSize : At K mg "check_size" g1 d1 ["size"])
    (GCheckOlder : FnOk P w K mg base CX0 3 g2 d2 ["size", "older"] spCheckOlder) (ACheckOlder : At K mg "check_older" g2 d2 ["size", "older"])
    (GPeaks : FnOk P w K mg base CX0 4 g3 d3 ["size"] spTops) (APeaks : At K mg "peaks" g3 d3 ["size"])
    (GNodesWithin : FnOk P w K mg base CX0 4 g4 d4 ["size", "begin", "end"] spWithin) (ANodesWithin : At K mg "nodes_within" g4 d4 ["size", "begin", "end"]) (z_len : mg "len" = none) : FnOk P w K mg base CX0 5 f fd ["size", "older"] spOlderList := by
  refine F.ok scOlderList (fun vs H Q E h => ?_) (fun cdv A outer s H vs Q E hr h => ?_)
  · obtain ⟨_, _, rfl, _⟩ := h
    rfl
  obtain ⟨n, e, rfl, h1, h2, h30, q⟩ := h
  refine ⟨_, (pss_cons (ps_expr (pe_call GCheckSize (hr.mono (by decide)) rfl ACheckSize.m ACheckSize.kp ACheckSize.b .nil pass0 (pa_cons (pv 0) pa_nil)))
    (pss_cons (ps_expr (pe_call GCheckOlder (hr.mono (by decide)) rfl ACheckOlder.m ACheckOlder.kp ACheckOlder.b .nil pass0 (pa_cons (pv 0) (pa_cons (pv 1) pa_nil))))
    (pss_cons (ps_if (pt_cmpR op_eq (pv 1) (pv 0) (nomark _))
    (pss_one (ps_ret (pe_lst pa_nil)))
    pss_nil)
    (pss_cons (ps_set (i := 2) scOlderList.nd rfl (Or.inl rfl) (pe_call GPeaks (hr.mono (by decide)) rfl APeaks.m APeaks.kp APeaks.b .nil pass0 (pa_cons (pv 1) pa_nil)))
    (pss_cons (ps_if (pt_cmpR op_eq (pe_callB call_len_seq (by rfl) z_len PySem.boot_len (pa_cons (pv 2) pa_nil)) pe_int (nomark _))
    (pss_one (ps_set (i := 2) scOlderList.nd rfl (Or.inl rfl) (pe_lst pa_nil)))
    pss_nil)
    (pss_one (ps_ret (pe_op op_cat (pv 2) (pe_call GNodesWithin (hr.mono (by decide)) rfl ANodesWithin.m ANodesWithin.kp ANodesWithin.b .nil pass0 (pa_cons (pv 0) (pa_cons (pv 1) (pa_cons (pv 0) pa_nil)))))))))))), ?_⟩
  refine ⟨_, rfl, _, rfl, by omega, by omega, _, rfl, _, rfl, n, e, rfl, by omega, by omega, ?_⟩
  refine ⟨_, rfl, _, rfl, rfl, _, rfl, ite2 (fun c => ?_) (fun c => ?_)⟩
  · have c1 := V.int.inj (of_decide_eq_true c)
    have c2 : e = n := by omega
    refine ⟨Nat.zero_le _, fun p np => q _ p [] (same_upd np) np upd_same ?_⟩
    unfold ol
    rw [if_pos c2]
    exact .nil
  · have c1 : ¬ V.int (e : Int) = V.int (n : Int) := of_decide_eq_false (Bool.eq_false_iff.mpr c)
    have c2 : ¬ e = n := fun z => c1 (by rw [z])
    unfold ol at q
    rw [if_neg c2] at q
    have pl := pk_len 101 e 0
    refine ⟨_, rfl, e, rfl, h1, by omega, fun H1 t xs s1 nt ht hx => ?_⟩
    have hl := hx.len
    rw [List.length_map] at hl
    have wl := nw_len (n := n) (b := e) (e := n) (by omega)
    refine ⟨_, rfl, t, xs, rfl, .inl (SqL.of ht), rfl, _, rfl, ite2 (fun c => ?_) (fun c => ?_)⟩
    · have c3 := V.int.inj (of_decide_eq_true c)
      have c4 : (pk 101 e 0).length = 1 := by omega
      rw [if_pos c4] at q
      refine ⟨Nat.zero_le _, fun t2 nt2 => ?_⟩
      have s2 := same_upd (o := .lst []) nt2
      refine ⟨_, rfl, _, rfl, _, rfl, _, rfl, n, e, n, rfl, by omega, by omega, h2, by omega, h30, fun H3 p ys s3 np hp hy => ?_⟩
      refine ⟨t2, p, _, _, rfl, rfl, s3 _ _ upd_same, hp, szle (by rw [List.length_nil, hy.len]; omega), fun r nr => ?_⟩
      have s4 := same_upd (o := .lst ([] ++ ys)) nr
      exact q _ r ([] ++ ys) (s1.trans (s2.trans (s3.trans s4))) (s1.free (s2.free (s3.free nr))) upd_same (hy.mono fun v x k => k.same s4)
    · have c3 : ¬ V.int ((xs.length : Nat) : Int) = V.int 1 := of_decide_eq_false (Bool.eq_false_iff.mpr c)
      have c4 : ¬ (pk 101 e 0).length = 1 := fun z => c3 (by rw [hl, z]; rfl)
      rw [if_neg c4] at q
      refine ⟨_, rfl, _, rfl, _, rfl, _, rfl, n, e, n, rfl, by omega, by omega, h2, by omega, h30, fun H3 p ys s3 np hp hy => ?_⟩
      refine ⟨t, p, _, _, rfl, rfl, s3 _ _ ht, hp, szle (by rw [hl, hy.len]; omega), fun r nr => ?_⟩
      have s4 := same_upd (o := .lst (xs ++ ys)) nr
      exact q _ r (xs ++ ys) (s1.trans (s3.trans s4)) (s1.free (s3.free nr)) upd_same ((hx.mono fun v x k => (k.same s3).same s4).app (hy.mono fun v x k => k.same s4))
def spOlderCount : Sp := fun vs H Q _ => ∃ n e : Nat, vs = [.int n, .int e] ∧ 1 ≤ e ∧ e ≤ n ∧ n ≤ 10 ^ 30 ∧ ∀ (H' : Hp), Same H H' → Q (.int ((oc n e : Nat) : Int)) H'
theorem ok_older_count {f g1 : Addr} {fd d1 : FuncData} (F : Fun K "older_count" "older_count" sOlderCount f fd) (GOlderList : FnOk P w K mg base CX0 5 g1 d1 ["size", "older"] spOlderList) (AOlderList : At K mg "older_list" g1 d1 ["size", "older"]) (z_len : mg "len" = none) : FnOk P w K mg base CX0 6 f fd ["size", "older"] spOlderCount := by
  refine F.ok scOlderCount (fun vs H Q E h => ?_) (fun cdv A outer s H vs Q E hr h => ?_)
  · obtain ⟨_, _, rfl, _⟩ := h
    rfl
  obtain ⟨n, e, rfl, h1, h2, h30, q⟩ := h
  refine ⟨_, (pss_one (ps_ret (pe_callB call_len_seq (by rfl) z_len PySem.boot_len (pa_cons (pe_call GOlderList (hr.mono (by decide)) rfl AOlderList.m AOlderList.kp AOlderList.b .nil pass0 (pa_cons (pv 0) (pa_cons (pv 1) pa_nil))) pa_nil)))), ?_⟩
  refine ⟨_, rfl, _, rfl, n, e, rfl, h1, h2, h30, fun H1 t xs s1 nt ht hx => ⟨t, xs, rfl, .inl (SqL.of ht), ?_⟩⟩
  rw [hx.len]
  exact q H1 s1
end
end LT

namespace LT
open PySem PySem.Spec PyProof.Rows L2
section
variable {P : Program} {w : World} {K : PySem.W.Frag} {mg : Str → Option Value} {base : Heap}
def spLongest : Sp := fun vs H Q _ => ∃ n : Nat, vs = [.int n] ∧ 1 ≤ n ∧ n ≤ 10 ^ 30 ∧ ∀ (H' : Hp) (p : Addr), Same H H' → H p = none → H' p = some (.tup [.int ((oc n (lg n) : Nat) : Int), .int ((lg n : Nat) : Int)]) → Q (.ref p) H'
theorem ok_longest_older {f g1 g2 : Addr} {fd d1 d2 : FuncData} (F : Fun K "longest_older" "longest_older" sLongestOlder f fd) (GCheckSize : FnOk P w K mg base CX0 3 g1 d1 ["size"] spCheckSize) (ACheckSize : At K mg "check_size" g1 d1 ["size"])
    (GOlderCount : FnOk P w K mg base CX0 6 g2 d2 ["size", "older"] spOlderCount) (AOlderCount : At K mg "older_count" g2 d2 ["size", "older"]) : FnOk P w K mg base CX0 7 f fd ["size"] spLongest := by
  refine F.ok scLongestOlder (fun vs H Q E h => ?_) (fun cdv A outer s H vs Q E hr h => ?_)
  · obtain ⟨_, rfl, _⟩ := h
    rfl
  obtain ⟨n, rfl, h1, h30, q⟩ := h
  refine ⟨_, (pss_cons (ps_expr (pe_call GCheckSize (hr.mono (by decide)) rfl ACheckSize.m ACheckSize.kp ACheckSize.b .nil pass0 (pa_cons (pv 0) pa_nil)))
    (pss_cons (ps_set (i := 1) scLongestOlder.nd rfl (Or.inl rfl) (pe_ifExp (pt_cmpR op_gt (pv 0) pe_int (nomark _)) pe_int pe_int))
    (pss_one (ps_ret (pe_tup (pa_cons (pe_call GOlderCount (hr.mono (by decide)) rfl AOlderCount.m AOlderCount.kp AOlderCount.b .nil pass0 (pa_cons (pv 0) (pa_cons (pv 1) pa_nil))) (pa_cons (pv 1) pa_nil))))))), ?_⟩
  refine ⟨_, rfl, _, rfl, by omega, by omega, ?_⟩
  have fin : ∀ (H1 : Hp), Same H H1 → 2 ≤ sizeLine ∧ ∀ p, H1 p = none → Q (.ref p) (upd H1 p (.tup [.int ((oc n (lg n) : Nat) : Int), .int ((lg n : Nat) : Int)])) := fun H1 s1 => ⟨by decide, fun p np => q _ p (s1.trans (same_upd np)) (s1.free np) upd_same⟩
  refine ⟨_, rfl, _, _, rfl, rfl, _, rfl, ite2 (fun c => ?_) (fun c => ?_)⟩
  · have c1 : (n : Int) > 3 := of_decide_eq_true c
    have el : lg n = 3 := by unfold lg; rw [if_pos (by omega)]
    rw [el] at fin
    exact ⟨_, rfl, _, rfl, n, 3, rfl, by decide, by omega, h30, fun H1 s1 => ⟨_, rfl, fin H1 s1⟩⟩
  · have c1 : ¬ (n : Int) > 3 := of_decide_eq_false (Bool.eq_false_iff.mpr c)
    have el : lg n = 1 := by unfold lg; rw [if_neg (by omega)]
    rw [el] at fin
    exact ⟨_, rfl, _, rfl, n, 1, rfl, by decide, by omega, h30, fun H1 s1 => ⟨_, rfl, fin H1 s1⟩⟩
end
end LT

namespace LT
open PySem PySem.Spec PyProof.Rows L2
/-- a text and a truth -/
def Sb (H : Hp) (v : V) (x : Str × Bool) : Prop := ∃ p, v = .ref p ∧ H p = some (.tup [.str x.1, .bl x.2])
theorem Sb.same {H H' : Hp} {v : V} {x : Str × Bool} (h : Sb H v x) (s : Same H H') : Sb H' v x := by
  obtain ⟨p, e, q⟩ := h
  exact ⟨p, e, s _ _ q⟩
theorem Sb.upd {H : Hp} {v : V} {x : Str × Bool} {s : Addr} {xs : List V} {o : HO} (h : Sb H v x) (hs : H s = some (.lst xs)) : Sb (upd H s o) v x := by
  obtain ⟨p, e, q⟩ := h
  exact ⟨p, e, by rw [upd_ne (ne_of q hs (by intro z; cases z))]; exact q⟩
structure GF (mg : Str → Option Value) (x : Str) (C : Addr) : Prop where
  g : mg x = some (.ref C)
/-- an instance of the class at C is asked for each of the classes -/
def Kit (K : PySem.W.Frag) (C : Addr) : List Addr → List Bool → Prop
  | [], [] => True
  | D :: Ds, b :: bs => PySem.W.kitOne K (.ref C) (.ref D) = some b ∧ Kit K C Ds bs
  | _, _ => False
def clsNames : List Str := ["spans", "nodes", "bounds", "text", "over", "size", "entry", "node", "span", "number", "height", "budget", "operation", "nothing", "command"]
section
variable {P : Program} {w : World} {K : PySem.W.Frag} {mg : Str → Option Value} {base : Heap} {CInvalidSpans CInvalidNodes CInvalidBounds CInvalidText COverBudget CInvalidSize CInvalidEntry CInvalidNode CInvalidSpan CInvalidNumber CInvalidHeight CInvalidBudget CInvalidOperation CNothing CInvalidCommand : Addr}
def spKinds (K : PySem.W.Frag) (Cs : List Addr) : Sp := fun vs H Q _ => ∃ (a C : Addr) (bs : List Bool), vs = [.ref a] ∧ H a = some (ExK (.ref C) none a) ∧ ExcC K C ∧ Kit K C Cs bs ∧ ∀ (H' : Hp) (p : Addr) (xs : List V), Same H H' → H p = none → H' p = some (.lst xs) → All2 (Sb H') xs (clsNames.zip bs) → Q (.ref p) H'
theorem ok_law_kinds {f : Addr} {fd : FuncData} (F : Fun K "_law_kinds" "_law_kinds" sLawKinds f fd) (XInvalidSpans : GF mg "InvalidSpans" CInvalidSpans) (XInvalidNodes : GF mg "InvalidNodes" CInvalidNodes) (XInvalidBounds : GF mg "InvalidBounds" CInvalidBounds) (XInvalidText : GF mg "InvalidText" CInvalidText) (XOverBudget : GF mg "OverBudget" COverBudget) (XInvalidSize : GF mg "InvalidSize" CInvalidSize) (XInvalidEntry : GF mg "InvalidEntry" CInvalidEntry) (XInvalidNode : GF mg "InvalidNode" CInvalidNode) (XInvalidSpan : GF mg "InvalidSpan" CInvalidSpan) (XInvalidNumber : GF mg "InvalidNumber" CInvalidNumber) (XInvalidHeight : GF mg "InvalidHeight" CInvalidHeight) (XInvalidBudget : GF mg "InvalidBudget" CInvalidBudget) (XInvalidOperation : GF mg "InvalidOperation" CInvalidOperation) (XNothing : GF mg "Nothing" CNothing) (XInvalidCommand : GF mg "InvalidCommand" CInvalidCommand) (z_isinstance : mg "isinstance" = none) : FnOk P w K mg base CX0 1 f fd ["e"] (spKinds K [CInvalidSpans, CInvalidNodes, CInvalidBounds, CInvalidText, COverBudget, CInvalidSize, CInvalidEntry, CInvalidNode, CInvalidSpan, CInvalidNumber, CInvalidHeight, CInvalidBudget, CInvalidOperation, CNothing, CInvalidCommand]) := by
  refine F.ok scLawKinds (fun vs H Q E h => ?_) (fun cdv A outer s H vs Q E hr h => ?_)
  · obtain ⟨_, _, _, rfl, _⟩ := h
    rfl
  obtain ⟨a, C, bs, rfl, ha, hE, hk, q⟩ := h
  obtain ⟨b0, b1, b2, b3, b4, b5, b6, b7, b8, b9, b10, b11, b12, b13, b14, rfl⟩ : ∃ b0 b1 b2 b3 b4 b5 b6 b7 b8 b9 b10 b11 b12 b13 b14, bs = [b0, b1, b2, b3, b4, b5, b6, b7, b8, b9, b10, b11, b12, b13, b14] := by
    match bs, hk with
    | [b0, b1, b2, b3, b4, b5, b6, b7, b8, b9, b10, b11, b12, b13, b14], _ => exact ⟨_, _, _, _, _, _, _, _, _, _, _, _, _, _, _, rfl⟩
  obtain ⟨k0, k1, k2, k3, k4, k5, k6, k7, k8, k9, k10, k11, k12, k13, k14, _⟩ := hk
  have two : 2 ≤ sizeLine := by decide
  have one1 : 1 ≤ sizeLine := by decide
  refine' ⟨_, (pss_cons (ps_set (i := 1) scLawKinds.nd rfl (Or.inl rfl) (pe_lst (pa_cons (pe_tup (pa_cons pe_str (pa_cons (pe_callB call_isK (by rfl) z_isinstance (by decide +kernel) (pa_cons (pv 0) (pa_cons (pe_glob (v := .ref CInvalidSpans) rfl XInvalidSpans.g rfl) pa_nil))) pa_nil))) (pa_cons (pe_tup (pa_cons pe_str (pa_cons (pe_callB call_isK (by rfl) z_isinstance (by decide +kernel) (pa_cons (pv 0) (pa_cons (pe_glob (v := .ref CInvalidNodes) rfl XInvalidNodes.g rfl) pa_nil))) pa_nil))) pa_nil))))
    (pss_cons (ps_set (i := 1) scLawKinds.nd rfl (Or.inl rfl) (pe_op op_cat (pv 1) (pe_lst (pa_cons (pe_tup (pa_cons pe_str (pa_cons (pe_callB call_isK (by rfl) z_isinstance (by decide +kernel) (pa_cons (pv 0) (pa_cons (pe_glob (v := .ref CInvalidBounds) rfl XInvalidBounds.g rfl) pa_nil))) pa_nil))) (pa_cons (pe_tup (pa_cons pe_str (pa_cons (pe_callB call_isK (by rfl) z_isinstance (by decide +kernel) (pa_cons (pv 0) (pa_cons (pe_glob (v := .ref CInvalidText) rfl XInvalidText.g rfl) pa_nil))) pa_nil))) pa_nil)))))
    (pss_cons (ps_set (i := 1) scLawKinds.nd rfl (Or.inl rfl) (pe_op op_cat (pv 1) (pe_lst (pa_cons (pe_tup (pa_cons pe_str (pa_cons (pe_callB call_isK (by rfl) z_isinstance (by decide +kernel) (pa_cons (pv 0) (pa_cons (pe_glob (v := .ref COverBudget) rfl XOverBudget.g rfl) pa_nil))) pa_nil))) (pa_cons (pe_tup (pa_cons pe_str (pa_cons (pe_callB call_isK (by rfl) z_isinstance (by decide +kernel) (pa_cons (pv 0) (pa_cons (pe_glob (v := .ref CInvalidSize) rfl XInvalidSize.g rfl) pa_nil))) pa_nil))) pa_nil)))))
    (pss_cons (ps_set (i := 1) scLawKinds.nd rfl (Or.inl rfl) (pe_op op_cat (pv 1) (pe_lst (pa_cons (pe_tup (pa_cons pe_str (pa_cons (pe_callB call_isK (by rfl) z_isinstance (by decide +kernel) (pa_cons (pv 0) (pa_cons (pe_glob (v := .ref CInvalidEntry) rfl XInvalidEntry.g rfl) pa_nil))) pa_nil))) (pa_cons (pe_tup (pa_cons pe_str (pa_cons (pe_callB call_isK (by rfl) z_isinstance (by decide +kernel) (pa_cons (pv 0) (pa_cons (pe_glob (v := .ref CInvalidNode) rfl XInvalidNode.g rfl) pa_nil))) pa_nil))) pa_nil)))))
    (pss_cons (ps_set (i := 1) scLawKinds.nd rfl (Or.inl rfl) (pe_op op_cat (pv 1) (pe_lst (pa_cons (pe_tup (pa_cons pe_str (pa_cons (pe_callB call_isK (by rfl) z_isinstance (by decide +kernel) (pa_cons (pv 0) (pa_cons (pe_glob (v := .ref CInvalidSpan) rfl XInvalidSpan.g rfl) pa_nil))) pa_nil))) (pa_cons (pe_tup (pa_cons pe_str (pa_cons (pe_callB call_isK (by rfl) z_isinstance (by decide +kernel) (pa_cons (pv 0) (pa_cons (pe_glob (v := .ref CInvalidNumber) rfl XInvalidNumber.g rfl) pa_nil))) pa_nil))) pa_nil)))))
    (pss_cons (ps_set (i := 1) scLawKinds.nd rfl (Or.inl rfl) (pe_op op_cat (pv 1) (pe_lst (pa_cons (pe_tup (pa_cons pe_str (pa_cons (pe_callB call_isK (by rfl) z_isinstance (by decide +kernel) (pa_cons (pv 0) (pa_cons (pe_glob (v := .ref CInvalidHeight) rfl XInvalidHeight.g rfl) pa_nil))) pa_nil))) (pa_cons (pe_tup (pa_cons pe_str (pa_cons (pe_callB call_isK (by rfl) z_isinstance (by decide +kernel) (pa_cons (pv 0) (pa_cons (pe_glob (v := .ref CInvalidBudget) rfl XInvalidBudget.g rfl) pa_nil))) pa_nil))) pa_nil)))))
    (pss_cons (ps_set (i := 1) scLawKinds.nd rfl (Or.inl rfl) (pe_op op_cat (pv 1) (pe_lst (pa_cons (pe_tup (pa_cons pe_str (pa_cons (pe_callB call_isK (by rfl) z_isinstance (by decide +kernel) (pa_cons (pv 0) (pa_cons (pe_glob (v := .ref CInvalidOperation) rfl XInvalidOperation.g rfl) pa_nil))) pa_nil))) (pa_cons (pe_tup (pa_cons pe_str (pa_cons (pe_callB call_isK (by rfl) z_isinstance (by decide +kernel) (pa_cons (pv 0) (pa_cons (pe_glob (v := .ref CNothing) rfl XNothing.g rfl) pa_nil))) pa_nil))) pa_nil)))))
    (pss_one (ps_ret (pe_op op_cat (pv 1) (pe_lst (pa_cons (pe_tup (pa_cons pe_str (pa_cons (pe_callB call_isK (by rfl) z_isinstance (by decide +kernel) (pa_cons (pv 0) (pa_cons (pe_glob (v := .ref CInvalidCommand) rfl XInvalidCommand.g rfl) pa_nil))) pa_nil))) pa_nil)))))))))))), ?_⟩
  refine ⟨_, rfl, a, C, _, _, b0, rfl, ha, hE, (fun u r => r), k0, two, fun t0 nt0 => ⟨_, rfl, a, C, _, _, b1, rfl, (same_upd nt0 _ _ ha), hE, (fun u r => r), k1, two, fun t1 nt1 => ⟨two, fun l0 nl0 => ?_⟩⟩⟩
  have st0 := same_upd (H := H) (o := .tup [.str "spans", .bl b0]) nt0
  have sb0 : Sb (upd H t0 (.tup [.str "spans", .bl b0])) (.ref t0) ("spans", b0) := ⟨t0, rfl, upd_same⟩
  have st1 := same_upd (H := (upd H t0 (.tup [.str "spans", .bl b0]))) (o := .tup [.str "nodes", .bl b1]) nt1
  have sb1 : Sb (upd (upd H t0 (.tup [.str "spans", .bl b0])) t1 (.tup [.str "nodes", .bl b1])) (.ref t1) ("nodes", b1) := ⟨t1, rfl, upd_same⟩
  have sl0 := same_upd (H := (upd (upd H t0 (.tup [.str "spans", .bl b0])) t1 (.tup [.str "nodes", .bl b1]))) (o := .lst [.ref t0, .ref t1]) nl0
  have sg0 := (st0.trans st1).trans sl0
  have hv0 : All2 (Sb (upd (upd (upd H t0 (.tup [.str "spans", .bl b0])) t1 (.tup [.str "nodes", .bl b1])) l0 (.lst [.ref t0, .ref t1]))) [.ref t0, .ref t1] [(("spans" : Str), b0), (("nodes" : Str), b1)] := (.cons ((sb0.same st1).same sl0) (.cons (sb1.same sl0) .nil))
  have hl0 : (upd (upd (upd H t0 (.tup [.str "spans", .bl b0])) t1 (.tup [.str "nodes", .bl b1])) l0 (.lst [.ref t0, .ref t1])) l0 = some (.lst [.ref t0, .ref t1]) := upd_same
  have ha1 := sg0 _ _ ha
  have sm1 : Same H (upd (upd (upd H t0 (.tup [.str "spans", .bl b0])) t1 (.tup [.str "nodes", .bl b1])) l0 (.lst [.ref t0, .ref t1])) := sg0
  have hx1 := hv0
  have hs1 := hl0
  generalize (upd (upd (upd H t0 (.tup [.str "spans", .bl b0])) t1 (.tup [.str "nodes", .bl b1])) l0 (.lst [.ref t0, .ref t1])) = J1 at ha1 sm1 hx1 hs1
  have ex1 : ∃ (S : Addr) (X : List V) (L : List (Str × Bool)), L = [(("spans" : Str), b0), (("nodes" : Str), b1)] ∧ J1 S = some (.lst X) ∧ All2 (Sb J1) X L ∧ S = l0 := ⟨l0, _, _, rfl, hs1, hx1, rfl⟩
  clear hs1 hx1
  obtain ⟨S1, X1, L1, eL1, hs1, hx1, ln1⟩ := ex1
  subst ln1
  refine ⟨_, rfl, _, rfl, a, C, _, _, b2, rfl, ha1, hE, (fun u r => r), k2, two, fun t2 nt2 => ⟨_, rfl, a, C, _, _, b3, rfl, (same_upd nt2 _ _ ha1), hE, (fun u r => r), k3, two, fun t3 nt3 => ⟨two, fun l1 nl1 => ?_⟩⟩⟩
  have st2 := same_upd (H := J1) (o := .tup [.str "bounds", .bl b2]) nt2
  have sb2 : Sb (upd J1 t2 (.tup [.str "bounds", .bl b2])) (.ref t2) ("bounds", b2) := ⟨t2, rfl, upd_same⟩
  have st3 := same_upd (H := (upd J1 t2 (.tup [.str "bounds", .bl b2]))) (o := .tup [.str "text", .bl b3]) nt3
  have sb3 : Sb (upd (upd J1 t2 (.tup [.str "bounds", .bl b2])) t3 (.tup [.str "text", .bl b3])) (.ref t3) ("text", b3) := ⟨t3, rfl, upd_same⟩
  have sl1 := same_upd (H := (upd (upd J1 t2 (.tup [.str "bounds", .bl b2])) t3 (.tup [.str "text", .bl b3]))) (o := .lst [.ref t2, .ref t3]) nl1
  have sg1 := (st2.trans st3).trans sl1
  have hv1 : All2 (Sb (upd (upd (upd J1 t2 (.tup [.str "bounds", .bl b2])) t3 (.tup [.str "text", .bl b3])) l1 (.lst [.ref t2, .ref t3]))) [.ref t2, .ref t3] [(("bounds" : Str), b2), (("text" : Str), b3)] := (.cons ((sb2.same st3).same sl1) (.cons (sb3.same sl1) .nil))
  have hl1 : (upd (upd (upd J1 t2 (.tup [.str "bounds", .bl b2])) t3 (.tup [.str "text", .bl b3])) l1 (.lst [.ref t2, .ref t3])) l1 = some (.lst [.ref t2, .ref t3]) := upd_same
  have hS1 := sg1 _ _ hs1
  have hX1 := hx1.mono (fun v x (k : Sb J1 v x) => k.same sg1)
  have xl1 := hx1.len
  refine ⟨S1, l1, _, _, rfl, rfl, hS1, hl1, szle (by rw [xl1, eL1]; simp), fun r1 nr1 => ?_⟩
  have sr1 := same_upd (H := (upd (upd (upd J1 t2 (.tup [.str "bounds", .bl b2])) t3 (.tup [.str "text", .bl b3])) l1 (.lst [.ref t2, .ref t3]))) (o := .lst (X1 ++ [.ref t2, .ref t3])) nr1
  have ha2 := sr1 _ _ (sg1 _ _ ha1)
  have sm2 := sm1.trans (sg1.trans sr1)
  have hx2 := (hX1.app hv1).mono (fun v x (k : Sb (upd (upd (upd J1 t2 (.tup [.str "bounds", .bl b2])) t3 (.tup [.str "text", .bl b3])) l1 (.lst [.ref t2, .ref t3])) v x) => k.same sr1)
  have hs2 : (upd (upd (upd (upd J1 t2 (.tup [.str "bounds", .bl b2])) t3 (.tup [.str "text", .bl b3])) l1 (.lst [.ref t2, .ref t3])) r1 (.lst (X1 ++ [.ref t2, .ref t3]))) r1 = some (.lst (X1 ++ [.ref t2, .ref t3])) := upd_same
  generalize (upd (upd (upd (upd J1 t2 (.tup [.str "bounds", .bl b2])) t3 (.tup [.str "text", .bl b3])) l1 (.lst [.ref t2, .ref t3])) r1 (.lst (X1 ++ [.ref t2, .ref t3]))) = J2 at ha2 sm2 hx2 hs2
  have ex2 : ∃ (S : Addr) (X : List V) (L : List (Str × Bool)), L = L1 ++ [(("bounds" : Str), b2), (("text" : Str), b3)] ∧ J2 S = some (.lst X) ∧ All2 (Sb J2) X L ∧ S = r1 := ⟨r1, _, _, rfl, hs2, hx2, rfl⟩
  clear hs2 hx2
  obtain ⟨S2, X2, L2, eL2, hs2, hx2, ln2⟩ := ex2
  subst ln2
  rw [eL1] at eL2
  refine ⟨_, rfl, _, rfl, a, C, _, _, b4, rfl, ha2, hE, (fun u r => r), k4, two, fun t4 nt4 => ⟨_, rfl, a, C, _, _, b5, rfl, (same_upd nt4 _ _ ha2), hE, (fun u r => r), k5, two, fun t5 nt5 => ⟨two, fun l2 nl2 => ?_⟩⟩⟩
  have st4 := same_upd (H := J2) (o := .tup [.str "over", .bl b4]) nt4
  have sb4 : Sb (upd J2 t4 (.tup [.str "over", .bl b4])) (.ref t4) ("over", b4) := ⟨t4, rfl, upd_same⟩
  have st5 := same_upd (H := (upd J2 t4 (.tup [.str "over", .bl b4]))) (o := .tup [.str "size", .bl b5]) nt5
  have sb5 : Sb (upd (upd J2 t4 (.tup [.str "over", .bl b4])) t5 (.tup [.str "size", .bl b5])) (.ref t5) ("size", b5) := ⟨t5, rfl, upd_same⟩
  have sl2 := same_upd (H := (upd (upd J2 t4 (.tup [.str "over", .bl b4])) t5 (.tup [.str "size", .bl b5]))) (o := .lst [.ref t4, .ref t5]) nl2
  have sg2 := (st4.trans st5).trans sl2
  have hv2 : All2 (Sb (upd (upd (upd J2 t4 (.tup [.str "over", .bl b4])) t5 (.tup [.str "size", .bl b5])) l2 (.lst [.ref t4, .ref t5]))) [.ref t4, .ref t5] [(("over" : Str), b4), (("size" : Str), b5)] := (.cons ((sb4.same st5).same sl2) (.cons (sb5.same sl2) .nil))
  have hl2 : (upd (upd (upd J2 t4 (.tup [.str "over", .bl b4])) t5 (.tup [.str "size", .bl b5])) l2 (.lst [.ref t4, .ref t5])) l2 = some (.lst [.ref t4, .ref t5]) := upd_same
  have hS2 := sg2 _ _ hs2
  have hX2 := hx2.mono (fun v x (k : Sb J2 v x) => k.same sg2)
  have xl2 := hx2.len
  refine ⟨S2, l2, _, _, rfl, rfl, hS2, hl2, szle (by rw [xl2, eL2]; simp), fun r2 nr2 => ?_⟩
  have sr2 := same_upd (H := (upd (upd (upd J2 t4 (.tup [.str "over", .bl b4])) t5 (.tup [.str "size", .bl b5])) l2 (.lst [.ref t4, .ref t5]))) (o := .lst (X2 ++ [.ref t4, .ref t5])) nr2
  have ha3 := sr2 _ _ (sg2 _ _ ha2)
  have sm3 := sm2.trans (sg2.trans sr2)
  have hx3 := (hX2.app hv2).mono (fun v x (k : Sb (upd (upd (upd J2 t4 (.tup [.str "over", .bl b4])) t5 (.tup [.str "size", .bl b5])) l2 (.lst [.ref t4, .ref t5])) v x) => k.same sr2)
  have hs3 : (upd (upd (upd (upd J2 t4 (.tup [.str "over", .bl b4])) t5 (.tup [.str "size", .bl b5])) l2 (.lst [.ref t4, .ref t5])) r2 (.lst (X2 ++ [.ref t4, .ref t5]))) r2 = some (.lst (X2 ++ [.ref t4, .ref t5])) := upd_same
  generalize (upd (upd (upd (upd J2 t4 (.tup [.str "over", .bl b4])) t5 (.tup [.str "size", .bl b5])) l2 (.lst [.ref t4, .ref t5])) r2 (.lst (X2 ++ [.ref t4, .ref t5]))) = J3 at ha3 sm3 hx3 hs3
  have ex3 : ∃ (S : Addr) (X : List V) (L : List (Str × Bool)), L = L2 ++ [(("over" : Str), b4), (("size" : Str), b5)] ∧ J3 S = some (.lst X) ∧ All2 (Sb J3) X L ∧ S = r2 := ⟨r2, _, _, rfl, hs3, hx3, rfl⟩
  clear hs3 hx3
  obtain ⟨S3, X3, L3, eL3, hs3, hx3, ln3⟩ := ex3
  subst ln3
  rw [eL2] at eL3
  refine ⟨_, rfl, _, rfl, a, C, _, _, b6, rfl, ha3, hE, (fun u r => r), k6, two, fun t6 nt6 => ⟨_, rfl, a, C, _, _, b7, rfl, (same_upd nt6 _ _ ha3), hE, (fun u r => r), k7, two, fun t7 nt7 => ⟨two, fun l3 nl3 => ?_⟩⟩⟩
  have st6 := same_upd (H := J3) (o := .tup [.str "entry", .bl b6]) nt6
  have sb6 : Sb (upd J3 t6 (.tup [.str "entry", .bl b6])) (.ref t6) ("entry", b6) := ⟨t6, rfl, upd_same⟩
  have st7 := same_upd (H := (upd J3 t6 (.tup [.str "entry", .bl b6]))) (o := .tup [.str "node", .bl b7]) nt7
  have sb7 : Sb (upd (upd J3 t6 (.tup [.str "entry", .bl b6])) t7 (.tup [.str "node", .bl b7])) (.ref t7) ("node", b7) := ⟨t7, rfl, upd_same⟩
  have sl3 := same_upd (H := (upd (upd J3 t6 (.tup [.str "entry", .bl b6])) t7 (.tup [.str "node", .bl b7]))) (o := .lst [.ref t6, .ref t7]) nl3
  have sg3 := (st6.trans st7).trans sl3
  have hv3 : All2 (Sb (upd (upd (upd J3 t6 (.tup [.str "entry", .bl b6])) t7 (.tup [.str "node", .bl b7])) l3 (.lst [.ref t6, .ref t7]))) [.ref t6, .ref t7] [(("entry" : Str), b6), (("node" : Str), b7)] := (.cons ((sb6.same st7).same sl3) (.cons (sb7.same sl3) .nil))
  have hl3 : (upd (upd (upd J3 t6 (.tup [.str "entry", .bl b6])) t7 (.tup [.str "node", .bl b7])) l3 (.lst [.ref t6, .ref t7])) l3 = some (.lst [.ref t6, .ref t7]) := upd_same
  have hS3 := sg3 _ _ hs3
  have hX3 := hx3.mono (fun v x (k : Sb J3 v x) => k.same sg3)
  have xl3 := hx3.len
  refine ⟨S3, l3, _, _, rfl, rfl, hS3, hl3, szle (by rw [xl3, eL3]; simp), fun r3 nr3 => ?_⟩
  have sr3 := same_upd (H := (upd (upd (upd J3 t6 (.tup [.str "entry", .bl b6])) t7 (.tup [.str "node", .bl b7])) l3 (.lst [.ref t6, .ref t7]))) (o := .lst (X3 ++ [.ref t6, .ref t7])) nr3
  have ha4 := sr3 _ _ (sg3 _ _ ha3)
  have sm4 := sm3.trans (sg3.trans sr3)
  have hx4 := (hX3.app hv3).mono (fun v x (k : Sb (upd (upd (upd J3 t6 (.tup [.str "entry", .bl b6])) t7 (.tup [.str "node", .bl b7])) l3 (.lst [.ref t6, .ref t7])) v x) => k.same sr3)
  have hs4 : (upd (upd (upd (upd J3 t6 (.tup [.str "entry", .bl b6])) t7 (.tup [.str "node", .bl b7])) l3 (.lst [.ref t6, .ref t7])) r3 (.lst (X3 ++ [.ref t6, .ref t7]))) r3 = some (.lst (X3 ++ [.ref t6, .ref t7])) := upd_same
  generalize (upd (upd (upd (upd J3 t6 (.tup [.str "entry", .bl b6])) t7 (.tup [.str "node", .bl b7])) l3 (.lst [.ref t6, .ref t7])) r3 (.lst (X3 ++ [.ref t6, .ref t7]))) = J4 at ha4 sm4 hx4 hs4
  have ex4 : ∃ (S : Addr) (X : List V) (L : List (Str × Bool)), L = L3 ++ [(("entry" : Str), b6), (("node" : Str), b7)] ∧ J4 S = some (.lst X) ∧ All2 (Sb J4) X L ∧ S = r3 := ⟨r3, _, _, rfl, hs4, hx4, rfl⟩
  clear hs4 hx4
  obtain ⟨S4, X4, L4, eL4, hs4, hx4, ln4⟩ := ex4
  subst ln4
  rw [eL3] at eL4
  refine ⟨_, rfl, _, rfl, a, C, _, _, b8, rfl, ha4, hE, (fun u r => r), k8, two, fun t8 nt8 => ⟨_, rfl, a, C, _, _, b9, rfl, (same_upd nt8 _ _ ha4), hE, (fun u r => r), k9, two, fun t9 nt9 => ⟨two, fun l4 nl4 => ?_⟩⟩⟩
  have st8 := same_upd (H := J4) (o := .tup [.str "span", .bl b8]) nt8
  have sb8 : Sb (upd J4 t8 (.tup [.str "span", .bl b8])) (.ref t8) ("span", b8) := ⟨t8, rfl, upd_same⟩
  have st9 := same_upd (H := (upd J4 t8 (.tup [.str "span", .bl b8]))) (o := .tup [.str "number", .bl b9]) nt9
  have sb9 : Sb (upd (upd J4 t8 (.tup [.str "span", .bl b8])) t9 (.tup [.str "number", .bl b9])) (.ref t9) ("number", b9) := ⟨t9, rfl, upd_same⟩
  have sl4 := same_upd (H := (upd (upd J4 t8 (.tup [.str "span", .bl b8])) t9 (.tup [.str "number", .bl b9]))) (o := .lst [.ref t8, .ref t9]) nl4
  have sg4 := (st8.trans st9).trans sl4
  have hv4 : All2 (Sb (upd (upd (upd J4 t8 (.tup [.str "span", .bl b8])) t9 (.tup [.str "number", .bl b9])) l4 (.lst [.ref t8, .ref t9]))) [.ref t8, .ref t9] [(("span" : Str), b8), (("number" : Str), b9)] := (.cons ((sb8.same st9).same sl4) (.cons (sb9.same sl4) .nil))
  have hl4 : (upd (upd (upd J4 t8 (.tup [.str "span", .bl b8])) t9 (.tup [.str "number", .bl b9])) l4 (.lst [.ref t8, .ref t9])) l4 = some (.lst [.ref t8, .ref t9]) := upd_same
  have hS4 := sg4 _ _ hs4
  have hX4 := hx4.mono (fun v x (k : Sb J4 v x) => k.same sg4)
  have xl4 := hx4.len
  refine ⟨S4, l4, _, _, rfl, rfl, hS4, hl4, szle (by rw [xl4, eL4]; simp), fun r4 nr4 => ?_⟩
  have sr4 := same_upd (H := (upd (upd (upd J4 t8 (.tup [.str "span", .bl b8])) t9 (.tup [.str "number", .bl b9])) l4 (.lst [.ref t8, .ref t9]))) (o := .lst (X4 ++ [.ref t8, .ref t9])) nr4
  have ha5 := sr4 _ _ (sg4 _ _ ha4)
  have sm5 := sm4.trans (sg4.trans sr4)
  have hx5 := (hX4.app hv4).mono (fun v x (k : Sb (upd (upd (upd J4 t8 (.tup [.str "span", .bl b8])) t9 (.tup [.str "number", .bl b9])) l4 (.lst [.ref t8, .ref t9])) v x) => k.same sr4)
  have hs5 : (upd (upd (upd (upd J4 t8 (.tup [.str "span", .bl b8])) t9 (.tup [.str "number", .bl b9])) l4 (.lst [.ref t8, .ref t9])) r4 (.lst (X4 ++ [.ref t8, .ref t9]))) r4 = some (.lst (X4 ++ [.ref t8, .ref t9])) := upd_same
  generalize (upd (upd (upd (upd J4 t8 (.tup [.str "span", .bl b8])) t9 (.tup [.str "number", .bl b9])) l4 (.lst [.ref t8, .ref t9])) r4 (.lst (X4 ++ [.ref t8, .ref t9]))) = J5 at ha5 sm5 hx5 hs5
  have ex5 : ∃ (S : Addr) (X : List V) (L : List (Str × Bool)), L = L4 ++ [(("span" : Str), b8), (("number" : Str), b9)] ∧ J5 S = some (.lst X) ∧ All2 (Sb J5) X L ∧ S = r4 := ⟨r4, _, _, rfl, hs5, hx5, rfl⟩
  clear hs5 hx5
  obtain ⟨S5, X5, L5, eL5, hs5, hx5, ln5⟩ := ex5
  subst ln5
  rw [eL4] at eL5
  refine ⟨_, rfl, _, rfl, a, C, _, _, b10, rfl, ha5, hE, (fun u r => r), k10, two, fun t10 nt10 => ⟨_, rfl, a, C, _, _, b11, rfl, (same_upd nt10 _ _ ha5), hE, (fun u r => r), k11, two, fun t11 nt11 => ⟨two, fun l5 nl5 => ?_⟩⟩⟩
  have st10 := same_upd (H := J5) (o := .tup [.str "height", .bl b10]) nt10
  have sb10 : Sb (upd J5 t10 (.tup [.str "height", .bl b10])) (.ref t10) ("height", b10) := ⟨t10, rfl, upd_same⟩
  have st11 := same_upd (H := (upd J5 t10 (.tup [.str "height", .bl b10]))) (o := .tup [.str "budget", .bl b11]) nt11
  have sb11 : Sb (upd (upd J5 t10 (.tup [.str "height", .bl b10])) t11 (.tup [.str "budget", .bl b11])) (.ref t11) ("budget", b11) := ⟨t11, rfl, upd_same⟩
  have sl5 := same_upd (H := (upd (upd J5 t10 (.tup [.str "height", .bl b10])) t11 (.tup [.str "budget", .bl b11]))) (o := .lst [.ref t10, .ref t11]) nl5
  have sg5 := (st10.trans st11).trans sl5
  have hv5 : All2 (Sb (upd (upd (upd J5 t10 (.tup [.str "height", .bl b10])) t11 (.tup [.str "budget", .bl b11])) l5 (.lst [.ref t10, .ref t11]))) [.ref t10, .ref t11] [(("height" : Str), b10), (("budget" : Str), b11)] := (.cons ((sb10.same st11).same sl5) (.cons (sb11.same sl5) .nil))
  have hl5 : (upd (upd (upd J5 t10 (.tup [.str "height", .bl b10])) t11 (.tup [.str "budget", .bl b11])) l5 (.lst [.ref t10, .ref t11])) l5 = some (.lst [.ref t10, .ref t11]) := upd_same
  have hS5 := sg5 _ _ hs5
  have hX5 := hx5.mono (fun v x (k : Sb J5 v x) => k.same sg5)
  have xl5 := hx5.len
  refine ⟨S5, l5, _, _, rfl, rfl, hS5, hl5, szle (by rw [xl5, eL5]; simp), fun r5 nr5 => ?_⟩
  have sr5 := same_upd (H := (upd (upd (upd J5 t10 (.tup [.str "height", .bl b10])) t11 (.tup [.str "budget", .bl b11])) l5 (.lst [.ref t10, .ref t11]))) (o := .lst (X5 ++ [.ref t10, .ref t11])) nr5
  have ha6 := sr5 _ _ (sg5 _ _ ha5)
  have sm6 := sm5.trans (sg5.trans sr5)
  have hx6 := (hX5.app hv5).mono (fun v x (k : Sb (upd (upd (upd J5 t10 (.tup [.str "height", .bl b10])) t11 (.tup [.str "budget", .bl b11])) l5 (.lst [.ref t10, .ref t11])) v x) => k.same sr5)
  have hs6 : (upd (upd (upd (upd J5 t10 (.tup [.str "height", .bl b10])) t11 (.tup [.str "budget", .bl b11])) l5 (.lst [.ref t10, .ref t11])) r5 (.lst (X5 ++ [.ref t10, .ref t11]))) r5 = some (.lst (X5 ++ [.ref t10, .ref t11])) := upd_same
  generalize (upd (upd (upd (upd J5 t10 (.tup [.str "height", .bl b10])) t11 (.tup [.str "budget", .bl b11])) l5 (.lst [.ref t10, .ref t11])) r5 (.lst (X5 ++ [.ref t10, .ref t11]))) = J6 at ha6 sm6 hx6 hs6
  have ex6 : ∃ (S : Addr) (X : List V) (L : List (Str × Bool)), L = L5 ++ [(("height" : Str), b10), (("budget" : Str), b11)] ∧ J6 S = some (.lst X) ∧ All2 (Sb J6) X L ∧ S = r5 := ⟨r5, _, _, rfl, hs6, hx6, rfl⟩
  clear hs6 hx6
  obtain ⟨S6, X6, L6, eL6, hs6, hx6, ln6⟩ := ex6
  subst ln6
  rw [eL5] at eL6
  refine ⟨_, rfl, _, rfl, a, C, _, _, b12, rfl, ha6, hE, (fun u r => r), k12, two, fun t12 nt12 => ⟨_, rfl, a, C, _, _, b13, rfl, (same_upd nt12 _ _ ha6), hE, (fun u r => r), k13, two, fun t13 nt13 => ⟨two, fun l6 nl6 => ?_⟩⟩⟩
  have st12 := same_upd (H := J6) (o := .tup [.str "operation", .bl b12]) nt12
  have sb12 : Sb (upd J6 t12 (.tup [.str "operation", .bl b12])) (.ref t12) ("operation", b12) := ⟨t12, rfl, upd_same⟩
  have st13 := same_upd (H := (upd J6 t12 (.tup [.str "operation", .bl b12]))) (o := .tup [.str "nothing", .bl b13]) nt13
  have sb13 : Sb (upd (upd J6 t12 (.tup [.str "operation", .bl b12])) t13 (.tup [.str "nothing", .bl b13])) (.ref t13) ("nothing", b13) := ⟨t13, rfl, upd_same⟩
  have sl6 := same_upd (H := (upd (upd J6 t12 (.tup [.str "operation", .bl b12])) t13 (.tup [.str "nothing", .bl b13]))) (o := .lst [.ref t12, .ref t13]) nl6
  have sg6 := (st12.trans st13).trans sl6
  have hv6 : All2 (Sb (upd (upd (upd J6 t12 (.tup [.str "operation", .bl b12])) t13 (.tup [.str "nothing", .bl b13])) l6 (.lst [.ref t12, .ref t13]))) [.ref t12, .ref t13] [(("operation" : Str), b12), (("nothing" : Str), b13)] := (.cons ((sb12.same st13).same sl6) (.cons (sb13.same sl6) .nil))
  have hl6 : (upd (upd (upd J6 t12 (.tup [.str "operation", .bl b12])) t13 (.tup [.str "nothing", .bl b13])) l6 (.lst [.ref t12, .ref t13])) l6 = some (.lst [.ref t12, .ref t13]) := upd_same
  have hS6 := sg6 _ _ hs6
  have hX6 := hx6.mono (fun v x (k : Sb J6 v x) => k.same sg6)
  have xl6 := hx6.len
  refine ⟨S6, l6, _, _, rfl, rfl, hS6, hl6, szle (by rw [xl6, eL6]; simp), fun r6 nr6 => ?_⟩
  have sr6 := same_upd (H := (upd (upd (upd J6 t12 (.tup [.str "operation", .bl b12])) t13 (.tup [.str "nothing", .bl b13])) l6 (.lst [.ref t12, .ref t13]))) (o := .lst (X6 ++ [.ref t12, .ref t13])) nr6
  have ha7 := sr6 _ _ (sg6 _ _ ha6)
  have sm7 := sm6.trans (sg6.trans sr6)
  have hx7 := (hX6.app hv6).mono (fun v x (k : Sb (upd (upd (upd J6 t12 (.tup [.str "operation", .bl b12])) t13 (.tup [.str "nothing", .bl b13])) l6 (.lst [.ref t12, .ref t13])) v x) => k.same sr6)
  have hs7 : (upd (upd (upd (upd J6 t12 (.tup [.str "operation", .bl b12])) t13 (.tup [.str "nothing", .bl b13])) l6 (.lst [.ref t12, .ref t13])) r6 (.lst (X6 ++ [.ref t12, .ref t13]))) r6 = some (.lst (X6 ++ [.ref t12, .ref t13])) := upd_same
  generalize (upd (upd (upd (upd J6 t12 (.tup [.str "operation", .bl b12])) t13 (.tup [.str "nothing", .bl b13])) l6 (.lst [.ref t12, .ref t13])) r6 (.lst (X6 ++ [.ref t12, .ref t13]))) = J7 at ha7 sm7 hx7 hs7
  have ex7 : ∃ (S : Addr) (X : List V) (L : List (Str × Bool)), L = L6 ++ [(("operation" : Str), b12), (("nothing" : Str), b13)] ∧ J7 S = some (.lst X) ∧ All2 (Sb J7) X L ∧ S = r6 := ⟨r6, _, _, rfl, hs7, hx7, rfl⟩
  clear hs7 hx7
  obtain ⟨S7, X7, L7, eL7, hs7, hx7, ln7⟩ := ex7
  subst ln7
  rw [eL6] at eL7
  refine ⟨_, rfl, _, rfl, a, C, _, _, b14, rfl, ha7, hE, (fun u r => r), k14, two, fun t14 nt14 => ⟨one1, fun l7 nl7 => ?_⟩⟩
  have st14 := same_upd (H := J7) (o := .tup [.str "command", .bl b14]) nt14
  have sb14 : Sb (upd J7 t14 (.tup [.str "command", .bl b14])) (.ref t14) ("command", b14) := ⟨t14, rfl, upd_same⟩
  have sl7 := same_upd (H := (upd J7 t14 (.tup [.str "command", .bl b14]))) (o := .lst [.ref t14]) nl7
  have sg7 := st14.trans sl7
  have hv7 : All2 (Sb (upd (upd J7 t14 (.tup [.str "command", .bl b14])) l7 (.lst [.ref t14]))) [.ref t14] [(("command" : Str), b14)] := (.cons (sb14.same sl7) .nil)
  have hl7 : (upd (upd J7 t14 (.tup [.str "command", .bl b14])) l7 (.lst [.ref t14])) l7 = some (.lst [.ref t14]) := upd_same
  have hS7 := sg7 _ _ hs7
  have hX7 := hx7.mono (fun v x (k : Sb J7 v x) => k.same sg7)
  have xl7 := hx7.len
  refine ⟨S7, l7, _, _, rfl, rfl, hS7, hl7, szle (by rw [xl7, eL7]; simp), fun r7 nr7 => ?_⟩
  have sr7 := same_upd (H := (upd (upd J7 t14 (.tup [.str "command", .bl b14])) l7 (.lst [.ref t14]))) (o := .lst (X7 ++ [.ref t14])) nr7
  have ha8 := sr7 _ _ (sg7 _ _ ha7)
  have sm8 := sm7.trans (sg7.trans sr7)
  have hx8 := (hX7.app hv7).mono (fun v x (k : Sb (upd (upd J7 t14 (.tup [.str "command", .bl b14])) l7 (.lst [.ref t14])) v x) => k.same sr7)
  have hs8 : (upd (upd (upd J7 t14 (.tup [.str "command", .bl b14])) l7 (.lst [.ref t14])) r7 (.lst (X7 ++ [.ref t14]))) r7 = some (.lst (X7 ++ [.ref t14])) := upd_same
  have free8 := (sm7.trans sg7).free nr7
  generalize (upd (upd (upd J7 t14 (.tup [.str "command", .bl b14])) l7 (.lst [.ref t14])) r7 (.lst (X7 ++ [.ref t14]))) = J8 at ha8 sm8 hx8 hs8
  have ex8 : ∃ (S : Addr) (X : List V) (L : List (Str × Bool)), L = L7 ++ [(("command" : Str), b14)] ∧ J8 S = some (.lst X) ∧ All2 (Sb J8) X L ∧ S = r7 := ⟨r7, _, _, rfl, hs8, hx8, rfl⟩
  clear hs8 hx8
  obtain ⟨S8, X8, L8, eL8, hs8, hx8, ln8⟩ := ex8
  subst ln8
  rw [eL7] at eL8
  have eL : L8 = clsNames.zip [b0, b1, b2, b3, b4, b5, b6, b7, b8, b9, b10, b11, b12, b13, b14] := by rw [eL8]; rfl
  rw [eL] at hx8
  exact q _ S8 X8 sm8 free8 hs8 hx8
end
end LT

namespace LT
open PySem PySem.Spec PyProof.Rows L2
section
variable {P : Program} {w : World} {K : PySem.W.Frag} {mg : Str → Option Value} {base : Heap}
def spToldKind (K : PySem.W.Frag) (Cs : List Addr) : Sp := fun vs H Q _ => ∃ (a C : Addr) (bs : List Bool) (nm : Str), vs = [.ref a] ∧ H a = some (ExK (.ref C) none a) ∧ ExcC K C ∧ Kit K C Cs bs ∧ PySem.W.kitOne K (.ref C) (.type "ValueError") = some true ∧
  ((clsNames.zip bs).filter fun x => x.2).map (fun x => x.1) = [nm] ∧ nm ≠ "spans" ∧ nm ≠ "nodes" ∧ nm ≠ "bounds" ∧ nm ≠ "text" ∧ nm ≠ "over" ∧ nm ++ ("" : Str) = nm ∧ nm.length ≤ 100 ∧ ∀ H', Same H H' → Q (.str nm) H'
theorem ok_law_told_kind {f g1 : Addr} {fd d1 : FuncData} {Cs : List Addr} (F : Fun K "_law_told_kind" "_law_told_kind" sLawToldKind f fd)
    (GLawKinds : FnOk P w K mg base CX0 1 g1 d1 ["e"] (spKinds K Cs)) (ALawKinds : At K mg "_law_kinds" g1 d1 ["e"])
    (z_isinstance : mg "isinstance" = none) (z_len : mg "len" = none) (z_repr : mg "repr" = none) (z_ValueError : mg "ValueError" = none) : FnOk P w K mg base CX0 2 f fd ["e"] (spToldKind K Cs) := by
  refine F.ok scLawToldKind (fun vs H Q E h => ?_) (fun cdv A outer s H vs Q E hr h => ?_)
  · obtain ⟨_, _, _, _, rfl, _⟩ := h
    rfl
  obtain ⟨a, C, bs, nm, rfl, ha, hE, hk, hV, hf, n1, n2, n3, n4, n5, hap, hl, q⟩ := h
  refine' ⟨_, (pss_cons (ps_set (i := 1) scLawToldKind.nd rfl (Or.inl rfl) (pe_lst pa_nil))
    (pss_cons (ps_for PassesOwn.never rfl (pi_list (pe_call GLawKinds (hr.mono (by decide)) rfl ALawKinds.m ALawKinds.kp ALawKinds.b .nil pass0 (pa_cons (pv 0) pa_nil))) (pg_tup (by rfl) (pgs_cons (pg_name (i := 2) scLawToldKind.nd rfl (Or.inl rfl)) (pgs_cons (pg_name (i := 3) scLawToldKind.nd rfl (Or.inl rfl)) pgs_nil)))
    (pss_one (ps_if (pt_val (pv 3))
    (pss_one (ps_expr (pe_bm PySem.F.plainAttrs_list PySem.F.slot_list_append PySem.F.type_list_append mt_append (pv 1) (pa_cons (pv 2) pa_nil))))
    pss_nil)))
    (pss_cons (ps_if (PW.pt (pw_or (pt_cmpR op_ne (pe_callB call_len_seq (by rfl) z_len PySem.boot_len (pa_cons (pv 1) pa_nil)) pe_int (nomark _)) (pw_or1 (pt_not (pt_val (pe_callB call_isK (by rfl) z_isinstance (by decide +kernel) (pa_cons (pv 0) (pa_cons (pe_bltn (v := .ty "ValueError") (u := .type "ValueError") (by rfl) z_ValueError (by decide +kernel) rfl) pa_nil))))))))
    (pss_one (ps_ret pe_str))
    pss_nil)
    (pss_cons (ps_if (pt_cmpR op_in_seq (pe_ix ix_list (pv 1) pe_int (fun _ _ => rfl)) (pe_tup (pa_cons pe_str (pa_cons pe_str (pa_cons pe_str pa_nil)))) (by rfl))
    (pss_one (ps_ret (pe_op op_add_str (pe_op op_add_str (pe_ix ix_list (pv 1) pe_int (fun _ _ => rfl)) pe_str) (pe_callB SkE.call_repr_int (by rfl) z_repr (by decide +kernel) (pa_cons (pe_fld (pv 0) rfl) pa_nil)))))
    pss_nil)
    (pss_cons (ps_if (pt_cmpR op_eq (pe_ix ix_list (pv 1) pe_int (fun _ _ => rfl)) pe_str (nomark _))
    (pss_one (ps_ret (pe_op op_add_str pe_str (pe_callB SkE.call_repr_int (by rfl) z_repr (by decide +kernel) (pa_cons (pe_fld (pv 0) rfl) pa_nil)))))
    pss_nil)
    (pss_one (ps_ret (pe_op op_add_str (pe_ix ix_list (pv 1) pe_int (fun _ _ => rfl)) (pe_ifExp (pt_cmpR op_eq (pe_ix ix_list (pv 1) pe_int (fun _ _ => rfl)) pe_str (nomark _)) (pe_op op_add_str pe_str (pe_callB SkE.call_repr_int (by rfl) z_repr (by decide +kernel) (pa_cons (pe_fld (pv 0) rfl) pa_nil))) pe_str))))))))), ?_⟩
  have three : 3 ≤ sizeLine := by decide
  refine ⟨Nat.zero_le _, fun D nD => ?_⟩
  have s0 := same_upd (o := .lst []) nD
  refine ⟨_, rfl, a, C, bs, rfl, s0 _ _ ha, hE, hk, fun H1 p xs s1 np hp hx => ?_⟩
  have hD1 : H1 D = some (.lst []) := s1 _ _ upd_same
  have pD : p ≠ D := fun z => by rw [z, upd_same] at np; cases np
  have ha1 := s1 _ _ (s0 _ _ ha)
  have s01 := s0.trans s1
  have hlen : (clsNames.zip bs).length ≤ 15 := by rw [List.length_zip]; exact Nat.min_le_left _ _
  generalize clsNames.zip bs = L at hf hx hlen
  have aD : a ≠ D := ne_of_none ha nD
  refine ⟨p, rfl, ⟨_, SqL.of hp⟩, for_list (K := K) (a := p) (xs := xs) (fun i σ H' => ∃ v2 v3 : Option V, σ = [some (.ref a), some (.ref D), v2, v3] ∧ But D H1 H' ∧ H' D = some (.lst (((L.take i).filter fun x => x.2).map fun x => V.str x.1)))
    ⟨none, none, rfl, But.refl D H1, hD1⟩ (fun i σ H' _ ⟨_, _, _, B, _⟩ => SqL.of (B _ _ pD hp)) ?_ ?_⟩
  · rintro i v σ G hi ⟨v2, v3, rfl, B, hD⟩
    obtain ⟨x, hxi, xp, rfl, hxp⟩ := hx.nth hi
    have hxG := B _ _ (ne_of hxp hD1 (fun z => by cases z)) hxp
    have fl : ((L.take i).filter fun x => x.2).length ≤ 15 := by
      have := List.length_filter_le (fun x : Str × Bool => x.2) (L.take i)
      rw [List.length_take] at this
      omega
    refine ⟨xp, _, rfl, SqT.of hxG, rfl, _, _, rfl, _, _, rfl, rfl, ?_⟩
    cases hb : x.2 with
    | true =>
      refine ⟨_, rfl, true, rfl, ?_⟩
      refine ⟨_, rfl, .inl ⟨rfl, _, SqL.of hD⟩, _, rfl, D, _, _, rfl, rfl, hD, szlt (by rw [List.length_map]; omega), ?_⟩
      refine ⟨_, _, rfl, fun u o n k => by rw [upd_ne n]; exact B u o n k, ?_⟩
      rw [take_more hxi, List.filter_append, List.filter_cons, hb, List.map_append]
      exact upd_same
    | false =>
      refine ⟨_, rfl, false, rfl, ?_⟩
      refine ⟨_, _, rfl, B, ?_⟩
      rw [take_more hxi, List.filter_append, List.filter_cons, hb]
      simpa using hD
  rintro σ G ⟨v2, v3, rfl, B, hD⟩
  rw [hx.len, List.take_length] at hD
  have hD : G D = some (.lst [.str nm]) := by
    have e : ((L.filter fun x => x.2).map fun x => V.str x.1) = ((L.filter fun x => x.2).map fun x => x.1).map V.str := by rw [List.map_map]; rfl
    rw [hD, e, hf]
    rfl
  have haG := B _ _ aD ha1
  have sG : Same H G := fun u o k => B u o (ne_of_none k nD) (s01 _ _ k)
  refine ⟨_, rfl, D, _, rfl, .inl (SqL.of hD), rfl, false, rfl, ?_⟩
  refine ⟨_, rfl, a, C, _, _, true, rfl, haG, hE, (fun u r => r), hV, true, rfl, ?_⟩
  have at0 : atI [V.str nm] 0 = some (.str nm) := atI_nat (j := 0) rfl
  refine ⟨_, rfl, D, _, _, _, rfl, rfl, SqL.of hD, at0, three, fun t nt => ⟨t, _, rfl, .inr (SqT.of upd_same), rfl, rfl, ?_⟩⟩
  have st := same_upd (o := .tup [.str "spans", .str "nodes", .str "bounds"]) nt
  have hD2 := st _ _ hD
  have sZ := sG.trans st
  generalize upd G t (.tup [.str "spans", .str "nodes", .str "bounds"]) = G2 at hD2 sZ
  have eqF : ∀ {x y : Str}, ¬ y = x → (x == y) = false := fun h => by
    rw [beq_eq_false_iff_ne]
    exact fun z => h z.symm
  have inF : inV (V.str nm) [V.str "spans", V.str "nodes", V.str "bounds"] = false := by
    show ((Str.ofString "spans" == nm) || ((Str.ofString "nodes" == nm) || ((Str.ofString "bounds" == nm) || false))) = false
    rw [eqF n1, eqF n2, eqF n3]
    rfl
  refine ⟨false, congrArg V.bl inF, ?_⟩
  refine ⟨_, rfl, D, _, _, _, rfl, rfl, SqL.of hD2, at0, rfl, false, congrArg V.bl (decide_eq_false (fun z => n4 (V.str.inj z))), ?_⟩
  refine ⟨_, rfl, D, _, _, _, rfl, rfl, SqL.of hD2, at0, ?_⟩
  refine ⟨_, rfl, D, _, _, _, rfl, rfl, SqL.of hD2, at0, rfl, false, congrArg V.bl (decide_eq_false (fun z => n5 (V.str.inj z))), _, _, rfl, rfl, ?_, ?_⟩
  · exact szle (by have : (Str.ofString "").length = 0 := rfl; omega)
  · have : Q (.str (nm ++ ("" : Str))) G2 := by rw [hap]; exact q G2 sZ
    exact this
end
end LT

namespace LT
open PySem PySem.Spec PyProof.Rows L2
/-- what the top says of an own class of errors without an __init__ -/
structure XF (K : PySem.W.Frag) (mg : Str → Option Value) (x : Str) (C : Addr) : Prop where
  g : mg x = some (.ref C)
  k : PySem.W.keepIn K (.ref C) = true
  q : PySem.W.excIn K C [.type "ValueError", .type "Exception", .type "BaseException", .type "object"] "ValueError.__new__" = true
  b : PySem.W.subIn K (.ref C) (.type "BaseException") = some true
  t : PySem.W.typeIn K (.ref C) = some (.type "type")
section
variable {P : Program} {w : World} {K : PySem.W.Frag} {mg : Str → Option Value} {base : Heap} {k : Nat} {f : Addr} {fd : FuncData} {ps : List Str} {sp sp1 sp2 : Sp} {CY : CXT}
theorem both (A : FnOk P w K mg base CY k f fd ps sp1) (B : FnOk P w K mg base CY k f fd ps sp2) : FnOk P w K mg base CY k f fd ps (fun vs H Q E => sp1 vs H Q E ∨ sp2 vs H Q E) :=
  ⟨fun vs H Q E h => h.elim (A.len vs H Q E) (B.len vs H Q E), fun A' outer s H args us vs Q E hr ev hb rv h => h.elim (A.run A' outer s H args us vs Q E hr ev hb rv) (B.run A' outer s H args us vs Q E hr ev hb rv)⟩
theorem toX (A : FnOk P w K mg base CX0 k f fd ps sp) : FnOk P w K mg base (L2.CX P w) k f fd ps sp := by
  refine ⟨A.len, fun A' outer s H args us vs Q E hr ev hb rv h => codeAny_mono (A.run A' outer s H args us vs Q E hr ev hb rv h) ?_⟩
  intro r s' hq
  cases r with
  | error e => exact False.elim hq
  | ok fl => cases fl <;> exact hq
end
section
variable {P : Program} {w : World} {K : PySem.W.Frag} {mg : Str → Option Value} {base : Heap} {CInvalidSize CS : Addr}
def top30 : Int := 1000000000000000000000000000000
def spCheckSizeX (K : PySem.W.Frag) (C : Addr) : Sp := fun vs H Q E => ∃ (v : V) (t : String), vs = [v] ∧ Pl K H v t ∧ ((inRange 1 top30 v = true ∧ Q .non H) ∨ (inRange 1 top30 v = false ∧ E (.ref C) none H))
theorem okX_check_size {f g : Addr} {fd gd : FuncData} {t : Tok} (F : Fun K "check_size" "check_size" sCheckSize f fd) (XInvalidSize : XF K mg "InvalidSize" CInvalidSize) (GIsBetween : FnOk P w K mg base CX0 2 g gd ["value", "low", "high"] (spBetweenV K)) (AIsBetween : At K mg "is_between" g gd ["value", "low", "high"]) (g_MOST_ENTRIES : mg "MOST_ENTRIES" = some (.int 1000000000000000000000000000000 t)) :
    FnOk P w K mg base (L2.CX P w) 3 f fd ["size"] (spCheckSizeX K CInvalidSize) := by
  refine F.okX scCheckSize (fun vs H Q E h => ?_) (fun cdv A outer s H vs Q E hr h => ?_)
  · obtain ⟨_, _, rfl, _⟩ := h
    rfl
  obtain ⟨v, ty, rfl, hv, q⟩ := h
  refine ⟨_, (pss_one (ps_if (pt_not (pt_val (pe_call GIsBetween (hr.mono (by decide)) rfl AIsBetween.m AIsBetween.kp AIsBetween.b .nil pass0 (pa_cons (pv 0) (pa_cons pe_int (pa_cons (pe_glob (v := .int 1000000000000000000000000000000) rfl g_MOST_ENTRIES ⟨_, rfl⟩) pa_nil))))))
    (pss_one (ps_raise rfl (takes_of rfl rfl rfl rfl) (pmk_own PySem.F.excBase_ValueError XInvalidSize.q XInvalidSize.g XInvalidSize.k (raises_own XInvalidSize.b XInvalidSize.t) rfl)))
    pss_nil)), ?_⟩
  refine ⟨_, rfl, v, ty, 1, top30, rfl, hv, inRange 1 top30 v, rfl, ?_⟩
  rcases q with ⟨e, q⟩ | ⟨e, q⟩
  · rw [e]; exact q
  · rw [e]; exact q
def spCheckOlderX (K : PySem.W.Frag) (C : Addr) : Sp := fun vs H Q E => ∃ (n : Int) (v : V) (t : String), vs = [.int n, v] ∧ Pl K H v t ∧ ((inRange 1 n v = true ∧ Q .non H) ∨ (inRange 1 n v = false ∧ E (.ref C) none H))
theorem okX_check_older {f g : Addr} {fd gd : FuncData} (F : Fun K "check_older" "check_older" sCheckOlder f fd) (XInvalidSize : XF K mg "InvalidSize" CInvalidSize) (GIsBetween : FnOk P w K mg base CX0 2 g gd ["value", "low", "high"] (spBetweenV K)) (AIsBetween : At K mg "is_between" g gd ["value", "low", "high"]) :
    FnOk P w K mg base (L2.CX P w) 3 f fd ["size", "older"] (spCheckOlderX K CInvalidSize) := by
  refine F.okX scCheckOlder (fun vs H Q E h => ?_) (fun cdv A outer s H vs Q E hr h => ?_)
  · obtain ⟨_, _, _, rfl, _⟩ := h
    rfl
  obtain ⟨n, v, ty, rfl, hv, q⟩ := h
  refine ⟨_, (pss_one (ps_if (pt_not (pt_val (pe_call GIsBetween (hr.mono (by decide)) rfl AIsBetween.m AIsBetween.kp AIsBetween.b .nil pass0 (pa_cons (pv 1) (pa_cons pe_int (pa_cons (pv 0) pa_nil))))))
    (pss_one (ps_raise rfl (takes_of rfl rfl rfl rfl) (pmk_own PySem.F.excBase_ValueError XInvalidSize.q XInvalidSize.g XInvalidSize.k (raises_own XInvalidSize.b XInvalidSize.t) rfl)))
    pss_nil)), ?_⟩
  refine ⟨_, rfl, _, rfl, v, ty, 1, n, rfl, hv, inRange 1 n v, rfl, ?_⟩
  rcases q with ⟨e, q⟩ | ⟨e, q⟩
  · rw [e]; exact q
  · rw [e]; exact q
/-- a wrong size, or behind a good one a wrong older one -/
def spOlderX (K : PySem.W.Frag) (CS : Addr) : Sp := fun vs H Q E => ∃ (v1 v2 : V) (t1 t2 : String), vs = [v1, v2] ∧ Pl K H v1 t1 ∧ Pl K H v2 t2 ∧
  ((inRange 1 top30 v1 = false ∧ E (.ref CS) none H) ∨ ∃ n : Int, v1 = .int n ∧ inRange 1 top30 v1 = true ∧ inRange 1 n v2 = false ∧ E (.ref CS) none H)
theorem okX_older_list {f g1 g2 g3 g4 : Addr} {fd d1 d2 d3 d4 : FuncData} (F : Fun K "older_list" "older_list" sOlderList f fd) (GXCheckSize : FnOk P w K mg base (L2.CX P w) 3 g1 d1 ["size"] (spCheckSizeX K CS)) (ACheckSize : At K mg "check_size" g1 d1 ["size"])
    (GXCheckOlder : FnOk P w K mg base (L2.CX P w) 3 g2 d2 ["size", "older"] (spCheckOlderX K CS)) (ACheckOlder : At K mg "check_older" g2 d2 ["size", "older"])
    (GPeaks : FnOk P w K mg base CX0 4 g3 d3 ["size"] spTops) (APeaks : At K mg "peaks" g3 d3 ["size"])
    (GNodesWithin : FnOk P w K mg base CX0 4 g4 d4 ["size", "begin", "end"] spWithin) (ANodesWithin : At K mg "nodes_within" g4 d4 ["size", "begin", "end"]) (z_len : mg "len" = none) : FnOk P w K mg base (L2.CX P w) 5 f fd ["size", "older"] (spOlderX K CS) := by
  refine F.okX scOlderList (fun vs H Q E h => ?_) (fun cdv A outer s H vs Q E hr h => ?_)
  · obtain ⟨_, _, _, _, rfl, _⟩ := h
    rfl
  obtain ⟨v1, v2, t1, t2, rfl, h1, h2, q⟩ := h
  refine ⟨_, (pss_cons (ps_expr (pe_callS GXCheckSize (hr.mono (by decide)) rfl ACheckSize.m ACheckSize.kp ACheckSize.b (fun σ => passAt (takes_of rfl rfl rfl rfl) σ) (pa_cons (pv 0) pa_nil)))
    (pss_cons (ps_expr (pe_callS GXCheckOlder (hr.mono (by decide)) rfl ACheckOlder.m ACheckOlder.kp ACheckOlder.b (fun σ => passAt (takes_of rfl rfl rfl rfl) σ) (pa_cons (pv 0) (pa_cons (pv 1) pa_nil))))
    (pss_cons (ps_if (pt_cmpR op_eq (pv 1) (pv 0) (nomark _))
    (pss_one (ps_ret (pe_lst pa_nil)))
    pss_nil)
    (pss_cons (ps_set (i := 2) scOlderList.nd rfl (Or.inl rfl) (pe_call GPeaks (hr.mono (by decide)) rfl APeaks.m APeaks.kp APeaks.b .nil pass0 (pa_cons (pv 1) pa_nil)))
    (pss_cons (ps_if (pt_cmpR op_eq (pe_callB call_len_seq (by rfl) z_len PySem.boot_len (pa_cons (pv 2) pa_nil)) pe_int (nomark _))
    (pss_one (ps_set (i := 2) scOlderList.nd rfl (Or.inl rfl) (pe_lst pa_nil)))
    pss_nil)
    (pss_one (ps_ret (pe_op op_cat (pv 2) (pe_call GNodesWithin (hr.mono (by decide)) rfl ANodesWithin.m ANodesWithin.kp ANodesWithin.b .nil pass0 (pa_cons (pv 0) (pa_cons (pv 1) (pa_cons (pv 0) pa_nil)))))))))))), ?_⟩
  rcases q with ⟨e, q⟩ | ⟨n, rfl, e, e2, q⟩
  · exact ⟨_, rfl, v1, t1, rfl, h1, .inr ⟨e, q⟩⟩
  · exact ⟨_, rfl, _, t1, rfl, h1, .inl ⟨e, _, rfl, _, rfl, n, v2, t2, rfl, h2, .inr ⟨e2, q⟩⟩⟩
theorem okX_older_count {f g1 : Addr} {fd d1 : FuncData} (F : Fun K "older_count" "older_count" sOlderCount f fd) (GXOlderList : FnOk P w K mg base (L2.CX P w) 5 g1 d1 ["size", "older"] (spOlderX K CS)) (AOlderList : At K mg "older_list" g1 d1 ["size", "older"]) (z_len : mg "len" = none) :
    FnOk P w K mg base (L2.CX P w) 6 f fd ["size", "older"] (spOlderX K CS) := by
  refine F.okX scOlderCount (fun vs H Q E h => ?_) (fun cdv A outer s H vs Q E hr h => ?_)
  · obtain ⟨_, _, _, _, rfl, _⟩ := h
    rfl
  obtain ⟨v1, v2, t1, t2, rfl, q⟩ := h
  refine ⟨_, (pss_one (ps_ret (pe_callB call_len_seq (by rfl) z_len PySem.boot_len (pa_cons (pe_callS GXOlderList (hr.mono (by decide)) rfl AOlderList.m AOlderList.kp AOlderList.b (fun σ => passAt (takes_of rfl rfl rfl rfl) σ) (pa_cons (pv 0) (pa_cons (pv 1) pa_nil))) pa_nil)))), ?_⟩
  exact ⟨_, rfl, _, rfl, v1, v2, t1, t2, rfl, q⟩
def spLongestX (K : PySem.W.Frag) (CS : Addr) : Sp := fun vs H Q E => ∃ (v1 : V) (t1 : String), vs = [v1] ∧ Pl K H v1 t1 ∧ inRange 1 top30 v1 = false ∧ E (.ref CS) none H
theorem okX_longest_older {f g1 g2 : Addr} {fd d1 d2 : FuncData} (F : Fun K "longest_older" "longest_older" sLongestOlder f fd) (GXCheckSize : FnOk P w K mg base (L2.CX P w) 3 g1 d1 ["size"] (spCheckSizeX K CS)) (ACheckSize : At K mg "check_size" g1 d1 ["size"])
    (GOlderCount : FnOk P w K mg base CX0 6 g2 d2 ["size", "older"] spOlderCount) (AOlderCount : At K mg "older_count" g2 d2 ["size", "older"]) :
    FnOk P w K mg base (L2.CX P w) 7 f fd ["size"] (spLongestX K CS) := by
  refine F.okX scLongestOlder (fun vs H Q E h => ?_) (fun cdv A outer s H vs Q E hr h => ?_)
  · obtain ⟨_, _, rfl, _⟩ := h
    rfl
  obtain ⟨v1, t1, rfl, h1, e, q⟩ := h
  refine ⟨_, (pss_cons (ps_expr (pe_callS GXCheckSize (hr.mono (by decide)) rfl ACheckSize.m ACheckSize.kp ACheckSize.b (fun σ => passAt (takes_of rfl rfl rfl rfl) σ) (pa_cons (pv 0) pa_nil)))
    (pss_cons (ps_set (i := 1) scLongestOlder.nd rfl (Or.inl rfl) (pe_ifExp (pt_cmpR op_gt (pv 0) pe_int (nomark _)) pe_int pe_int))
    (pss_one (ps_ret (pe_tup (pa_cons (pe_call GOlderCount (hr.mono (by decide)) rfl AOlderCount.m AOlderCount.kp AOlderCount.b .nil pass0 (pa_cons (pv 0) (pa_cons (pv 1) pa_nil))) (pa_cons (pv 1) pa_nil))))))), ?_⟩
  exact ⟨_, rfl, v1, t1, rfl, h1, .inr ⟨e, q⟩⟩
end
end LT

namespace LT
open PySem PySem.Spec PyProof.Rows L2
/-! ### promises of defs that show things: what is being shown around them is told to be nothing -/
structure GOk (P : Program) (w : World) (K : PySem.W.Frag) (mg : Str → Option Value) (base : Heap) (k : Nat) (f : Addr) (fd : FuncData) (ps : List Str) (sp : Sp) : Prop where
  len : ∀ vs H Q E, sp vs H Q E → vs.length = ps.length
  run : ∀ (A : Around) (outer : List Env) (s : Shared) (H : Hp) (args : Args) (us : List Value) (vs : List V) (Q : VK), A.guards = some [] → Room k A → Env0 P w K mg base A outer s H → BindsTo s fd args (ps.zip us) → Vals vs us → sp vs H Q E0 →
    codeAny (model P w) A (.call (.ref f) args) (CR CX0 outer P w H s Q E0) s
section
variable {P : Program} {w : World} {K : PySem.W.Frag} {mg : Str → Option Value} {base : Heap} {k : Nat} {f : Addr} {fd : FuncData} {ps : List Str} {sp : Sp}
theorem GOk.of (F : FnOk P w K mg base CX0 k f fd ps sp) : GOk P w K mg base k f fd ps sp := by
  refine ⟨F.len, ?_⟩
  intro A outer s H args us vs Q _
  exact F.run A outer s H args us vs Q E0
theorem GOk.mono {j : Nat} (F : GOk P w K mg base j f fd ps sp) (h : j ≤ k) : GOk P w K mg base k f fd ps sp := by
  refine ⟨F.len, ?_⟩
  intro A outer s H args us vs Q hg hr
  exact F.run A outer s H args us vs Q hg (hr.mono h)
/-- a def by its body, as Fun.ok -/
theorem okG {x qual : Str} {st : Stmt} {N : List Str} (F : Fun K x qual st f fd) (S : FnScope N ps (defScope st)) (len : ∀ vs H Q E, sp vs H Q E → vs.length = ps.length)
    (body : ∀ (cdv : Value) (A : Around) (outer : List Env) (s : Shared) (H : Hp) (vs : List V) (Q : VK), A.guards = some [] → Room k (A.deeper (envOfC qual (defScope st) s.heap.objs.size f cdv)) → sp vs H Q E0 →
      ∃ t, PSs (cxOf CX0 P w K mg base N qual (defScope st) f cdv A outer s H E0).nox (defBody st) t ∧ t { nx := fun _ H' => Q .non H', rt := Q } (start N vs) H) : GOk P w K mg base (k + 1) f fd ps sp := by
  obtain ⟨oc, od, kV, doc, pm, an, cdv, ct, osl, e, lk, hcd⟩ := F.ex
  subst e
  refine ⟨len, ?_⟩
  intro A outer s H args us vs Q hg hr ev hb rv hsp
  have nvs := len _ _ _ _ hsp
  have there : K.In s.heap := ev.mod.kin.keeps (fun b o q => (ev.bs b o q).1)
  have noLim : s.heap.NoLimit := ev.mod.nolimit.keeps (fun b o q => (ev.bs b o q).1)
  have kinds : ∀ y ∈ ps.zip us, (defScope st).names.lookup y.1 = some .local ∨ ((defScope st).names.lookup y.1 = some .cell ∧ ((cellsFrom (s.heap.objs.size + 1) (defScope st).names []).lookup y.1).isSome = true) := by
    intro y hy
    rcases S.par y.1 (List.of_mem_zip hy).1 with q | q
    · exact Or.inl q
    · exact Or.inr ⟨q, PySem.W.cellsFrom_some _ _ _ (Or.inl q)⟩
  apply codeAny_call_function hr.depth (there _ _ lk) rfl S.co S.gen rfl (PySem.W.codeRec_of there hcd)
  apply hb
  apply wpAny_newFunctionEnv_cells S.kind kinds
  intro env he s1 made
  subst he
  refine ⟨noLim.keeps made.toInCall.keep, codeAny_func ?_⟩
  obtain ⟨t, ht, hq⟩ := body cdv A outer s H vs Q hg (hr.deeper _) hsp
  have I : Inv (cxOf CX0 P w K mg base N qual (defScope st) f cdv A outer s H E0) [] (start N vs) H s1 := inv_start S hr.hd ev nvs rv made
  have ran := ht.nox.run [] s1 (start N vs) H _ I hq
  apply wpAny_mono ran
  · intro fl s' hs
    have fin : ∀ {σ' : L2.St} {H' : Hp} {v : V} {u : Value}, Inv (cxOf CX0 P w K mg base N qual (defScope st) f cdv A outer s H E0) [] σ' H' s' → RelV v u → Q v H' → CE outer P w H s Q u s' := by
      intro σ' H' v u J r q
      exact ⟨v, H', J.os, J.bare, J.base, J.hok, r, q⟩
    match fl, hs with
    | .ret u, ⟨v, σ', H', J, r, q⟩ => exact fin J r q
    | .next, ⟨σ', H', J, q⟩ => exact fin (v := V.non) (u := Value.none) J rfl q
    | .brk, ⟨_, _, _, q⟩ => exact False.elim q
    | .cont, ⟨_, _, _, q⟩ => exact False.elim q
  · intro e s' hs
    exact hs
end
section
variable {X : Cx} {k : Nat} {f : Addr} {fd : FuncData} {ps : List Str} {sp : Sp} {x : Str} {p pos : Pos} {e : Expr} {es : List Expr} {t : TA}
theorem runG {pins : List (Addr × Obj)} {σ : L2.St} {H : Hp} {s : Shared} {Q : VK} {us : List Value} {vs : List V} (F : GOk X.prog X.w X.K X.mg X.base k f fd ps sp) (hg : X.A.guards = some []) (hr : Room k X.A) (hb : Binds X.K fd ps [])
    (I : Inv X pins σ H s) (rv : Vals vs us) (h : sp vs H Q E0) : wpAny (model X.prog X.w) X.A (call (.ref f) us) (EP X pins σ Q) X.xe s := by
  have n : (us ++ []).length = ps.length := by
    rw [List.append_nil, ← rv.length]
    exact F.len _ _ _ _ h
  have b := hb s us I.kIn n
  rw [List.append_nil] at b
  apply wpAny_call
  apply codeAny_mono (F.run X.A X.stack s H ⟨us, []⟩ us vs Q hg hr I.env0 b rv h)
  intro res s' hq
  match res, hq with
  | .error _, hq => exact False.elim hq
  | .ok (.ret u), hq => exact I.after hq
  | .ok .next, hq => exact False.elim hq
  | .ok .brk, hq => exact False.elim hq
  | .ok .cont, hq => exact False.elim hq
theorem pe_callG (F : GOk X.prog X.w X.K X.mg X.base k f fd ps sp) (hgd : X.A.guards = some []) (hr : Room k X.A) (hg : Gl X x) (hm : X.mg x = some (.ref f)) (hk : PySem.W.keepIn X.K (.ref f) = true) (hb : Binds X.K fd ps [])
    (ha : PA X (e :: es) t) (hdb : (x == ("__debug__" : Str)) = false := by decide) (he : starEach (e :: es) X.env = (false, eval e X.env) :: starEach es X.env := by rfl) (hpl : (backTo pos (starEach es X.env)).any (·.1) = false := by rfl) :
    PE X (.Call (.Name x p) (e :: es) [] pos) (tCall sp [] E0 t) := by
  constructor
  intro pins s σ H Q I h
  apply wpAny_Call_Name_kw
  refine ld_glob I hg hm ?_ hdb
  apply PySem.W.callWith_K (h₀ := X.base) I.ok.mod.kin hk _ he hpl
  apply thn (ha.run pos pins s σ H _ I h)
  intro us s1 hh
  obtain ⟨vs, H1, I1, rv, q⟩ := hh
  rw [List.append_nil] at q
  exact ⟨I1.kIn, runG F hgd hr hb I1 rv q⟩
/-- repr of lists and tuples of plain data -/
theorem call_repr (hg : X.A.guards = some []) (hu : X.A.units + 65 < cLine) :
    CallR X (.builtin "repr") (fun xs H Q => ∃ y d, xs = [y] ∧ Dp X.K H y d ∧ PyProof.Rows.isDisplay d = true ∧ SeqAt.shaped d = true ∧ d.showable = true ∧ d.shown.length ≤ sizeLine ∧ Q (.str d.shown) H) := by
  intro pins s σ H xs us Q I r h
  obtain ⟨y, d, rfl, hd, hi, hsh, hs, hl, q⟩ := h
  obtain ⟨u, rfl, r1⟩ := vals1 r
  obtain ⟨as, r2⟩ := Dp.reads I d y u hd r1
  obtain ⟨a, rfl⟩ := PyProof.Rows.isRef_of_reads r2 hi
  have dp := SeqAt.depth_of_shaped hsh
  refine repr_of_reads' r2 hs (PyData.noDict_hsm (PyData.hasDict_of_canLay d (SeqAt.canLay_of_shaped hsh))) hg (by omega) (fun _ _ q => q) ?_ hl
  intro h' u tk kept
  exact ⟨.str d.shown, H, I.kept kept, ⟨_, rfl⟩, q⟩
theorem call_reprB {s : Shared} {H : Hp} {sc : Scope} {ce : Env} {fp : List Addr} (hg : X.A.guards = some []) (hu : X.A.units + 65 < cLine) :
    CallR (X.blk s H sc ce fp) (.builtin "repr") (fun xs H Q => ∃ y d, xs = [y] ∧ Dp X.K H y d ∧ PyProof.Rows.isDisplay d = true ∧ SeqAt.shaped d = true ∧ d.showable = true ∧ d.shown.length ≤ sizeLine ∧ Q (.str d.shown) H) := call_repr (X := X.blk s H sc ce fp) hg hu
end
end LT

namespace LT
open PySem PySem.Spec PyProof.Rows L2
section
variable {P : Program} {w : World} {K : PySem.W.Frag} {mg mb : Str → Option Value} {k : Nat} {fa a : Addr} {fd : FuncData} {x : Str} {sp : Sp} {s₁ : Shared} {vs : List Value} {ns : List Int}
/-- what is told of the heap ahead of the law's call: the script alone, where it is no object of the top -/
def told (K : PySem.W.Frag) (a : Addr) (ob : Obj) (ns : List Int) : Hp := fun b => if b = a ∧ K.lookup a = none then some (.frz ob (.lst (ns.map V.int))) else none
theorem told_at {ob : Obj} {b : Addr} {u : HO} (h : told K a ob ns b = some u) : b = a ∧ K.lookup a = none ∧ u = .frz ob (.lst (ns.map V.int)) := by
  unfold told at h
  by_cases c : b = a ∧ K.lookup a = none
  · rw [if_pos c] at h
    exact ⟨c.1, c.2, (Option.some.inj h).symm⟩
  · rw [if_neg c] at h
    cases h
/-- the law's call, from a promise that asks that nothing is being shown -/
theorem lawG (there : K.In s₁.heap) (globs : s₁.heap.Ns mainGlobals mg) (blts : s₁.heap.Ns builtinsNs mb) (boot : ∀ y : Str, y ≠ "__name__" → mb y = bootBuiltins y) (noLim : s₁.heap.NoLimit) (noGens : s₁.gens = #[])
    (obj : s₁.heap.get? a = some { cls := .type "list", data := .seq vs.toArray }) (areI : IntsAre vs ns) (few : ns.length ≤ sizeLine) (hr : Room k callerA)
    (F : ∀ base : Heap, K.In base → base.Ns mainGlobals mg → GOk P w K mg base k fa fd [x] sp) (binds : ∀ (s : Shared) (u : Value), BindsTo s fd ⟨[u], []⟩ [(x, u)])
    (keeps : ∀ H : Hp, Only H → SqL K H a (ns.map V.int) → sp [.ref a] H (fun v _ => v = .bl true) E0) :
    codeAny (model P w) callerA (.call (.ref fa) ⟨[.ref a], []⟩) (fun r s' => r = .ok (.ret (.bool true)) ∧ OldK s₁.heap s'.heap ∧ s'.os = s₁.os ∧ AllBare s'.gens) s₁ := by
  generalize ho : ({ cls := .type "list", data := .seq vs.toArray } : Obj) = ob at obj
  have items := vals_ints areI
  have only : Only (told K a ob ns) := by
    intro b
    cases q : told K a ob ns b with
    | none => exact Or.inl rfl
    | some u => exact Or.inr ⟨ob, ns.map V.int, by rw [(told_at q).2.2]⟩
  have sq : SqL K (told K a ob ns) a (ns.map V.int) := by
    cases q : K.lookup a with
    | none => exact Or.inl (Or.inr ⟨ob, if_pos ⟨rfl, q⟩⟩)
    | some o =>
      have same : o = ob := Option.some.inj ((there a o q).symm.trans obj)
      subst same
      subst ho
      refine Or.inr ⟨_, vs.toArray, _, q, rfl, rfl, rfl, ?_, by simpa using items⟩
      rw [List.size_toArray, areI.length]
      exact few
  have fits : HOk P w (told K a ob ns) s₁.heap := by
    intro b u q
    obtain ⟨rfl, _, rfl⟩ := told_at q
    subst ho
    exact ⟨obj, by rw [List.length_map]; exact few, vs, _, items, obj⟩
  have behind : ∀ {b : Addr} {o : Obj}, s₁.heap.get? b = some o → told K a ob ns b = none → (hidT s₁.heap (told K a ob ns)).get? b = some o := fun q n => hidT_get q n
  have nsp : ∀ {b : Addr} {m : Str → Option Value}, s₁.heap.Ns b m → (hidT s₁.heap (told K a ob ns)).Ns b m := by
    rintro b m ⟨o, es, ep, q, d, r⟩
    refine ⟨o, es, ep, behind q ?_, d, r⟩
    cases z : told K a ob ns b with
    | none => rfl
    | some u =>
      obtain ⟨rfl, _, _⟩ := told_at z
      rw [obj] at q
      cases q
      subst ho
      cases (show Data.seq vs.toArray _ = Data.dict es ep from d)
  have inB : K.In (hidT s₁.heap (told K a ob ns)) := by
    intro b o q
    refine behind (there b o q) ?_
    cases z : told K a ob ns b with
    | none => rfl
    | some u =>
      obtain ⟨rfl, n, _⟩ := told_at z
      rw [n] at q
      cases q
  have M : Mod K mg (hidT s₁.heap (told K a ob ns)) := by
    obtain ⟨mc, c1, c2⟩ := noLim
    exact ⟨inB, nsp globs, ⟨mb, nsp blts, boot⟩, ⟨mc, nsp c1, c2⟩⟩
  have ev : Env0 P w K mg (hidT s₁.heap (told K a ob ns)) callerA [] s₁ (told K a ob ns) :=
    { frames := rfl, mod := M, bs := fun _ _ q => of_hidT q, bsz := Nat.le_of_eq (hidT_size _ _), funs := trivial, frf := fun b q => absurd (show b ∈ ([] : List Addr) from q) List.not_mem_nil, hok := fits, bare := .of_eq noGens }
  have ran := (F _ inB (nsp globs)).run callerA [] s₁ (told K a ob ns) ⟨[.ref a], []⟩ [.ref a] [.ref a] _ rfl hr ev (binds s₁ (.ref a)) (.cons rfl .nil) (keeps _ only sq)
  apply codeAny_mono ran
  intro res s' h
  match res, h with
  | .error _, h => exact False.elim h
  | .ok .next, h => exact False.elim h
  | .ok .brk, h => exact False.elim h
  | .ok .cont, h => exact False.elim h
  | .ok (.ret u), ⟨v, H', os, bare, un, hok', rv, q⟩ =>
    have qv : v = .bl true := q
    subst qv
    have qu : u = Value.bool true := rv
    subst qu
    refine ⟨rfl, OldK.of_keep ?_, os, bare⟩
    intro b o q1
    cases z : told K a ob ns b with
    | none => exact un.keep b o q1 z (fun m => absurd (show b ∈ ([] : List Addr) from m) List.not_mem_nil) List.not_mem_nil
    | some c =>
      obtain ⟨rfl, n, rfl⟩ := told_at z
      obtain ⟨e1, _⟩ := fits _ _ z
      obtain ⟨e2, _⟩ := hok' _ _ (un.frzs _ _ _ z)
      rw [q1] at e1
      cases e1
      exact e2
end
theorem walkG {l : PySem.W.OpenLaw} {n k : Nat} {q : Program} {loose : List Str} {XP : (Str → Option Value) → Heap → Prop} {YP : World → Heap → Prop} {d : DefRec} {K : Params → PySem.W.Frag} {sp : World → Sp} {x : Str}
    (hn : l.most = some n) (hn2 : n ≤ sizeLine) (hdf : d.params.defaults = []) (hr : Room k callerA) (hY : ∀ (w : World) (h : Heap), YP w h → (K w.params).In h)
    (F : ∀ (w : World) (mg : Str → Option Value) (fa : Addr) (h : Heap), (K w.params).In h → h.Ns mainGlobals mg → mg d.name = some (.ref fa) →
      ∃ fd : FuncData, (∀ (s : Shared) (u : Value), BindsTo s fd ⟨[u], []⟩ [(x, u)]) ∧ ∀ base : Heap, (K w.params).In base → base.Ns mainGlobals mg → GOk l.prog w (K w.params) mg base k fa fd [x] (sp w))
    (keeps : ∀ (w : World) (H : Hp) (a : Addr) (ns : List Int), ns.length ≤ n → Only H → SqL (K w.params) H a (ns.map V.int) → sp w [.ref a] H (fun v _ => v = .bl true) E0) :
    PySem.W.WalkO q loose XP YP l.row.toRowW d [] (fun f vs => PySem.call f vs) := by
  apply Att.attach_call hn hdf
  intro w s₀ s₁ mg mb fa o pm cd doc a vs ns G Y ho hd hcd hmg hobj hints hlen hg
  obtain ⟨fd, hb, hF⟩ := F w mg fa _ (hY w _ Y) G.T.g hmg
  exact lawG (hY w _ Y) G.T.g G.T.b G.T.builtins G.T.nolimit hg hobj hints (Nat.le_trans hlen hn2) hr hF hb (fun H hO hS => keeps w H a ns hlen hO hS)
end LT

namespace LT
open PySem PySem.Spec PyProof.Rows L2
theorem ne_no {x y : V} (h : x = y) : V.bl (!decide (x = y)) = V.bl false := by rw [decide_eq_true h]; rfl
theorem Sm.pl {K : PySem.W.Frag} {H : Hp} {v : V} {d : PyData} (h : Sm H v d) : ∃ t, Pl K H v t := by
  cases h with
  | non => exact ⟨_, .non⟩
  | bl b => exact ⟨_, .bl b⟩
  | int i => exact ⟨_, .int i⟩
  | str x => exact ⟨_, .str x⟩
  | lst e => exact ⟨_, .lst e⟩
  | tup e => exact ⟨_, .tup e⟩
  | dict e => exact ⟨_, .dict e⟩
def okShow (ds : List PyData) : Prop := (PyData.hasDictAll ds = true → ds.all noL = true) ∧ (PyData.list ds).showable = true ∧ (PyData.list ds).shown.length ≤ sizeLine
/-- what the top says of a class of errors that is caught: L is LogError -/
structure CK (K : PySem.W.Frag) (Cs : List Addr) (L C : Addr) (nm : Str) : Prop where
  e : ExcC K C
  kt : ∃ bs, Kit K C Cs bs ∧ ((clsNames.zip bs).filter fun x => x.2).map (fun x => x.1) = [nm]
  v : PySem.W.kitOne K (.ref C) (.type "ValueError") = some true
  n1 : nm ≠ "spans"
  n2 : nm ≠ "nodes"
  n3 : nm ≠ "bounds"
  n4 : nm ≠ "text"
  n5 : nm ≠ "over"
  ap : nm ++ ("" : Str) = nm
  ln : nm.length ≤ 100
  x : PySem.W.exmOne K (.ref C) (.ref L) = some true
/-- what a call ends with -/
def Out (door : Nat) (v1 v2 : V) (nm : Str) : Prop :=
  (nm = "size" ∧ inRange 1 top30 v1 = false) ∨ (door ≤ 1 ∧ nm = "size" ∧ ∃ n : Int, v1 = .int n ∧ inRange 1 top30 v1 = true ∧ inRange 1 n v2 = false) ∨ (nm = "fine" ∧ ∃ n e : Nat, v1 = .int n ∧ v2 = .int e ∧ 1 ≤ e ∧ e ≤ n ∧ n ≤ 10 ^ 30)
def spLawTold : Sp := fun vs H Q _ => ∃ (door : Nat) (v1 v2 : V) (d1 d2 : PyData) (nm : Str), vs = [.int door, v1, v2] ∧ door ≤ 2 ∧ Sm H v1 d1 ∧ Sm H v2 d2 ∧ okShow [d1, d2] ∧ Out door v1 v2 nm ∧ ∀ H', Same H H' → Q (.str nm) H'
section
variable {P : Program} {w : World} {K : PySem.W.Frag} {mg : Str → Option Value} {base : Heap} {CS CLogError : Addr} {Cs : List Addr}
theorem ok_law_told {f g0 g1 g2 g3 : Addr} {fd d0 d1 d2 d3 : FuncData} (F : Fun K "_law_told" "_law_told" sLawTold f fd) (XLogError : GF mg "LogError" CLogError) (KS : CK K Cs CLogError CS "size")
    (GXOlderList : FnOk P w K mg base (L2.CX P w) 5 g0 d0 ["size", "older"] (fun vs H Q E => spOlderList vs H Q E ∨ spOlderX K CS vs H Q E)) (AOlderList : At K mg "older_list" g0 d0 ["size", "older"])
    (GXOlderCount : FnOk P w K mg base (L2.CX P w) 6 g1 d1 ["size", "older"] (fun vs H Q E => spOlderCount vs H Q E ∨ spOlderX K CS vs H Q E)) (AOlderCount : At K mg "older_count" g1 d1 ["size", "older"])
    (GXLongestOlder : FnOk P w K mg base (L2.CX P w) 7 g2 d2 ["size"] (fun vs H Q E => spLongest vs H Q E ∨ spLongestX K CS vs H Q E)) (ALongestOlder : At K mg "longest_older" g2 d2 ["size"])
    (GLawToldKind : FnOk P w K mg base CX0 2 g3 d3 ["e"] (spToldKind K Cs)) (ALawToldKind : At K mg "_law_told_kind" g3 d3 ["e"]) (z_repr : mg "repr" = none) : GOk P w K mg base 8 f fd ["door", "one", "two"] spLawTold := by
  refine okG F scLawTold (fun vs H Q E h => ?_) (fun cdv A outer s H vs Q hg hr h => ?_)
  · obtain ⟨_, _, _, _, _, _, rfl, _⟩ := h
    rfl
  obtain ⟨door, v1, v2, d1, d2, nm, rfl, hw, h1, h2, hshow, ho, q⟩ := h
  refine ⟨_, (pss_cons (ps_par (i := 3) (j := 4) (by rfl) scLawTold.nd rfl rfl (by decide) rfl rfl (pa_cons (pe_callB (call_reprN hg (units1 hr)) (by rfl) z_repr (by decide +kernel) (pa_cons (pe_lstN (pa_cons (pv 1) (pa_cons (pv 2) pa_nil))) pa_nil)) (pa_cons pe_non pa_nil)) (by rfl))
    (pss_cons (ps_try_keep (i := 5) rfl rfl rfl scLawTold.nd rfl rfl ⟨rfl, by decide, .inl XLogError.g⟩ takes0 (fun W pn xe tk _ => (pss_one (ps_if (pt_cmpR op_eq (pv 0) pe_int (nomark _))
    (pss_one (ps_expr (pe_callS GXOlderList (hr.mono (by decide)) rfl AOlderList.m AOlderList.kp AOlderList.b (fun σ => passAt tk σ) (pa_cons (pv 1) (pa_cons (pv 2) pa_nil)))))
    (pss_one (ps_if (pt_cmpR op_eq (pv 0) pe_int (nomark _))
    (pss_one (ps_expr (pe_callS GXOlderCount (hr.mono (by decide)) rfl AOlderCount.m AOlderCount.kp AOlderCount.b (fun σ => passAt tk σ) (pa_cons (pv 1) (pa_cons (pv 2) pa_nil)))))
    (pss_one (ps_expr (pe_callS GXLongestOlder (hr.mono (by decide)) rfl ALongestOlder.m ALongestOlder.kp ALongestOlder.b (fun σ => passAt tk σ) (pa_cons (pv 1) pa_nil))))))))) (fun a oe cls d pn _ _ => (pss_one (ps_set (i := 4) scLawTold.nd rfl (Or.inl rfl) (pv 5)))))
    (pss_cons (ps_if (pt_cmpR op_ne (pe_callB (call_reprN hg (units1 hr)) (by rfl) z_repr (by decide +kernel) (pa_cons (pe_lstN (pa_cons (pv 1) (pa_cons (pv 2) pa_nil))) pa_nil)) (pv 3) (nomark _))
    (pss_one (ps_ret pe_str))
    pss_nil)
    (pss_one (ps_ret (pe_ifExp (pt_cmpR op_isN (pv 4) pe_non (nomark _)) pe_str (pe_call GLawToldKind (hr.mono (by decide)) rfl ALawToldKind.m ALawToldKind.kp ALawToldKind.b .nil pass0 (pa_cons (pv 4) pa_nil)))))))), ?_⟩
  have two : 2 ≤ sizeLine := by decide
  refine ⟨_, rfl, _, rfl, two, fun l nl hl => ?_⟩
  have s1 := same_upd (o := .lst [v1, v2]) nl
  refine ⟨l, _, [d1, d2], rfl, upd_same, hl, .cons (h1.same s1) (.cons (h2.same s1) .nil), hshow.1, hshow.2.1, hshow.2.2, _, _, rfl, ?_⟩
  generalize upd H l (.lst [v1, v2]) = H1 at s1
  have g1 := h1.same s1
  have g2 := h2.same s1
  obtain ⟨t1, p1⟩ := g1.pl (K := K)
  obtain ⟨t2, p2⟩ := g2.pl (K := K)
  have err : ∀ (G : Hp) (a : Addr), nm = "size" → Same H G → G a = some (ExK (.ref CS) none a) → spToldKind K Cs [.ref a] G Q E0 := fun G a en sG na => by
    subst en
    obtain ⟨bs, hk, hf⟩ := KS.kt
    exact ⟨a, CS, bs, _, rfl, na, KS.e, hk, KS.v, hf, KS.n1, KS.n2, KS.n3, KS.n4, KS.n5, KS.ap, KS.ln, fun H' s' => q H' (sG.trans s')⟩
  have w3 : door = 0 ∨ door = 1 ∨ door = 2 := by omega
  rcases w3 with rfl | rfl | rfl
  · rcases ho with ⟨en, e⟩ | ⟨hd, en, n, e0, e, e2⟩ | ⟨en, n, e, e1, e2, hb, he, h30⟩
    · refine ⟨_, rfl, rfl, true, rfl, _, rfl, _, rfl, .inr ⟨v1, v2, t1, t2, rfl, p1, p2, .inl ⟨e, ⟨true, KS.x, fun _ a na => ⟨_, rfl, fun na2 => ⟨_, rfl, _, rfl, two, fun l2 nl2 hl2 => ?_⟩⟩, fun z => nomatch z⟩⟩⟩⟩
      have s2 := same_upd (o := ExK (.ref CS) none a) na2
      have s3 := same_upd (o := .lst [v1, v2]) nl2
      refine ⟨l2, _, [d1, d2], rfl, upd_same, hl2, .cons ((g1.same s2).same s3) (.cons ((g2.same s2).same s3) .nil), hshow.1, hshow.2.1, hshow.2.2, _, rfl, rfl, false, ne_no rfl, ?_⟩
      exact ⟨_, rfl, rfl, false, rfl, _, rfl, err _ a en (s1.trans (s2.trans s3)) (s3 _ _ upd_same)⟩
    · refine ⟨_, rfl, rfl, true, rfl, _, rfl, _, rfl, .inr ⟨v1, v2, t1, t2, rfl, p1, p2, .inr ⟨n, e0, e, e2, ⟨true, KS.x, fun _ a na => ⟨_, rfl, fun na2 => ⟨_, rfl, _, rfl, two, fun l2 nl2 hl2 => ?_⟩⟩, fun z => nomatch z⟩⟩⟩⟩
      have s2 := same_upd (o := ExK (.ref CS) none a) na2
      have s3 := same_upd (o := .lst [v1, v2]) nl2
      refine ⟨l2, _, [d1, d2], rfl, upd_same, hl2, .cons ((g1.same s2).same s3) (.cons ((g2.same s2).same s3) .nil), hshow.1, hshow.2.1, hshow.2.2, _, rfl, rfl, false, ne_no rfl, ?_⟩
      exact ⟨_, rfl, rfl, false, rfl, _, rfl, err _ a en (s1.trans (s2.trans s3)) (s3 _ _ upd_same)⟩
    · subst e1 e2
      refine ⟨_, rfl, rfl, true, rfl, _, rfl, _, rfl, .inl ⟨n, e, rfl, hb, he, h30, fun H2 p xs s2 np hp hx => ⟨_, rfl, _, rfl, two, fun l2 nl2 hl2 => ?_⟩⟩⟩
      have s3 := same_upd (o := .lst [.int (n : Int), .int (e : Int)]) nl2
      refine ⟨l2, _, [d1, d2], rfl, upd_same, hl2, .cons ((g1.same s2).same s3) (.cons ((g2.same s2).same s3) .nil), hshow.1, hshow.2.1, hshow.2.2, _, rfl, rfl, false, ne_no rfl, ?_⟩
      subst en
      exact ⟨_, rfl, rfl, true, rfl, q _ (s1.trans (s2.trans s3))⟩
  · rcases ho with ⟨en, e⟩ | ⟨hd, en, n, e0, e, e2⟩ | ⟨en, n, e, e1, e2, hb, he, h30⟩
    · refine ⟨_, rfl, rfl, false, rfl, _, rfl, rfl, true, rfl, _, rfl, _, rfl, .inr ⟨v1, v2, t1, t2, rfl, p1, p2, .inl ⟨e, ⟨true, KS.x, fun _ a na => ⟨_, rfl, fun na2 => ⟨_, rfl, _, rfl, two, fun l2 nl2 hl2 => ?_⟩⟩, fun z => nomatch z⟩⟩⟩⟩
      have s2 := same_upd (o := ExK (.ref CS) none a) na2
      have s3 := same_upd (o := .lst [v1, v2]) nl2
      refine ⟨l2, _, [d1, d2], rfl, upd_same, hl2, .cons ((g1.same s2).same s3) (.cons ((g2.same s2).same s3) .nil), hshow.1, hshow.2.1, hshow.2.2, _, rfl, rfl, false, ne_no rfl, ?_⟩
      exact ⟨_, rfl, rfl, false, rfl, _, rfl, err _ a en (s1.trans (s2.trans s3)) (s3 _ _ upd_same)⟩
    · refine ⟨_, rfl, rfl, false, rfl, _, rfl, rfl, true, rfl, _, rfl, _, rfl, .inr ⟨v1, v2, t1, t2, rfl, p1, p2, .inr ⟨n, e0, e, e2, ⟨true, KS.x, fun _ a na => ⟨_, rfl, fun na2 => ⟨_, rfl, _, rfl, two, fun l2 nl2 hl2 => ?_⟩⟩, fun z => nomatch z⟩⟩⟩⟩
      have s2 := same_upd (o := ExK (.ref CS) none a) na2
      have s3 := same_upd (o := .lst [v1, v2]) nl2
      refine ⟨l2, _, [d1, d2], rfl, upd_same, hl2, .cons ((g1.same s2).same s3) (.cons ((g2.same s2).same s3) .nil), hshow.1, hshow.2.1, hshow.2.2, _, rfl, rfl, false, ne_no rfl, ?_⟩
      exact ⟨_, rfl, rfl, false, rfl, _, rfl, err _ a en (s1.trans (s2.trans s3)) (s3 _ _ upd_same)⟩
    · subst e1 e2
      refine ⟨_, rfl, rfl, false, rfl, _, rfl, rfl, true, rfl, _, rfl, _, rfl, .inl ⟨n, e, rfl, hb, he, h30, fun H2 s2 => ⟨_, rfl, _, rfl, two, fun l2 nl2 hl2 => ?_⟩⟩⟩
      have s3 := same_upd (o := .lst [.int (n : Int), .int (e : Int)]) nl2
      refine ⟨l2, _, [d1, d2], rfl, upd_same, hl2, .cons ((g1.same s2).same s3) (.cons ((g2.same s2).same s3) .nil), hshow.1, hshow.2.1, hshow.2.2, _, rfl, rfl, false, ne_no rfl, ?_⟩
      subst en
      exact ⟨_, rfl, rfl, true, rfl, q _ (s1.trans (s2.trans s3))⟩
  · rcases ho with ⟨en, e⟩ | ⟨hd, en, n, e0, e, e2⟩ | ⟨en, n, e, e1, e2, hb, he, h30⟩
    · refine ⟨_, rfl, rfl, false, rfl, _, rfl, rfl, false, rfl, _, rfl, .inr ⟨v1, t1, rfl, p1, e, ⟨true, KS.x, fun _ a na => ⟨_, rfl, fun na2 => ⟨_, rfl, _, rfl, two, fun l2 nl2 hl2 => ?_⟩⟩, fun z => nomatch z⟩⟩⟩
      have s2 := same_upd (o := ExK (.ref CS) none a) na2
      have s3 := same_upd (o := .lst [v1, v2]) nl2
      refine ⟨l2, _, [d1, d2], rfl, upd_same, hl2, .cons ((g1.same s2).same s3) (.cons ((g2.same s2).same s3) .nil), hshow.1, hshow.2.1, hshow.2.2, _, rfl, rfl, false, ne_no rfl, ?_⟩
      exact ⟨_, rfl, rfl, false, rfl, _, rfl, err _ a en (s1.trans (s2.trans s3)) (s3 _ _ upd_same)⟩
    · omega
    · subst e1 e2
      refine ⟨_, rfl, rfl, false, rfl, _, rfl, rfl, false, rfl, _, rfl, .inl ⟨n, rfl, by omega, h30, fun H2 p s2 np hp => ⟨_, rfl, _, rfl, two, fun l2 nl2 hl2 => ?_⟩⟩⟩
      have s3 := same_upd (o := .lst [.int (n : Int), .int (e : Int)]) nl2
      refine ⟨l2, _, [d1, d2], rfl, upd_same, hl2, .cons ((g1.same s2).same s3) (.cons ((g2.same s2).same s3) .nil), hshow.1, hshow.2.1, hshow.2.2, _, rfl, rfl, false, ne_no rfl, ?_⟩
      subst en
      exact ⟨_, rfl, rfl, true, rfl, q _ (s1.trans (s2.trans s3))⟩
end
end LT

namespace LT
open PySem PySem.Spec PyProof.Rows L2
def Tiny (d : PyData) : Prop := d.showable = true ∧ d.shown.length ≤ 100
theorem tiny_int {i : Int} (h : i.natAbs < 10 ^ 66) : Tiny (.int i) := by
  refine ⟨decide_eq_true ?_, ?_⟩
  · by_cases z : i.natAbs = 0
    · rw [z]; decide
    · exact Nat.lt_of_lt_of_le ((Nat.log2_lt (k := 250) z).mpr (Nat.lt_of_lt_of_le h (by decide))) (by decide)
  · have e := int_text_length_le10 (a := i) (k := 66) (by decide) h
    show (Str.ofString (toString i)).length ≤ 100
    rw [PySem.ofString_length]
    omega
theorem okShow_two {a b : PyData} (ha : Tiny a) (hb : Tiny b) (h : (a.hasDict || b.hasDict) = true → noL a = true ∧ noL b = true) : okShow [a, b] := by
  refine ⟨fun z => ?_, ?_, ?_⟩
  · have z2 : (a.hasDict || (b.hasDict || false)) = true := by simpa only [PyData.hasDictAll] using z
    rw [Bool.or_false] at z2
    obtain ⟨x, y⟩ := h z2
    simp [x, y]
  · simp only [PyData.showable, PyData.showableAll, Bool.and_true, Bool.and_eq_true]
    exact ⟨ha.1, hb.1⟩
  · have e : (PyData.list [a, b]).shown.length ≤ 1 + ((a.shown.length + (b.shown.length + 0)) + 2 * 2) + 3 := by
      have h := PySem.listText_len_le [a.shown, b.shown]
      simp only [List.map_cons, List.map_nil, List.sum_cons, List.sum_nil, List.length_cons, List.length_nil] at h
      have e : (PyData.list [a, b]).shown = listText [a.shown, b.shown] := by simp only [PyData.shown, PyData.shownAll]
      rw [e]
      omega
    have := ha.2
    have := hb.2
    exact szle (by omega)
end LT

namespace LT
open PySem PySem.Spec PyProof.Rows L2
theorem strs_dp {K : PySem.W.Frag} {H : Hp} : ∀ ns : List Str, DpAll K H (ns.map V.str) (ns.map PyData.str)
  | [] => .nil
  | n :: ns => .cons (.str n) (strs_dp ns)
theorem strs_same {ns : List Str} (h : SeqAt.shaped (.list (ns.map PyData.str)) = true) : PyData.eqv (.list (ns.map PyData.str)) (.list (ns.map PyData.str)) = true := SeqAt.eqv_refl _ (SeqAt.canLay_of_shaped h)
theorem shS3 : SeqAt.shaped (.list ((["size", "size", "size"] : List Str).map PyData.str)) = true := by decide +kernel
theorem shS2 : SeqAt.shaped (.list ((["size", "size"] : List Str).map PyData.str)) = true := by decide +kernel
theorem shF3 : SeqAt.shaped (.list ((["fine", "fine", "fine"] : List Str).map PyData.str)) = true := by decide +kernel
/-- a value that is no integer from 1 to hi -/
def Bd (H : Hp) (hi : Int) (v : V) : Prop := ∃ d, Sm H v d ∧ Tiny d ∧ (d.hasDict = true → noL d = true) ∧ inRange 1 hi v = false
theorem Bd.same {H H' : Hp} {hi : Int} {v : V} (h : Bd H hi v) (s : Same H H') : Bd H' hi v := by
  obtain ⟨d, a, b⟩ := h
  exact ⟨d, a.same s, b⟩
theorem bd_int {H : Hp} {hi i : Int} (h : i.natAbs < 10 ^ 66) (h2 : i < 1 ∨ hi < i) : Bd H hi (.int i) := by
  refine ⟨_, .int i, tiny_int h, fun z => by simp [PyData.hasDict] at z, ?_⟩
  show (decide (1 ≤ i) && decide (i ≤ hi)) = false
  rcases h2 with h2 | h2
  · rw [decide_eq_false (by omega)]; rfl
  · rw [decide_eq_false (p := i ≤ hi) (by omega), Bool.and_false]
def odds (n1 n2 n3 : Addr) : List V := [.non, .bl true, .bl false, .str "1", .ref n1, .ref n2, .ref n3, .int 0, .int (-1), .int (10 ^ Int.toNat 64), .int (0 - 10 ^ Int.toNat 64)]
theorem bd_odds {H : Hp} {n1 n2 n3 : Addr} {hi : Int} (hh : hi ≤ 10 ^ 30) (h1 : H n1 = some (.lst [.int 1])) (h2 : H n2 = some (.tup [.int 1])) (h3 : H n3 = some (.dK [])) : ∀ v ∈ odds n1 n2 n3, Bd H hi v := by
  intro v hv
  have t64 : (10 : Int) ^ Int.toNat 64 = 10000000000000000000000000000000000000000000000000000000000000000 := by decide
  have t30 : (10 : Int) ^ 30 = 1000000000000000000000000000000 := by decide
  unfold odds at hv
  rw [t64] at hv
  simp only [List.mem_cons, List.not_mem_nil, or_false] at hv
  rcases hv with rfl | rfl | rfl | rfl | rfl | rfl | rfl | rfl | rfl | rfl | rfl
  · exact ⟨_, .non, ⟨by decide +kernel, by decide +kernel⟩, fun z => by simp [PyData.hasDict] at z, rfl⟩
  · exact ⟨_, .bl _, ⟨by decide +kernel, by decide +kernel⟩, fun z => by simp [PyData.hasDict] at z, rfl⟩
  · exact ⟨_, .bl _, ⟨by decide +kernel, by decide +kernel⟩, fun z => by simp [PyData.hasDict] at z, rfl⟩
  · exact ⟨_, .str _, ⟨by decide +kernel, by decide +kernel⟩, fun z => by simp [PyData.hasDict] at z, rfl⟩
  · exact ⟨_, .lst h1, ⟨by decide +kernel, by decide +kernel⟩, fun z => by simp [PyData.hasDict, PyData.hasDictAll] at z, rfl⟩
  · exact ⟨_, .tup h2, ⟨by decide +kernel, by decide +kernel⟩, fun _ => rfl, rfl⟩
  · exact ⟨_, .dict h3, ⟨by decide +kernel, by decide +kernel⟩, fun _ => rfl, rfl⟩
  · exact bd_int (by decide) (.inl (by decide))
  · exact bd_int (by decide) (.inl (by decide))
  · exact bd_int (by decide) (.inr (by omega))
  · exact bd_int (by decide) (.inl (by decide))
section
variable {P : Program} {w : World} {K : PySem.W.Frag} {mg : Str → Option Value} {base : Heap}
def spRight : Sp := fun vs H Q _ => ∃ (b : Addr) (c n : Nat), vs = [.ref b, .int n] ∧ ReelAt H b c ∧ c ≤ 10 ^ 6 ∧ 1 ≤ n ∧ n ≤ 10 ^ 30 ∧ ∀ (H' : Hp), But b H H' → ReelAt H' b (c + 1) → Q (.bl true) H'
theorem ok_law_right {f g1 g2 : Addr} {fd d1 d2 : FuncData} (F : Fun K "_law_right" "_law_right" sLawRight f fd)
    (GLawTold : GOk P w K mg base 8 g1 d1 ["door", "one", "two"] spLawTold) (ALawTold : At K mg "_law_told" g1 d1 ["door", "one", "two"])
    (GLawSpin : FnOk P w K mg base CX0 1 g2 d2 ["reel", "many"] spSpin) (ALawSpin : At K mg "_law_spin" g2 d2 ["reel", "many"]) (z_range : mg "range" = none) : GOk P w K mg base 9 f fd ["reel", "size"] spRight := by
  refine okG F scLawRight (fun vs H Q E h => ?_) (fun cdv A outer s H vs Q hg hr h => ?_)
  · obtain ⟨_, _, _, rfl, _⟩ := h
    rfl
  obtain ⟨b, c, n, rfl, hb, hc, n1, n30, q⟩ := h
  refine ⟨_, (pss_cons (ps_set (i := 2) scLawRight.nd rfl (Or.inl rfl) (pe_lst (pa_cons pe_non (pa_cons pe_bl (pa_cons pe_bl (pa_cons pe_str (pa_cons (pe_lst (pa_cons pe_int pa_nil)) (pa_cons (pe_tup (pa_cons pe_int pa_nil)) (pa_cons pe_dnewK (pa_cons pe_int (pa_cons (pe_un un_neg pe_int) (pa_cons (pe_op op_pow pe_int pe_int) (pa_cons (pe_op op_sub pe_int (pe_op op_pow pe_int pe_int)) pa_nil)))))))))))))
    (pss_cons (ps_for PassesOwn.never rfl (pi_list (pe_op op_cat (pv 2) (pe_lst (pa_cons (pe_op op_add (pe_op op_pow pe_int pe_int) pe_int) pa_nil)))) (pg_name (i := 3) scLawRight.nd rfl (Or.inr rfl))
    (pss_one (ps_for PassesOwn.never rfl (pi_tup (pe_tup (pa_cons pe_int (pa_cons pe_non (pa_cons (pv 3) pa_nil))))) (pg_name (i := 4) scLawRight.nd rfl (Or.inr rfl))
    (pss_one (ps_if (pt_cmpR (op_neD hr.units) (pe_lc (own := [("door", 6)]) rfl scLawRight.nd (pi_range1 (by rfl) z_range (pa_cons pe_int pa_nil)) (blkOk_by (N := ["reel", "size", "odd", "bad", "two", "early", "door"]) (sc := defScope sLawRight) (by decide +kernel)) (fun _ _ _ _ _ => (pg_name (i := 6) scLawRight.nd rfl (Or.inl rfl))) (fun _ _ _ _ _ => pts_nil) (fun _ _ _ _ _ => (pe_callG GLawTold hg (hr.mono (by decide)) rfl ALawTold.m ALawTold.kp ALawTold.b (pa_cons (pv 6) (pa_cons (pv 3) (pa_cons (pv 4) pa_nil)))))) (pe_op op_rep (pe_lst (pa_cons pe_str pa_nil)) pe_int) (nomark _))
    (pss_one (ps_ret pe_bl))
    pss_nil)))))
    (pss_cons (ps_for PassesOwn.never rfl (pi_list (pe_op op_cat (pv 2) (pe_lst (pa_cons (pe_op op_add (pv 1) pe_int) pa_nil)))) (pg_name (i := 3) scLawRight.nd rfl (Or.inr rfl))
    (pss_one (ps_if (pt_cmpR (op_neD hr.units) (pe_lc (own := [("door", 6)]) rfl scLawRight.nd (pi_range1 (by rfl) z_range (pa_cons pe_int pa_nil)) (blkOk_by (N := ["reel", "size", "odd", "bad", "two", "early", "door"]) (sc := defScope sLawRight) (by decide +kernel)) (fun _ _ _ _ _ => (pg_name (i := 6) scLawRight.nd rfl (Or.inl rfl))) (fun _ _ _ _ _ => pts_nil) (fun _ _ _ _ _ => (pe_callG GLawTold hg (hr.mono (by decide)) rfl ALawTold.m ALawTold.kp ALawTold.b (pa_cons (pv 6) (pa_cons (pv 1) (pa_cons (pv 3) pa_nil)))))) (pe_op op_rep (pe_lst (pa_cons pe_str pa_nil)) pe_int) (nomark _))
    (pss_one (ps_ret pe_bl))
    pss_nil)))
    (pss_cons (ps_for PassesOwn.never rfl (pi_tup (pe_tup (pa_cons pe_int (pa_cons (pv 1) (pa_cons (pe_op op_add pe_int (pe_call GLawSpin (hr.mono (by decide)) rfl ALawSpin.m ALawSpin.kp ALawSpin.b .nil pass0 (pa_cons (pv 0) (pa_cons (pv 1) pa_nil)))) pa_nil))))) (pg_name (i := 5) scLawRight.nd rfl (Or.inr rfl))
    (pss_one (ps_if (pt_cmpR (op_neD hr.units) (pe_lc (own := [("door", 6)]) rfl scLawRight.nd (pi_range1 (by rfl) z_range (pa_cons pe_int pa_nil)) (blkOk_by (N := ["reel", "size", "odd", "bad", "two", "early", "door"]) (sc := defScope sLawRight) (by decide +kernel)) (fun _ _ _ _ _ => (pg_name (i := 6) scLawRight.nd rfl (Or.inl rfl))) (fun _ _ _ _ _ => pts_nil) (fun _ _ _ _ _ => (pe_callG GLawTold hg (hr.mono (by decide)) rfl ALawTold.m ALawTold.kp ALawTold.b (pa_cons (pv 6) (pa_cons (pv 1) (pa_cons (pv 5) pa_nil)))))) (pe_op op_rep (pe_lst (pa_cons pe_str pa_nil)) pe_int) (nomark _))
    (pss_one (ps_ret pe_bl))
    pss_nil)))
    (pss_one (ps_ret pe_bl)))))), ?_⟩
  have one1 : 1 ≤ sizeLine := by decide
  have two : 2 ≤ sizeLine := by decide
  have three : 3 ≤ sizeLine := by decide
  have t30 : (10 : Int) ^ 30 = 1000000000000000000000000000000 := by decide
  refine ⟨one1, fun m1 k1 => ⟨one1, fun m2 k2 => fun m3 k3 => ⟨_, rfl, _, _, rfl, rfl, ⟨by decide, by decide, by decide⟩, _, _, rfl, rfl, ⟨by decide, by decide, by decide⟩, _, _, rfl, rfl, (by show 11 ≤ sizeLine; decide), fun od kd => ?_⟩⟩⟩
  have s1 := same_upd (o := .lst [.int 1]) k1
  have s2 := same_upd (o := .tup [.int 1]) k2
  have s3 := same_upd (o := .dK []) k3
  generalize hH0 : upd (upd (upd (upd H m1 _) m2 _) m3 _) od _ = H0
  have s4 : Same (upd (upd (upd H m1 (.lst [.int 1])) m2 (.tup [.int 1])) m3 (.dK [])) H0 := by rw [← hH0]; exact same_upd kd
  have hod : H0 od = some (.lst (odds m1 m2 m3)) := by rw [← hH0]; exact upd_same
  have sH := s1.trans (s2.trans (s3.trans s4))
  have f1 := s4 _ _ (s3 _ _ (s2 _ _ (upd_same (H := H) (a := m1) (o := .lst [.int 1]))))
  have f2 := s4 _ _ (s3 _ _ (upd_same (a := m2) (o := .tup [.int 1])))
  have f3 := s4 _ _ (upd_same (a := m3) (o := .dK []))
  have hO := fun (hi : Int) (hh : hi ≤ 10 ^ 30) => bd_odds (hi := hi) hh f1 f2 f3
  have ol : (odds m1 m2 m3).length = 11 := rfl
  generalize odds m1 m2 m3 = O at hod hO ol
  clear s1 s2 s3 s4 k1 k2 k3 kd hH0 f1 f2 f3
  -- a wrong size
  refine ⟨_, rfl, _, _, rfl, rfl, ⟨by decide, by decide, by decide⟩, _, _, rfl, rfl, one1, fun l kl => ?_⟩
  have u1 := same_upd (o := .lst [.int (10 ^ Int.toNat 30 + 1)]) kl
  refine ⟨od, l, _, _, rfl, rfl, u1 _ _ hod, upd_same, szle (by rw [ol]; show 11 + 1 ≤ 100000; decide), fun r kr => ?_⟩
  generalize hH1 : upd (upd H0 l _) r _ = H1
  have u2 : Same H0 H1 := by rw [← hH1]; exact u1.trans (same_upd kr)
  have hr1 : H1 r = some (.lst (O ++ [.int (10 ^ Int.toNat 30 + 1)])) := by rw [← hH1]; exact upd_same
  have hB1 : ∀ v ∈ O ++ [V.int (10 ^ Int.toNat 30 + 1)], Bd H1 top30 v := fun v hv => by
    rcases List.mem_append.mp hv with hv | hv
    · exact (hO top30 (by decide) v hv).same u2
    · rw [List.mem_singleton] at hv
      subst hv
      exact bd_int (by decide) (.inr (by decide))
  refine ⟨r, rfl, ⟨_, SqL.of hr1⟩, for_list (K := K) (a := r) (xs := O ++ [.int (10 ^ Int.toNat 30 + 1)]) (fun i σ H' => ∃ v3 v4 : Option V, σ = [some (.ref b), some (.int (n : Int)), some (.ref od), v3, v4, none, none] ∧ Same H1 H')
    ⟨none, none, rfl, Same.refl _⟩ (fun i σ H' _ ⟨_, _, _, s5⟩ => SqL.of (s5 _ _ hr1)) ?_ ?_⟩
  · rintro i x σ H2 hi ⟨v3, v4, rfl, sm1⟩
    obtain ⟨d, hd, td, nd, ird⟩ := (hB1 x (List.mem_of_getElem? hi)).same sm1
    refine ⟨_, rfl, three, fun t kt => ?_⟩
    have w1 := same_upd (o := .tup [.int 1, .non, x]) kt
    have ht : (upd H2 t (.tup [.int 1, .non, x])) t = some (.tup [.int 1, .non, x]) := upd_same
    generalize upd H2 t (.tup [.int 1, .non, x]) = H3 at w1 ht
    have hd3 := hd.same w1
    have hv : ∀ y ∈ [V.int 1, V.non, x], ∃ e, Sm H3 y e ∧ okShow [d, e] := by
      intro y hy
      simp only [List.mem_cons, List.not_mem_nil, or_false] at hy
      rcases hy with rfl | rfl | rfl
      · exact ⟨_, .int _, okShow_two td (tiny_int (by decide)) (fun z => ⟨nd (by simpa [PyData.hasDict] using z), rfl⟩)⟩
      · exact ⟨_, .non, okShow_two td ⟨by decide +kernel, by decide +kernel⟩ (fun z => ⟨nd (by simpa [PyData.hasDict] using z), rfl⟩)⟩
      · exact ⟨d, hd3, okShow_two td td (fun z => by rw [Bool.or_self] at z; exact ⟨nd z, nd z⟩)⟩
    refine ⟨t, rfl, ⟨_, SqT.of ht⟩, for_tup (K := K) (a := t) (xs := [.int 1, .non, x]) (fun i σ H' => ∃ v4 : Option V, σ = [some (.ref b), some (.int (n : Int)), some (.ref od), some x, v4, none, none] ∧ Same H3 H')
      ⟨v4, rfl, Same.refl _⟩ (fun i σ H' _ ⟨_, _, s5⟩ => SqT.of (s5 _ _ ht)) ?_ ?_⟩
    · rintro j y σ H4 hj ⟨v4, rfl, sm2⟩
      obtain ⟨e, he, hs⟩ := hv y (List.mem_of_getElem? hj)
      refine ⟨3, rfl, by decide, by decide, fun D nD => ?_⟩
      refine lc_range (lo := 0) (n := 3) (fun i H' => Same H4 H' ∧ H' D = some (.lst (List.replicate i (V.str "size")))) ⟨same_upd nD, upd_same⟩ ?_ ?_
      · rintro k H5 hk ⟨s5, hD⟩
        refine ⟨rfl, ?_⟩
        refine ⟨_, rfl, _, rfl, _, rfl, k, x, y, d, e, "size", congrArg (fun z => [V.int z, x, y]) (by omega), by omega, (hd3.same sm2).same s5, (he.same sm2).same s5, hs, .inl ⟨rfl, ird⟩, fun H6 s6 => ?_⟩
        refine ⟨_, s6 _ _ hD, szlt (by rw [List.length_replicate]; omega), ?_, ?_⟩
        · exact fun a o k => by rw [upd_ne (ne_of_none k nD)]; exact s6 _ _ (s5 _ _ k)
        · rw [List.replicate_succ']
          exact upd_same
      rintro H5 ⟨s5, hD⟩
      have hD : H5 D = some (.lst ((["size", "size", "size"] : List Str).map V.str)) := hD
      refine ⟨one1, fun l2 nl2 => ⟨l2, 3, _, rfl, rfl, upd_same, by decide, by decide, (by show 1 * 3 ≤ sizeLine; decide), fun p np => ?_⟩⟩
      have x1 := same_upd (o := .lst [.str "size"]) nl2
      have x2 := same_upd (o := .lst (List.replicate (Int.toNat 3) [V.str "size"]).flatten) np
      refine ⟨.list ((["size", "size", "size"] : List Str).map PyData.str), .list ((["size", "size", "size"] : List Str).map PyData.str), .lst (SqL.of (x2 _ _ (x1 _ _ hD))) (strs_dp ["size", "size", "size"]), .lst (SqL.of upd_same) (strs_dp ["size", "size", "size"]), shS3, shS3, ?_⟩
      rw [strs_same shS3]
      exact ⟨false, rfl, _, rfl, sm2.trans (s5.trans (x1.trans x2))⟩
    · rintro σ H4 ⟨v4, rfl, sm2⟩
      exact ⟨_, _, rfl, sm1.trans (w1.trans sm2)⟩
  rintro σ H2 ⟨v3, v4, rfl, sm1⟩
  have sH2 := sH.trans (u2.trans sm1)
  have hod2 := sm1 _ _ (u2 _ _ hod)
  have hO2 : ∀ v ∈ O, Bd H2 (n : Int) v := fun v hv => ((hO (n : Int) (by omega) v hv).same u2).same sm1
  clear hB1 hr1 u1 u2 hod hO kl kr hH1 sm1
  -- a wrong older size
  have nin : inRange 1 top30 (.int (n : Int)) = true := by
    show (decide (1 ≤ (n : Int)) && decide ((n : Int) ≤ top30)) = true
    have tt : top30 = 1000000000000000000000000000000 := rfl
    rw [decide_eq_true (by omega), decide_eq_true (by omega)]
    rfl
  have tn : Tiny (.int (n : Int)) := tiny_int (Nat.lt_of_le_of_lt (show ((n : Int)).natAbs ≤ 10 ^ 30 from n30) (by decide))
  refine ⟨_, rfl, _, rfl, _, _, rfl, rfl, one1, fun l kl => ?_⟩
  have u1 := same_upd (o := .lst [.int ((n : Int) + 1)]) kl
  refine ⟨od, l, _, _, rfl, rfl, u1 _ _ hod2, upd_same, szle (by rw [ol]; show 11 + 1 ≤ 100000; decide), fun r kr => ?_⟩
  generalize hH1 : upd (upd H2 l _) r _ = H3
  have u2 : Same H2 H3 := by rw [← hH1]; exact u1.trans (same_upd kr)
  have hr1 : H3 r = some (.lst (O ++ [.int ((n : Int) + 1)])) := by rw [← hH1]; exact upd_same
  have hB1 : ∀ v ∈ O ++ [V.int ((n : Int) + 1)], Bd H3 (n : Int) v := fun v hv => by
    rcases List.mem_append.mp hv with hv | hv
    · exact (hO2 v hv).same u2
    · rw [List.mem_singleton] at hv
      subst hv
      exact bd_int (Nat.lt_of_le_of_lt (show ((n : Int) + 1).natAbs ≤ 10 ^ 30 + 1 by omega) (by decide)) (.inr (by omega))
  refine ⟨r, rfl, ⟨_, SqL.of hr1⟩, for_list (K := K) (a := r) (xs := O ++ [.int ((n : Int) + 1)]) (fun i σ H' => ∃ v3 v4 : Option V, σ = [some (.ref b), some (.int (n : Int)), some (.ref od), v3, v4, none, none] ∧ Same H3 H')
    ⟨_, _, rfl, Same.refl _⟩ (fun i σ H' _ ⟨_, _, _, s5⟩ => SqL.of (s5 _ _ hr1)) ?_ ?_⟩
  · rintro i x σ H4 hi ⟨v3, v4, rfl, sm1⟩
    obtain ⟨d, hd, td, nd, ird⟩ := (hB1 x (List.mem_of_getElem? hi)).same sm1
    have hs : okShow [.int (n : Int), d] := okShow_two tn td (fun z => ⟨rfl, nd (by simpa [PyData.hasDict] using z)⟩)
    refine ⟨2, rfl, by decide, by decide, fun D nD => ?_⟩
    refine lc_range (lo := 0) (n := 2) (fun i H' => Same H4 H' ∧ H' D = some (.lst (List.replicate i (V.str "size")))) ⟨same_upd nD, upd_same⟩ ?_ ?_
    · rintro k H5 hk ⟨s5, hD⟩
      refine ⟨rfl, ?_⟩
      refine ⟨_, rfl, _, rfl, _, rfl, k, .int (n : Int), x, .int (n : Int), d, "size", congrArg (fun z => [V.int z, V.int (n : Int), x]) (by omega), by omega, .int _, hd.same s5, hs, .inr (.inl ⟨by omega, rfl, (n : Int), rfl, nin, ird⟩), fun H6 s6 => ?_⟩
      refine ⟨_, s6 _ _ hD, szlt (by rw [List.length_replicate]; omega), ?_, ?_⟩
      · exact fun a o k => by rw [upd_ne (ne_of_none k nD)]; exact s6 _ _ (s5 _ _ k)
      · rw [List.replicate_succ']
        exact upd_same
    rintro H5 ⟨s5, hD⟩
    have hD : H5 D = some (.lst ((["size", "size"] : List Str).map V.str)) := hD
    refine ⟨one1, fun l2 nl2 => ⟨l2, 2, _, rfl, rfl, upd_same, by decide, by decide, (by show 1 * 2 ≤ sizeLine; decide), fun p np => ?_⟩⟩
    have x1 := same_upd (o := .lst [.str "size"]) nl2
    have x2 := same_upd (o := .lst (List.replicate (Int.toNat 2) [V.str "size"]).flatten) np
    refine ⟨.list ((["size", "size"] : List Str).map PyData.str), .list ((["size", "size"] : List Str).map PyData.str), .lst (SqL.of (x2 _ _ (x1 _ _ hD))) (strs_dp ["size", "size"]), .lst (SqL.of upd_same) (strs_dp ["size", "size"]), shS2, shS2, ?_⟩
    rw [strs_same shS2]
    exact ⟨false, rfl, _, _, rfl, sm1.trans (s5.trans (x1.trans x2))⟩
  rintro σ H4 ⟨v3, v4, rfl, sm1⟩
  have sH4 := sH2.trans (u2.trans sm1)
  clear hB1 hr1 u1 u2 hod2 hO2 kl kr hH1 sm1 sH sH2
  -- right ones
  have b4 := hb.same sH4
  refine ⟨_, rfl, _, rfl, _, rfl, b, (n : Int), c, rfl, by omega, Nat.lt_of_le_of_lt (show ((n : Int)).natAbs ≤ 10 ^ 30 from n30) (by decide), b4, by omega, fun rr H5 rr1 k5 b5 => ⟨_, _, rfl, rfl, three, fun t kt => ?_⟩⟩
  have B5 : But b H H5 := fun a o na k => by rw [k5 a na]; exact sH4 a o k
  have w1 := same_upd (o := .tup [.int 1, .int (n : Int), .int (1 + (rr : Int))]) kt
  have ht : (upd H5 t (.tup [.int 1, .int (n : Int), .int (1 + (rr : Int))])) t = some (.tup [.int 1, .int (n : Int), .int (1 + (rr : Int))]) := upd_same
  have B6 := B5.trans (But.of (b := b) w1)
  have b6 := b5.same w1
  generalize upd H5 t (.tup [.int 1, .int (n : Int), .int (1 + (rr : Int))]) = H6 at ht B6 b6
  have hv : ∀ y ∈ [V.int 1, V.int (n : Int), V.int (1 + (rr : Int))], ∃ e : Nat, y = .int (e : Int) ∧ 1 ≤ e ∧ e ≤ n := by
    intro y hy
    simp only [List.mem_cons, List.not_mem_nil, or_false] at hy
    rcases hy with rfl | rfl | rfl
    · exact ⟨1, rfl, by omega, n1⟩
    · exact ⟨n, rfl, n1, Nat.le_refl _⟩
    · exact ⟨1 + rr, rfl, by omega, by omega⟩
  refine ⟨t, rfl, ⟨_, SqT.of ht⟩, for_tup (K := K) (a := t) (xs := [.int 1, .int (n : Int), .int (1 + (rr : Int))]) (fun i σ H' => ∃ v3 v4 v5 : Option V, σ = [some (.ref b), some (.int (n : Int)), some (.ref od), v3, v4, v5, none] ∧ Same H6 H')
    ⟨_, _, _, rfl, Same.refl _⟩ (fun i σ H' _ ⟨_, _, _, _, s5⟩ => SqT.of (s5 _ _ ht)) ?_ ?_⟩
  · rintro i x σ H7 hi ⟨v3, v4, v5, rfl, sm1⟩
    obtain ⟨e, rfl, e1, e2⟩ := hv x (List.mem_of_getElem? hi)
    have te : Tiny (.int (e : Int)) := tiny_int (Nat.lt_of_le_of_lt (show ((e : Int)).natAbs ≤ 10 ^ 30 from Nat.le_trans e2 n30) (by decide))
    have hs : okShow [.int (n : Int), .int (e : Int)] := okShow_two tn te (fun z => ⟨rfl, rfl⟩)
    refine ⟨3, rfl, by decide, by decide, fun D nD => ?_⟩
    refine lc_range (lo := 0) (n := 3) (fun i H' => Same H7 H' ∧ H' D = some (.lst (List.replicate i (V.str "fine")))) ⟨same_upd nD, upd_same⟩ ?_ ?_
    · rintro k H8 hk ⟨s5, hD⟩
      refine ⟨rfl, ?_⟩
      refine ⟨_, rfl, _, rfl, _, rfl, k, .int (n : Int), .int (e : Int), .int (n : Int), .int (e : Int), "fine", congrArg (fun z => [V.int z, V.int (n : Int), V.int (e : Int)]) (by omega), by omega, .int _, .int _, hs, .inr (.inr ⟨rfl, n, e, rfl, rfl, e1, e2, n30⟩), fun H9 s6 => ?_⟩
      refine ⟨_, s6 _ _ hD, szlt (by rw [List.length_replicate]; omega), ?_, ?_⟩
      · exact fun a o k => by rw [upd_ne (ne_of_none k nD)]; exact s6 _ _ (s5 _ _ k)
      · rw [List.replicate_succ']
        exact upd_same
    rintro H8 ⟨s5, hD⟩
    have hD : H8 D = some (.lst ((["fine", "fine", "fine"] : List Str).map V.str)) := hD
    refine ⟨one1, fun l2 nl2 => ⟨l2, 3, _, rfl, rfl, upd_same, by decide, by decide, (by show 1 * 3 ≤ sizeLine; decide), fun p np => ?_⟩⟩
    have x1 := same_upd (o := .lst [.str "fine"]) nl2
    have x2 := same_upd (o := .lst (List.replicate (Int.toNat 3) [V.str "fine"]).flatten) np
    refine ⟨.list ((["fine", "fine", "fine"] : List Str).map PyData.str), .list ((["fine", "fine", "fine"] : List Str).map PyData.str), .lst (SqL.of (x2 _ _ (x1 _ _ hD))) (strs_dp ["fine", "fine", "fine"]), .lst (SqL.of upd_same) (strs_dp ["fine", "fine", "fine"]), shF3, shF3, ?_⟩
    rw [strs_same shF3]
    exact ⟨false, rfl, _, _, _, rfl, sm1.trans (s5.trans (x1.trans x2))⟩
  rintro σ H7 ⟨v3, v4, v5, rfl, sm1⟩
  exact q _ (B6.trans (But.of (b := b) sm1)) (b6.same sm1)
end
end LT

namespace LT
open PySem PySem.Spec PyProof.Rows L2
theorem script_at {ns : List Int} {lo hi : Option Int} {i : Nat} {x : V} (h : (cutV (ns.map V.int) lo hi ++ [.int 0])[i]? = some x) : ∃ c : Int, x = .int c := by
  have m := List.mem_of_getElem? h
  rcases List.mem_append.mp m with m | m
  · unfold cutV at m
    have m2 := List.mem_of_mem_drop (List.mem_of_mem_take m)
    obtain ⟨c, _, e⟩ := List.mem_map.mp m2
    exact ⟨c, e.symm⟩
  · exact ⟨0, List.mem_singleton.mp m⟩
theorem sqSame {K : PySem.W.Frag} {H H' : Hp} {a : Addr} {xs : List V} (h : SqL K H a xs) (e : Same H H') : SqL K H' a xs :=
  h.elim (fun h => .inl (h.elim (fun h => .inl (e _ _ h)) fun ⟨o, h⟩ => .inr ⟨o, e _ _ h⟩)) fun h => .inr h
def spLaw (K : PySem.W.Frag) : Sp := fun vs H Q _ => ∃ (a : Addr) (ns : List Int), vs = [.ref a] ∧ SqL K H a (ns.map V.int) ∧ ns.length ≤ 63 ∧ ∀ H', Q (.bl true) H'
end LT

namespace LT
open PySem PySem.Spec PyProof.Rows L2
theorem turns_is (k : Int) (len : Nat) (h : 1 ≤ k) : ∃ m : Nat, m ≤ k.toNat ∧ (if (if (len : Int) < k then (len : Int) else k) > 1 then (if (len : Int) < k then (len : Int) else k) else 1) = (m : Int) := by
  refine ⟨(if (if (len : Int) < k then (len : Int) else k) > 1 then (if (len : Int) < k then (len : Int) else k) else 1).toNat, ?_, ?_⟩ <;> split <;> split <;> omega
section
variable {P : Program} {w : World} {K : PySem.W.Frag} {mg : Str → Option Value} {base : Heap}
theorem ok_law {f g1 g2 g3 g4 : Addr} {fd d1 d2 d3 d4 : FuncData} (F : Fun K "law" "law" sLaw f fd)
    (GLawWound : FnOk P w K mg base CX0 1 g1 d1 ["script", "k"] (spWound K)) (ALawWound : At K mg "_law_wound" g1 d1 ["script", "k"])
    (GLawRight : GOk P w K mg base 9 g2 d2 ["reel", "size"] spRight) (ALawRight : At K mg "_law_right" g2 d2 ["reel", "size"])
    (GLawSpin : FnOk P w K mg base CX0 1 g3 d3 ["reel", "many"] spSpin) (ALawSpin : At K mg "_law_spin" g3 d3 ["reel", "many"])
    (GLawDrawnSize : FnOk P w K mg base CX0 2 g4 d4 ["reel"] spDrawnSize) (ALawDrawnSize : At K mg "_law_drawn_size" g4 d4 ["reel"])
    (z_range : mg "range" = none) (z_len : mg "len" = none) (z_max : mg "max" = none) (z_min : mg "min" = none) : GOk P w K mg base 10 f fd ["script"] (spLaw K) := by
  refine okG F scLaw (fun vs H Q E h => ?_) (fun cdv A outer s H vs Q hg hr h => ?_)
  · obtain ⟨_, _, rfl, _⟩ := h
    rfl
  obtain ⟨a, ns, rfl, hS, h63, q⟩ := h
  refine ⟨_, (pss_cons (ps_for PassesOwn.never rfl (pi_range1 (by rfl) z_range (pa_cons (pe_callB (call_max2 rfl) (by rfl) z_max (by decide +kernel) (pa_cons pe_int (pa_cons (pe_callB (call_min2 rfl) (by rfl) z_min (by decide +kernel) (pa_cons pe_int (pa_cons (pe_callB call_len_seq (by rfl) z_len PySem.boot_len (pa_cons (pv 0) pa_nil)) pa_nil))) pa_nil))) pa_nil)) (pg_name (i := 1) scLaw.nd rfl (Or.inl rfl))
    (pss_cons (ps_set (i := 2) scLaw.nd rfl (Or.inl rfl) (pe_call GLawWound (hr.mono (by decide)) rfl ALawWound.m ALawWound.kp ALawWound.b .nil pass0 (pa_cons (pv 0) (pa_cons (pv 1) pa_nil))))
    (pss_one (ps_for PassesOwn.never rfl (pi_tup (pe_tup (pa_cons pe_int (pa_cons (pe_op op_add pe_int (pe_call GLawSpin (hr.mono (by decide)) rfl ALawSpin.m ALawSpin.kp ALawSpin.b .nil pass0 (pa_cons (pv 2) (pa_cons pe_int pa_nil)))) (pa_cons (pe_call GLawDrawnSize (hr.mono (by decide)) rfl ALawDrawnSize.m ALawDrawnSize.kp ALawDrawnSize.b .nil pass0 (pa_cons (pv 2) pa_nil)) (pa_cons (pe_op op_pow pe_int pe_int) pa_nil)))))) (pg_name (i := 3) scLaw.nd rfl (Or.inl rfl))
    (pss_one (ps_if (pt_not (pt_val (pe_callG GLawRight hg (hr.mono (by decide)) rfl ALawRight.m ALawRight.kp ALawRight.b (pa_cons (pv 2) (pa_cons (pv 3) pa_nil)))))
    (pss_one (ps_ret pe_bl))
    pss_nil))))))
    (pss_one (ps_ret pe_bl))), ?_⟩
  have four : 4 ≤ sizeLine := by decide
  obtain ⟨m, m6, em⟩ := turns_is 6 (ns.map V.int).length (by decide)
  refine ⟨_, rfl, a, _, rfl, .inl hS, _, _, rfl, _, _, rfl, ?_⟩
  refine ⟨(m : Int), congrArg (fun z => [V.int z]) em, by omega, by omega, for_range (lo := 0) (n := m) (fun i σ H' => ∃ v1 v2 v3 : Option V, σ = [some (.ref a), v1, v2, v3] ∧ Same H H') ⟨none, none, none, rfl, Same.refl _⟩ ?_ ?_⟩
  · rintro k σ H2 hk ⟨v1, v2, v3, rfl, s2⟩
    have ek : (0 : Int) + (k : Int) = ((k : Nat) : Int) := by omega
    rw [ek]
    refine ⟨_, rfl, _, rfl, a, ns, k, rfl, sqSame hS s2, by omega, fun H3 b s3 nb hb => ?_⟩
    have nb1 : H b = none := s2.free nb
    have s23 := s2.trans s3
    refine ⟨_, rfl, b, 30, _, rfl, by decide, by decide, hb, by omega, fun r1 H4 r11 k4 b4 => ⟨_, _, rfl, rfl, ?_⟩⟩
    refine ⟨_, rfl, b, _, rfl, b4, by omega, fun n0 H5 n01 n030 B5 b5 => ⟨_, _, rfl, rfl, ⟨by decide, by decide, by decide⟩, four, fun t kt => ?_⟩⟩
    have B4 : But b H H4 := fun a o na k => by rw [k4 a na]; exact s23 a o k
    have B5' := B4.trans B5
    have b5' := b5.mono (show 0 + 1 + 5 ≤ 100 by decide)
    have w1 := same_upd (o := .tup [.int 1, .int (1 + (r1 : Int)), .int (n0 : Int), .int (10 ^ Int.toNat 30)]) kt
    have ht : (upd H5 t (.tup [.int 1, .int (1 + (r1 : Int)), .int (n0 : Int), .int (10 ^ Int.toNat 30)])) t = some (.tup [.int 1, .int (1 + (r1 : Int)), .int (n0 : Int), .int (10 ^ Int.toNat 30)]) := upd_same
    have B6 := B5'.trans (But.of (b := b) w1)
    have b6 := b5'.same w1
    have tb := b5'.ne kt
    generalize upd H5 t (.tup [.int 1, .int (1 + (r1 : Int)), .int (n0 : Int), .int (10 ^ Int.toNat 30)]) = H6 at ht B6 b6
    have hv : ∀ y ∈ [V.int 1, V.int (1 + (r1 : Int)), V.int (n0 : Int), V.int (10 ^ Int.toNat 30)], ∃ e : Nat, y = .int (e : Int) ∧ 1 ≤ e ∧ e ≤ 10 ^ 30 := by
      intro y hy
      simp only [List.mem_cons, List.not_mem_nil, or_false] at hy
      rcases hy with rfl | rfl | rfl | rfl
      · exact ⟨1, rfl, by decide, by decide⟩
      · exact ⟨1 + r1, rfl, by omega, Nat.le_trans (show 1 + r1 ≤ 100 by omega) (by decide)⟩
      · exact ⟨n0, rfl, n01, n030⟩
      · exact ⟨10 ^ 30, congrArg V.int (by decide), by decide, Nat.le_refl _⟩
    refine ⟨t, rfl, ⟨_, SqT.of ht⟩, for_tup (K := K) (a := t) (xs := [.int 1, .int (1 + (r1 : Int)), .int (n0 : Int), .int (10 ^ Int.toNat 30)]) (fun i σ H' => ∃ v3 : Option V, σ = [some (.ref a), some (.int (k : Int)), some (.ref b), v3] ∧ But b H6 H' ∧ ReelAt H' b (100 + i))
      ⟨v3, rfl, But.refl b H6, b6⟩ (fun i σ H' _ ⟨_, _, B, _⟩ => SqT.of (B _ _ tb ht)) ?_ ?_⟩
    · rintro i x σ H7 hi ⟨v3, rfl, B7, b7⟩
      have il : i < 4 := (List.getElem?_eq_some_iff.mp hi).1
      obtain ⟨e, rfl, e1, e30⟩ := hv x (List.mem_of_getElem? hi)
      refine ⟨_, rfl, _, rfl, b, _, e, rfl, b7, by omega, e1, e30, fun H8 B8 b8 => ⟨true, rfl, ?_⟩⟩
      exact ⟨_, rfl, B7.trans B8, b8⟩
    · rintro σ H7 ⟨v3, rfl, B7, b7⟩
      exact ⟨_, _, _, rfl, fun u o z => (B6.trans B7) _ _ (ne_of_none z nb1) z⟩
  · rintro σ H2 ⟨v1, v2, v3, rfl, s2⟩
    exact q _
end
end LT

namespace LT
open PySem PySem.Spec PyProof.Rows L2
/-- isinstance of an own class, from what the top says of it -/
theorem kit_of {K : PySem.W.Frag} {C D : Addr} {b : Bool} (i : PySem.W.isClsIn K D = true) (t : PySem.W.typeIn K (.ref D) = some (.type "type")) (s : PySem.W.subIn K (.ref C) (.ref D) = some b) (z : PySem.W.subIn K (.ref C) (.ref C) = some true) : PySem.W.kitOne K (.ref C) (.ref D) = some b := by
  unfold PySem.W.kitOne
  split
  · rename_i h
    have e : C = D := Value.ref.inj (beq_iff_eq.mp h)
    subst e
    rw [z] at s
    exact s
  · show (if ((PySem.W.clsIn K D).isSome && PySem.W.typeIn K (.ref D) == some (.type "type")) = true then PySem.W.subIn K (.ref C) (.ref D) else none) = some b
    have i' : (PySem.W.clsIn K D).isSome = true := i
    have e : ((PySem.W.clsIn K D).isSome && PySem.W.typeIn K (.ref D) == some (.type "type")) = true := by rw [i', t] <;> rfl
    rw [if_pos e]
    exact s
theorem kit_ty0 {K : PySem.W.Frag} {C : Addr} {T : String} {b : Bool} (m : PySem.W.kitMeta T = true) (s : PySem.W.subIn K (.ref C) (.type T) = some b) : PySem.W.kitOne K (.ref C) (.type T) = some b := by
  unfold PySem.W.kitOne
  rw [if_neg (by intro h; exact absurd (beq_iff_eq.mp h) (fun z => nomatch z))]
  show (if PySem.W.kitMeta T = true then PySem.W.subIn K (.ref C) (.type T) else none) = some b
  rw [if_pos m]
  exact s
theorem all_mk {l : PySem.W.OpenLaw} {w : World} {K : PySem.W.Frag} {h : Heap} {mg : Str → Option Value} {fa f0 f1 f2 f3 f4 f5 f6 f7 f8 f9 f10 f11 f12 f13 f14 f15 f16 f17 f18 f19 : Addr} (X : K.In h) (G : h.Ns mainGlobals mg) (hfa : mg "law" = some (.ref fa))
    {od0 an0 od1 an1 od2 an2 od3 an3 od4 an4 od5 an5 od6 an6 od7 an7 od8 an8 od9 an9 od10 an10 od11 an11 od12 an12 od13 an13 od14 an14 od15 an15 od16 an16 od17 an17 od18 an18 od19 an19 : Option Addr} {sl0 sl1 sl2 sl3 sl4 sl5 sl6 sl7 sl8 sl9 sl10 sl11 sl12 sl13 sl14 sl15 sl16 sl17 sl18 sl19 : Array (Option Value)} {oc0 kV0 dc0 pm0 cd0 ct0 oc1 kV1 dc1 pm1 cd1 ct1 oc2 kV2 dc2 pm2 cd2 ct2 oc3 kV3 dc3 pm3 cd3 ct3 oc4 kV4 dc4 pm4 cd4 ct4 oc5 kV5 dc5 pm5 cd5 ct5 oc6 kV6 dc6 pm6 cd6 ct6 oc7 kV7 dc7 pm7 cd7 ct7 oc8 kV8 dc8 pm8 cd8 ct8 oc9 kV9 dc9 pm9 cd9 ct9 oc10 kV10 dc10 pm10 cd10 ct10 oc11 kV11 dc11 pm11 cd11 ct11 oc12 kV12 dc12 pm12 cd12 ct12 oc13 kV13 dc13 pm13 cd13 ct13 oc14 kV14 dc14 pm14 cd14 ct14 oc15 kV15 dc15 pm15 cd15 ct15 oc16 kV16 dc16 pm16 cd16 ct16 oc17 kV17 dc17 pm17 cd17 ct17 oc18 kV18 dc18 pm18 cd18 ct18 oc19 kV19 dc19 pm19 cd19 ct19 : Value}
    (a0 : PySem.W.nsIn K mainGlobals "is_whole" = some (some (.ref f0))) (l0 : K.lookup f0 = some ⟨oc0, od0, .func (PySem.W.fnOf "is_whole" "is_whole" (defArgs sIsWhole) (defBody sIsWhole) (defScope sIsWhole) .none kV0 dc0 pm0 an0 cd0 ct0), sl0⟩) (c0 : PySem.W.codeIn K cd0 "is_whole" = true) (k0 : PySem.W.keepIn K (.ref f0) = true)
    (a1 : PySem.W.nsIn K mainGlobals "is_between" = some (some (.ref f1))) (l1 : K.lookup f1 = some ⟨oc1, od1, .func (PySem.W.fnOf "is_between" "is_between" (defArgs sIsBetween) (defBody sIsBetween) (defScope sIsBetween) .none kV1 dc1 pm1 an1 cd1 ct1), sl1⟩) (c1 : PySem.W.codeIn K cd1 "is_between" = true) (k1 : PySem.W.keepIn K (.ref f1) = true)
    (a2 : PySem.W.nsIn K mainGlobals "is_tree_node" = some (some (.ref f2))) (l2 : K.lookup f2 = some ⟨oc2, od2, .func (PySem.W.fnOf "is_tree_node" "is_tree_node" (defArgs sIsTreeNode) (defBody sIsTreeNode) (defScope sIsTreeNode) .none kV2 dc2 pm2 an2 cd2 ct2), sl2⟩) (c2 : PySem.W.codeIn K cd2 "is_tree_node" = true) (k2 : PySem.W.keepIn K (.ref f2) = true)
    (a3 : PySem.W.nsIn K mainGlobals "check_size" = some (some (.ref f3))) (l3 : K.lookup f3 = some ⟨oc3, od3, .func (PySem.W.fnOf "check_size" "check_size" (defArgs sCheckSize) (defBody sCheckSize) (defScope sCheckSize) .none kV3 dc3 pm3 an3 cd3 ct3), sl3⟩) (c3 : PySem.W.codeIn K cd3 "check_size" = true) (k3 : PySem.W.keepIn K (.ref f3) = true)
    (a4 : PySem.W.nsIn K mainGlobals "check_older" = some (some (.ref f4))) (l4 : K.lookup f4 = some ⟨oc4, od4, .func (PySem.W.fnOf "check_older" "check_older" (defArgs sCheckOlder) (defBody sCheckOlder) (defScope sCheckOlder) .none kV4 dc4 pm4 an4 cd4 ct4), sl4⟩) (c4 : PySem.W.codeIn K cd4 "check_older" = true) (k4 : PySem.W.keepIn K (.ref f4) = true)
    (a5 : PySem.W.nsIn K mainGlobals "power_within" = some (some (.ref f5))) (l5 : K.lookup f5 = some ⟨oc5, od5, .func (PySem.W.fnOf "power_within" "power_within" (defArgs sPowerWithin) (defBody sPowerWithin) (defScope sPowerWithin) .none kV5 dc5 pm5 an5 cd5 ct5), sl5⟩) (c5 : PySem.W.codeIn K cd5 "power_within" = true) (k5 : PySem.W.keepIn K (.ref f5) = true)
    (a6 : PySem.W.nsIn K mainGlobals "_first_full" = some (some (.ref f6))) (l6 : K.lookup f6 = some ⟨oc6, od6, .func (PySem.W.fnOf "_first_full" "_first_full" (defArgs sFirstFull) (defBody sFirstFull) (defScope sFirstFull) .none kV6 dc6 pm6 an6 cd6 ct6), sl6⟩) (c6 : PySem.W.codeIn K cd6 "_first_full" = true) (k6 : PySem.W.keepIn K (.ref f6) = true)
    (a7 : PySem.W.nsIn K mainGlobals "nodes_within" = some (some (.ref f7))) (l7 : K.lookup f7 = some ⟨oc7, od7, .func (PySem.W.fnOf "nodes_within" "nodes_within" (defArgs sNodesWithin) (defBody sNodesWithin) (defScope sNodesWithin) .none kV7 dc7 pm7 an7 cd7 ct7), sl7⟩) (c7 : PySem.W.codeIn K cd7 "nodes_within" = true) (k7 : PySem.W.keepIn K (.ref f7) = true)
    (a8 : PySem.W.nsIn K mainGlobals "peaks" = some (some (.ref f8))) (l8 : K.lookup f8 = some ⟨oc8, od8, .func (PySem.W.fnOf "peaks" "peaks" (defArgs sPeaks) (defBody sPeaks) (defScope sPeaks) .none kV8 dc8 pm8 an8 cd8 ct8), sl8⟩) (c8 : PySem.W.codeIn K cd8 "peaks" = true) (k8 : PySem.W.keepIn K (.ref f8) = true)
    (a9 : PySem.W.nsIn K mainGlobals "older_list" = some (some (.ref f9))) (l9 : K.lookup f9 = some ⟨oc9, od9, .func (PySem.W.fnOf "older_list" "older_list" (defArgs sOlderList) (defBody sOlderList) (defScope sOlderList) .none kV9 dc9 pm9 an9 cd9 ct9), sl9⟩) (c9 : PySem.W.codeIn K cd9 "older_list" = true) (k9 : PySem.W.keepIn K (.ref f9) = true)
    (a10 : PySem.W.nsIn K mainGlobals "older_count" = some (some (.ref f10))) (l10 : K.lookup f10 = some ⟨oc10, od10, .func (PySem.W.fnOf "older_count" "older_count" (defArgs sOlderCount) (defBody sOlderCount) (defScope sOlderCount) .none kV10 dc10 pm10 an10 cd10 ct10), sl10⟩) (c10 : PySem.W.codeIn K cd10 "older_count" = true) (k10 : PySem.W.keepIn K (.ref f10) = true)
    (a11 : PySem.W.nsIn K mainGlobals "longest_older" = some (some (.ref f11))) (l11 : K.lookup f11 = some ⟨oc11, od11, .func (PySem.W.fnOf "longest_older" "longest_older" (defArgs sLongestOlder) (defBody sLongestOlder) (defScope sLongestOlder) .none kV11 dc11 pm11 an11 cd11 ct11), sl11⟩) (c11 : PySem.W.codeIn K cd11 "longest_older" = true) (k11 : PySem.W.keepIn K (.ref f11) = true)
    (a12 : PySem.W.nsIn K mainGlobals "_law_wound" = some (some (.ref f12))) (l12 : K.lookup f12 = some ⟨oc12, od12, .func (PySem.W.fnOf "_law_wound" "_law_wound" (defArgs sLawWound) (defBody sLawWound) (defScope sLawWound) .none kV12 dc12 pm12 an12 cd12 ct12), sl12⟩) (c12 : PySem.W.codeIn K cd12 "_law_wound" = true) (k12 : PySem.W.keepIn K (.ref f12) = true)
    (a13 : PySem.W.nsIn K mainGlobals "_law_spin" = some (some (.ref f13))) (l13 : K.lookup f13 = some ⟨oc13, od13, .func (PySem.W.fnOf "_law_spin" "_law_spin" (defArgs sLawSpin) (defBody sLawSpin) (defScope sLawSpin) .none kV13 dc13 pm13 an13 cd13 ct13), sl13⟩) (c13 : PySem.W.codeIn K cd13 "_law_spin" = true) (k13 : PySem.W.keepIn K (.ref f13) = true)
    (a14 : PySem.W.nsIn K mainGlobals "_law_drawn_size" = some (some (.ref f14))) (l14 : K.lookup f14 = some ⟨oc14, od14, .func (PySem.W.fnOf "_law_drawn_size" "_law_drawn_size" (defArgs sLawDrawnSize) (defBody sLawDrawnSize) (defScope sLawDrawnSize) .none kV14 dc14 pm14 an14 cd14 ct14), sl14⟩) (c14 : PySem.W.codeIn K cd14 "_law_drawn_size" = true) (k14 : PySem.W.keepIn K (.ref f14) = true)
    (a15 : PySem.W.nsIn K mainGlobals "_law_told_kind" = some (some (.ref f15))) (l15 : K.lookup f15 = some ⟨oc15, od15, .func (PySem.W.fnOf "_law_told_kind" "_law_told_kind" (defArgs sLawToldKind) (defBody sLawToldKind) (defScope sLawToldKind) .none kV15 dc15 pm15 an15 cd15 ct15), sl15⟩) (c15 : PySem.W.codeIn K cd15 "_law_told_kind" = true) (k15 : PySem.W.keepIn K (.ref f15) = true)
    (a16 : PySem.W.nsIn K mainGlobals "_law_kinds" = some (some (.ref f16))) (l16 : K.lookup f16 = some ⟨oc16, od16, .func (PySem.W.fnOf "_law_kinds" "_law_kinds" (defArgs sLawKinds) (defBody sLawKinds) (defScope sLawKinds) .none kV16 dc16 pm16 an16 cd16 ct16), sl16⟩) (c16 : PySem.W.codeIn K cd16 "_law_kinds" = true) (k16 : PySem.W.keepIn K (.ref f16) = true)
    (a17 : PySem.W.nsIn K mainGlobals "_law_told" = some (some (.ref f17))) (l17 : K.lookup f17 = some ⟨oc17, od17, .func (PySem.W.fnOf "_law_told" "_law_told" (defArgs sLawTold) (defBody sLawTold) (defScope sLawTold) .none kV17 dc17 pm17 an17 cd17 ct17), sl17⟩) (c17 : PySem.W.codeIn K cd17 "_law_told" = true) (k17 : PySem.W.keepIn K (.ref f17) = true)
    (a18 : PySem.W.nsIn K mainGlobals "_law_right" = some (some (.ref f18))) (l18 : K.lookup f18 = some ⟨oc18, od18, .func (PySem.W.fnOf "_law_right" "_law_right" (defArgs sLawRight) (defBody sLawRight) (defScope sLawRight) .none kV18 dc18 pm18 an18 cd18 ct18), sl18⟩) (c18 : PySem.W.codeIn K cd18 "_law_right" = true) (k18 : PySem.W.keepIn K (.ref f18) = true)
    (a19 : PySem.W.nsIn K mainGlobals "law" = some (some (.ref f19))) (l19 : K.lookup f19 = some ⟨oc19, od19, .func (PySem.W.fnOf "law" "law" (defArgs sLaw) (defBody sLaw) (defScope sLaw) .none kV19 dc19 pm19 an19 cd19 ct19), sl19⟩) (c19 : PySem.W.codeIn K cd19 "law" = true) (k19 : PySem.W.keepIn K (.ref f19) = true)
    (z_ValueError : PySem.W.nsIn K mainGlobals "ValueError" = some none)
    (z_bool : PySem.W.nsIn K mainGlobals "bool" = some none)
    (z_int : PySem.W.nsIn K mainGlobals "int" = some none)
    (z_isinstance : PySem.W.nsIn K mainGlobals "isinstance" = some none)
    (z_len : PySem.W.nsIn K mainGlobals "len" = some none)
    (z_max : PySem.W.nsIn K mainGlobals "max" = some none)
    (z_min : PySem.W.nsIn K mainGlobals "min" = some none)
    (z_range : PySem.W.nsIn K mainGlobals "range" = some none)
    (z_repr : PySem.W.nsIn K mainGlobals "repr" = some none)
    (z_tuple : PySem.W.nsIn K mainGlobals "tuple" = some none)
    {t_MOST_ENTRIES : Tok} (g_MOST_ENTRIES : PySem.W.nsIn K mainGlobals "MOST_ENTRIES" = some (some (.int 1000000000000000000000000000000 t_MOST_ENTRIES)))
    {CInvalidSpans CInvalidNodes CInvalidBounds CInvalidText COverBudget CInvalidSize CInvalidEntry CInvalidNode CInvalidSpan CInvalidNumber CInvalidHeight CInvalidBudget CInvalidOperation CNothing CInvalidCommand CLogError : Addr}
    (n_InvalidSpans : PySem.W.nsIn K mainGlobals "InvalidSpans" = some (some (.ref CInvalidSpans)))
    (i_InvalidSpans : PySem.W.isClsIn K CInvalidSpans = true)
    (t_InvalidSpans : PySem.W.typeIn K (.ref CInvalidSpans) = some (.type "type"))
    (n_InvalidNodes : PySem.W.nsIn K mainGlobals "InvalidNodes" = some (some (.ref CInvalidNodes)))
    (i_InvalidNodes : PySem.W.isClsIn K CInvalidNodes = true)
    (t_InvalidNodes : PySem.W.typeIn K (.ref CInvalidNodes) = some (.type "type"))
    (n_InvalidBounds : PySem.W.nsIn K mainGlobals "InvalidBounds" = some (some (.ref CInvalidBounds)))
    (i_InvalidBounds : PySem.W.isClsIn K CInvalidBounds = true)
    (t_InvalidBounds : PySem.W.typeIn K (.ref CInvalidBounds) = some (.type "type"))
    (n_InvalidText : PySem.W.nsIn K mainGlobals "InvalidText" = some (some (.ref CInvalidText)))
    (i_InvalidText : PySem.W.isClsIn K CInvalidText = true)
    (t_InvalidText : PySem.W.typeIn K (.ref CInvalidText) = some (.type "type"))
    (n_OverBudget : PySem.W.nsIn K mainGlobals "OverBudget" = some (some (.ref COverBudget)))
    (i_OverBudget : PySem.W.isClsIn K COverBudget = true)
    (t_OverBudget : PySem.W.typeIn K (.ref COverBudget) = some (.type "type"))
    (n_InvalidSize : PySem.W.nsIn K mainGlobals "InvalidSize" = some (some (.ref CInvalidSize)))
    (i_InvalidSize : PySem.W.isClsIn K CInvalidSize = true)
    (t_InvalidSize : PySem.W.typeIn K (.ref CInvalidSize) = some (.type "type"))
    (n_InvalidEntry : PySem.W.nsIn K mainGlobals "InvalidEntry" = some (some (.ref CInvalidEntry)))
    (i_InvalidEntry : PySem.W.isClsIn K CInvalidEntry = true)
    (t_InvalidEntry : PySem.W.typeIn K (.ref CInvalidEntry) = some (.type "type"))
    (n_InvalidNode : PySem.W.nsIn K mainGlobals "InvalidNode" = some (some (.ref CInvalidNode)))
    (i_InvalidNode : PySem.W.isClsIn K CInvalidNode = true)
    (t_InvalidNode : PySem.W.typeIn K (.ref CInvalidNode) = some (.type "type"))
    (n_InvalidSpan : PySem.W.nsIn K mainGlobals "InvalidSpan" = some (some (.ref CInvalidSpan)))
    (i_InvalidSpan : PySem.W.isClsIn K CInvalidSpan = true)
    (t_InvalidSpan : PySem.W.typeIn K (.ref CInvalidSpan) = some (.type "type"))
    (n_InvalidNumber : PySem.W.nsIn K mainGlobals "InvalidNumber" = some (some (.ref CInvalidNumber)))
    (i_InvalidNumber : PySem.W.isClsIn K CInvalidNumber = true)
    (t_InvalidNumber : PySem.W.typeIn K (.ref CInvalidNumber) = some (.type "type"))
    (n_InvalidHeight : PySem.W.nsIn K mainGlobals "InvalidHeight" = some (some (.ref CInvalidHeight)))
    (i_InvalidHeight : PySem.W.isClsIn K CInvalidHeight = true)
    (t_InvalidHeight : PySem.W.typeIn K (.ref CInvalidHeight) = some (.type "type"))
    (n_InvalidBudget : PySem.W.nsIn K mainGlobals "InvalidBudget" = some (some (.ref CInvalidBudget)))
    (i_InvalidBudget : PySem.W.isClsIn K CInvalidBudget = true)
    (t_InvalidBudget : PySem.W.typeIn K (.ref CInvalidBudget) = some (.type "type"))
    (n_InvalidOperation : PySem.W.nsIn K mainGlobals "InvalidOperation" = some (some (.ref CInvalidOperation)))
    (i_InvalidOperation : PySem.W.isClsIn K CInvalidOperation = true)
    (t_InvalidOperation : PySem.W.typeIn K (.ref CInvalidOperation) = some (.type "type"))
    (n_Nothing : PySem.W.nsIn K mainGlobals "Nothing" = some (some (.ref CNothing)))
    (i_Nothing : PySem.W.isClsIn K CNothing = true)
    (t_Nothing : PySem.W.typeIn K (.ref CNothing) = some (.type "type"))
    (n_InvalidCommand : PySem.W.nsIn K mainGlobals "InvalidCommand" = some (some (.ref CInvalidCommand)))
    (i_InvalidCommand : PySem.W.isClsIn K CInvalidCommand = true)
    (t_InvalidCommand : PySem.W.typeIn K (.ref CInvalidCommand) = some (.type "type"))
    (n_LogError : PySem.W.nsIn K mainGlobals "LogError" = some (some (.ref CLogError)))
    (i_LogError : PySem.W.isClsIn K CLogError = true)
    (t_LogError : PySem.W.typeIn K (.ref CLogError) = some (.type "type"))
    (b_LogError : PySem.W.subIn K (.ref CLogError) (.type "BaseException") = some true)
    (d_LogError : PySem.W.hasDictIn K CLogError = true)
    (x_n : PySem.W.specialIn K (.builtin "object.__class__") "__get__" = some (some (.builtin "getset_descriptor.__get__")))
    (x_t : PySem.W.takesIn K (.builtin "object.__class__") = some true)
    (k_InvalidSize : PySem.W.keepIn K (.ref CInvalidSize) = true)
    (q_InvalidSize : PySem.W.excIn K CInvalidSize [.type "ValueError", .type "Exception", .type "BaseException", .type "object"] "ValueError.__new__" = true)
    (b_InvalidSize : PySem.W.subIn K (.ref CInvalidSize) (.type "BaseException") = some true)
    (g_InvalidSize : PySem.W.findIn K (.ref CInvalidSize) "__getattribute__" = some (some (.builtin "BaseException.__getattribute__")))
    (a_InvalidSize : PySem.W.findIn K (.ref CInvalidSize) "__getattr__" = some none)
    (d_InvalidSize : PySem.W.hasDictIn K CInvalidSize = true)
    (c_InvalidSize : PySem.W.findIn K (.ref CInvalidSize) "__class__" = some (some (.builtin "object.__class__")))
    (m_InvalidSize : PySem.W.mroIn K CInvalidSize (.type "object") = some true)
    (v_InvalidSize : PySem.W.subIn K (.ref CInvalidSize) (.type "ValueError") = some true)
    (l_InvalidSize : PySem.W.subIn K (.ref CInvalidSize) (.ref CLogError) = some true)
    (s_InvalidSize_InvalidSpans : PySem.W.subIn K (.ref CInvalidSize) (.ref CInvalidSpans) = some false)
    (s_InvalidSize_InvalidNodes : PySem.W.subIn K (.ref CInvalidSize) (.ref CInvalidNodes) = some false)
    (s_InvalidSize_InvalidBounds : PySem.W.subIn K (.ref CInvalidSize) (.ref CInvalidBounds) = some false)
    (s_InvalidSize_InvalidText : PySem.W.subIn K (.ref CInvalidSize) (.ref CInvalidText) = some false)
    (s_InvalidSize_OverBudget : PySem.W.subIn K (.ref CInvalidSize) (.ref COverBudget) = some false)
    (s_InvalidSize_InvalidSize : PySem.W.subIn K (.ref CInvalidSize) (.ref CInvalidSize) = some true)
    (s_InvalidSize_InvalidEntry : PySem.W.subIn K (.ref CInvalidSize) (.ref CInvalidEntry) = some false)
    (s_InvalidSize_InvalidNode : PySem.W.subIn K (.ref CInvalidSize) (.ref CInvalidNode) = some false)
    (s_InvalidSize_InvalidSpan : PySem.W.subIn K (.ref CInvalidSize) (.ref CInvalidSpan) = some false)
    (s_InvalidSize_InvalidNumber : PySem.W.subIn K (.ref CInvalidSize) (.ref CInvalidNumber) = some false)
    (s_InvalidSize_InvalidHeight : PySem.W.subIn K (.ref CInvalidSize) (.ref CInvalidHeight) = some false)
    (s_InvalidSize_InvalidBudget : PySem.W.subIn K (.ref CInvalidSize) (.ref CInvalidBudget) = some false)
    (s_InvalidSize_InvalidOperation : PySem.W.subIn K (.ref CInvalidSize) (.ref CInvalidOperation) = some false)
    (s_InvalidSize_Nothing : PySem.W.subIn K (.ref CInvalidSize) (.ref CNothing) = some false)
    (s_InvalidSize_InvalidCommand : PySem.W.subIn K (.ref CInvalidSize) (.ref CInvalidCommand) = some false)
    : ∃ fd : FuncData, (∀ (s : Shared) (v : Value), BindsTo s fd ⟨[v], []⟩ [("script", v)]) ∧ ∀ base : Heap, K.In base → base.Ns mainGlobals mg → GOk l.prog w K mg base 10 fa fd ["script"] (spLaw K) := by
  have e := hfa.symm.trans (PySem.W.mg_of X G a19)
  cases e
  have FIsWhole := fun_mk (st := sIsWhole) l0 c0 k0
  have FIsBetween := fun_mk (st := sIsBetween) l1 c1 k1
  have FIsTreeNode := fun_mk (st := sIsTreeNode) l2 c2 k2
  have FCheckSize := fun_mk (st := sCheckSize) l3 c3 k3
  have FCheckOlder := fun_mk (st := sCheckOlder) l4 c4 k4
  have FPowerWithin := fun_mk (st := sPowerWithin) l5 c5 k5
  have FFirstFull := fun_mk (st := sFirstFull) l6 c6 k6
  have FNodesWithin := fun_mk (st := sNodesWithin) l7 c7 k7
  have FPeaks := fun_mk (st := sPeaks) l8 c8 k8
  have FOlderList := fun_mk (st := sOlderList) l9 c9 k9
  have FOlderCount := fun_mk (st := sOlderCount) l10 c10 k10
  have FLongestOlder := fun_mk (st := sLongestOlder) l11 c11 k11
  have FLawWound := fun_mk (st := sLawWound) l12 c12 k12
  have FLawSpin := fun_mk (st := sLawSpin) l13 c13 k13
  have FLawDrawnSize := fun_mk (st := sLawDrawnSize) l14 c14 k14
  have FLawToldKind := fun_mk (st := sLawToldKind) l15 c15 k15
  have FLawKinds := fun_mk (st := sLawKinds) l16 c16 k16
  have FLawTold := fun_mk (st := sLawTold) l17 c17 k17
  have FLawRight := fun_mk (st := sLawRight) l18 c18 k18
  have FLaw := fun_mk (st := sLaw) l19 c19 k19
  have AIsWhole : At K mg "is_whole" f0 (PySem.W.fnOf "is_whole" "is_whole" (defArgs sIsWhole) (defBody sIsWhole) (defScope sIsWhole) .none kV0 dc0 pm0 an0 cd0 ct0) ["value"] := ⟨PySem.W.mg_of X G a0, k0, FIsWhole.binds (ps := ["value"]) fun _ _ _ _ _ _ us hl => match us, hl with | [_], _ => rfl⟩
  have AIsBetween : At K mg "is_between" f1 (PySem.W.fnOf "is_between" "is_between" (defArgs sIsBetween) (defBody sIsBetween) (defScope sIsBetween) .none kV1 dc1 pm1 an1 cd1 ct1) ["value", "low", "high"] := ⟨PySem.W.mg_of X G a1, k1, FIsBetween.binds (ps := ["value", "low", "high"]) fun _ _ _ _ _ _ us hl => match us, hl with | [_, _, _], _ => rfl⟩
  have AIsTreeNode : At K mg "is_tree_node" f2 (PySem.W.fnOf "is_tree_node" "is_tree_node" (defArgs sIsTreeNode) (defBody sIsTreeNode) (defScope sIsTreeNode) .none kV2 dc2 pm2 an2 cd2 ct2) ["size", "value"] := ⟨PySem.W.mg_of X G a2, k2, FIsTreeNode.binds (ps := ["size", "value"]) fun _ _ _ _ _ _ us hl => match us, hl with | [_, _], _ => rfl⟩
  have ACheckSize : At K mg "check_size" f3 (PySem.W.fnOf "check_size" "check_size" (defArgs sCheckSize) (defBody sCheckSize) (defScope sCheckSize) .none kV3 dc3 pm3 an3 cd3 ct3) ["size"] := ⟨PySem.W.mg_of X G a3, k3, FCheckSize.binds (ps := ["size"]) fun _ _ _ _ _ _ us hl => match us, hl with | [_], _ => rfl⟩
  have ACheckOlder : At K mg "check_older" f4 (PySem.W.fnOf "check_older" "check_older" (defArgs sCheckOlder) (defBody sCheckOlder) (defScope sCheckOlder) .none kV4 dc4 pm4 an4 cd4 ct4) ["size", "older"] := ⟨PySem.W.mg_of X G a4, k4, FCheckOlder.binds (ps := ["size", "older"]) fun _ _ _ _ _ _ us hl => match us, hl with | [_, _], _ => rfl⟩
  have APowerWithin : At K mg "power_within" f5 (PySem.W.fnOf "power_within" "power_within" (defArgs sPowerWithin) (defBody sPowerWithin) (defScope sPowerWithin) .none kV5 dc5 pm5 an5 cd5 ct5) ["number"] := ⟨PySem.W.mg_of X G a5, k5, FPowerWithin.binds (ps := ["number"]) fun _ _ _ _ _ _ us hl => match us, hl with | [_], _ => rfl⟩
  have AFirstFull : At K mg "_first_full" f6 (PySem.W.fnOf "_first_full" "_first_full" (defArgs sFirstFull) (defBody sFirstFull) (defScope sFirstFull) .none kV6 dc6 pm6 an6 cd6 ct6) ["begin", "end"] := ⟨PySem.W.mg_of X G a6, k6, FFirstFull.binds (ps := ["begin", "end"]) fun _ _ _ _ _ _ us hl => match us, hl with | [_, _], _ => rfl⟩
  have ANodesWithin : At K mg "nodes_within" f7 (PySem.W.fnOf "nodes_within" "nodes_within" (defArgs sNodesWithin) (defBody sNodesWithin) (defScope sNodesWithin) .none kV7 dc7 pm7 an7 cd7 ct7) ["size", "begin", "end"] := ⟨PySem.W.mg_of X G a7, k7, FNodesWithin.binds (ps := ["size", "begin", "end"]) fun _ _ _ _ _ _ us hl => match us, hl with | [_, _, _], _ => rfl⟩
  have APeaks : At K mg "peaks" f8 (PySem.W.fnOf "peaks" "peaks" (defArgs sPeaks) (defBody sPeaks) (defScope sPeaks) .none kV8 dc8 pm8 an8 cd8 ct8) ["size"] := ⟨PySem.W.mg_of X G a8, k8, FPeaks.binds (ps := ["size"]) fun _ _ _ _ _ _ us hl => match us, hl with | [_], _ => rfl⟩
  have AOlderList : At K mg "older_list" f9 (PySem.W.fnOf "older_list" "older_list" (defArgs sOlderList) (defBody sOlderList) (defScope sOlderList) .none kV9 dc9 pm9 an9 cd9 ct9) ["size", "older"] := ⟨PySem.W.mg_of X G a9, k9, FOlderList.binds (ps := ["size", "older"]) fun _ _ _ _ _ _ us hl => match us, hl with | [_, _], _ => rfl⟩
  have AOlderCount : At K mg "older_count" f10 (PySem.W.fnOf "older_count" "older_count" (defArgs sOlderCount) (defBody sOlderCount) (defScope sOlderCount) .none kV10 dc10 pm10 an10 cd10 ct10) ["size", "older"] := ⟨PySem.W.mg_of X G a10, k10, FOlderCount.binds (ps := ["size", "older"]) fun _ _ _ _ _ _ us hl => match us, hl with | [_, _], _ => rfl⟩
  have ALongestOlder : At K mg "longest_older" f11 (PySem.W.fnOf "longest_older" "longest_older" (defArgs sLongestOlder) (defBody sLongestOlder) (defScope sLongestOlder) .none kV11 dc11 pm11 an11 cd11 ct11) ["size"] := ⟨PySem.W.mg_of X G a11, k11, FLongestOlder.binds (ps := ["size"]) fun _ _ _ _ _ _ us hl => match us, hl with | [_], _ => rfl⟩
  have ALawWound : At K mg "_law_wound" f12 (PySem.W.fnOf "_law_wound" "_law_wound" (defArgs sLawWound) (defBody sLawWound) (defScope sLawWound) .none kV12 dc12 pm12 an12 cd12 ct12) ["script", "k"] := ⟨PySem.W.mg_of X G a12, k12, FLawWound.binds (ps := ["script", "k"]) fun _ _ _ _ _ _ us hl => match us, hl with | [_, _], _ => rfl⟩
  have ALawSpin : At K mg "_law_spin" f13 (PySem.W.fnOf "_law_spin" "_law_spin" (defArgs sLawSpin) (defBody sLawSpin) (defScope sLawSpin) .none kV13 dc13 pm13 an13 cd13 ct13) ["reel", "many"] := ⟨PySem.W.mg_of X G a13, k13, FLawSpin.binds (ps := ["reel", "many"]) fun _ _ _ _ _ _ us hl => match us, hl with | [_, _], _ => rfl⟩
  have ALawDrawnSize : At K mg "_law_drawn_size" f14 (PySem.W.fnOf "_law_drawn_size" "_law_drawn_size" (defArgs sLawDrawnSize) (defBody sLawDrawnSize) (defScope sLawDrawnSize) .none kV14 dc14 pm14 an14 cd14 ct14) ["reel"] := ⟨PySem.W.mg_of X G a14, k14, FLawDrawnSize.binds (ps := ["reel"]) fun _ _ _ _ _ _ us hl => match us, hl with | [_], _ => rfl⟩
  have ALawToldKind : At K mg "_law_told_kind" f15 (PySem.W.fnOf "_law_told_kind" "_law_told_kind" (defArgs sLawToldKind) (defBody sLawToldKind) (defScope sLawToldKind) .none kV15 dc15 pm15 an15 cd15 ct15) ["e"] := ⟨PySem.W.mg_of X G a15, k15, FLawToldKind.binds (ps := ["e"]) fun _ _ _ _ _ _ us hl => match us, hl with | [_], _ => rfl⟩
  have ALawKinds : At K mg "_law_kinds" f16 (PySem.W.fnOf "_law_kinds" "_law_kinds" (defArgs sLawKinds) (defBody sLawKinds) (defScope sLawKinds) .none kV16 dc16 pm16 an16 cd16 ct16) ["e"] := ⟨PySem.W.mg_of X G a16, k16, FLawKinds.binds (ps := ["e"]) fun _ _ _ _ _ _ us hl => match us, hl with | [_], _ => rfl⟩
  have ALawTold : At K mg "_law_told" f17 (PySem.W.fnOf "_law_told" "_law_told" (defArgs sLawTold) (defBody sLawTold) (defScope sLawTold) .none kV17 dc17 pm17 an17 cd17 ct17) ["door", "one", "two"] := ⟨PySem.W.mg_of X G a17, k17, FLawTold.binds (ps := ["door", "one", "two"]) fun _ _ _ _ _ _ us hl => match us, hl with | [_, _, _], _ => rfl⟩
  have ALawRight : At K mg "_law_right" f18 (PySem.W.fnOf "_law_right" "_law_right" (defArgs sLawRight) (defBody sLawRight) (defScope sLawRight) .none kV18 dc18 pm18 an18 cd18 ct18) ["reel", "size"] := ⟨PySem.W.mg_of X G a18, k18, FLawRight.binds (ps := ["reel", "size"]) fun _ _ _ _ _ _ us hl => match us, hl with | [_, _], _ => rfl⟩
  have z_ValueError := PySem.W.mg_none_of X G z_ValueError
  have z_bool := PySem.W.mg_none_of X G z_bool
  have z_int := PySem.W.mg_none_of X G z_int
  have z_isinstance := PySem.W.mg_none_of X G z_isinstance
  have z_len := PySem.W.mg_none_of X G z_len
  have z_max := PySem.W.mg_none_of X G z_max
  have z_min := PySem.W.mg_none_of X G z_min
  have z_range := PySem.W.mg_none_of X G z_range
  have z_repr := PySem.W.mg_none_of X G z_repr
  have z_tuple := PySem.W.mg_none_of X G z_tuple
  have g_MOST_ENTRIES := PySem.W.mg_of X G g_MOST_ENTRIES
  refine ⟨PySem.W.fnOf "law" "law" (defArgs sLaw) (defBody sLaw) (defScope sLaw) .none kV19 dc19 pm19 an19 cd19 ct19, fun s v => .of_eq rfl, fun base _ _ => ?_⟩
  have GInvalidSpans : GF mg "InvalidSpans" CInvalidSpans := ⟨PySem.W.mg_of X G n_InvalidSpans⟩
  have GInvalidNodes : GF mg "InvalidNodes" CInvalidNodes := ⟨PySem.W.mg_of X G n_InvalidNodes⟩
  have GInvalidBounds : GF mg "InvalidBounds" CInvalidBounds := ⟨PySem.W.mg_of X G n_InvalidBounds⟩
  have GInvalidText : GF mg "InvalidText" CInvalidText := ⟨PySem.W.mg_of X G n_InvalidText⟩
  have GOverBudget : GF mg "OverBudget" COverBudget := ⟨PySem.W.mg_of X G n_OverBudget⟩
  have GInvalidSize : GF mg "InvalidSize" CInvalidSize := ⟨PySem.W.mg_of X G n_InvalidSize⟩
  have GInvalidEntry : GF mg "InvalidEntry" CInvalidEntry := ⟨PySem.W.mg_of X G n_InvalidEntry⟩
  have GInvalidNode : GF mg "InvalidNode" CInvalidNode := ⟨PySem.W.mg_of X G n_InvalidNode⟩
  have GInvalidSpan : GF mg "InvalidSpan" CInvalidSpan := ⟨PySem.W.mg_of X G n_InvalidSpan⟩
  have GInvalidNumber : GF mg "InvalidNumber" CInvalidNumber := ⟨PySem.W.mg_of X G n_InvalidNumber⟩
  have GInvalidHeight : GF mg "InvalidHeight" CInvalidHeight := ⟨PySem.W.mg_of X G n_InvalidHeight⟩
  have GInvalidBudget : GF mg "InvalidBudget" CInvalidBudget := ⟨PySem.W.mg_of X G n_InvalidBudget⟩
  have GInvalidOperation : GF mg "InvalidOperation" CInvalidOperation := ⟨PySem.W.mg_of X G n_InvalidOperation⟩
  have GNothing : GF mg "Nothing" CNothing := ⟨PySem.W.mg_of X G n_Nothing⟩
  have GInvalidCommand : GF mg "InvalidCommand" CInvalidCommand := ⟨PySem.W.mg_of X G n_InvalidCommand⟩
  have GLogError : GF mg "LogError" CLogError := ⟨PySem.W.mg_of X G n_LogError⟩
  have XInvalidSize : XF K mg "InvalidSize" CInvalidSize := ⟨PySem.W.mg_of X G n_InvalidSize, k_InvalidSize, q_InvalidSize, b_InvalidSize, t_InvalidSize⟩
  have KInvalidSize : CK K [CInvalidSpans, CInvalidNodes, CInvalidBounds, CInvalidText, COverBudget, CInvalidSize, CInvalidEntry, CInvalidNode, CInvalidSpan, CInvalidNumber, CInvalidHeight, CInvalidBudget, CInvalidOperation, CNothing, CInvalidCommand] CLogError CInvalidSize "size" := ⟨⟨g_InvalidSize, a_InvalidSize, b_InvalidSize, d_InvalidSize, c_InvalidSize, x_n, x_t, m_InvalidSize⟩, ⟨[false, false, false, false, false, true, false, false, false, false, false, false, false, false, false], ⟨kit_of i_InvalidSpans t_InvalidSpans s_InvalidSize_InvalidSpans s_InvalidSize_InvalidSize, kit_of i_InvalidNodes t_InvalidNodes s_InvalidSize_InvalidNodes s_InvalidSize_InvalidSize, kit_of i_InvalidBounds t_InvalidBounds s_InvalidSize_InvalidBounds s_InvalidSize_InvalidSize, kit_of i_InvalidText t_InvalidText s_InvalidSize_InvalidText s_InvalidSize_InvalidSize, kit_of i_OverBudget t_OverBudget s_InvalidSize_OverBudget s_InvalidSize_InvalidSize, kit_of i_InvalidSize t_InvalidSize s_InvalidSize_InvalidSize s_InvalidSize_InvalidSize, kit_of i_InvalidEntry t_InvalidEntry s_InvalidSize_InvalidEntry s_InvalidSize_InvalidSize, kit_of i_InvalidNode t_InvalidNode s_InvalidSize_InvalidNode s_InvalidSize_InvalidSize, kit_of i_InvalidSpan t_InvalidSpan s_InvalidSize_InvalidSpan s_InvalidSize_InvalidSize, kit_of i_InvalidNumber t_InvalidNumber s_InvalidSize_InvalidNumber s_InvalidSize_InvalidSize, kit_of i_InvalidHeight t_InvalidHeight s_InvalidSize_InvalidHeight s_InvalidSize_InvalidSize, kit_of i_InvalidBudget t_InvalidBudget s_InvalidSize_InvalidBudget s_InvalidSize_InvalidSize, kit_of i_InvalidOperation t_InvalidOperation s_InvalidSize_InvalidOperation s_InvalidSize_InvalidSize, kit_of i_Nothing t_Nothing s_InvalidSize_Nothing s_InvalidSize_InvalidSize, kit_of i_InvalidCommand t_InvalidCommand s_InvalidSize_InvalidCommand s_InvalidSize_InvalidSize, trivial⟩, by decide +kernel⟩, kit_ty0 (by decide) v_InvalidSize, by decide +kernel, by decide +kernel, by decide +kernel, by decide +kernel, by decide +kernel, by decide +kernel, by decide +kernel, PySem.W.exm_ref b_LogError d_LogError t_LogError l_InvalidSize⟩
  have GIsWhole := ok_is_wholeV (P := l.prog) (w := w) (base := base) FIsWhole z_isinstance z_int z_bool
  have GIsBetween := ok_is_betweenV FIsBetween GIsWhole AIsWhole
  have GIsTreeNode := ok_is_tree_nodeV FIsTreeNode GIsBetween AIsBetween z_isinstance z_tuple z_len
  have GCheckSize := ok_check_size FCheckSize (between_of GIsBetween) AIsBetween g_MOST_ENTRIES
  have GCheckOlder := ok_check_older FCheckOlder (between_of GIsBetween) AIsBetween
  have GPowerWithin := ok_power_within (P := l.prog) (w := w) (mg := mg) (base := base) FPowerWithin
  have GPeaks := ok_peaks FPeaks GCheckSize ACheckSize GPowerWithin APowerWithin
  have GFirstFull := ok_first_full FFirstFull GPowerWithin APowerWithin z_min
  have GNodesWithin := ok_nodes_within FNodesWithin GIsTreeNode AIsTreeNode GFirstFull AFirstFull
  have GOlderList := ok_older_list FOlderList GCheckSize ACheckSize GCheckOlder ACheckOlder GPeaks APeaks GNodesWithin ANodesWithin z_len
  have GOlderCount := ok_older_count FOlderCount GOlderList AOlderList z_len
  have GLongestOlder := ok_longest_older FLongestOlder GCheckSize ACheckSize GOlderCount AOlderCount
  have YCheckSize := okX_check_size FCheckSize XInvalidSize GIsBetween AIsBetween g_MOST_ENTRIES
  have YCheckOlder := okX_check_older FCheckOlder XInvalidSize GIsBetween AIsBetween
  have YOlderList := okX_older_list FOlderList YCheckSize ACheckSize YCheckOlder ACheckOlder GPeaks APeaks GNodesWithin ANodesWithin z_len
  have YOlderCount := okX_older_count FOlderCount YOlderList AOlderList z_len
  have YLongestOlder := okX_longest_older FLongestOlder YCheckSize ACheckSize GOlderCount AOlderCount
  have GLawWound := ok_law_wound (P := l.prog) (w := w) (base := base) FLawWound z_max z_len z_int
  have GLawSpin := ok_law_spin (P := l.prog) (w := w) (base := base) FLawSpin z_int
  have GLawDrawnSize := ok_law_drawn_size FLawDrawnSize GLawSpin ALawSpin z_min z_int
  have GLawKinds := ok_law_kinds (P := l.prog) (w := w) (base := base) FLawKinds GInvalidSpans GInvalidNodes GInvalidBounds GInvalidText GOverBudget GInvalidSize GInvalidEntry GInvalidNode GInvalidSpan GInvalidNumber GInvalidHeight GInvalidBudget GInvalidOperation GNothing GInvalidCommand z_isinstance
  have GLawToldKind := ok_law_told_kind FLawToldKind GLawKinds ALawKinds z_isinstance z_len z_repr z_ValueError
  have GLawTold := ok_law_told FLawTold GLogError KInvalidSize (both (toX GOlderList) YOlderList) AOlderList (both (toX GOlderCount) YOlderCount) AOlderCount (both (toX GLongestOlder) YLongestOlder) ALongestOlder GLawToldKind ALawToldKind z_repr
  have GLawRight := ok_law_right FLawRight GLawTold ALawTold GLawSpin ALawSpin z_range
  exact ok_law FLaw GLawWound ALawWound GLawRight ALawRight GLawSpin ALawSpin GLawDrawnSize ALawDrawnSize z_range z_len z_max z_min
end LT
open PySem PySem.W PyProof.Rows
set_option maxRecDepth 100000 in
set_option maxHeartbeats 0 in
theorem PySem.Challenge.cw_logtrees_k17_errors_of_older_lists_holds : PySem.Challenge.rw_logtrees_k17_errors_of_older_lists.Holds := by
  w_on; o_law; k_head; (case hw => w_witness2)
  k_fill
  refine LT.walkG (l := PySem.Challenge.rw_logtrees_k17_errors_of_older_lists) (n := 63) (k := 10) (x := "script") (sp := fun w => LT.spLaw _) rfl (by decide) rfl ⟨rfl, by decide, by decide⟩ (fun w h Y => PySem.W.kIn_of Y) ?F (fun _ _ a ns hl _ hS => ⟨a, ns, rfl, hS, hl, fun _ => rfl⟩)
  case F =>
    intro w mg fa h KX G hmg
    refine' LT.all_mk KX G hmg ?a0 ?l0 ?c0 ?k0 ?a1 ?l1 ?c1 ?k1 ?a2 ?l2 ?c2 ?k2 ?a3 ?l3 ?c3 ?k3 ?a4 ?l4 ?c4 ?k4 ?a5 ?l5 ?c5 ?k5 ?a6 ?l6 ?c6 ?k6 ?a7 ?l7 ?c7 ?k7 ?a8 ?l8 ?c8 ?k8 ?a9 ?l9 ?c9 ?k9 ?a10 ?l10 ?c10 ?k10 ?a11 ?l11 ?c11 ?k11 ?a12 ?l12 ?c12 ?k12 ?a13 ?l13 ?c13 ?k13 ?a14 ?l14 ?c14 ?k14 ?a15 ?l15 ?c15 ?k15 ?a16 ?l16 ?c16 ?k16 ?a17 ?l17 ?c17 ?k17 ?a18 ?l18 ?c18 ?k18 ?a19 ?l19 ?c19 ?k19 ?z_ValueError ?z_bool ?z_int ?z_isinstance ?z_len ?z_max ?z_min ?z_range ?z_repr ?z_tuple ?g_MOST_ENTRIES ?n_InvalidSpans ?i_InvalidSpans ?t_InvalidSpans ?n_InvalidNodes ?i_InvalidNodes ?t_InvalidNodes ?n_InvalidBounds ?i_InvalidBounds ?t_InvalidBounds ?n_InvalidText ?i_InvalidText ?t_InvalidText ?n_OverBudget ?i_OverBudget ?t_OverBudget ?n_InvalidSize ?i_InvalidSize ?t_InvalidSize ?n_InvalidEntry ?i_InvalidEntry ?t_InvalidEntry ?n_InvalidNode ?i_InvalidNode ?t_InvalidNode ?n_InvalidSpan ?i_InvalidSpan ?t_InvalidSpan ?n_InvalidNumber ?i_InvalidNumber ?t_InvalidNumber ?n_InvalidHeight ?i_InvalidHeight ?t_InvalidHeight ?n_InvalidBudget ?i_InvalidBudget ?t_InvalidBudget ?n_InvalidOperation ?i_InvalidOperation ?t_InvalidOperation ?n_Nothing ?i_Nothing ?t_Nothing ?n_InvalidCommand ?i_InvalidCommand ?t_InvalidCommand ?n_LogError ?i_LogError ?t_LogError ?b_LogError ?d_LogError ?x_n ?x_t ?k_InvalidSize ?q_InvalidSize ?b_InvalidSize ?g_InvalidSize ?a_InvalidSize ?d_InvalidSize ?c_InvalidSize ?m_InvalidSize ?v_InvalidSize ?l_InvalidSize ?s_InvalidSize_InvalidSpans ?s_InvalidSize_InvalidNodes ?s_InvalidSize_InvalidBounds ?s_InvalidSize_InvalidText ?s_InvalidSize_OverBudget ?s_InvalidSize_InvalidSize ?s_InvalidSize_InvalidEntry ?s_InvalidSize_InvalidNode ?s_InvalidSize_InvalidSpan ?s_InvalidSize_InvalidNumber ?s_InvalidSize_InvalidHeight ?s_InvalidSize_InvalidBudget ?s_InvalidSize_InvalidOperation ?s_InvalidSize_Nothing ?s_InvalidSize_InvalidCommand
    (case a0 => k_is)
    (case l0 => k_is)
    (case c0 => k_is)
    (case k0 => k_is)
    (case a1 => k_is)
    (case l1 => k_is)
    (case c1 => k_is)
    (case k1 => k_is)
    (case a2 => k_is)
    (case l2 => k_is)
    (case c2 => k_is)
    (case k2 => k_is)
    (case a3 => k_is)
    (case l3 => k_is)
    (case c3 => k_is)
    (case k3 => k_is)
    (case a4 => k_is)
    (case l4 => k_is)
    (case c4 => k_is)
    (case k4 => k_is)
    (case a5 => k_is)
    (case l5 => k_is)
    (case c5 => k_is)
    (case k5 => k_is)
    (case a6 => k_is)
    (case l6 => k_is)
    (case c6 => k_is)
    (case k6 => k_is)
    (case a7 => k_is)
    (case l7 => k_is)
    (case c7 => k_is)
    (case k7 => k_is)
    (case a8 => k_is)
    (case l8 => k_is)
    (case c8 => k_is)
    (case k8 => k_is)
    (case a9 => k_is)
    (case l9 => k_is)
    (case c9 => k_is)
    (case k9 => k_is)
    (case a10 => k_is)
    (case l10 => k_is)
    (case c10 => k_is)
    (case k10 => k_is)
    (case a11 => k_is)
    (case l11 => k_is)
    (case c11 => k_is)
    (case k11 => k_is)
    (case a12 => k_is)
    (case l12 => k_is)
    (case c12 => k_is)
    (case k12 => k_is)
    (case a13 => k_is)
    (case l13 => k_is)
    (case c13 => k_is)
    (case k13 => k_is)
    (case a14 => k_is)
    (case l14 => k_is)
    (case c14 => k_is)
    (case k14 => k_is)
    (case a15 => k_is)
    (case l15 => k_is)
    (case c15 => k_is)
    (case k15 => k_is)
    (case a16 => k_is)
    (case l16 => k_is)
    (case c16 => k_is)
    (case k16 => k_is)
    (case a17 => k_is)
    (case l17 => k_is)
    (case c17 => k_is)
    (case k17 => k_is)
    (case a18 => k_is)
    (case l18 => k_is)
    (case c18 => k_is)
    (case k18 => k_is)
    (case a19 => k_is)
    (case l19 => k_is)
    (case c19 => k_is)
    (case k19 => k_is)
    (case z_ValueError => k_is)
    (case z_bool => k_is)
    (case z_int => k_is)
    (case z_isinstance => k_is)
    (case z_len => k_is)
    (case z_max => k_is)
    (case z_min => k_is)
    (case z_range => k_is)
    (case z_repr => k_is)
    (case z_tuple => k_is)
    (case g_MOST_ENTRIES => k_is)
    (case n_InvalidSpans => k_is)
    (case i_InvalidSpans => k_is)
    (case t_InvalidSpans => k_is)
    (case n_InvalidNodes => k_is)
    (case i_InvalidNodes => k_is)
    (case t_InvalidNodes => k_is)
    (case n_InvalidBounds => k_is)
    (case i_InvalidBounds => k_is)
    (case t_InvalidBounds => k_is)
    (case n_InvalidText => k_is)
    (case i_InvalidText => k_is)
    (case t_InvalidText => k_is)
    (case n_OverBudget => k_is)
    (case i_OverBudget => k_is)
    (case t_OverBudget => k_is)
    (case n_InvalidSize => k_is)
    (case i_InvalidSize => k_is)
    (case t_InvalidSize => k_is)
    (case n_InvalidEntry => k_is)
    (case i_InvalidEntry => k_is)
    (case t_InvalidEntry => k_is)
    (case n_InvalidNode => k_is)
    (case i_InvalidNode => k_is)
    (case t_InvalidNode => k_is)
    (case n_InvalidSpan => k_is)
    (case i_InvalidSpan => k_is)
    (case t_InvalidSpan => k_is)
    (case n_InvalidNumber => k_is)
    (case i_InvalidNumber => k_is)
    (case t_InvalidNumber => k_is)
    (case n_InvalidHeight => k_is)
    (case i_InvalidHeight => k_is)
    (case t_InvalidHeight => k_is)
    (case n_InvalidBudget => k_is)
    (case i_InvalidBudget => k_is)
    (case t_InvalidBudget => k_is)
    (case n_InvalidOperation => k_is)
    (case i_InvalidOperation => k_is)
    (case t_InvalidOperation => k_is)
    (case n_Nothing => k_is)
    (case i_Nothing => k_is)
    (case t_Nothing => k_is)
    (case n_InvalidCommand => k_is)
    (case i_InvalidCommand => k_is)
    (case t_InvalidCommand => k_is)
    (case n_LogError => k_is)
    (case i_LogError => k_is)
    (case t_LogError => k_is)
    (case b_LogError => k_is)
    (case d_LogError => k_is)
    (case x_n => k_is)
    (case x_t => k_is)
    (case k_InvalidSize => k_is)
    (case q_InvalidSize => k_exc)
    (case b_InvalidSize => k_is)
    (case g_InvalidSize => k_is)
    (case a_InvalidSize => k_is)
    (case d_InvalidSize => k_is)
    (case c_InvalidSize => k_is)
    (case m_InvalidSize => k_is)
    (case v_InvalidSize => k_is)
    (case l_InvalidSize => k_is)
    (case s_InvalidSize_InvalidSpans => k_is)
    (case s_InvalidSize_InvalidNodes => k_is)
    (case s_InvalidSize_InvalidBounds => k_is)
    (case s_InvalidSize_InvalidText => k_is)
    (case s_InvalidSize_OverBudget => k_is)
    (case s_InvalidSize_InvalidSize => k_is)
    (case s_InvalidSize_InvalidEntry => k_is)
    (case s_InvalidSize_InvalidNode => k_is)
    (case s_InvalidSize_InvalidSpan => k_is)
    (case s_InvalidSize_InvalidNumber => k_is)
    (case s_InvalidSize_InvalidHeight => k_is)
    (case s_InvalidSize_InvalidBudget => k_is)
    (case s_InvalidSize_InvalidOperation => k_is)
    (case s_InvalidSize_Nothing => k_is)
    (case s_InvalidSize_InvalidCommand => k_is)
