import PyProof.Rows.All
import Wide.All
import OpenK.AllK
import Wide.FinOn
import HandS.ForMost
import HandS.Wide
import HandS.WideBits
import HandS.IsInst
import HandS.Style
import HandS.Deep
import HandS.RaiseMore
import HandS.Conv
import HandS.Flow
import HandS.SortRule
import HandS.NoneIn
import HandS.TupLen
import HandS.Set
import HandS.SetFor
import HandS.Strs
import HandS.Defaults
import KE.DataAny
import HandS.TupSets
import HandS.Property
import HandS.TupAny
import HandS.OwnEq
import PyProof.ReprRoads
import PyProof.Rows.NestShow
import KE.DataMinMax
import KE.SortData
import PySem.Challenge.RW_logtrees_k53_whole_work_of_growing_logs
set_option Elab.async false
set_option linter.all false
set_option maxRecDepth 100000
set_option maxHeartbeats 4000000
namespace LT
/-- the greatest power of two less than m (m from 2) -/
def gp (m : Nat) : Nat := 2 ^ Nat.log2 (m - 1)
theorem gp_pos (m : Nat) : 0 < gp m := Nat.pow_pos (by decide)
theorem gp_lt {m : Nat} (h : 2 ≤ m) : gp m < m := by
  have := Nat.log2_self_le (n := m - 1) (by omega)
  unfold gp; omega
theorem gp_ge {m : Nat} (h : 2 ≤ m) : m ≤ 2 * gp m := by
  have := Nat.lt_log2_self (n := m - 1)
  unfold gp; rw [Nat.pow_succ] at this; omega
theorem pow_eq_of {i j : Nat} {m : Nat} (h1 : 2 ^ i < m) (h2 : m ≤ 2 * 2 ^ i) (h3 : 2 ^ j < m) (h4 : m ≤ 2 * 2 ^ j) : i = j := by
  have a : 2 ^ i < 2 ^ (j + 1) := by rw [Nat.pow_succ]; omega
  have b : 2 ^ j < 2 ^ (i + 1) := by rw [Nat.pow_succ]; omega
  have a' := (Nat.pow_lt_pow_iff_right (by decide : 1 < 2)).mp a
  have b' := (Nat.pow_lt_pow_iff_right (by decide : 1 < 2)).mp b
  omega
theorem gp_eq {i m : Nat} (h1 : 2 ^ i < m) (h2 : m ≤ 2 * 2 ^ i) : gp m = 2 ^ i := by
  have h : 2 ≤ m := by have := Nat.pow_pos (a := 2) (n := i) (by decide); omega
  have := pow_eq_of (gp_lt h) (gp_ge h) h1 h2
  unfold gp; rw [this]
theorem gp_pow (i : Nat) : gp (2 ^ (i + 1)) = 2 ^ i := gp_eq (by rw [Nat.pow_succ]; have := Nat.pow_pos (a := 2) (n := i) (by decide); omega) (by rw [Nat.pow_succ]; omega)

/-- siblings from the root's half down to the leaf's: nodes as (begin, length-end) pairs -/
def sib (b m e : Nat) : List (Nat × Nat) :=
  if h : m ≤ 1 then [] else
    if e < b + gp m then (b + gp m, b + m) :: sib b (gp m) e
    else (b, b + gp m) :: sib (b + gp m) (m - gp m) e
termination_by m
decreasing_by
  · exact gp_lt (by omega)
  · have := gp_pos m; omega
theorem sib_one {b m e : Nat} (h : m ≤ 1) : sib b m e = [] := by rw [sib]; simp [h]
theorem sib_low {b m e : Nat} (h : 2 ≤ m) (k : e < b + gp m) : sib b m e = (b + gp m, b + m) :: sib b (gp m) e := by
  rw [sib]; rw [dif_neg (by omega), if_pos k]
theorem sib_high {b m e : Nat} (h : 2 ≤ m) (k : ¬ e < b + gp m) : sib b m e = (b, b + gp m) :: sib (b + gp m) (m - gp m) e := by
  rw [sib]; rw [dif_neg (by omega), if_neg k]

/-! ### joining up again -/
def join (x y : Nat × Nat) : Nat × Nat := (min x.1 y.1, max x.2 y.2)
/-- the halves of a node -/
def halv (x : Nat × Nat) : (Nat × Nat) × (Nat × Nat) := ((x.1, x.1 + gp (x.2 - x.1)), (x.1 + gp (x.2 - x.1), x.2))
def ok1 (x y : Nat × Nat) : Prop := (join x y).1 + 2 ≤ (join x y).2 ∧ (halv (join x y) = (x, y) ∨ halv (join x y) = (y, x))
def oks : Nat × Nat → List (Nat × Nat) → Prop
  | _, [] => True
  | x, y :: r => ok1 x y ∧ oks (join x y) r
def top : Nat × Nat → List (Nat × Nat) → Nat × Nat
  | x, [] => x
  | x, y :: r => top (join x y) r
theorem oks_append : ∀ (x : Nat × Nat) (l r : List (Nat × Nat)), oks x l → oks (top x l) r → oks x (l ++ r)
  | _, [], _, _, h => h
  | x, y :: l, r, h1, h2 => ⟨h1.1, oks_append (join x y) l r h1.2 h2⟩
theorem top_append : ∀ (x : Nat × Nat) (l r : List (Nat × Nat)), top x (l ++ r) = top (top x l) r
  | _, [], _ => rfl
  | x, y :: l, r => top_append (join x y) l r
theorem sib_up : ∀ (m b e : Nat), b ≤ e → e < b + m → oks (e, e + 1) (sib b m e).reverse ∧ top (e, e + 1) (sib b m e).reverse = (b, b + m) := by
  intro m
  induction m using Nat.strongRecOn with
  | ind m ih =>
    intro b e h1 h2
    by_cases hm : m ≤ 1
    · have : m = 1 := by omega
      subst this
      rw [sib_one (by omega)]
      have : e = b := by omega
      subst this
      exact ⟨True.intro, rfl⟩
    · have g1 := gp_lt (m := m) (by omega)
      have g2 := gp_pos m
      by_cases k : e < b + gp m
      · rw [sib_low (by omega) k, List.reverse_cons]
        obtain ⟨p, q⟩ := ih (gp m) g1 b e h1 k
        have j : join (b, b + gp m) (b + gp m, b + m) = (b, b + m) := by
          unfold join; simp only []; rw [Nat.min_eq_left (by omega), Nat.max_eq_right (by omega)]
        refine ⟨oks_append _ _ _ p ?_, ?_⟩
        · rw [q]
          refine ⟨⟨?_, .inl ?_⟩, True.intro⟩
          · rw [j]; simp only []; omega
          · rw [j]; unfold halv; simp only []; rw [Nat.add_sub_cancel_left]
        · rw [top_append, q]; exact j
      · rw [sib_high (by omega) k, List.reverse_cons]
        obtain ⟨p, q⟩ := ih (m - gp m) (by omega) (b + gp m) e (by omega) (by omega)
        have e2 : b + gp m + (m - gp m) = b + m := by omega
        rw [e2] at q
        have j : join (b + gp m, b + m) (b, b + gp m) = (b, b + m) := by
          unfold join; simp only []; rw [Nat.min_eq_right (by omega), Nat.max_eq_left (by omega)]
        refine ⟨oks_append _ _ _ p ?_, ?_⟩
        · rw [q]
          refine ⟨⟨?_, .inr ?_⟩, True.intro⟩
          · rw [j]; simp only []; omega
          · rw [j]; unfold halv; simp only []; rw [Nat.add_sub_cancel_left]
        · rw [top_append, q]; exact j
theorem sib_len_pow (i : Nat) : ∀ (b e : Nat), b ≤ e → e < b + 2 ^ i → (sib b (2 ^ i) e).length = i := by
  induction i with
  | zero => intro b e h1 h2; rw [sib_one (by simp)]; rfl
  | succ i ih =>
    intro b e h1 h2
    have h3 : 2 ≤ 2 ^ (i + 1) := by rw [Nat.pow_succ]; have := Nat.pow_pos (a := 2) (n := i) (by decide); omega
    have g := gp_pow i
    have e2 : 2 ^ (i + 1) - 2 ^ i = 2 ^ i := by rw [Nat.pow_succ]; omega
    by_cases k : e < b + gp (2 ^ (i + 1))
    · rw [sib_low h3 k, List.length_cons, g, ih b e h1 (by omega)]
    · rw [sib_high h3 k, List.length_cons, g, e2, ih (b + 2 ^ i) e (by omega) (by rw [Nat.pow_succ] at h2; omega)]
/-! ### the peaks by digits: (begin, height) -/
def pk : Nat → Nat → Nat → List (Nat × Nat)
  | 0, _, _ => []
  | i + 1, n, b => if n.testBit i then (b, i) :: pk i n (b + 2 ^ i) else pk i n b
theorem mod_succ (n i : Nat) : n % 2 ^ (i + 1) = (if n.testBit i then 2 ^ i else 0) + n % 2 ^ i := by
  rw [Nat.mod_pow_succ, Nat.testBit_eq_decide_div_mod_eq, Nat.add_comm]
  have h : n / 2 ^ i % 2 = 0 ∨ n / 2 ^ i % 2 = 1 := by omega
  rcases h with h | h <;> rw [h] <;> simp
theorem pk_nil : ∀ (i n b : Nat), n % 2 ^ i = 0 → pk i n b = []
  | 0, _, _, _ => rfl
  | i + 1, n, b, h => by
    rw [mod_succ] at h
    have p := Nat.pow_pos (a := 2) (n := i) (by decide)
    unfold pk
    cases t : n.testBit i with
    | true => rw [t] at h; simp at h
    | false => rw [t] at h; simp at h; simp; exact pk_nil i n b h
theorem pk_ne : ∀ (i n b : Nat), n % 2 ^ i ≠ 0 → pk i n b ≠ []
  | 0, _, _, h => by simp [Nat.mod_one] at h
  | i + 1, n, b, h => by
    rw [mod_succ] at h
    unfold pk
    cases t : n.testBit i with
    | true => simp
    | false => rw [t] at h; simp at h; simp; exact pk_ne i n b (by omega)
theorem pk_begin : ∀ (i n b : Nat) (x : Nat × Nat), x ∈ pk i n b → b ≤ x.1 ∧ x.2 < i
  | 0, _, _, _, h => by simp [pk] at h
  | i + 1, n, b, x, h => by
    unfold pk at h
    cases t : n.testBit i with
    | true =>
      rw [t] at h; simp at h
      rcases h with h | h
      · subst h; exact ⟨Nat.le_refl _, Nat.lt_succ_self _⟩
      · have := pk_begin i n _ x h; have p := Nat.pow_pos (a := 2) (n := i) (by decide); omega
    | false =>
      rw [t] at h; simp at h
      have := pk_begin i n _ x h; omega
/-- what the law says of the levels: s the place of the first row, of t rows in all -/
def lev (t : Nat) : Nat → List (Nat × Nat) → List (Nat × Nat × Nat)
  | _, [] => []
  | s, x :: r => (x.1, x.1 + 2 ^ x.2, x.2 + min (s + 1) (t - 1)) :: lev t (s + 1) r
def due (e : Nat) (l : List (Nat × Nat × Nat)) : List Nat := (l.filter fun x => decide (x.1 ≤ e) && decide (e < x.2.1)).map fun x => x.2.2
theorem due_none (t e : Nat) : ∀ (l : List (Nat × Nat)) (s : Nat), (∀ x ∈ l, e < x.1) → due e (lev t s l) = []
  | [], _, _ => rfl
  | x :: r, s, h => by
    have h1 := h x (List.mem_cons_self)
    have ih := due_none t e r (s + 1) fun y hy => h y (List.mem_cons_of_mem _ hy)
    show List.map _ (List.filter _ ((x.1, x.1 + 2 ^ x.2, x.2 + min (s + 1) (t - 1)) :: lev t (s + 1) r)) = []
    rw [List.filter_cons, if_neg (by simp; omega)]
    exact ih
theorem due_is (n e : Nat) : ∀ (i b s : Nat), b ≤ e → e < b + n % 2 ^ i → due e (lev (s + (pk i n b).length) s (pk i n b)) = [(sib b (n % 2 ^ i) e).length + min s (s + (pk i n b).length - 1)] := by
  intro i
  induction i with
  | zero => intro b s h1 h2; simp [Nat.mod_one] at h2; omega
  | succ i ih =>
    intro b s h1 h2
    have p := Nat.pow_pos (a := 2) (n := i) (by decide)
    have ml := Nat.mod_lt n p
    cases t : n.testBit i with
    | false =>
      have e1 : n % 2 ^ (i + 1) = n % 2 ^ i := by rw [mod_succ, t]; simp
      have e2 : pk (i + 1) n b = pk i n b := by show (if n.testBit i = true then _ else _) = _; rw [t]; simp
      rw [e1] at h2
      rw [e1, e2]; exact ih b s h1 h2
    | true =>
      have e1 : n % 2 ^ (i + 1) = 2 ^ i + n % 2 ^ i := by rw [mod_succ, t]; simp
      have e2 : pk (i + 1) n b = (b, i) :: pk i n (b + 2 ^ i) := by show (if n.testBit i = true then _ else _) = _; rw [t]; simp
      rw [e1] at h2
      rw [e1, e2, List.length_cons]
      by_cases r0 : n % 2 ^ i = 0
      · rw [pk_nil i n _ r0, r0]
        rw [r0] at h2
        rw [Nat.add_zero] at h2
        rw [Nat.add_zero (2 ^ i), sib_len_pow i b e h1 h2]
        show List.map _ (List.filter _ [(b, b + 2 ^ i, i + min (s + 1) (s + (0 + 1) - 1))]) = _
        rw [List.filter_cons, if_pos (by simp; omega)]
        simp
      · have hne : 1 ≤ (pk i n (b + 2 ^ i)).length := by
          have := pk_ne i n (b + 2 ^ i) r0
          cases hh : pk i n (b + 2 ^ i) with
          | nil => exact absurd hh this
          | cons _ _ => rw [List.length_cons]; omega
        have g : gp (2 ^ i + n % 2 ^ i) = 2 ^ i := gp_eq (by omega) (by omega)
        by_cases k : e < b + 2 ^ i
        · rw [sib_low (by omega) (by rw [g]; exact k), g, List.length_cons, sib_len_pow i b e h1 k]
          have d := due_none (s + ((pk i n (b + 2 ^ i)).length + 1)) e (pk i n (b + 2 ^ i)) (s + 1) fun x hx => by have := pk_begin _ _ _ x hx; omega
          show List.map _ (List.filter _ ((b, b + 2 ^ i, i + min (s + 1) (s + ((pk i n (b + 2 ^ i)).length + 1) - 1)) :: lev (s + ((pk i n (b + 2 ^ i)).length + 1)) (s + 1) (pk i n (b + 2 ^ i)))) = _
          rw [List.filter_cons, if_pos (by simp; omega), List.map_cons]
          have d' : List.map (fun x => x.2.2) (List.filter (fun x => decide (x.1 ≤ e) && decide (e < x.2.1)) (lev (s + ((pk i n (b + 2 ^ i)).length + 1)) (s + 1) (pk i n (b + 2 ^ i)))) = [] := d
          rw [d']
          simp
          omega
        · rw [sib_high (by omega) (by rw [g]; exact k), g, List.length_cons, Nat.add_sub_cancel_left]
          have q := ih (b + 2 ^ i) (s + 1) (by omega) (by omega)
          have e3 : s + 1 + (pk i n (b + 2 ^ i)).length = s + ((pk i n (b + 2 ^ i)).length + 1) := by omega
          rw [e3] at q
          show List.map _ (List.filter _ ((b, b + 2 ^ i, i + min (s + 1) (s + ((pk i n (b + 2 ^ i)).length + 1) - 1)) :: lev (s + ((pk i n (b + 2 ^ i)).length + 1)) (s + 1) (pk i n (b + 2 ^ i)))) = _
          rw [List.filter_cons, if_neg (by simp; omega)]
          refine Eq.trans q ?_
          congr 1
          omega
/-! ### which pairs are nodes -/
/-- the bits of m - 1 -/
def lb (m : Nat) : Nat := if m ≤ 1 then 0 else Nat.log2 (m - 1) + 1
theorem lb_le {x i : Nat} (h : x ≤ 2 ^ i) : lb x ≤ i := by
  unfold lb
  by_cases k : x ≤ 1
  · rw [if_pos k]; omega
  · rw [if_neg k]
    have h1 := Nat.log2_self_le (n := x - 1) (by omega)
    have h2 : 2 ^ Nat.log2 (x - 1) < 2 ^ i := by omega
    exact (Nat.pow_lt_pow_iff_right (by decide : 1 < 2)).mp h2
theorem lb_ge (x : Nat) : x ≤ 2 ^ lb x := by
  unfold lb
  by_cases k : x ≤ 1
  · rw [if_pos k]; omega
  · rw [if_neg k]
    have := Nat.lt_log2_self (n := x - 1)
    omega
theorem lb_pow (i : Nat) : lb (2 ^ i) = i := by
  have h1 := lb_le (Nat.le_refl (2 ^ i))
  have h2 := (Nat.pow_le_pow_iff_right (by decide : 1 < 2)).mp (lb_ge (2 ^ i))
  omega
theorem lb_gp {m : Nat} (h : 2 ≤ m) : 2 ^ lb m = 2 * gp m := by
  unfold lb gp; rw [if_neg (by omega), Nat.pow_succ]; omega
def tree (n b m : Nat) : Prop := 2 ^ lb m ∣ b ∧ (m = 2 ^ lb m ∨ b + m = n)
theorem tree_root (n : Nat) : tree n 0 n := ⟨Nat.dvd_zero _, .inr (Nat.zero_add _)⟩
theorem tree_low {n b m : Nat} (h : 2 ≤ m) (t : tree n b m) : tree n b (gp m) := by
  obtain ⟨d, _⟩ := t
  rw [lb_gp h] at d
  have e : 2 ^ lb (gp m) = gp m := by unfold gp; rw [lb_pow]
  exact ⟨by rw [e]; exact Nat.dvd_trans (Nat.dvd_mul_left _ _) d, .inl e.symm⟩
theorem tree_high {n b m : Nat} (h : 2 ≤ m) (t : tree n b m) : tree n (b + gp m) (m - gp m) := by
  obtain ⟨d, k⟩ := t
  rw [lb_gp h] at d k
  have g1 := gp_lt h
  have g2 := gp_ge h
  have dg : 2 ^ lb (m - gp m) ∣ gp m := by
    have : lb (m - gp m) ≤ Nat.log2 (m - 1) := lb_le (by unfold gp at g1 g2 ⊢; omega)
    exact Nat.pow_dvd_pow 2 this
  refine ⟨Nat.dvd_add (Nat.dvd_trans dg (Nat.dvd_trans (Nat.dvd_mul_left _ _) d)) dg, ?_⟩
  rcases k with k | k
  · left
    have e : m - gp m = gp m := by omega
    rw [e]
    unfold gp; rw [lb_pow]
  · right; omega
theorem sib_len_le : ∀ (m b e : Nat), b ≤ e → e < b + m → (sib b m e).length ≤ lb m := by
  intro m
  induction m using Nat.strongRecOn with
  | ind m ih =>
    intro b e h1 h2
    by_cases hm : m ≤ 1
    · rw [sib_one hm]; exact Nat.zero_le _
    · have g1 := gp_lt (m := m) (by omega)
      have g2 := gp_ge (m := m) (by omega)
      have g3 := gp_pos m
      have e1 : lb m = Nat.log2 (m - 1) + 1 := by unfold lb; rw [if_neg hm]
      by_cases k : e < b + gp m
      · rw [sib_low (by omega) k, List.length_cons]
        have := ih (gp m) g1 b e h1 k
        have e2 : lb (gp m) = Nat.log2 (m - 1) := by unfold gp; rw [lb_pow]
        omega
      · rw [sib_high (by omega) k, List.length_cons]
        have := ih (m - gp m) (by omega) (b + gp m) e (by omega) (by omega)
        have e2 : lb (m - gp m) ≤ Nat.log2 (m - 1) := lb_le (by unfold gp at g1 g2 ⊢; omega)
        omega
end LT
namespace LT
open PySem PySem.Spec PyProof.Rows L2
def topS (i : Nat) : Stmt := PySem.Challenge.pw_logtrees_k53_whole_work_of_growing_logs.main.body.getD i (.Pass ⟨0, 0, 0, 0⟩)
abbrev sIsWhole : Stmt := topS 13
theorem scIsWhole : FnScope ["value"] ["value"] (defScope sIsWhole) := ⟨rfl, rfl, rfl, by decide +kernel, rfl, by decide +kernel, by decide +kernel⟩
abbrev sIsBetween : Stmt := topS 14
theorem scIsBetween : FnScope ["value", "low", "high"] ["value", "low", "high"] (defScope sIsBetween) := ⟨rfl, rfl, rfl, by decide +kernel, rfl, by decide +kernel, by decide +kernel⟩
abbrev sIsTreeNode : Stmt := topS 15
theorem scIsTreeNode : FnScope ["size", "value", "begin", "end", "room"] ["size", "value"] (defScope sIsTreeNode) := ⟨rfl, rfl, rfl, by decide +kernel, rfl, by decide +kernel, by decide +kernel⟩
abbrev sIsListOf : Stmt := topS 16
theorem scIsListOf : FnScope ["value", "least", "most"] ["value", "least", "most"] (defScope sIsListOf) := ⟨rfl, rfl, rfl, by decide +kernel, rfl, by decide +kernel, by decide +kernel⟩
abbrev sCheckSize : Stmt := topS 17
theorem scCheckSize : FnScope ["size"] ["size"] (defScope sCheckSize) := ⟨rfl, rfl, rfl, by decide +kernel, rfl, by decide +kernel, by decide +kernel⟩
abbrev sCheckSpan : Stmt := topS 18
theorem scCheckSpan : FnScope ["size", "begin", "end"] ["size", "begin", "end"] (defScope sCheckSpan) := ⟨rfl, rfl, rfl, by decide +kernel, rfl, by decide +kernel, by decide +kernel⟩
abbrev sCheckOlder : Stmt := topS 19
theorem scCheckOlder : FnScope ["size", "older"] ["size", "older"] (defScope sCheckOlder) := ⟨rfl, rfl, rfl, by decide +kernel, rfl, by decide +kernel, by decide +kernel⟩
abbrev sCheckNumberBetween : Stmt := topS 20
theorem scCheckNumberBetween : FnScope ["number", "least", "most"] ["number", "least", "most"] (defScope sCheckNumberBetween) := ⟨rfl, rfl, rfl, by decide +kernel, rfl, by decide +kernel, by decide +kernel⟩
abbrev sPowerWithin : Stmt := topS 22
theorem scPowerWithin : FnScope ["number"] ["number"] (defScope sPowerWithin) := ⟨rfl, rfl, rfl, by decide +kernel, rfl, by decide +kernel, by decide +kernel⟩
abbrev sFirstFull : Stmt := topS 23
theorem scFirstFull : FnScope ["begin", "end", "room"] ["begin", "end"] (defScope sFirstFull) := ⟨rfl, rfl, rfl, by decide +kernel, rfl, by decide +kernel, by decide +kernel⟩
abbrev sNodesWithin : Stmt := topS 24
theorem scNodesWithin : FnScope ["size", "begin", "end", "found", "node"] ["size", "begin", "end"] (defScope sNodesWithin) := ⟨rfl, rfl, rfl, by decide +kernel, rfl, by decide +kernel, by decide +kernel⟩
abbrev sPeaks : Stmt := topS 25
theorem scPeaks : FnScope ["size", "found", "begin", "end"] ["size"] (defScope sPeaks) := ⟨rfl, rfl, rfl, by decide +kernel, rfl, by decide +kernel, by decide +kernel⟩
abbrev sEdges : Stmt := topS 26
theorem scEdges : FnScope ["size", "begin", "_"] ["size"] (defScope sEdges) := ⟨rfl, rfl, rfl, by decide +kernel, rfl, by decide +kernel, by decide +kernel⟩
abbrev sNodeCount : Stmt := topS 27
theorem scNodeCount : FnScope ["size", "cut"] ["size"] (defScope sNodeCount) := ⟨rfl, rfl, rfl, by decide +kernel, rfl, by decide +kernel, by decide +kernel⟩
abbrev sCommonCount : Stmt := topS 28
theorem scCommonCount : FnScope ["size", "other", "full", "cut"] ["size", "other"] (defScope sCommonCount) := ⟨rfl, rfl, rfl, by decide +kernel, rfl, by decide +kernel, by decide +kernel⟩
abbrev sMadeSums : Stmt := topS 30
theorem scMadeSums : FnScope ["size"] ["size"] (defScope sMadeSums) := ⟨rfl, rfl, rfl, by decide +kernel, rfl, by decide +kernel, by decide +kernel⟩
abbrev sAppendSums : Stmt := topS 31
theorem scAppendSums : FnScope ["size", "number"] ["size", "number"] (defScope sAppendSums) := ⟨rfl, rfl, rfl, by decide +kernel, rfl, by decide +kernel, by decide +kernel⟩
abbrev sRootSums : Stmt := topS 32
theorem scRootSums : FnScope ["size"] ["size"] (defScope sRootSums) := ⟨rfl, rfl, rfl, by decide +kernel, rfl, by decide +kernel, by decide +kernel⟩
abbrev sQuotientsSum : Stmt := topS 33
theorem scQuotientsSum : FnScope ["first", "step", "number", "divisor", "total"] ["first", "step", "number", "divisor"] (defScope sQuotientsSum) := ⟨rfl, rfl, rfl, by decide +kernel, rfl, by decide +kernel, by decide +kernel⟩
abbrev sRootsAlong : Stmt := topS 34
theorem scRootsAlong : FnScope ["first", "step", "number", "total", "divisor"] ["first", "step", "number"] (defScope sRootsAlong) := ⟨rfl, rfl, rfl, by decide +kernel, rfl, by decide +kernel, by decide +kernel⟩
abbrev sCheckStretch : Stmt := topS 35
theorem scCheckStretch : FnScope ["low", "high"] ["low", "high"] (defScope sCheckStretch) := ⟨rfl, rfl, rfl, by decide +kernel, rfl, by decide +kernel, by decide +kernel⟩
abbrev sRootsTotal : Stmt := topS 36
theorem scRootsTotal : FnScope ["low", "high"] ["low", "high"] (defScope sRootsTotal) := ⟨rfl, rfl, rfl, by decide +kernel, rfl, by decide +kernel, by decide +kernel⟩
abbrev sCheapest : Stmt := topS 37
theorem scCheapest : FnScope ["low", "high", "found", "room", "size"] ["low", "high"] (defScope sCheapest) := ⟨rfl, rfl, rfl, by decide +kernel, rfl, by decide +kernel, by decide +kernel⟩
abbrev sCostliest : Stmt := topS 38
theorem scCostliest : FnScope ["low", "high", "size"] ["low", "high"] (defScope sCostliest) := ⟨rfl, rfl, rfl, by decide +kernel, rfl, by decide +kernel, by decide +kernel⟩
abbrev sCompact : Stmt := topS 42
theorem scCompact : FnScope ["begin", "end"] ["begin", "end"] (defScope sCompact) := ⟨rfl, rfl, rfl, by decide +kernel, rfl, by decide +kernel, by decide +kernel⟩
abbrev sCompactCount : Stmt := topS 43
theorem scCompactCount : FnScope ["begin", "end"] ["begin", "end"] (defScope sCompactCount) := ⟨rfl, rfl, rfl, by decide +kernel, rfl, by decide +kernel, by decide +kernel⟩
abbrev sCheckBounds : Stmt := topS 44
theorem scCheckBounds : FnScope ["bounds", "least", "item", "bound"] ["bounds"] (defScope sCheckBounds) := ⟨rfl, rfl, rfl, by decide +kernel, rfl, by decide +kernel, by decide +kernel⟩
abbrev sJoinSums : Stmt := topS 45
theorem scJoinSums : FnScope ["bounds", "apart", "begin", "end"] ["bounds"] (defScope sJoinSums) := ⟨rfl, rfl, rfl, by decide +kernel, rfl, by decide +kernel, by decide +kernel⟩
abbrev sLiveLogInit : Stmt := inClass (topS 49) 0
theorem scLiveLogInit : FnScope ["self", "size"] ["self", "size"] (defScope sLiveLogInit) := ⟨rfl, rfl, rfl, by decide +kernel, rfl, by decide +kernel, by decide +kernel⟩
abbrev sLiveLogEq : Stmt := inClass (topS 49) 1
theorem scLiveLogEq : FnScope ["self", "other"] ["self", "other"] (defScope sLiveLogEq) := ⟨rfl, rfl, rfl, by decide +kernel, rfl, by decide +kernel, by decide +kernel⟩
abbrev sLiveLogPresent : Stmt := inClass (topS 49) 2
theorem scLiveLogPresent : FnScope ["self"] ["self"] (defScope sLiveLogPresent) := ⟨rfl, rfl, rfl, by decide +kernel, rfl, by decide +kernel, by decide +kernel⟩
abbrev sLiveLogMarks : Stmt := inClass (topS 49) 3
theorem scLiveLogMarks : FnScope ["self"] ["self"] (defScope sLiveLogMarks) := ⟨rfl, rfl, rfl, by decide +kernel, rfl, by decide +kernel, by decide +kernel⟩
abbrev sLiveLogSpent : Stmt := inClass (topS 49) 4
theorem scLiveLogSpent : FnScope ["self"] ["self"] (defScope sLiveLogSpent) := ⟨rfl, rfl, rfl, by decide +kernel, rfl, by decide +kernel, by decide +kernel⟩
abbrev sLiveLogAppend : Stmt := inClass (topS 49) 5
theorem scLiveLogAppend : FnScope ["self", "number"] ["self", "number"] (defScope sLiveLogAppend) := ⟨rfl, rfl, rfl, by decide +kernel, rfl, by decide +kernel, by decide +kernel⟩
abbrev sLiveLogMark : Stmt := inClass (topS 49) 6
theorem scLiveLogMark : FnScope ["self"] ["self"] (defScope sLiveLogMark) := ⟨rfl, rfl, rfl, by decide +kernel, rfl, by decide +kernel, by decide +kernel⟩
abbrev sLiveLogCut : Stmt := inClass (topS 49) 7
theorem scLiveLogCut : FnScope ["self", "size"] ["self", "size"] (defScope sLiveLogCut) := ⟨rfl, rfl, rfl, by decide +kernel, rfl, by decide +kernel, by decide +kernel⟩
abbrev sLiveLogUndo : Stmt := inClass (topS 49) 8
theorem scLiveLogUndo : FnScope ["self", "_"] ["self"] (defScope sLiveLogUndo) := ⟨rfl, rfl, rfl, by decide +kernel, rfl, by decide +kernel, by decide +kernel⟩
abbrev sLiveLogLog : Stmt := inClass (topS 49) 9
theorem scLiveLogLog : FnScope ["self", "operation", "_"] ["self"] (defScope sLiveLogLog) := ⟨rfl, rfl, rfl, by decide +kernel, rfl, by decide +kernel, by decide +kernel⟩
abbrev sLiveLogPreview : Stmt := inClass (topS 49) 11
theorem scLiveLogPreview : FnScope ["self", "operations", "operation", "state"] ["self", "operations"] (defScope sLiveLogPreview) := ⟨rfl, rfl, rfl, by decide +kernel, rfl, by decide +kernel, by decide +kernel⟩
abbrev sIsOperation : Stmt := topS 48
theorem scIsOperation : FnScope ["value"] ["value"] (defScope sIsOperation) := ⟨rfl, rfl, rfl, by decide +kernel, rfl, by decide +kernel, by decide +kernel⟩
abbrev sLiveLogPerform : Stmt := inClass (topS 49) 12
theorem scLiveLogPerform : FnScope ["self", "operation", "state"] ["self", "operation"] (defScope sLiveLogPerform) := ⟨rfl, rfl, rfl, by decide +kernel, rfl, by decide +kernel, by decide +kernel⟩
abbrev sLiveLogBehind : Stmt := inClass (topS 49) 13
theorem scLiveLogBehind : FnScope ["self", "state", "operation", "present", "marks", "spent", "number", "size", "mark"] ["self", "state", "operation"] (defScope sLiveLogBehind) := ⟨rfl, rfl, rfl, by decide +kernel, rfl, by decide +kernel, by decide +kernel⟩
abbrev sLawWound : Stmt := topS 52
theorem scLawWound : FnScope ["script", "k", "cell"] ["script", "k"] (defScope sLawWound) := ⟨rfl, rfl, rfl, by decide +kernel, rfl, by decide +kernel, by decide +kernel⟩
abbrev sLawSpin : Stmt := topS 53
theorem scLawSpin : FnScope ["reel", "many", "drawn", "mixed"] ["reel", "many"] (defScope sLawSpin) := ⟨rfl, rfl, rfl, by decide +kernel, rfl, by decide +kernel, by decide +kernel⟩
abbrev sLawDrawnSize : Stmt := topS 54
theorem scLawDrawnSize : FnScope ["reel", "power", "other", "some"] ["reel"] (defScope sLawDrawnSize) := ⟨rfl, rfl, rfl, by decide +kernel, rfl, by decide +kernel, by decide +kernel⟩
abbrev sLawRight : Stmt := topS 55
theorem scLawRight : FnScope ["reel", "size", "more", "grown", "full", "others", "low", "high", "total", "joined"] ["reel"] (defScope sLawRight) := ⟨rfl, rfl, rfl, by decide +kernel, rfl, by decide +kernel, by decide +kernel⟩
abbrev sLawLogRight : Stmt := topS 56
theorem scLawLogRight : FnScope ["reel", "size", "live", "due", "marks", "turn", "number"] ["reel"] (defScope sLawLogRight) := ⟨rfl, rfl, rfl, by decide +kernel, rfl, by decide +kernel, by decide +kernel⟩
abbrev sLaw : Stmt := topS 57
theorem scLaw : FnScope ["script", "k", "reel", "turn"] ["script"] (defScope sLaw) := ⟨rfl, rfl, rfl, by decide +kernel, rfl, by decide +kernel, by decide +kernel⟩
/-- a def as it stands behind the top -/
structure At (K : PySem.W.Frag) (mg : Str → Option Value) (x : Str) (f : Addr) (fd : FuncData) (ps : List Str) : Prop where
  m : mg x = some (.ref f)
  kp : PySem.W.keepIn K (.ref f) = true
  b : Binds K fd ps []
theorem units1 {k : Nat} {A : Around} (r : Room k A) : A.units + 65 < cLine := by have := r.un; omega
/-- all but b as it was -/
def But (b : Addr) (H H' : Hp) : Prop := ∀ a o, a ≠ b → H a = some o → H' a = some o
theorem But.refl (b : Addr) (H : Hp) : But b H H := fun _ _ _ h => h
theorem But.trans {b : Addr} {H H1 H2 : Hp} (x : But b H H1) (y : But b H1 H2) : But b H H2 := fun a o n h => y a o n (x a o n h)
theorem But.of {b : Addr} {H H1 : Hp} (x : Same H H1) : But b H H1 := fun a o _ h => x a o h
theorem same_upd {H : Hp} {p : Addr} {o : HO} (h : H p = none) : Same H (upd H p o) := fun b x e => by
  rw [upd_ne (ne_of_none e h)]
  exact e
def BagAt (H : Hp) (b : Addr) : Prop := ∃ x y z : Int, H b = some (.lst [.int x, .int y, .int z])
theorem BagAt.same {H H' : Hp} {b : Addr} (h : BagAt H b) (s : Same H H') : BagAt H' b := by
  obtain ⟨x, y, z, e⟩ := h
  exact ⟨x, y, z, s _ _ e⟩
/-- a pair of ints -/
def Nd (H : Hp) (v : V) (x : Nat × Nat) : Prop := ∃ p, v = .ref p ∧ H p = some (.tup [.int x.1, .int x.2])
theorem Nd.same {H H' : Hp} {v : V} {x : Nat × Nat} (h : Nd H v x) (s : Same H H') : Nd H' v x := by
  obtain ⟨p, e, q⟩ := h
  exact ⟨p, e, s _ _ q⟩
theorem Nd.dp {K : PySem.W.Frag} {H : Hp} {v : V} {x : Nat × Nat} (h : Nd H v x) : Dp K H v (.tuple [.int x.1, .int x.2]) := by
  obtain ⟨p, rfl, q⟩ := h
  exact .tup (SqT.of q) (.cons (.int _) (.cons (.int _) .nil))
theorem nd_shaped (a b : Int) : SeqAt.shaped (.tuple [.int a, .int b]) = true := by
  show (PyData.canLay0 _ && decide (PyData.depth _ ≤ 64)) = true
  simp [PyData.canLay0, PyData.canLayAll0, PyData.depth, PyData.depthAll]
theorem nd_eqv (a b c d : Int) : PyData.eqv (.tuple [.int a, .int b]) (.tuple [.int c, .int d]) = (decide (a = c) && decide (b = d)) := by
  have e : PyData.eqv (.tuple [.int a, .int b]) (.tuple [.int c, .int d]) = ((a == c) && ((b == d) && true)) := by simp only [PyData.eqv, PyData.eqvAll]
  rw [e, Bool.and_true]
  by_cases h1 : a = c <;> by_cases h2 : b = d <;> simp [h1, h2]
/-- lists of values and what they stand for -/
inductive All2 {α : Type} (R : V → α → Prop) : List V → List α → Prop
  | nil : All2 R [] []
  | cons {v : V} {x : α} {vs : List V} {xs : List α} : R v x → All2 R vs xs → All2 R (v :: vs) (x :: xs)
section
variable {α : Type} {R R' : V → α → Prop}
theorem All2.mono (f : ∀ v x, R v x → R' v x) : ∀ {vs : List V} {xs : List α}, All2 R vs xs → All2 R' vs xs
  | _, _, .nil => .nil
  | _, _, .cons h t => .cons (f _ _ h) (All2.mono f t)
theorem All2.len : ∀ {vs : List V} {xs : List α}, All2 R vs xs → vs.length = xs.length
  | _, _, .nil => rfl
  | _, _, .cons _ t => by rw [List.length_cons, List.length_cons, All2.len t]
theorem All2.app : ∀ {vs : List V} {xs : List α} {us : List V} {ys : List α}, All2 R vs xs → All2 R us ys → All2 R (vs ++ us) (xs ++ ys)
  | _, _, _, _, .nil, h => h
  | _, _, _, _, .cons h t, k => .cons h (All2.app t k)
theorem All2.rev : ∀ {vs : List V} {xs : List α}, All2 R vs xs → All2 R vs.reverse xs.reverse
  | _, _, .nil => .nil
  | _, _, .cons h t => by
    rw [List.reverse_cons, List.reverse_cons]
    exact All2.app (All2.rev t) (.cons h .nil)
theorem All2.nth : ∀ {vs : List V} {xs : List α} {i : Nat} {v : V}, All2 R vs xs → vs[i]? = some v → ∃ x, xs[i]? = some x ∧ R v x
  | _, _, _, _, .nil, h => by simp at h
  | _, _, 0, _, .cons h t, e => by
    have := Option.some.inj e
    subst this
    exact ⟨_, rfl, h⟩
  | _, _, i + 1, _, .cons h t, e => by
    rw [List.getElem?_cons_succ] at e ⊢
    exact All2.nth t e
theorem All2.nth2 : ∀ {vs : List V} {xs : List α} {i : Nat} {x : α}, All2 R vs xs → xs[i]? = some x → ∃ v, vs[i]? = some v ∧ R v x
  | _, _, _, _, .nil, h => by simp at h
  | _, _, 0, _, .cons h t, e => by
    have := Option.some.inj e
    subst this
    exact ⟨_, rfl, h⟩
  | _, _, i + 1, _, .cons h t, e => by
    rw [List.getElem?_cons_succ] at e ⊢
    exact All2.nth2 t e
end

/-! ### rules within a comprehension: what they say of the written part is said of the def's -/
section
open PySem L2
variable {X : Cx} {s : Shared} {H : Hp} {sc : Scope} {ce : Env} {fp : List Addr}
theorem pg_tupB {es : List Expr} {k : Nat} {pos : Pos} {t : TGs} {n : Nat} (hc : X.calm = true) (h : PGs (X.blk s H sc ce fp) es t)
    (hn : (assignEach es (X.blk s H sc ce fp).env).length = n := by rfl) (hst : (assignEach es (X.blk s H sc ce fp).env).findIdx? (·.1) = none := by rfl) : PG (X.blk s H sc ce fp) (.Tuple es k pos) (gTup X.K n t) := pg_tup hc h hn hst
theorem ix_listB : IxR (X.blk s H sc ce fp) (rIxL X.K) := ix_list
theorem ix_tupB : IxR (X.blk s H sc ce fp) (rIxT X.K) := ix_tup
theorem call_len_seqB : CallR (X.blk s H sc ce fp) (.builtin "len") (fun xs H Q => ∃ p ys, xs = [.ref p] ∧ (SqL X.K H p ys ∨ SqT X.K H p ys) ∧ Q (.int ys.length) H) := call_len_seq
theorem op_eqDB (hu : X.A.units + 64 < cLine) : OpR (X.blk s H sc ce fp) (compareOp .Eq) (rEqD X.K) := op_eqD (X := X.blk s H sc ce fp) hu
theorem op_neDB (hu : X.A.units + 64 < cLine) : OpR (X.blk s H sc ce fp) (compareOp .NotEq) (rNeD X.K) := op_neD (X := X.blk s H sc ce fp) hu
theorem op_inDB (hu : X.A.units + 65 < cLine) : OpR (X.blk s H sc ce fp) (compareOp .In) (rInD X.K) := op_inD (X := X.blk s H sc ce fp) hu
theorem op_notInDB (hu : X.A.units + 65 < cLine) : OpR (X.blk s H sc ce fp) (compareOp .NotIn) (rNotInD X.K) := op_notInD (X := X.blk s H sc ce fp) hu
end
theorem Nd.upd {H : Hp} {v : V} {x : Nat × Nat} {s : Addr} {xs : List V} {o : HO} (h : Nd H v x) (hs : H s = some (.lst xs)) : Nd (upd H s o) v x := by
  obtain ⟨p, e, q⟩ := h
  exact ⟨p, e, by rw [upd_ne (ne_of q hs (by intro z; cases z))]; exact q⟩
def full (x : Nat × Nat) : Nat × Nat := (x.1, x.1 + 2 ^ x.2)
theorem pk_len : ∀ (i n b : Nat), (pk i n b).length ≤ i
  | 0, _, _ => Nat.le_refl _
  | i + 1, n, b => by
    show (if n.testBit i = true then (b, i) :: pk i n (b + 2 ^ i) else pk i n b).length ≤ i + 1
    by_cases t : n.testBit i = true
    · rw [if_pos t, List.length_cons]
      exact Nat.succ_le_succ (pk_len i n _)
    · rw [if_neg t]
      exact Nat.le_succ_of_le (pk_len i n b)
theorem take_more {α : Type} : ∀ {l : List α} {i : Nat} {x : α}, l[i]? = some x → l.take (i + 1) = l.take i ++ [x]
  | [], i, x, h => by simp at h
  | a :: l, 0, x, h => by
    have e : a = x := Option.some.inj h
    subst e
    rfl
  | a :: l, i + 1, x, h => by
    have ih := take_more (l := l) (i := i) (x := x) h
    show a :: l.take (i + 1) = a :: l.take i ++ [x]
    rw [ih]
    rfl
theorem szle {n : Nat} (h : n ≤ 100000) : n ≤ sizeLine := Nat.le_trans h (by decide)
theorem szlt {n : Nat} (h : n < 100000) : n < sizeLine := Nat.lt_of_lt_of_le h (by decide)
end LT

namespace LT
open PySem PySem.Spec PyProof.Rows L2
section
variable {P : Program} {w : World} {K : PySem.W.Frag} {mg : Str → Option Value} {base : Heap}
def spWhole : Sp := fun vs H Q _ => ∃ i : Int, vs = [.int i] ∧ Q (.bl true) H
theorem ok_is_whole {f : Addr} {fd : FuncData} (F : Fun K "is_whole" "is_whole" sIsWhole f fd) (z_isinstance : mg "isinstance" = none) (z_int : mg "int" = none) (z_bool : mg "bool" = none) : FnOk P w K mg base CX0 1 f fd ["value"] spWhole := by
  refine F.ok scIsWhole (fun vs H Q E h => ?_) (fun cdv A outer s H vs Q E hr h => ?_)
  · obtain ⟨i, rfl, _⟩ := h
    rfl
  obtain ⟨i, rfl, q⟩ := h
  refine ⟨_, (pss_one (ps_ret (pe_and (pe_callB call_isi (by rfl) z_isinstance (by decide +kernel) (pa_cons (pv 0) (pa_cons (pe_bltn (v := .ty "int") (u := .type "int") (by rfl) z_int (by decide +kernel) rfl) pa_nil))) (pe_one (pe_not (pe_callB call_isi (by rfl) z_isinstance (by decide +kernel) (pa_cons (pv 0) (pa_cons (pe_bltn (v := .ty "bool") (u := .type "bool") (by rfl) z_bool (by decide +kernel) rfl) pa_nil)))))))), ?_⟩
  refine ⟨_, rfl, _, _, _, _, true, rfl, .ty "int", .base (.int i), kit_ty (by decide +kernel), true, rfl, ?_⟩
  refine ⟨_, rfl, _, _, _, _, false, rfl, .ty "bool", .base (.int i), kit_ty (by decide +kernel), false, rfl, ?_⟩
  exact q
def spBetween : Sp := fun vs H Q _ => ∃ v lo hi : Int, vs = [.int v, .int lo, .int hi] ∧ Q (.bl (decide (lo ≤ v) && decide (v ≤ hi))) H
theorem ok_is_between {f g : Addr} {fd gd : FuncData} (F : Fun K "is_between" "is_between" sIsBetween f fd) (GIsWhole : FnOk P w K mg base CX0 1 g gd ["value"] spWhole) (AIsWhole : At K mg "is_whole" g gd ["value"]) : FnOk P w K mg base CX0 2 f fd ["value", "low", "high"] spBetween := by
  refine F.ok scIsBetween (fun vs H Q E h => ?_) (fun cdv A outer s H vs Q E hr h => ?_)
  · obtain ⟨i, _, _, rfl, _⟩ := h
    rfl
  obtain ⟨v, lo, hi, rfl, q⟩ := h
  refine ⟨_, (pss_one (ps_ret (pe_and (pe_call GIsWhole (hr.mono (by decide)) rfl AIsWhole.m AIsWhole.kp AIsWhole.b .nil pass0 (pa_cons (pv 0) pa_nil)) (pe_one (pe_chain op_le op_le (pv 1) (pv 0) (pv 2)))))), ?_⟩
  refine ⟨_, rfl, v, rfl, true, rfl, ?_⟩
  refine ⟨_, rfl, _, rfl, _, _, rfl, rfl, _, rfl, ?_⟩
  by_cases h1 : lo ≤ v
  · rw [decide_eq_true h1] at q ⊢
    exact ⟨_, rfl, _, _, rfl, rfl, q⟩
  · rw [decide_eq_false h1] at q ⊢
    exact q
def spCheckSize : Sp := fun vs H Q _ => ∃ n : Int, vs = [.int n] ∧ 1 ≤ n ∧ n ≤ 10 ^ 30 ∧ Q .non H
theorem ok_check_size {f g : Addr} {fd gd : FuncData} {t : Tok} (F : Fun K "check_size" "check_size" sCheckSize f fd) (GIsBetween : FnOk P w K mg base CX0 2 g gd ["value", "low", "high"] spBetween) (AIsBetween : At K mg "is_between" g gd ["value", "low", "high"]) (g_MOST_ENTRIES : mg "MOST_ENTRIES" = some (.int 1000000000000000000000000000000 t)) : FnOk P w K mg base CX0 3 f fd ["size"] spCheckSize := by
  refine F.ok scCheckSize (fun vs H Q E h => ?_) (fun cdv A outer s H vs Q E hr h => ?_)
  · obtain ⟨i, rfl, _⟩ := h
    rfl
  obtain ⟨n, rfl, h1, h2, q⟩ := h
  refine ⟨_, (pss_one (ps_if (pt_not (pt_val (pe_call GIsBetween (hr.mono (by decide)) rfl AIsBetween.m AIsBetween.kp AIsBetween.b .nil pass0 (pa_cons (pv 0) (pa_cons pe_int (pa_cons (pe_glob (v := .int 1000000000000000000000000000000) rfl g_MOST_ENTRIES ⟨_, rfl⟩) pa_nil))))))
    (pss_one ps_never)
    pss_nil)), ?_⟩
  refine ⟨_, rfl, n, 1, 1000000000000000000000000000000, rfl, _, rfl, ?_⟩
  rw [decide_eq_true h1, decide_eq_true (show n ≤ 1000000000000000000000000000000 from h2)]
  exact q
end
end LT

namespace LT
open PySem PySem.Spec PyProof.Rows L2
/-- values of the plain kinds, with their types -/
inductive Pl (K : PySem.W.Frag) (H : Hp) : V → String → Prop
  | non : Pl K H .non "NoneType"
  | bl (b : Bool) : Pl K H (.bl b) "bool"
  | int (i : Int) : Pl K H (.int i) "int"
  | str (s : Str) : Pl K H (.str s) "str"
  | lst {a : Addr} {xs : List V} : H a = some (.lst xs) → Pl K H (.ref a) "list"
  | tup {a : Addr} {xs : List V} : H a = some (.tup xs) → Pl K H (.ref a) "tuple"
  | dict {a : Addr} {kvs : List (Key × V)} : H a = some (.dK kvs) → Pl K H (.ref a) "dict"
theorem Pl.ty {K : PySem.W.Frag} {H : Hp} {v : V} {t : String} (h : Pl K H v t) : TyX K H v (.type t) := by
  cases h with
  | non => exact .base .non
  | bl b => exact .base (.bl b)
  | int i => exact .base (.int i)
  | str s => exact .base (.str s)
  | lst e => exact .base (.lst e)
  | tup e => exact .base (.tup e)
  | dict e => exact .base (.dK e)
def isInt : V → Bool
  | .int _ => true
  | _ => false
def inRange (lo hi : Int) : V → Bool
  | .int i => decide (lo ≤ i) && decide (i ≤ hi)
  | _ => false
section
variable {P : Program} {w : World} {K : PySem.W.Frag} {mg : Str → Option Value} {base : Heap}
def spWholeV (K : PySem.W.Frag) : Sp := fun vs H Q _ => ∃ (v : V) (t : String), vs = [v] ∧ Pl K H v t ∧ Q (.bl (isInt v)) H
theorem ok_is_wholeV {f : Addr} {fd : FuncData} (F : Fun K "is_whole" "is_whole" sIsWhole f fd) (z_isinstance : mg "isinstance" = none) (z_int : mg "int" = none) (z_bool : mg "bool" = none) : FnOk P w K mg base CX0 1 f fd ["value"] (spWholeV K) := by
  refine F.ok scIsWhole (fun vs H Q E h => ?_) (fun cdv A outer s H vs Q E hr h => ?_)
  · obtain ⟨_, _, rfl, _⟩ := h
    rfl
  obtain ⟨v, t, rfl, hv, q⟩ := h
  refine ⟨_, (pss_one (ps_ret (pe_and (pe_callB call_isi (by rfl) z_isinstance (by decide +kernel) (pa_cons (pv 0) (pa_cons (pe_bltn (v := .ty "int") (u := .type "int") (by rfl) z_int (by decide +kernel) rfl) pa_nil))) (pe_one (pe_not (pe_callB call_isi (by rfl) z_isinstance (by decide +kernel) (pa_cons (pv 0) (pa_cons (pe_bltn (v := .ty "bool") (u := .type "bool") (by rfl) z_bool (by decide +kernel) rfl) pa_nil)))))))), ?_⟩
  cases hv with
  | non => exact ⟨_, rfl, _, _, _, _, false, rfl, .ty "int", (Pl.non (K := K) (H := H)).ty, kit_ty (by decide +kernel), false, rfl, q⟩
  | bl b => exact ⟨_, rfl, _, _, _, _, true, rfl, .ty "int", (Pl.bl (K := K) (H := H) b).ty, kit_ty (by decide +kernel), true, rfl, _, rfl, _, _, _, _, true, rfl, .ty "bool", (Pl.bl (K := K) (H := H) b).ty, kit_ty (by decide +kernel), true, rfl, q⟩
  | int i => exact ⟨_, rfl, _, _, _, _, true, rfl, .ty "int", (Pl.int (K := K) (H := H) i).ty, kit_ty (by decide +kernel), true, rfl, _, rfl, _, _, _, _, false, rfl, .ty "bool", (Pl.int (K := K) (H := H) i).ty, kit_ty (by decide +kernel), false, rfl, q⟩
  | str s => exact ⟨_, rfl, _, _, _, _, false, rfl, .ty "int", (Pl.str (K := K) (H := H) s).ty, kit_ty (by decide +kernel), false, rfl, q⟩
  | lst e => exact ⟨_, rfl, _, _, _, _, false, rfl, .ty "int", (Pl.lst (K := K) e).ty, kit_ty (by decide +kernel), false, rfl, q⟩
  | tup e => exact ⟨_, rfl, _, _, _, _, false, rfl, .ty "int", (Pl.tup (K := K) e).ty, kit_ty (by decide +kernel), false, rfl, q⟩
  | dict e => exact ⟨_, rfl, _, _, _, _, false, rfl, .ty "int", (Pl.dict (K := K) e).ty, kit_ty (by decide +kernel), false, rfl, q⟩
def spBetweenV (K : PySem.W.Frag) : Sp := fun vs H Q _ => ∃ (v : V) (t : String) (lo hi : Int), vs = [v, .int lo, .int hi] ∧ Pl K H v t ∧ Q (.bl (inRange lo hi v)) H
theorem ok_is_betweenV {f g : Addr} {fd gd : FuncData} (F : Fun K "is_between" "is_between" sIsBetween f fd) (GIsWhole : FnOk P w K mg base CX0 1 g gd ["value"] (spWholeV K)) (AIsWhole : At K mg "is_whole" g gd ["value"]) : FnOk P w K mg base CX0 2 f fd ["value", "low", "high"] (spBetweenV K) := by
  refine F.ok scIsBetween (fun vs H Q E h => ?_) (fun cdv A outer s H vs Q E hr h => ?_)
  · obtain ⟨_, _, _, _, rfl, _⟩ := h
    rfl
  obtain ⟨v, t, lo, hi, rfl, hv, q⟩ := h
  refine ⟨_, (pss_one (ps_ret (pe_and (pe_call GIsWhole (hr.mono (by decide)) rfl AIsWhole.m AIsWhole.kp AIsWhole.b .nil pass0 (pa_cons (pv 0) pa_nil)) (pe_one (pe_chain op_le op_le (pv 1) (pv 0) (pv 2)))))), ?_⟩
  refine ⟨_, rfl, v, t, rfl, hv, isInt v, rfl, ?_⟩
  cases v with
  | int i =>
    have q' : Q (.bl (decide (lo ≤ i) && decide (i ≤ hi))) H := q
    refine ⟨_, rfl, _, rfl, _, _, rfl, rfl, _, rfl, ?_⟩
    by_cases h1 : lo ≤ i
    · rw [decide_eq_true h1] at q' ⊢
      exact ⟨_, rfl, _, _, rfl, rfl, q'⟩
    · rw [decide_eq_false h1] at q' ⊢
      exact q'
  | non => exact q
  | bl _ => exact q
  | str _ => exact q
  | byt _ => exact q
  | flt _ => exact q
  | ref _ => exact q
  | ty _ => exact q
theorem whole_of {k : Nat} {f : Addr} {fd : FuncData} (F : FnOk P w K mg base CX0 k f fd ["value"] (spWholeV K)) : FnOk P w K mg base CX0 k f fd ["value"] spWhole :=
  F.imp fun vs H Q E h => by
    obtain ⟨i, rfl, q⟩ := h
    exact ⟨_, _, rfl, .int i, q⟩
theorem between_of {k : Nat} {f : Addr} {fd : FuncData} (F : FnOk P w K mg base CX0 k f fd ["value", "low", "high"] (spBetweenV K)) : FnOk P w K mg base CX0 k f fd ["value", "low", "high"] spBetween :=
  F.imp fun vs H Q E h => by
    obtain ⟨v, lo, hi, rfl, q⟩ := h
    exact ⟨_, _, _, _, rfl, .int v, q⟩
end
end LT

namespace LT
open PySem PySem.Spec PyProof.Rows L2
theorem bits_nat (k : Nat) : Builtin.Int.intBits (k : Int) = if k = 0 then 0 else k.log2 + 1 := by
  unfold Builtin.Int.intBits
  by_cases h : k = 0
  · subst h; rfl
  · rw [if_neg h, if_neg (by simpa using h)]
    rfl
theorem bits_lb {m : Nat} (h : 1 ≤ m) : Builtin.Int.intBits ((m - 1 : Nat) : Int) = lb m := by
  rw [bits_nat]
  unfold lb
  by_cases k : m ≤ 1
  · rw [if_pos k, if_pos (by omega)]
  · rw [if_neg k, if_neg (by omega)]
theorem lb100 {m : Nat} (h : m ≤ 10 ^ 30) : lb m ≤ 100 := lb_le (Nat.le_trans h (by decide))
theorem fmod_of_dvd {a b : Nat} (h : a ∣ b) : Int.fmod (b : Int) (a : Int) = 0 := by
  rw [Int.fmod_eq_emod_of_nonneg _ (Int.natCast_nonneg _)]
  exact Int.emod_eq_zero_of_dvd (Int.natCast_dvd_natCast.mpr h)
end LT

namespace LT
open PySem PySem.Spec PyProof.Rows L2
section
variable {P : Program} {w : World} {K : PySem.W.Frag} {mg : Str → Option Value} {base : Heap}
def spPower : Sp := fun vs H Q _ => ∃ (k : Nat), vs = [.int k] ∧ 1 ≤ k ∧ k ≤ 10 ^ 30 ∧ Q (.int ((2 ^ k.log2 : Nat) : Int)) H
theorem ok_power_within {f : Addr} {fd : FuncData} (F : Fun K "power_within" "power_within" sPowerWithin f fd) : FnOk P w K mg base CX0 1 f fd ["number"] spPower := by
  refine F.ok scPowerWithin (fun vs H Q E h => ?_) (fun cdv A outer s H vs Q E hr h => ?_)
  · obtain ⟨_, rfl, _⟩ := h
    rfl
  obtain ⟨k, rfl, h1, h30, q⟩ := h
  refine ⟨_, (pss_one (ps_ret (pe_op op_shl pe_int (pe_op op_sub (pe_bits (pv 0)) pe_int)))), ?_⟩
  refine ⟨_, rfl, _, rfl, _, _, rfl, rfl, ?_⟩
  dsimp only
  have e : ((Builtin.Int.intBits (k : Int) : Nat) : Int) - 1 = ((k.log2 : Nat) : Int) := by
    rw [bits_nat, if_neg (by omega)]
    omega
  rw [e]
  have l100 : k.log2 < 100 := (Nat.log2_lt (by omega)).mpr (Nat.lt_of_le_of_lt h30 (by decide))
  refine ⟨_, _, rfl, rfl, ⟨Int.natCast_nonneg _, by omega, by decide⟩, ?_⟩
  have e2 : (1 : Int) * 2 ^ ((k.log2 : Nat) : Int).toNat = ((2 ^ k.log2 : Nat) : Int) := by rw [Int.one_mul, Int.toNat_natCast]; exact (Int.natCast_pow 2 _).symm
  show Q (.int ((1 : Int) * 2 ^ ((k.log2 : Nat) : Int).toNat)) H
  rw [e2]
  exact q
end
end LT

namespace LT
/-- the nodes from (b, b + m) down, as the law lists them -/
def nodesF : Nat → Nat → Nat → List (Nat × Nat)
  | 0, _, _ => []
  | i + 1, b, m => if m ≤ 1 then [(b, b + m)] else (b, b + m) :: (nodesF i b (gp m) ++ nodesF i (b + gp m) (m - gp m))
theorem nodesF_one {i b m : Nat} (h : m ≤ 1) : nodesF (i + 1) b m = [(b, b + m)] := if_pos h
theorem nodesF_two {i b m : Nat} (h : ¬ m ≤ 1) : nodesF (i + 1) b m = (b, b + m) :: (nodesF i b (gp m) ++ nodesF i (b + gp m) (m - gp m)) := if_neg h
theorem gp_half {i m : Nat} (h : 2 ≤ m) (k : 2 * m ≤ 2 ^ (i + 1)) : 2 * gp m ≤ 2 ^ i ∧ 2 * (m - gp m) ≤ 2 ^ i := by
  have g1 := gp_lt h
  have g2 := gp_ge h
  have p := Nat.pow_succ (n := 2) (m := i)
  have : gp m < 2 ^ i := by omega
  unfold gp at this ⊢
  have e := (Nat.pow_lt_pow_iff_right (by decide : 1 < 2)).mp this
  have e2 : 2 ^ ((m - 1).log2 + 1) ≤ 2 ^ i := Nat.pow_le_pow_right (by decide) (by omega)
  rw [Nat.pow_succ] at e2
  unfold gp at g1 g2
  omega
theorem nodesF_len : ∀ (i b m : Nat), 1 ≤ m → 2 * m ≤ 2 ^ i → (nodesF i b m).length = 2 * m - 1
  | 0, b, m, h1, h2 => by simp at h2; omega
  | i + 1, b, m, h1, h2 => by
    by_cases c : m ≤ 1
    · rw [nodesF_one c]
      simp
      omega
    · rw [nodesF_two c, List.length_cons, List.length_append]
      have g1 := gp_lt (m := m) (by omega)
      have g3 := gp_pos m
      obtain ⟨k1, k2⟩ := gp_half (by omega) h2
      rw [nodesF_len i b (gp m) g3 k1, nodesF_len i (b + gp m) (m - gp m) (by omega) k2]
      omega
/-- a node of tree(n) -/
def isN (n : Nat) (x : Nat × Nat) : Prop := x.1 < x.2 ∧ x.2 ≤ n ∧ tree n x.1 (x.2 - x.1)
theorem mul_le_of_lt {R a b : Nat} (h1 : R ∣ a) (h2 : R ∣ b) (h : a < b) : a + R ≤ b := by
  obtain ⟨x, rfl⟩ := h1
  obtain ⟨y, rfl⟩ := h2
  have : x < y := Nat.lt_of_mul_lt_mul_left h
  calc R * x + R = R * (x + 1) := by rw [Nat.mul_succ]
    _ ≤ R * y := Nat.mul_le_mul_left R this
/-- a node within another one is it, or lies within one of its halves -/
theorem node_in {n b m : Nat} (h : 2 ≤ m) (t : tree n b m) (hn : b + m ≤ n) {x : Nat × Nat} (hx : isN n x) (h1 : b ≤ x.1) (h2 : x.2 ≤ b + m) : x = (b, b + m) ∨ x.2 ≤ b + gp m ∨ b + gp m ≤ x.1 := by
  obtain ⟨x1, x2⟩ := x
  obtain ⟨k1, k2, d, k3⟩ := hx
  simp only at k1 k2 d k3 h1 h2
  by_cases c1 : x2 ≤ b + gp m
  · exact .inr (.inl c1)
  by_cases c2 : b + gp m ≤ x1
  · exact .inr (.inr c2)
  left
  obtain ⟨td, tk⟩ := t
  have e := lb_gp h
  rw [e] at td tk
  have g1 := gp_lt h
  have g2 := gp_ge h
  have gR : gp m = 2 ^ Nat.log2 (m - 1) := rfl
  generalize hr : lb (x2 - x1) = r at d k3
  have ge := lb_ge (x2 - x1)
  rw [hr] at ge
  by_cases c : r ≤ Nat.log2 (m - 1)
  · -- small: a multiple of 2 ^ r below b + gp m ends there at most
    have dg : 2 ^ r ∣ gp m := by rw [gR]; exact Nat.pow_dvd_pow 2 c
    have db : 2 ^ r ∣ b := Nat.dvd_trans dg (Nat.dvd_trans (Nat.dvd_mul_left _ _) td)
    have := mul_le_of_lt d (Nat.dvd_add db dg) (by omega : x1 < b + gp m)
    omega
  · have dd : 2 * gp m ∣ 2 ^ r := by
      rw [gR, Nat.mul_comm, ← Nat.pow_succ]
      exact Nat.pow_dvd_pow 2 (by omega)
    have dx := Nat.dvd_trans dd d
    have ex : x1 = b := by
      by_cases z : b < x1
      · have := mul_le_of_lt td dx z
        omega
      · omega
    subst ex
    have le : 2 * gp m ≤ 2 ^ r := Nat.le_of_dvd (Nat.pow_pos (by decide)) dd
    have rl : r ≤ Nat.log2 (m - 1) + 1 := by
      rw [← hr]
      refine lb_le ?_
      rw [Nat.pow_succ, ← gR]
      omega
    have e2 : 2 ^ r ≤ 2 * gp m := by
      rw [gR, Nat.mul_comm, ← Nat.pow_succ]
      exact Nat.pow_le_pow_right (by decide) rl
    have : x2 = x1 + m := by
      rcases k3 with k3 | k3 <;> omega
    rw [this]
theorem mem_nodesF (n : Nat) (x : Nat × Nat) : ∀ (i b m : Nat), 1 ≤ m → 2 * m ≤ 2 ^ i → tree n b m → b + m ≤ n → (x ∈ nodesF i b m ↔ isN n x ∧ b ≤ x.1 ∧ x.2 ≤ b + m)
  | 0, b, m, h1, h2, _, _ => by simp at h2; omega
  | i + 1, b, m, h1, h2, t, hn => by
    by_cases c : m ≤ 1
    · have em : m = 1 := by omega
      subst em
      rw [nodesF_one (by omega), List.mem_singleton]
      constructor
      · rintro rfl
        exact ⟨⟨by simp, by simpa using hn, by simpa using t⟩, by simp, by simp⟩
      · rintro ⟨⟨k1, _⟩, k2, k3⟩
        have : x.1 = b ∧ x.2 = b + 1 := by omega
        exact Prod.ext this.1 this.2
    · rw [nodesF_two c, List.mem_cons, List.mem_append]
      have g1 := gp_lt (m := m) (by omega)
      have g3 := gp_pos m
      obtain ⟨k1, k2⟩ := gp_half (by omega) h2
      have e : b + gp m + (m - gp m) = b + m := by omega
      have il := mem_nodesF n x i b (gp m) g3 k1 (tree_low (by omega) t) (by omega)
      have ih := mem_nodesF n x i (b + gp m) (m - gp m) (by omega) k2 (tree_high (by omega) t) (by omega)
      rw [il, ih, e]
      constructor
      · rintro (rfl | ⟨p, q, r⟩ | ⟨p, q, r⟩)
        · exact ⟨⟨by simp; omega, by simpa using hn, by simpa using t⟩, by simp, by simp⟩
        · exact ⟨p, q, by omega⟩
        · exact ⟨p, by omega, r⟩
      · rintro ⟨p, q, r⟩
        rcases node_in (by omega) t hn p q r with z | z | z
        · exact .inl z
        · exact .inr (.inl ⟨p, q, z⟩)
        · exact .inr (.inr ⟨p, z, r⟩)
instance (n : Nat) (x : Nat × Nat) : Decidable (tree n x.1 (x.2 - x.1)) := by unfold tree; infer_instance
instance (n : Nat) (x : Nat × Nat) : Decidable (isN n x) := by unfold isN; infer_instance
end LT

namespace LT
open PySem PySem.Spec PyProof.Rows L2
def tnV (n : Nat) : V → V → Bool
  | .int b, .int e => decide (0 ≤ b ∧ isN n (b.toNat, e.toNat))
  | _, _ => false
theorem tn_out {n : Nat} {b e : Int} (h : ¬ (0 ≤ b ∧ b < e ∧ e ≤ n)) : tnV n (.int b) (.int e) = false := by
  refine decide_eq_false (fun ⟨h0, k⟩ => h ⟨h0, ?_, ?_⟩)
  · have := k.1
    simp only at this
    omega
  · have := k.1
    have := k.2.1
    simp only at *
    omega
/-- what may be asked whether it is a node -/
inductive Ask (K : PySem.W.Frag) (H : Hp) (n : Nat) : V → Bool → Prop
  | kind {v : V} {t : String} : Pl K H v t → t ≠ "tuple" → Ask K H n v false
  | long {p : Addr} {xs : List V} : H p = some (.tup xs) → xs.length ≠ 2 → xs.length ≤ 1000 → Ask K H n (.ref p) false
  | pair {p : Addr} {v1 v2 : V} {t1 t2 : String} : H p = some (.tup [v1, v2]) → Pl K H v1 t1 → Pl K H v2 t2 → Ask K H n (.ref p) (tnV n v1 v2)
theorem kit_tup {t : String} {K : PySem.W.Frag} {H : Hp} {v : V} (h : Pl K H v t) (hn : t ≠ "tuple") : PySem.W.kitOne K (.type t) (.type "tuple") = some false := by
  cases h with
  | non => exact kit_ty (by decide +kernel)
  | bl _ => exact kit_ty (by decide +kernel)
  | int _ => exact kit_ty (by decide +kernel)
  | str _ => exact kit_ty (by decide +kernel)
  | lst _ => exact kit_ty (by decide +kernel)
  | tup _ => exact absurd rfl hn
  | dict _ => exact kit_ty (by decide +kernel)
section
variable {P : Program} {w : World} {K : PySem.W.Frag} {mg : Str → Option Value} {base : Heap}
def spTreeV (K : PySem.W.Frag) : Sp := fun vs H Q _ => ∃ (n : Nat) (v : V) (r : Bool), vs = [.int n, v] ∧ 1 ≤ n ∧ n ≤ 2 ^ 100 ∧ Ask K H n v r ∧ Q (.bl r) H
theorem ok_is_tree_nodeV {f g : Addr} {fd gd : FuncData} (F : Fun K "is_tree_node" "is_tree_node" sIsTreeNode f fd) (GIsBetween : FnOk P w K mg base CX0 2 g gd ["value", "low", "high"] (spBetweenV K)) (AIsBetween : At K mg "is_between" g gd ["value", "low", "high"])
    (z_isinstance : mg "isinstance" = none) (z_tuple : mg "tuple" = none) (z_len : mg "len" = none) : FnOk P w K mg base CX0 3 f fd ["size", "value"] (spTreeV K) := by
  refine F.ok scIsTreeNode (fun vs H Q E h => ?_) (fun cdv A outer s H vs Q E hr h => ?_)
  · obtain ⟨_, _, _, rfl, _⟩ := h
    rfl
  obtain ⟨n, v, r, rfl, n1, h30, ask, q⟩ := h
  refine ⟨_, (pss_cons (ps_if (PW.pt (pw_or (pt_not (pt_val (pe_callB call_isi (by rfl) z_isinstance (by decide +kernel) (pa_cons (pv 1) (pa_cons (pe_bltn (v := .ty "tuple") (u := .type "tuple") (by rfl) z_tuple (by decide +kernel) rfl) pa_nil))))) (pw_or1 (pt_cmpR op_ne (pe_callB call_len_seq (by rfl) z_len PySem.boot_len (pa_cons (pv 1) pa_nil)) pe_int (nomark _)))))
    (pss_one (ps_ret pe_bl))
    pss_nil)
    (pss_cons (ps_asg (pv 1) (pg_tup (by rfl) (pgs_cons (pg_name (i := 2) scIsTreeNode.nd rfl (Or.inl rfl)) (pgs_cons (pg_name (i := 3) scIsTreeNode.nd rfl (Or.inl rfl)) pgs_nil))))
    (pss_cons (ps_if (PW.pt (pw_or (pt_not (pt_val (pe_call GIsBetween (hr.mono (by decide)) rfl AIsBetween.m AIsBetween.kp AIsBetween.b .nil pass0 (pa_cons (pv 2) (pa_cons pe_int (pa_cons (pe_op op_sub (pv 0) pe_int) pa_nil)))))) (pw_or1 (pt_not (pt_val (pe_call GIsBetween (hr.mono (by decide)) rfl AIsBetween.m AIsBetween.kp AIsBetween.b .nil pass0 (pa_cons (pv 3) (pa_cons (pe_op op_add (pv 2) pe_int) (pa_cons (pv 0) pa_nil)))))))))
    (pss_one (ps_ret pe_bl))
    pss_nil)
    (pss_cons (ps_set (i := 4) scIsTreeNode.nd rfl (Or.inl rfl) (pe_op op_shl pe_int (pe_bits (pe_op op_sub (pe_op op_sub (pv 3) (pv 2)) pe_int))))
    (pss_one (ps_ret (pe_and (pe_cmpR op_eq (pe_op op_modN (pv 2) (pv 4)) pe_int (nomark _)) (pe_one (pe_or (pe_cmpR op_eq (pe_op op_sub (pv 3) (pv 2)) (pv 4) (nomark _)) (pe_one (pe_cmpR op_eq (pv 3) (pv 0) (nomark _)))))))))))), ?_⟩
  cases ask with
  | @kind _ t hv ht => exact ⟨_, rfl, _, _, _, _, false, rfl, .ty "tuple", hv.ty, kit_tup hv ht, false, rfl, q⟩
  | @long p xs hp hl h1000 =>
    refine ⟨_, rfl, _, _, _, _, true, rfl, .ty "tuple", .base (.tup hp), kit_ty (by decide +kernel), true, rfl, ?_⟩
    refine ⟨_, rfl, p, _, rfl, .inr (SqT.of hp), rfl, true, ?_, q⟩
    refine congrArg V.bl ?_
    rw [Bool.not_eq_true']
    exact decide_eq_false (fun z => hl (by have := V.int.inj z; omega))
  | @pair p v1 v2 ty1 ty2 hp p1 p2 =>
    refine ⟨_, rfl, _, _, _, _, true, rfl, .ty "tuple", .base (.tup hp), kit_ty (by decide +kernel), true, rfl, ?_⟩
    refine ⟨_, rfl, p, _, rfl, .inr (SqT.of hp), rfl, false, rfl, ?_⟩
    refine ⟨_, rfl, p, _, rfl, SqT.of hp, rfl, _, _, rfl, _, _, rfl, rfl, ?_⟩
    refine ⟨_, rfl, _, rfl, _, _, rfl, rfl, v1, ty1, _, _, rfl, p1, inRange 0 ((n : Int) - 1) v1, rfl, ?_⟩
    cases h1 : inRange 0 ((n : Int) - 1) v1 with
    | false =>
      have e : tnV n v1 v2 = false := by
        cases v1 with
        | int b =>
          cases v2 with
          | int e =>
            refine tn_out (fun k => ?_)
            have h1' : (decide (0 ≤ b) && decide (b ≤ (n : Int) - 1)) = false := h1
            rw [decide_eq_true k.1, decide_eq_true (show b ≤ (n : Int) - 1 by omega)] at h1'
            exact absurd h1' (by decide)
          | _ => rfl
        | _ => rfl
      rw [e] at q
      exact q
    | true =>
      cases p1 with
      | int b =>
        have h1' : (decide (0 ≤ b) && decide (b ≤ (n : Int) - 1)) = true := h1
        rw [Bool.and_eq_true] at h1'
        have b0 := of_decide_eq_true h1'.1
        have b1 := of_decide_eq_true h1'.2
        refine ⟨_, rfl, _, rfl, _, _, rfl, rfl, _, rfl, v2, ty2, _, _, rfl, p2, inRange (b + 1) (n : Int) v2, rfl, ?_⟩
        cases h2 : inRange (b + 1) (n : Int) v2 with
        | false =>
          have e : tnV n (.int b) v2 = false := by
            cases v2 with
            | int e =>
              refine tn_out (fun k => ?_)
              have h2' : (decide (b + 1 ≤ e) && decide (e ≤ (n : Int))) = false := h2
              rw [decide_eq_true (show b + 1 ≤ e by omega), decide_eq_true k.2.2] at h2'
              exact absurd h2' (by decide)
            | _ => rfl
          rw [e] at q
          exact q
        | true =>
          cases p2 with
          | int e =>
            have h2' : (decide (b + 1 ≤ e) && decide (e ≤ (n : Int))) = true := h2
            rw [Bool.and_eq_true] at h2'
            have e0 := of_decide_eq_true h2'.1
            have e1 := of_decide_eq_true h2'.2
            obtain ⟨bn, rfl⟩ := Int.eq_ofNat_of_zero_le b0
            obtain ⟨en, rfl⟩ := Int.eq_ofNat_of_zero_le (show 0 ≤ e by omega)
            have hlt : bn < en := by omega
            have ev : tnV n (.int (bn : Int)) (.int (en : Int)) = decide (isN n (bn, en)) := by
              show decide (0 ≤ (bn : Int) ∧ isN n ((bn : Int).toNat, (en : Int).toNat)) = decide (isN n (bn, en))
              rw [Int.toNat_natCast, Int.toNat_natCast]
              by_cases k : isN n (bn, en)
              · rw [decide_eq_true k, decide_eq_true ⟨b0, k⟩]
              · rw [decide_eq_false k, decide_eq_false (fun z => k z.2)]
            rw [ev] at q
            have em : (en : Int) - (bn : Int) - 1 = ((en - bn - 1 : Nat) : Int) := by omega
            refine ⟨_, rfl, _, rfl, _, _, rfl, rfl, _, _, rfl, rfl, _, rfl, ?_⟩
            dsimp only
            rw [em, bits_lb (show 1 ≤ en - bn by omega)]
            have l100 := lb_le (show en - bn ≤ 2 ^ 100 by omega)
            refine ⟨_, _, rfl, rfl, ⟨Int.natCast_nonneg _, by omega, by decide⟩, ?_⟩
            have e2 : (1 : Int) * 2 ^ ((lb (en - bn) : Nat) : Int).toNat = ((2 ^ lb (en - bn) : Nat) : Int) := by rw [Int.one_mul, Int.toNat_natCast]; exact (Int.natCast_pow 2 _).symm
            dsimp only
            rw [e2]
            have pz : 0 < 2 ^ lb (en - bn) := Nat.pow_pos (by decide)
            have isE : isN n (bn, en) ↔ (bn % 2 ^ lb (en - bn) = 0 ∧ (en - bn = 2 ^ lb (en - bn) ∨ en = n)) := by
              unfold isN tree
              simp only
              constructor
              · rintro ⟨_, _, k1, k2⟩
                exact ⟨Nat.mod_eq_zero_of_dvd k1, k2.elim .inl (fun z => .inr (by omega))⟩
              · rintro ⟨k1, k2⟩
                exact ⟨hlt, by omega, Nat.dvd_of_mod_eq_zero k1, k2.elim .inl (fun z => .inr (by omega))⟩
            generalize 2 ^ lb (en - bn) = R at pz isE
            have fm : Int.fmod (bn : Int) (R : Int) = ((bn % R : Nat) : Int) := by
              rw [Int.fmod_eq_emod_of_nonneg _ (Int.natCast_nonneg _)]
              exact (Int.natCast_emod _ _).symm
            refine ⟨_, rfl, _, rfl, _, _, rfl, rfl, by omega, rfl, decide (bn % R = 0), ?_, ?_⟩
            · show V.bl (decide (V.int (Int.fmod (bn : Int) (R : Int)) = V.int 0)) = V.bl (decide (bn % R = 0))
              rw [fm]
              refine congrArg V.bl ?_
              by_cases k : bn % R = 0
              · rw [decide_eq_true k, k]; rfl
              · rw [decide_eq_false k]
                exact decide_eq_false (fun z => k (by have := V.int.inj z; omega))
            by_cases k : bn % R = 0
            · rw [decide_eq_true k]
              refine iteT ?_
              refine ⟨_, rfl, _, rfl, _, _, rfl, rfl, _, rfl, rfl, _, rfl, ite2 (fun c => ?_) (fun c => ?_)⟩
              · have c1 : V.int ((en : Int) - (bn : Int)) = V.int (R : Int) := of_decide_eq_true c
                have c2 := V.int.inj c1
                rw [decide_eq_true (isE.mpr ⟨k, .inl (by omega)⟩)] at q
                exact q
              · have c1 : ¬ V.int ((en : Int) - (bn : Int)) = V.int (R : Int) := of_decide_eq_false (Bool.eq_false_iff.mpr c)
                refine ⟨_, rfl, _, rfl, rfl, ?_⟩
                have ed : decide (V.int (en : Int) = V.int (n : Int)) = decide (isN n (bn, en)) := by
                  by_cases z : en = n
                  · rw [decide_eq_true (isE.mpr ⟨k, .inr z⟩), decide_eq_true (by rw [z])]
                  · rw [decide_eq_false (fun y => z (by have := V.int.inj y; omega)), decide_eq_false (fun y => (isE.mp y).2.elim (fun u => c1 (congrArg V.int (by omega))) z)]
                show Q (.bl (decide (V.int (en : Int) = V.int (n : Int)))) H
                rw [ed]
                exact q
            · rw [decide_eq_false k]
              refine iteF ?_
              rw [decide_eq_false (fun z => k (isE.mp z).1)] at q
              exact q
          | _ => exact absurd h2 (by intro z; cases z)
      | _ => exact absurd h1 (by intro z; cases z)
end
end LT

namespace LT
/-! ### the greatest nodes within a stretch -/
theorem and_pred_odd (c : Nat) : (2 * c + 1) &&& (2 * c) = 2 * c := by
  apply Nat.eq_of_testBit_eq
  intro i
  rw [Nat.testBit_and]
  cases i with
  | zero => simp
  | succ i =>
    rw [Nat.testBit_succ, Nat.testBit_succ, show (2 * c + 1) / 2 = c by omega, show 2 * c / 2 = c by omega, Bool.and_self]
theorem and_pred_even (c : Nat) (h : 0 < c) : (2 * c) &&& (2 * c - 1) = 2 * (c &&& (c - 1)) := by
  apply Nat.eq_of_testBit_eq
  intro i
  rw [Nat.testBit_and]
  cases i with
  | zero => simp
  | succ i =>
    rw [Nat.testBit_succ, Nat.testBit_succ, Nat.testBit_succ, show 2 * c / 2 = c by omega, show (2 * c - 1) / 2 = c - 1 by omega, show 2 * (c &&& (c - 1)) / 2 = c &&& (c - 1) by omega, Nat.testBit_and]
def low (b : Nat) : Nat := b - (b &&& (b - 1))
theorem low_is : ∀ b : Nat, 0 < b → ∃ k, low b = 2 ^ k ∧ 2 ^ k ∣ b ∧ ¬ 2 ^ (k + 1) ∣ b := by
  intro b
  induction b using Nat.strongRecOn with
  | ind b ih =>
    intro hb
    rcases Nat.mod_two_eq_zero_or_one b with h | h
    · obtain ⟨c, rfl⟩ : ∃ c, b = 2 * c := ⟨b / 2, by omega⟩
      obtain ⟨k, e, d1, d2⟩ := ih c (by omega) (by omega)
      refine ⟨k + 1, ?_, ?_, ?_⟩
      · unfold low at e ⊢
        rw [and_pred_even c (by omega), Nat.pow_succ]
        omega
      · rw [Nat.pow_succ, Nat.mul_comm]
        exact Nat.mul_dvd_mul_left 2 d1
      · rw [Nat.pow_succ, Nat.mul_comm (2 ^ (k + 1)) 2]
        exact fun z => d2 (Nat.dvd_of_mul_dvd_mul_left (by decide) z)
    · obtain ⟨c, rfl⟩ : ∃ c, b = 2 * c + 1 := ⟨b / 2, by omega⟩
      refine ⟨0, ?_, Nat.one_dvd _, ?_⟩
      · unfold low
        rw [show 2 * c + 1 - 1 = 2 * c by omega, and_pred_odd]
        omega
      · intro z
        have := Nat.mod_eq_zero_of_dvd z
        omega
/-- the room of the greatest full node that begins at b, up to e -/
def rm (b e : Nat) : Nat := if b = 0 then 2 ^ (e - b).log2 else min (2 ^ (e - b).log2) (low b)
theorem rm_is {b e : Nat} (h : b < e) : ∃ k, rm b e = 2 ^ k ∧ 2 ^ k ∣ b ∧ b + 2 ^ k ≤ e ∧ (2 ^ (k + 1) ∣ b → e < b + 2 ^ (k + 1)) := by
  have l1 := Nat.log2_self_le (n := e - b) (by omega)
  have l2 := Nat.lt_log2_self (n := e - b)
  unfold rm
  by_cases c : b = 0
  · subst c
    rw [if_pos rfl]
    exact ⟨_, rfl, Nat.dvd_zero _, by omega, fun _ => by omega⟩
  · rw [if_neg c]
    obtain ⟨k, e1, d1, d2⟩ := low_is b (by omega)
    rw [e1]
    by_cases c2 : (e - b).log2 ≤ k
    · have := Nat.pow_le_pow_right (n := 2) (by decide) c2
      rw [Nat.min_eq_left this]
      exact ⟨_, rfl, Nat.dvd_trans (Nat.pow_dvd_pow 2 c2) d1, by omega, fun _ => by omega⟩
    · have := Nat.pow_le_pow_right (n := 2) (by decide) (show k ≤ (e - b).log2 by omega)
      rw [Nat.min_eq_right this]
      exact ⟨k, rfl, d1, by omega, fun z => absurd z d2⟩
def rw1 (n b e : Nat) : Nat := if isN n (b, e) then e - b else rm b e
def nwF (n : Nat) : Nat → Nat → Nat → List (Nat × Nat)
  | 0, _, _ => []
  | f + 1, b, e => if b < e then (b, b + rw1 n b e) :: nwF n f (b + rw1 n b e) e else []
def nw (n b e : Nat) : List (Nat × Nat) := nwF n (e - b) b e
theorem rw1_pos {n b e : Nat} (h : b < e) : 0 < rw1 n b e ∧ b + rw1 n b e ≤ e := by
  unfold rw1
  split
  · omega
  · obtain ⟨k, e1, _, e2, _⟩ := rm_is h
    have := Nat.pow_pos (a := 2) (n := k) (by decide)
    omega
theorem nwF_eq (n e : Nat) : ∀ (f g b : Nat), e - b ≤ f → e - b ≤ g → nwF n f b e = nwF n g b e
  | 0, 0, _, _, _ => rfl
  | 0, g + 1, b, h, _ => by
    show [] = if b < e then _ else _
    rw [if_neg (by omega)]
  | f + 1, 0, b, _, h => by
    show (if b < e then _ else _) = []
    rw [if_neg (by omega)]
  | f + 1, g + 1, b, h1, h2 => by
    show (if b < e then _ else _) = if b < e then _ else _
    by_cases c : b < e
    · have := rw1_pos (n := n) c
      rw [if_pos c, if_pos c, nwF_eq n e f g (b + rw1 n b e) (by omega) (by omega)]
    · rw [if_neg c, if_neg c]
theorem nw_nil {n b e : Nat} (h : e ≤ b) : nw n b e = [] := by
  unfold nw
  rw [show e - b = 0 by omega]
  rfl
theorem nw_step {n b e : Nat} (h : b < e) : nw n b e = (b, b + rw1 n b e) :: nw n (b + rw1 n b e) e := by
  have p := rw1_pos (n := n) h
  unfold nw
  rw [show e - b = (e - b - 1) + 1 by omega]
  show (if b < e then _ else _) = _
  rw [if_pos h, nwF_eq n e (e - b - 1) (e - (b + rw1 n b e)) (b + rw1 n b e) (by omega) (by omega)]
/-- induction over the nodes within -/
theorem nw_ind {n e : Nat} {p : Nat → Prop} (h0 : ∀ b, e ≤ b → p b) (h1 : ∀ b, b < e → p (b + rw1 n b e) → p b) (b : Nat) : p b := by
  have : ∀ (f b : Nat), e - b ≤ f → p b := by
    intro f
    induction f with
    | zero => exact fun b h => h0 b (by omega)
    | succ f ih =>
      intro b h
      by_cases c : b < e
      · have := rw1_pos (n := n) c
        exact h1 b c (ih _ (by omega))
      · exact h0 b (by omega)
  exact this _ b (Nat.le_refl _)
theorem nw_len2 {n e : Nat} : ∀ (L b : Nat), 2 ^ L ∣ b → e < b + 2 ^ L → (nw n b e).length ≤ L
  | 0, b, _, h => by rw [nw_nil (by simp at h; omega)]; exact Nat.zero_le _
  | L + 1, b, d, h => by
    have d' : 2 ^ L ∣ b := Nat.dvd_trans (Nat.pow_dvd_pow 2 (Nat.le_succ L)) d
    by_cases c : b < e
    · by_cases c2 : e < b + 2 ^ L
      · have := nw_len2 (n := n) (e := e) L b d' c2
        omega
      · rw [nw_step c, List.length_cons]
        unfold rw1
        split
        · rw [nw_nil (by omega)]
          simp
        · obtain ⟨k, e1, e2, e3, e4⟩ := rm_is c
          rw [e1]
          have kL : k = L := by
            by_cases z : k < L
            · have := e4 (Nat.dvd_trans (Nat.pow_dvd_pow 2 z) d')
              have := Nat.pow_le_pow_right (n := 2) (by decide) (show k + 1 ≤ L from z)
              omega
            · have : 2 ^ k < 2 ^ (L + 1) := by omega
              have := (Nat.pow_lt_pow_iff_right (by decide : 1 < 2)).mp this
              omega
          subst kL
          have := nw_len2 (n := n) (e := e) k (b + 2 ^ k) (Nat.dvd_add e2 (Nat.dvd_refl _)) (by rw [Nat.pow_succ] at h; omega)
          omega
    · rw [nw_nil (by omega)]
      exact Nat.zero_le _
theorem nw_len1 {n e L : Nat} : ∀ (t j b : Nat), j + t = L → 2 ^ j ∣ b → e < b + 2 ^ L → (nw n b e).length ≤ L + t
  | 0, j, b, hj, d, h => by
    have : j = L := by omega
    subst this
    exact nw_len2 j b d h
  | t + 1, j, b, hj, d, h => by
    by_cases c : b < e
    · by_cases d1 : 2 ^ (j + 1) ∣ b
      · have := nw_len1 (n := n) (e := e) (L := L) t (j + 1) b (by omega) d1 h
        omega
      · rw [nw_step c, List.length_cons]
        unfold rw1
        split
        · rw [nw_nil (by omega)]
          simp
          omega
        · obtain ⟨k, e1, e2, e3, e4⟩ := rm_is c
          rw [e1]
          by_cases z : k < j
          · have e5 := e4 (Nat.dvd_trans (Nat.pow_dvd_pow 2 z) d)
            have := nw_len2 (n := n) (e := e) k (b + 2 ^ k) (Nat.dvd_add e2 (Nat.dvd_refl _)) (by rw [Nat.pow_succ] at e5; omega)
            omega
          · have kj : k = j := by
              by_cases y : j < k
              · exact absurd (Nat.dvd_trans (Nat.pow_dvd_pow 2 y) e2) d1
              · omega
            subst kj
            have d2 : 2 ^ (k + 1) ∣ b + 2 ^ k := by
              obtain ⟨x, rfl⟩ := d
              rcases Nat.mod_two_eq_zero_or_one x with y | y
              · exact absurd (by rw [Nat.pow_succ]; exact Nat.mul_dvd_mul_left _ (Nat.dvd_of_mod_eq_zero y)) d1
              · refine ⟨x / 2 + 1, ?_⟩
                have : x = 2 * (x / 2) + 1 := by omega
                rw [Nat.pow_succ]
                generalize x / 2 = u at this
                subst this
                rw [Nat.mul_add, Nat.mul_add, Nat.mul_assoc (2 ^ k) 2 u]
                omega
            have p := Nat.pow_pos (a := 2) (n := k) (by decide)
            have := nw_len1 (n := n) (e := e) (L := L) t (k + 1) (b + 2 ^ k) (by omega) d2 (by omega)
            omega
    · rw [nw_nil (by omega)]
      exact Nat.zero_le _
theorem nw_len {n b e : Nat} (h : e ≤ 2 ^ 100) : (nw n b e).length ≤ 202 := by
  have := nw_len1 (n := n) (e := e) (L := 101) 101 0 b (by decide) (by simp) (by rw [Nat.pow_succ]; omega)
  omega
/-- nodes are nested or apart -/
theorem lam {n b m B M : Nat} (t : tree n b m) (hm : 1 ≤ m) (T : tree n B M) (hn : b + m ≤ n) (HN : B + M ≤ n) (h1 : b < B) (h2 : B < b + m) : B + M ≤ b + m := by
  obtain ⟨d, k⟩ := t
  obtain ⟨D, _⟩ := T
  have ge := lb_ge m
  have gE := lb_ge M
  by_cases c : lb m ≤ lb M
  · have := mul_le_of_lt d (Nat.dvd_trans (Nat.pow_dvd_pow 2 c) D) h1
    omega
  · have c1 : lb M ≤ lb m := by omega
    have := mul_le_of_lt D (Nat.dvd_add (Nat.dvd_trans (Nat.pow_dvd_pow 2 c1) d) (Nat.pow_dvd_pow 2 c1)) (show B < b + 2 ^ lb m by omega)
    rcases k with k | k
    · omega
    · omega
theorem isN_tree {n b e : Nat} (h : isN n (b, e)) : b < e ∧ e ≤ n ∧ tree n b (e - b) := h
theorem isN_of {n b m : Nat} (h1 : 1 ≤ m) (h2 : b + m ≤ n) (t : tree n b m) : isN n (b, b + m) := ⟨by show b < b + m; omega, h2, by show tree n b (b + m - b); rw [Nat.add_sub_cancel_left]; exact t⟩
theorem full_isN {n b k : Nat} (h2 : b + 2 ^ k ≤ n) (d : 2 ^ k ∣ b) : isN n (b, b + 2 ^ k) := isN_of (Nat.pow_pos (by decide)) h2 ⟨by rw [lb_pow]; exact d, .inl (by rw [lb_pow])⟩
theorem rw1_isN {n b e : Nat} (h : b < e) (hn : e ≤ n) : isN n (b, b + rw1 n b e) := by
  unfold rw1
  split
  · rename_i c
    rw [show b + (e - b) = e by omega]
    exact c
  · obtain ⟨k, e1, e2, e3, _⟩ := rm_is h
    rw [e1]
    exact full_isN (by omega) e2
/-- the first node is the greatest one that begins there -/
theorem rw1_max {n b e y : Nat} (hn : e ≤ n) (hy : isN n (b, y)) (h : y ≤ e) : y ≤ b + rw1 n b e := by
  have hb : b < y := hy.1
  unfold rw1
  split
  · omega
  · rename_i c
    obtain ⟨k, e1, e2, e3, e4⟩ := rm_is (show b < e by omega)
    rw [e1]
    obtain ⟨_, y1, d, t⟩ := isN_tree hy
    rcases t with t | t
    · by_cases z : k < lb (y - b)
      · have := e4 (Nat.dvd_trans (Nat.pow_dvd_pow 2 z) d)
        have := Nat.pow_le_pow_right (n := 2) (by decide) (show k + 1 ≤ lb (y - b) from z)
        omega
      · have := Nat.pow_le_pow_right (n := 2) (by decide) (show lb (y - b) ≤ k by omega)
        omega
    · have : y = e := by omega
      subst this
      exact absurd hy c
/-- a list of nodes one behind the other -/
def Ch (n : Nat) : Nat → Nat → List (Nat × Nat) → Prop
  | lo, hi, [] => lo = hi
  | lo, hi, x :: l => x.1 = lo ∧ isN n x ∧ x.2 ≤ hi ∧ Ch n x.2 hi l
theorem nw_ch {n e : Nat} (hn : e ≤ n) (b : Nat) : b ≤ e → Ch n b e (nw n b e) := by
  refine nw_ind (n := n) (e := e) (p := fun b => b ≤ e → Ch n b e (nw n b e)) (fun b h h2 => ?_) (fun b h ih _ => ?_) b
  · rw [nw_nil h]
    exact Nat.le_antisymm h2 h
  · rw [nw_step h]
    have := rw1_pos (n := n) h
    exact ⟨rfl, rw1_isN h hn, this.2, ih this.2⟩
/-- nothing greater in the stretch has one of them -/
def Mx (n lo hi : Nat) (l : List (Nat × Nat)) : Prop := ∀ x ∈ l, ∀ p, isN n p → lo ≤ p.1 → p.2 ≤ hi → p.1 ≤ x.1 → x.2 ≤ p.2 → p = x
theorem nw_mx {n lo e : Nat} (hn : e ≤ n) (b : Nat) : b ≤ e → lo ≤ b → (∀ p, isN n p → lo ≤ p.1 → p.2 ≤ e → p.1 < b → p.2 ≤ b) → Mx n lo e (nw n b e) := by
  refine nw_ind (n := n) (e := e) (p := fun b => b ≤ e → lo ≤ b → (∀ p, isN n p → lo ≤ p.1 → p.2 ≤ e → p.1 < b → p.2 ≤ b) → Mx n lo e (nw n b e)) (fun b h h2 _ _ => ?_) (fun b h ih h1 h2 h3 => ?_) b
  · rw [nw_nil h]
    exact fun x hx => by cases hx
  · have w := rw1_pos (n := n) h
    have wN := rw1_isN h hn
    have wM : ∀ p, isN n p → lo ≤ p.1 → p.2 ≤ e → p.1 = b → p.2 ≤ b + rw1 n b e := by
      rintro ⟨p1, p2⟩ k1 k2 k3 rfl
      exact rw1_max hn k1 k3
    rw [nw_step h]
    intro x hx
    rcases List.mem_cons.mp hx with rfl | hx
    · rintro ⟨p1, p2⟩ k1 k2 k3 k4 k5
      simp only at k2 k3 k4 k5
      by_cases c : p1 < b
      · have := h3 _ k1 k2 k3 c
        simp only at this
        omega
      · have : p1 = b := by omega
        subst this
        have := wM _ k1 k2 k3 rfl
        simp only at this
        exact Prod.ext rfl (by show p2 = _; omega)
    · refine ih w.2 (by omega) ?_ x hx
      rintro ⟨p1, p2⟩ k1 k2 k3 k4
      simp only at k2 k3 k4 ⊢
      by_cases c : p1 < b
      · have := h3 _ k1 k2 k3 c
        simp only at this
        omega
      · by_cases c2 : p1 = b
        · subst c2
          exact wM _ k1 k2 k3 rfl
        · obtain ⟨q1, q2, q3⟩ := isN_tree k1
          obtain ⟨u1, u2, u3⟩ := isN_tree wN
          have := lam (n := n) (b := b) (m := b + rw1 n b e - b) (B := p1) (M := p2 - p1) u3 (by omega) q3 (by omega) (by omega) (by omega) (by omega)
          omega
theorem nw_max {n b e : Nat} (hn : e ≤ n) (h : b ≤ e) : Mx n b e (nw n b e) := nw_mx hn b h (Nat.le_refl _) (fun p _ k1 _ k3 => by omega)
theorem Ch.mem {n : Nat} : ∀ {lo hi : Nat} {l : List (Nat × Nat)}, Ch n lo hi l → ∀ x ∈ l, isN n x ∧ lo ≤ x.1 ∧ x.2 ≤ hi
  | lo, hi, y :: l, ⟨h1, h2, h3, h4⟩, x, hx => by
    have k := h2.1
    rcases List.mem_cons.mp hx with rfl | hx
    · exact ⟨h2, by omega, h3⟩
    · obtain ⟨k1, k2, k3⟩ := Ch.mem h4 x hx
      exact ⟨k1, by omega, k3⟩
theorem Ch.le {n : Nat} : ∀ {lo hi : Nat} {l : List (Nat × Nat)}, Ch n lo hi l → lo ≤ hi
  | _, _, [], h => Nat.le_of_eq h
  | lo, hi, y :: l, ⟨h1, h2, h3, h4⟩ => by
    have k := h2.1
    omega
theorem Ch.app {n : Nat} : ∀ {lo mid hi : Nat} {l r : List (Nat × Nat)}, Ch n lo mid l → Ch n mid hi r → Ch n lo hi (l ++ r)
  | _, _, _, [], _, h, k => by
    have h : _ = _ := h
    subst h
    exact k
  | _, _, _, x :: l, r, ⟨h1, h2, h3, h4⟩, k => ⟨h1, h2, Nat.le_trans h3 k.le, Ch.app h4 k⟩
/-- each entry between is in one of them -/
theorem Ch.at {n : Nat} : ∀ {lo hi : Nat} {l : List (Nat × Nat)}, Ch n lo hi l → ∀ i, lo ≤ i → i < hi → ∃ x ∈ l, x.1 ≤ i ∧ i < x.2
  | lo, hi, [], h, i, h1, h2 => by
    have h : lo = hi := h
    omega
  | lo, hi, y :: l, ⟨h1, h2, h3, h4⟩, i, k1, k2 => by
    by_cases c : i < y.2
    · exact ⟨y, List.mem_cons_self, by omega, c⟩
    · obtain ⟨x, hx, r⟩ := Ch.at h4 i (by omega) k2
      exact ⟨x, List.mem_cons_of_mem _ hx, r⟩
theorem Ch.sum {n : Nat} : ∀ {lo hi : Nat} {l : List (Nat × Nat)}, Ch n lo hi l → (l.map fun x => x.2 - x.1).sum = hi - lo
  | lo, hi, [], h => by
    have h : lo = hi := h
    simp; omega
  | lo, hi, y :: l, ⟨h1, h2, h3, h4⟩ => by
    have := Ch.sum h4
    have k := h2.1
    have := h4.le
    rw [List.map_cons, List.sum_cons]
    omega
/-- any node within the stretch lies in one of them -/
theorem nw_in {n b e : Nat} (hn : e ≤ n) (h : b ≤ e) {p : Nat × Nat} (hp : isN n p) (h1 : b ≤ p.1) (h2 : p.2 ≤ e) : ∃ x ∈ nw n b e, x.1 ≤ p.1 ∧ p.2 ≤ x.2 := by
  have k := hp.1
  obtain ⟨x, hx, a1, a2⟩ := (nw_ch hn b h).at p.1 h1 (by omega)
  refine ⟨x, hx, a1, ?_⟩
  obtain ⟨x1, x2, x3⟩ := (nw_ch hn b h).mem x hx
  have kx := x1.1
  have kn := x1.2.1
  have pn := hp.2.1
  by_cases c : x.1 < p.1
  · have := lam (n := n) (b := x.1) (m := x.2 - x.1) (B := p.1) (M := p.2 - p.1) x1.2.2 (by omega) hp.2.2 (by omega) (by omega) c (by omega)
    omega
  · by_cases c2 : p.2 ≤ x.2
    · exact c2
    · have := nw_max hn h x hx p hp h1 h2 (by omega) (by omega)
      rw [this]
      exact Nat.le_refl _
/-- a list of nodes one behind the other, none within a greater one of the stretch, is that of the greatest ones -/
theorem nw_unique {n hi lo0 : Nat} (hn : hi ≤ n) : ∀ (l r : List (Nat × Nat)) (lo : Nat), lo0 ≤ lo → Ch n lo hi l → Ch n lo hi r → Mx n lo0 hi l → Mx n lo0 hi r → l = r
  | [], [], _, _, _, _, _, _ => rfl
  | [], y :: r, lo, _, h1, ⟨k1, k2, k3, k4⟩, _, _ => by
    have h1 : lo = hi := h1
    have := k2.1
    omega
  | x :: l, [], lo, _, ⟨k1, k2, k3, k4⟩, h1, _, _ => by
    have h1 : lo = hi := h1
    have := k2.1
    omega
  | x :: l, y :: r, lo, h0, ⟨k1, k2, k3, k4⟩, ⟨j1, j2, j3, j4⟩, m1, m2 => by
    have e : x = y := by
      by_cases c : x.2 ≤ y.2
      · exact (m1 x List.mem_cons_self y j2 (by omega) j3 (by omega) c).symm
      · exact m2 y List.mem_cons_self x k2 (by omega) k3 (by omega) (by omega)
    subst e
    have := k2.1
    rw [nw_unique hn l r x.2 (by omega) k4 j4 (fun z hz => m1 z (List.mem_cons_of_mem _ hz)) (fun z hz => m2 z (List.mem_cons_of_mem _ hz))]
end LT

namespace LT
open PySem PySem.Spec PyProof.Rows L2
theorem bitAnd_low (b : Nat) (h : 0 < b) : Builtin.bitAnd (b : Int) (-(b : Int)) = ((low b : Nat) : Int) := by
  rw [bitAnd_pn (Int.natCast_nonneg b) (by omega)]
  have e : (Builtin.bitNot (-(b : Int))).toNat = b - 1 := by
    show (-(-(b : Int)) - 1).toNat = b - 1
    omega
  rw [e, Int.toNat_natCast]
  have : b &&& (b - 1) ≤ b := Nat.and_le_left
  unfold low
  omega
section
variable {P : Program} {w : World} {K : PySem.W.Frag} {mg : Str → Option Value} {base : Heap}
def spFirstFull : Sp := fun vs H Q _ => ∃ (b e : Nat), vs = [.int b, .int e] ∧ b < e ∧ e ≤ 10 ^ 30 ∧ ∀ (H' : Hp) (p : Addr), Same H H' → H p = none → H' p = some (.tup [.int b, .int ((b + rm b e : Nat) : Int)]) → Q (.ref p) H'
theorem ok_first_full {f g1 : Addr} {fd d1 : FuncData} (F : Fun K "_first_full" "_first_full" sFirstFull f fd) (GPowerWithin : FnOk P w K mg base CX0 1 g1 d1 ["number"] spPower) (APowerWithin : At K mg "power_within" g1 d1 ["number"]) (z_min : mg "min" = none) :
    FnOk P w K mg base CX0 2 f fd ["begin", "end"] spFirstFull := by
  refine F.ok scFirstFull (fun vs H Q E h => ?_) (fun cdv A outer s H vs Q E hr h => ?_)
  · obtain ⟨_, _, rfl, _⟩ := h
    rfl
  obtain ⟨b, e, rfl, hb, h30, q⟩ := h
  refine ⟨_, (pss_cons (ps_set (i := 2) scFirstFull.nd rfl (Or.inl rfl) (pe_call GPowerWithin (hr.mono (by decide)) rfl APowerWithin.m APowerWithin.kp APowerWithin.b .nil pass0 (pa_cons (pe_op op_sub (pv 1) (pv 0)) pa_nil)))
    (pss_cons (ps_if (pt_cmpR op_gt (pv 0) pe_int (nomark _))
    (pss_one (ps_set (i := 2) scFirstFull.nd rfl (Or.inl rfl) (pe_callB (call_min2 rfl) (by rfl) z_min (by decide +kernel) (pa_cons (pv 2) (pa_cons (pe_op op_and (pv 0) (pe_un un_neg (pv 0))) pa_nil)))))
    pss_nil)
    (pss_one (ps_ret (pe_tup (pa_cons (pv 0) (pa_cons (pe_op op_add (pv 0) (pv 2)) pa_nil))))))), ?_⟩
  have two : 2 ≤ sizeLine := by decide
  refine ⟨_, rfl, _, rfl, _, _, rfl, rfl, e - b, congrArg (fun z => [V.int z]) (by omega), by omega, by omega, ?_⟩
  refine ⟨_, rfl, _, _, rfl, rfl, _, rfl, ite2 (fun c => ?_) (fun c => ?_)⟩
  · have c1 : (b : Int) > 0 := of_decide_eq_true c
    refine ⟨_, rfl, _, rfl, _, rfl, _, rfl, _, _, rfl, rfl, _, _, rfl, ?_⟩
    rw [bitAnd_low b (by omega)]
    have em : (if ((low b : Nat) : Int) < ((2 ^ (e - b).log2 : Nat) : Int) then ((low b : Nat) : Int) else ((2 ^ (e - b).log2 : Nat) : Int)) = ((rm b e : Nat) : Int) := by
      unfold rm
      rw [if_neg (show ¬ b = 0 by omega)]
      split <;> omega
    refine ⟨_, rfl, _, rfl, _, rfl, _, _, rfl, rfl, two, fun t nt => ?_⟩
    dsimp only
    rw [em]
    refine q _ t (same_upd nt) nt ?_
    rw [upd_same, show (b : Int) + ((rm b e : Nat) : Int) = ((b + rm b e : Nat) : Int) by omega]
  · have c1 : ¬ (b : Int) > 0 := of_decide_eq_false (Bool.eq_false_iff.mpr c)
    have b0 : b = 0 := by omega
    have em : rm b e = 2 ^ (e - b).log2 := by unfold rm; rw [if_pos b0]
    refine ⟨_, rfl, _, rfl, _, rfl, _, _, rfl, rfl, two, fun t nt => ?_⟩
    refine q _ t (same_upd nt) nt ?_
    rw [upd_same, em]
    rfl
def spWithinX : Sp := fun vs H Q _ => ∃ (n b e : Nat), vs = [.int n, .int b, .int e] ∧ 1 ≤ n ∧ n ≤ 2 ^ 100 ∧ e ≤ n ∧ e ≤ 10 ^ 30 ∧
  ∀ (H' : Hp) (p : Addr) (xs : List V), Same H H' → H p = none → H' p = some (.lst xs) → All2 (Nd H') xs (nw n b e) → Q (.ref p) H'
theorem tn_nat (n b e : Nat) : tnV n (.int (b : Int)) (.int (e : Int)) = decide (isN n (b, e)) := by
  show decide (0 ≤ (b : Int) ∧ isN n ((b : Int).toNat, (e : Int).toNat)) = decide (isN n (b, e))
  rw [Int.toNat_natCast, Int.toNat_natCast]
  by_cases k : isN n (b, e)
  · rw [decide_eq_true k, decide_eq_true ⟨Int.natCast_nonneg _, k⟩]
  · rw [decide_eq_false k, decide_eq_false (fun z => k z.2)]
theorem ok_nodes_withinX {f g1 g2 : Addr} {fd d1 d2 : FuncData} (F : Fun K "nodes_within" "nodes_within" sNodesWithin f fd) (GIsTreeNode : FnOk P w K mg base CX0 3 g1 d1 ["size", "value"] (spTreeV K)) (AIsTreeNode : At K mg "is_tree_node" g1 d1 ["size", "value"])
    (GFirstFull : FnOk P w K mg base CX0 2 g2 d2 ["begin", "end"] spFirstFull) (AFirstFull : At K mg "_first_full" g2 d2 ["begin", "end"]) : FnOk P w K mg base CX0 4 f fd ["size", "begin", "end"] spWithinX := by
  refine F.ok scNodesWithin (fun vs H Q E h => ?_) (fun cdv A outer s H vs Q E hr h => ?_)
  · obtain ⟨_, _, _, rfl, _⟩ := h
    rfl
  obtain ⟨n, b0, e, rfl, n1, n100, he, h30, q⟩ := h
  refine ⟨_, (pss_cons (ps_set (i := 3) scNodesWithin.nd rfl (Or.inl rfl) (pe_lst pa_nil))
    (pss_cons (ps_while PassesOwn.never (pt_cmpR op_lt (pv 1) (pv 2) (nomark _))
    (pss_cons (ps_if (pt_val (pe_call GIsTreeNode (hr.mono (by decide)) rfl AIsTreeNode.m AIsTreeNode.kp AIsTreeNode.b .nil pass0 (pa_cons (pv 0) (pa_cons (pe_tup (pa_cons (pv 1) (pa_cons (pv 2) pa_nil))) pa_nil))))
    (pss_one (ps_set (i := 4) scNodesWithin.nd rfl (Or.inl rfl) (pe_tup (pa_cons (pv 1) (pa_cons (pv 2) pa_nil)))))
    (pss_one (ps_set (i := 4) scNodesWithin.nd rfl (Or.inl rfl) (pe_call GFirstFull (hr.mono (by decide)) rfl AFirstFull.m AFirstFull.kp AFirstFull.b .nil pass0 (pa_cons (pv 1) (pa_cons (pv 2) pa_nil))))))
    (pss_cons (ps_expr (pe_bm PySem.F.plainAttrs_list PySem.F.slot_list_append PySem.F.type_list_append mt_append (pv 3) (pa_cons (pv 4) pa_nil)))
    (pss_one (ps_set (i := 1) scNodesWithin.nd rfl (Or.inl rfl) (pe_ix ix_tup (pv 4) pe_int (fun _ _ => rfl)))))))
    (pss_one (ps_ret (pv 3))))), ?_⟩
  have two : 2 ≤ sizeLine := by decide
  refine ⟨Nat.zero_le _, fun fa nf => ?_⟩
  refine ⟨fun mu σ H' => ∃ (b : Nat) (v4 : Option V) (xs : List V) (done : List (Nat × Nat)), σ = [some (.int n), some (.int (b : Int)), some (.int (e : Int)), some (.ref fa), v4] ∧ Same H H' ∧ H' fa = some (.lst xs) ∧ All2 (Nd H') xs done ∧ done ++ nw n b e = nw n b0 e ∧ mu = e - b,
    ⟨e - b0, b0, none, [], [], rfl, same_upd nf, upd_same, .nil, rfl, rfl⟩, ?_⟩
  rintro m σ H1 ⟨b, v4, xs, done, rfl, sm, hf, hx, hd, rfl⟩
  refine ⟨_, rfl, _, rfl, _, _, rfl, rfl, _, rfl, ite2 (fun c => ?_) (fun c => ?_)⟩
  · have c1 : (b : Int) < (e : Int) := of_decide_eq_true c
    have dl : done.length ≤ 202 := by
      have k1 := congrArg List.length hd
      rw [List.length_append] at k1
      have k2 := nw_len (n := n) (b := b0) (e := e) (by omega)
      omega
    have w1 := rw1_pos (n := n) (show b < e by omega)
    have st := nw_step (n := n) (show b < e by omega)
    refine ⟨fun σ' H' => ∃ mu, mu < e - b ∧ ∃ (b : Nat) (v4 : Option V) (xs : List V) (done : List (Nat × Nat)), σ' = [some (.int n), some (.int (b : Int)), some (.int (e : Int)), some (.ref fa), v4] ∧ Same H H' ∧ H' fa = some (.lst xs) ∧ All2 (Nd H') xs done ∧ done ++ nw n b e = nw n b0 e ∧ mu = e - b, fun σ' H' h => h, ?_⟩
    -- behind the choice
    have fin : ∀ (H2 : Hp) (p : Addr), Same H1 H2 → H2 p = some (.tup [.int (b : Int), .int ((b + rw1 n b e : Nat) : Int)]) →
        (pss_term_fin : True) → ∃ (b' : Nat) (xs' : List V) (done' : List (Nat × Nat)), b' = b + rw1 n b e ∧ xs' = xs ++ [.ref p] ∧ Same H (upd H2 fa (.lst xs')) ∧ All2 (Nd (upd H2 fa (.lst xs'))) xs' done' ∧ done' ++ nw n b' e = nw n b0 e := fun H2 p s2 hp _ => by
      have hf2 := s2 _ _ hf
      refine ⟨_, _, done ++ [(b, b + rw1 n b e)], rfl, rfl, ?_, ?_, ?_⟩
      · exact fun a o k => by rw [upd_ne (ne_of_none k nf)]; exact s2 _ _ (sm _ _ k)
      · refine (hx.mono (fun v x (k : Nd H1 v x) => (k.same s2).upd hf2)).app (.cons ?_ .nil)
        exact Nd.upd (x := (b, b + rw1 n b e)) ⟨p, rfl, hp⟩ hf2
      · rw [← hd, st, List.append_assoc]
        rfl
    refine ⟨_, rfl, _, rfl, _, rfl, two, fun t nt => ?_⟩
    have s1 := same_upd (o := .tup [.int (b : Int), .int (e : Int)]) nt
    have ht : (upd H1 t (.tup [.int (b : Int), .int (e : Int)])) t = some (.tup [.int (b : Int), .int (e : Int)]) := upd_same
    generalize upd H1 t (.tup [.int (b : Int), .int (e : Int)]) = H2 at s1 ht
    refine ⟨n, .ref t, _, rfl, n1, n100, .pair ht (.int _) (.int _), ?_⟩
    rw [tn_nat]
    by_cases c2 : isN n (b, e)
    · rw [decide_eq_true c2]
      refine ⟨true, rfl, ?_⟩
      have rw_e : rw1 n b e = e - b := by unfold rw1; rw [if_pos c2]
      refine ⟨_, rfl, _, rfl, two, fun t2 nt2 => ?_⟩
      have s2 := same_upd (o := .tup [.int (b : Int), .int (e : Int)]) nt2
      obtain ⟨b', xs', done', eb, ex, f1, f2, f3⟩ := fin _ t2 (s1.trans s2) (by rw [upd_same, rw_e, show b + (e - b) = e by omega]) trivial
      subst ex
      have hf3 := s2 _ _ (s1 _ _ hf)
      have ht3 : (upd H2 t2 (.tup [.int (b : Int), .int (e : Int)])) t2 = some (.tup [.int (b : Int), .int (e : Int)]) := upd_same
      refine ⟨_, rfl, .inl ⟨rfl, _, SqL.of hf3⟩, _, rfl, fa, _, _, rfl, rfl, hf3, szlt (by rw [hx.len]; omega), ?_⟩
      refine ⟨_, rfl, t2, _, _, _, rfl, rfl, SqT.of ((upd_ne (ne_of ht3 hf3 (by intro z; cases z))).trans ht3), atI_nat (j := 1) rfl, ?_⟩
      refine ⟨e - b', by omega, b', some (.ref t2), xs ++ [.ref t2], done', ?_, f1, ?_, f2, f3, rfl⟩
      · rw [eb, rw_e, show b + (e - b) = e by omega]
        rfl
      · exact upd_same
    · rw [decide_eq_false c2]
      refine ⟨false, rfl, ?_⟩
      have rw_e : rw1 n b e = rm b e := by unfold rw1; rw [if_neg c2]
      refine ⟨_, rfl, _, rfl, b, e, rfl, by omega, by omega, fun H3 t2 s2 nt2 ht2 => ?_⟩
      obtain ⟨b', xs', done', eb, ex, f1, f2, f3⟩ := fin _ t2 (s1.trans s2) (by rw [ht2, rw_e]) trivial
      subst ex
      have hf3 := s2 _ _ (s1 _ _ hf)
      refine ⟨_, rfl, .inl ⟨rfl, _, SqL.of hf3⟩, _, rfl, fa, _, _, rfl, rfl, hf3, szlt (by rw [hx.len]; omega), ?_⟩
      refine ⟨_, rfl, t2, _, _, _, rfl, rfl, SqT.of ((upd_ne (ne_of ht2 hf3 (by intro z; cases z))).trans ht2), atI_nat (j := 1) rfl, ?_⟩
      refine ⟨e - b', by omega, b', some (.ref t2), xs ++ [.ref t2], done', ?_, f1, ?_, f2, f3, rfl⟩
      · rw [eb, rw_e]
        rfl
      · exact upd_same
  · have c1 : ¬ (b : Int) < (e : Int) := of_decide_eq_false (Bool.eq_false_iff.mpr c)
    rw [nw_nil (show e ≤ b by omega), List.append_nil] at hd
    rw [hd] at hx
    exact ⟨_, rfl, q H1 fa xs sm nf hf hx⟩
def spWithin : Sp := fun vs H Q _ => ∃ (n b e : Nat), vs = [.int n, .int b, .int e] ∧ 1 ≤ n ∧ n ≤ 2 ^ 100 ∧ b ≤ e ∧ e ≤ n ∧ e ≤ 10 ^ 30 ∧
  ∀ (H' : Hp) (p : Addr) (xs : List V), Same H H' → H p = none → H' p = some (.lst xs) → All2 (Nd H') xs (nw n b e) → Q (.ref p) H'
theorem within_of {k : Nat} {f : Addr} {fd : FuncData} (F : FnOk P w K mg base CX0 k f fd ["size", "begin", "end"] spWithinX) : FnOk P w K mg base CX0 k f fd ["size", "begin", "end"] spWithin :=
  F.imp fun vs H Q E h => by
    obtain ⟨n, b, e, rfl, n1, n100, hb, he, h30, q⟩ := h
    exact ⟨n, b, e, rfl, n1, n100, he, h30, q⟩
end
end LT

namespace LT
/-! ### an entry's siblings, by side -/
def lft (b m e : Nat) : List (Nat × Nat) :=
  if h : m ≤ 1 then [] else
    if e < b + gp m then lft b (gp m) e
    else (b, b + gp m) :: lft (b + gp m) (m - gp m) e
termination_by m
decreasing_by
  · exact gp_lt (by omega)
  · have := gp_pos m; omega
theorem lft_one {b m e : Nat} (h : m ≤ 1) : lft b m e = [] := by rw [lft]; simp [h]
theorem lft_low {b m e : Nat} (h : 2 ≤ m) (k : e < b + gp m) : lft b m e = lft b (gp m) e := by
  rw [lft, dif_neg (by omega), if_pos k]
theorem lft_high {b m e : Nat} (h : 2 ≤ m) (k : ¬ e < b + gp m) : lft b m e = (b, b + gp m) :: lft (b + gp m) (m - gp m) e := by
  rw [lft, dif_neg (by omega), if_neg k]
def rgt (b m e : Nat) : List (Nat × Nat) :=
  if h : m ≤ 1 then [] else
    if e < b + gp m then rgt b (gp m) e ++ [(b + gp m, b + m)]
    else rgt (b + gp m) (m - gp m) e
termination_by m
decreasing_by
  · exact gp_lt (by omega)
  · have := gp_pos m; omega
theorem rgt_one {b m e : Nat} (h : m ≤ 1) : rgt b m e = [] := by rw [rgt]; simp [h]
theorem rgt_low {b m e : Nat} (h : 2 ≤ m) (k : e < b + gp m) : rgt b m e = rgt b (gp m) e ++ [(b + gp m, b + m)] := by
  rw [rgt, dif_neg (by omega), if_pos k]
theorem rgt_high {b m e : Nat} (h : 2 ≤ m) (k : ¬ e < b + gp m) : rgt b m e = rgt (b + gp m) (m - gp m) e := by
  rw [rgt, dif_neg (by omega), if_neg k]
/-- induction down the way to an entry -/
theorem way_ind {n e : Nat} {p : Nat → Nat → Prop} (h1 : ∀ b m, m ≤ 1 → b ≤ e → e < b + m → b + m ≤ n → p b m)
    (h2 : ∀ b m, 2 ≤ m → tree n b m → b ≤ e → e < b + gp m → b + m ≤ n → p b (gp m) → p b m)
    (h3 : ∀ b m, 2 ≤ m → tree n b m → b ≤ e → ¬ e < b + gp m → e < b + m → b + m ≤ n → p (b + gp m) (m - gp m) → p b m) :
    ∀ (m b : Nat), tree n b m → b ≤ e → e < b + m → b + m ≤ n → p b m := by
  intro m
  induction m using Nat.strongRecOn with
  | ind m ih =>
    intro b t k1 k2 k3
    by_cases c : m ≤ 1
    · exact h1 b m c k1 k2 k3
    · have m2 : 2 ≤ m := by omega
      have g1 := gp_lt m2
      have g3 := gp_pos m
      by_cases k : e < b + gp m
      · exact h2 b m m2 t k1 k k3 (ih _ g1 b (tree_low m2 t) k1 k (by omega))
      · exact h3 b m m2 t k1 k k2 k3 (ih _ (by omega) _ (tree_high m2 t) (by omega) (by omega) (by omega))
theorem sides_len {n e : Nat} : ∀ (m b : Nat), tree n b m → b ≤ e → e < b + m → b + m ≤ n → (lft b m e).length + (rgt b m e).length = (sib b m e).length := by
  refine way_ind (fun b m h _ _ _ => ?_) (fun b m h _ _ k _ ih => ?_) (fun b m h _ _ k _ _ ih => ?_)
  · rw [lft_one h, rgt_one h, sib_one h]; rfl
  · rw [lft_low h k, rgt_low h k, sib_low h k]; simp only [List.length_append, List.length_cons, List.length_nil]; omega
  · rw [lft_high h k, rgt_high h k, sib_high h k, List.length_cons, List.length_cons]; omega
theorem half_low_isN {n b m : Nat} (h : 2 ≤ m) (t : tree n b m) (hn : b + m ≤ n) : isN n (b, b + gp m) := isN_of (gp_pos m) (by have := gp_lt h; omega) (tree_low h t)
theorem half_high_isN {n b m : Nat} (h : 2 ≤ m) (t : tree n b m) (hn : b + m ≤ n) : isN n (b + gp m, b + m) := by
  have g := gp_lt h
  have := isN_of (n := n) (b := b + gp m) (m := m - gp m) (by omega) (by omega) (tree_high h t)
  rw [show b + gp m + (m - gp m) = b + m by omega] at this
  exact this
theorem lft_ch {n e : Nat} : ∀ (m b : Nat), tree n b m → b ≤ e → e < b + m → b + m ≤ n → Ch n b e (lft b m e) := by
  refine way_ind (fun b m h _ _ _ => ?_) (fun b m h _ _ k _ ih => ?_) (fun b m h t _ k k2 hn ih => ?_)
  · rw [lft_one h]; show b = e; omega
  · rw [lft_low h k]; exact ih
  · rw [lft_high h k]
    exact ⟨rfl, half_low_isN h t hn, by show b + gp m ≤ e; omega, ih⟩
theorem rgt_ch {n e : Nat} : ∀ (m b : Nat), tree n b m → b ≤ e → e < b + m → b + m ≤ n → Ch n (e + 1) (b + m) (rgt b m e) := by
  refine way_ind (fun b m h _ _ _ => ?_) (fun b m h t _ k hn ih => ?_) (fun b m h _ _ k _ _ ih => ?_)
  · rw [rgt_one h]; show e + 1 = b + m; omega
  · rw [rgt_low h k]
    refine ih.app ⟨rfl, half_high_isN h t hn, Nat.le_refl _, rfl⟩
  · rw [rgt_high h k]
    have := gp_lt h
    rw [show b + gp m + (m - gp m) = b + m by omega] at ih
    exact ih
theorem lft_mx {n e : Nat} (he : e < n) : ∀ (m b : Nat), tree n b m → b ≤ e → e < b + m → b + m ≤ n → Mx n 0 e (lft b m e) := by
  refine way_ind (fun b m h _ _ _ => ?_) (fun b m h _ _ k _ ih => ?_) (fun b m h t _ k k2 hn ih => ?_)
  · rw [lft_one h]; exact fun x hx => by cases hx
  · rw [lft_low h k]; exact ih
  · rw [lft_high h k]
    intro x hx
    rcases List.mem_cons.mp hx with rfl | hx
    · rintro ⟨p1, p2⟩ hp _ q2 q3 q4
      simp only at q2 q3 q4
      have g := gp_pos m
      obtain ⟨a1, a2, a3⟩ := isN_tree hp
      by_cases c : p1 < b
      · have := lam (n := n) (b := p1) (m := p2 - p1) (B := b) (M := m) a3 (by omega) t (by omega) hn c (by omega)
        omega
      · have e1 : p1 = b := by omega
        subst e1
        rcases node_in h t hn hp (Nat.le_refl _) (by show p2 ≤ p1 + m; omega) with z | z | z
        · have : p2 = p1 + m := congrArg Prod.snd z
          omega
        · simp only at z
          exact Prod.ext rfl (by show p2 = _; omega)
        · simp only at z
          omega
    · exact ih x hx
theorem rgt_mx {n e : Nat} : ∀ (m b : Nat), tree n b m → b ≤ e → e < b + m → b + m ≤ n → Mx n (e + 1) n (rgt b m e) := by
  refine way_ind (fun b m h _ _ _ => ?_) (fun b m h t hb k hn ih => ?_) (fun b m h _ _ k _ _ ih => ?_)
  · rw [rgt_one h]; exact fun x hx => by cases hx
  · rw [rgt_low h k]
    intro x hx
    rcases List.mem_append.mp hx with hx | hx
    · exact ih x hx
    · rw [List.mem_singleton] at hx
      subst hx
      rintro ⟨p1, p2⟩ hp q1 q2 q3 q4
      simp only at q1 q2 q3 q4
      have g := gp_lt h
      obtain ⟨a1, a2, a3⟩ := isN_tree hp
      have := lam (n := n) (b := b) (m := m) (B := p1) (M := p2 - p1) t (by omega) a3 hn (by omega) (by omega) (by omega)
      have e2 : p2 = b + m := by omega
      rcases node_in h t hn hp (by show b ≤ p1; omega) (by show p2 ≤ b + m; omega) with z | z | z
      · have : p1 = b := congrArg Prod.fst z
        omega
      · simp only at z
        omega
      · simp only at z
        exact Prod.ext (by show p1 = _; omega) (by show p2 = _; omega)
  · rw [rgt_high h k]; exact ih
/-- what lies ahead of an entry, and behind it -/
theorem nw_lft {n e : Nat} (h : e < n) : nw n 0 e = lft 0 n e := by
  have r := tree_root n
  exact nw_unique (n := n) (hi := e) (lo0 := 0) (by omega) _ _ 0 (Nat.le_refl _) (nw_ch (by omega) 0 (by omega)) (lft_ch n 0 r (by omega) (by omega) (by omega)) (nw_max (by omega) (by omega)) (lft_mx h n 0 r (by omega) (by omega) (by omega))
theorem nw_rgt {n e : Nat} (h : e < n) : nw n (e + 1) n = rgt 0 n e := by
  have r := tree_root n
  have c := rgt_ch (e := e) n 0 r (by omega) (by omega) (by omega)
  rw [Nat.zero_add] at c
  exact nw_unique (n := n) (hi := n) (lo0 := e + 1) (Nat.le_refl _) _ _ (e + 1) (Nat.le_refl _) (nw_ch (Nat.le_refl _) (e + 1) (by omega)) c (nw_max (Nat.le_refl _) (by omega)) (rgt_mx n 0 r (by omega) (by omega) (by omega))
theorem nw_single {n e : Nat} (h : e < n) : (nw n 0 e).length + (nw n (e + 1) n).length = (sib 0 n e).length := by
  rw [nw_lft h, nw_rgt h]
  exact sides_len n 0 (tree_root n) (by omega) (by omega) (by omega)
/-! ### peaks -/
theorem pk_ch {n e : Nat} (he : e ≤ n) : ∀ (i b : Nat), 2 ^ i ∣ b → b + e % 2 ^ i = e → Ch n b e ((pk i e b).map full)
  | 0, b, _, h => by rw [Nat.pow_zero, Nat.mod_one] at h; exact h
  | i + 1, b, d, h => by
    rw [mod_succ] at h
    have d' : 2 ^ i ∣ b := Nat.dvd_trans (Nat.pow_dvd_pow 2 (Nat.le_succ i)) d
    show Ch n b e ((if e.testBit i = true then (b, i) :: pk i e (b + 2 ^ i) else pk i e b).map full)
    by_cases t : e.testBit i = true
    · rw [if_pos t] at h ⊢
      refine ⟨rfl, (show isN n (b, b + 2 ^ i) from full_isN (by omega) d'), ?_, pk_ch he i (b + 2 ^ i) (Nat.dvd_add d' (Nat.dvd_refl _)) (by omega)⟩
      show b + 2 ^ i ≤ e
      omega
    · rw [if_neg t] at h ⊢
      exact pk_ch he i b d' (by omega)
theorem pk_mx {n e : Nat} (he : e < n) : ∀ (i b : Nat), 2 ^ i ∣ b → b + e % 2 ^ i = e → Mx n 0 e ((pk i e b).map full)
  | 0, b, _, h => fun x hx => by cases hx
  | i + 1, b, d, h => by
    have ml := Nat.mod_lt e (Nat.pow_pos (a := 2) (n := i + 1) (by decide))
    have hh := h
    rw [mod_succ] at h
    have d' : 2 ^ i ∣ b := Nat.dvd_trans (Nat.pow_dvd_pow 2 (Nat.le_succ i)) d
    show Mx n 0 e ((if e.testBit i = true then (b, i) :: pk i e (b + 2 ^ i) else pk i e b).map full)
    by_cases t : e.testBit i = true
    · rw [if_pos t] at h ⊢
      intro x hx
      rw [List.map_cons] at hx
      rcases List.mem_cons.mp hx with rfl | hx
      · rintro ⟨p1, p2⟩ hp _ q2 q3 q4
        have q3 : p1 ≤ b := q3
        have q4 : b + 2 ^ i ≤ p2 := q4
        simp only at q2
        have pz := Nat.pow_pos (a := 2) (n := i) (by decide)
        obtain ⟨a1, a2, a3, a4⟩ := isN_tree hp
        have a5 : p2 - p1 = 2 ^ lb (p2 - p1) := by
          rcases a4 with a4 | a4
          · exact a4
          · omega
        by_cases c : i < lb (p2 - p1)
        · have m1 := Nat.pow_le_pow_right (n := 2) (by decide) (show i + 1 ≤ lb (p2 - p1) from c)
          have m2 := mul_le_of_lt (R := 2 ^ (i + 1)) d (Nat.dvd_add (Nat.dvd_trans (Nat.pow_dvd_pow 2 (show i + 1 ≤ lb (p2 - p1) from c)) a3) (Nat.pow_dvd_pow 2 (show i + 1 ≤ lb (p2 - p1) from c))) (show b < p1 + 2 ^ lb (p2 - p1) by omega)
          omega
        · have m1 := Nat.pow_le_pow_right (n := 2) (by decide) (show lb (p2 - p1) ≤ i by omega)
          exact Prod.ext (by show p1 = b; omega) (by show p2 = b + 2 ^ i; omega)
      · exact pk_mx he i (b + 2 ^ i) (Nat.dvd_add d' (Nat.dvd_refl _)) (by omega) x hx
    · rw [if_neg t] at h ⊢
      exact pk_mx he i b d' (by omega)
theorem nw_pk {n e : Nat} (h : e < n) (h100 : e < 2 ^ 101) : nw n 0 e = (pk 101 e 0).map full := by
  have em : 0 + e % 2 ^ 101 = e := by rw [Nat.mod_eq_of_lt h100, Nat.zero_add]
  exact nw_unique (n := n) (hi := e) (lo0 := 0) (by omega) _ _ 0 (Nat.le_refl _) (nw_ch (by omega) 0 (by omega)) (pk_ch (by omega) 101 0 (Nat.dvd_zero _) em) (nw_max (by omega) (by omega)) (pk_mx h 101 0 (Nat.dvd_zero _) em)
theorem pk_even : ∀ (i c b b' : Nat), (pk (i + 1) (2 * c) b).length = (pk i c b').length
  | 0, c, b, b' => by
    show (if (2 * c).testBit 0 = true then _ else _ : List (Nat × Nat)).length = 0
    have : (2 * c).testBit 0 = false := by simp
    rw [this]
    rfl
  | i + 1, c, b, b' => by
    show (if (2 * c).testBit (i + 1) = true then (b, i + 1) :: pk (i + 1) (2 * c) (b + 2 ^ (i + 1)) else pk (i + 1) (2 * c) b).length = (if c.testBit i = true then (b', i) :: pk i c (b' + 2 ^ i) else pk i c b').length
    rw [Nat.testBit_succ, show 2 * c / 2 = c by omega]
    by_cases t : c.testBit i = true
    · rw [if_pos t, if_pos t, List.length_cons, List.length_cons, pk_even i c _ (b' + 2 ^ i)]
    · rw [if_neg t, if_neg t, pk_even i c b b']
theorem pk_odd : ∀ (i c b b' : Nat), (pk (i + 1) (2 * c + 1) b).length = (pk i c b').length + 1
  | 0, c, b, b' => by
    show (if (2 * c + 1).testBit 0 = true then (b, 0) :: ([] : List (Nat × Nat)) else []).length = 0 + 1
    have : (2 * c + 1).testBit 0 = true := by simp
    rw [this]
    rfl
  | i + 1, c, b, b' => by
    show (if (2 * c + 1).testBit (i + 1) = true then (b, i + 1) :: pk (i + 1) (2 * c + 1) (b + 2 ^ (i + 1)) else pk (i + 1) (2 * c + 1) b).length = (if c.testBit i = true then (b', i) :: pk i c (b' + 2 ^ i) else pk i c b').length + 1
    rw [Nat.testBit_succ, show (2 * c + 1) / 2 = c by omega]
    by_cases t : c.testBit i = true
    · rw [if_pos t, if_pos t, List.length_cons, List.length_cons, pk_odd i c _ (b' + 2 ^ i)]
    · rw [if_neg t, if_neg t, pk_odd i c b b']
theorem pow_dvd_odd {k c : Nat} (h : 2 ^ k ∣ 2 * c + 1) : k = 0 := by
  cases k with
  | zero => rfl
  | succ k =>
    have := Nat.dvd_trans (⟨2 ^ k, by rw [Nat.pow_succ, Nat.mul_comm]⟩ : 2 ∣ 2 ^ (k + 1)) h
    omega
theorem pk_pred : ∀ (i e k b b' : Nat), 0 < e → e < 2 ^ i → 2 ^ k ∣ e → ¬ 2 ^ (k + 1) ∣ e → (pk i e b).length + k = (pk i (e - 1) b').length + 1
  | 0, e, k, _, _, h, h2, _, _ => by simp at h2; omega
  | i + 1, e, k, b, b', h, h2, d1, d2 => by
    rcases Nat.mod_two_eq_zero_or_one e with z | z
    · obtain ⟨c, rfl⟩ : ∃ c, e = 2 * c := ⟨e / 2, by omega⟩
      have kp : k ≠ 0 := fun y => d2 (by rw [y]; exact ⟨c, by simp⟩)
      obtain ⟨j, rfl⟩ : ∃ j, k = j + 1 := ⟨k - 1, by omega⟩
      rw [Nat.pow_succ] at h2
      have ih := pk_pred i c j 0 0 (by omega) (by omega) (by rw [Nat.pow_succ, Nat.mul_comm] at d1; exact Nat.dvd_of_mul_dvd_mul_left (by decide) d1) (fun y => d2 (by rw [Nat.pow_succ, Nat.mul_comm]; exact Nat.mul_dvd_mul_left 2 y))
      rw [show 2 * c - 1 = 2 * (c - 1) + 1 by omega, pk_even i c b 0, pk_odd i (c - 1) b' 0]
      omega
    · obtain ⟨c, rfl⟩ : ∃ c, e = 2 * c + 1 := ⟨e / 2, by omega⟩
      have := pow_dvd_odd d1
      subst this
      rw [show 2 * c + 1 - 1 = 2 * c by omega, pk_odd i c b 0, pk_even i c b' 0]
theorem lb_big {n : Nat} (h : 2 ≤ n) : lb n = Nat.log2 (n - 1) + 1 := by unfold lb; rw [if_neg (by omega)]
end LT

namespace LT
open PySem PySem.Spec PyProof.Rows L2
/-! ### lists of ints as data -/
theorem ints_lay : ∀ ns : List Int, PyData.canLayAll0 (ns.map PyData.int) = true
  | [] => by simp [PyData.canLayAll0]
  | n :: ns => by simp [PyData.canLayAll0, PyData.canLay0, ints_lay ns]
theorem ints_depth : ∀ ns : List Int, PyData.depthAll (ns.map PyData.int) ≤ 1
  | [] => by simp [PyData.depthAll]
  | n :: ns => by
    have := ints_depth ns
    simp only [List.map_cons, PyData.depthAll, PyData.depth]
    omega
theorem ints_shaped (ns : List Int) : SeqAt.shaped (.list (ns.map PyData.int)) = true := by
  have h := ints_depth ns
  have h2 : PyData.depth (.list (ns.map PyData.int)) ≤ 64 := by
    simp only [PyData.depth]
    omega
  show (PyData.canLay0 (.list (ns.map PyData.int)) && decide (PyData.depth (.list (ns.map PyData.int)) ≤ 64)) = true
  rw [Bool.and_eq_true]
  exact ⟨by simp only [PyData.canLay0]; exact ints_lay ns, decide_eq_true h2⟩
theorem ints_dp {K : PySem.W.Frag} {H : Hp} : ∀ ns : List Int, DpAll K H (ns.map V.int) (ns.map PyData.int)
  | [] => .nil
  | n :: ns => .cons (.int n) (ints_dp ns)
theorem ints_nil : ∀ ns : List Int, PyData.eqv (.list (ns.map PyData.int)) (.list []) = ns.isEmpty
  | [] => by simp only [List.map_nil, PyData.eqv, PyData.eqvAll, List.isEmpty_nil]
  | n :: ns => by simp only [List.map_cons, PyData.eqv, PyData.eqvAll, List.isEmpty_cons]
theorem nil_shaped : SeqAt.shaped (.list []) = true := ints_shaped []
end LT

namespace LT
open PySem PySem.Spec PyProof.Rows L2
def nd (x : Nat × Nat) : PyData := .tuple [.int x.1, .int x.2]
theorem nds_lay : ∀ l : List (Nat × Nat), PyData.canLayAll0 (l.map nd) = true
  | [] => by simp [PyData.canLayAll0]
  | x :: l => by simp [PyData.canLayAll0, nd, PyData.canLay0, nds_lay l]
theorem nds_depth : ∀ l : List (Nat × Nat), PyData.depthAll (l.map nd) ≤ 2
  | [] => by simp [PyData.depthAll]
  | x :: l => by
    have := nds_depth l
    simp only [List.map_cons, PyData.depthAll, nd, PyData.depth]
    omega
theorem nds_shaped (l : List (Nat × Nat)) : SeqAt.shaped (.list (l.map nd)) = true := by
  have h := nds_depth l
  have h2 : PyData.depth (.list (l.map nd)) ≤ 64 := by
    simp only [PyData.depth]
    omega
  show (PyData.canLay0 (.list (l.map nd)) && decide (PyData.depth (.list (l.map nd)) ≤ 64)) = true
  rw [Bool.and_eq_true]
  exact ⟨by simp only [PyData.canLay0]; exact nds_lay l, decide_eq_true h2⟩
theorem nds_dp {K : PySem.W.Frag} {H : Hp} : ∀ {vs : List V} {l : List (Nat × Nat)}, All2 (Nd H) vs l → DpAll K H vs (l.map nd)
  | _, _, .nil => .nil
  | _, _, .cons h t => .cons h.dp (nds_dp t)
theorem nds_any (l : List (Nat × Nat)) (x : Nat × Nat) : (l.map nd).any (fun z => PyData.eqv z (.tuple [.int x.1, .int x.2])) = decide (x ∈ l) := by
  induction l with
  | nil => simp
  | cons y l ih =>
    rw [List.map_cons, List.any_cons, ih]
    show (PyData.eqv (.tuple [.int y.1, .int y.2]) _ || _) = _
    rw [nd_eqv]
    by_cases c : x = y
    · subst c
      simp
    · have e : (decide ((y.1 : Int) = (x.1 : Int)) && decide ((y.2 : Int) = (x.2 : Int))) = false := by
        rw [Bool.and_eq_false_iff]
        by_cases c1 : y.1 = x.1
        · right
          refine decide_eq_false (fun z => c (Prod.ext c1.symm ?_))
          omega
        · left
          exact decide_eq_false (fun z => c1 (by omega))
      rw [e, Bool.false_or]
      simp [c]
end LT

namespace LT
open PySem PySem.Spec PyProof.Rows L2
theorem ndt_shaped (l : List (Nat × Nat)) : SeqAt.shaped (.tuple (l.map nd)) = true := by
  have h := nds_depth l
  have h2 : PyData.depth (.tuple (l.map nd)) ≤ 64 := by
    simp only [PyData.depth]
    omega
  show (PyData.canLay0 (.tuple (l.map nd)) && decide (PyData.depth (.tuple (l.map nd)) ≤ 64)) = true
  rw [Bool.and_eq_true]
  exact ⟨by simp only [PyData.canLay0]; exact nds_lay l, decide_eq_true h2⟩
theorem tup_dp {K : PySem.W.Frag} {H : Hp} {p : Addr} {vs : List V} {l : List (Nat × Nat)} (h : H p = some (.tup vs)) (k : All2 (Nd H) vs l) : Dp K H (.ref p) (.tuple (l.map nd)) := .tup (SqT.of h) (nds_dp k)
theorem lst_dp {K : PySem.W.Frag} {H : Hp} {p : Addr} {vs : List V} {l : List (Nat × Nat)} (h : H p = some (.lst vs)) (k : All2 (Nd H) vs l) : Dp K H (.ref p) (.list (l.map nd)) := .lst (SqL.of h) (nds_dp k)
end LT

namespace LT
open PySem PySem.Spec PyProof.Rows L2
theorem log2_is {r h : Nat} (h1 : 2 ^ h ≤ r) (h2 : r < 2 ^ (h + 1)) : r.log2 = h := (Nat.log2_eq_iff (by have := Nat.pow_pos (a := 2) (n := h) (by decide); omega)).mpr ⟨h1, h2⟩
theorem pk_step : ∀ (i n b : Nat), n % 2 ^ i ≠ 0 → ∃ h, h < i ∧ pk i n b = (b, h) :: pk h n (b + 2 ^ h) ∧ n % 2 ^ i = 2 ^ h + n % 2 ^ h
  | 0, n, b, hr => by simp [Nat.mod_one] at hr
  | i + 1, n, b, hr => by
    rw [mod_succ] at hr
    by_cases t : n.testBit i = true
    · refine ⟨i, Nat.lt_succ_self i, ?_, by rw [mod_succ, if_pos t]⟩
      show (if n.testBit i = true then _ else _) = _
      rw [if_pos t]
    · rw [if_neg t, Nat.zero_add] at hr
      obtain ⟨h, h1, h2, h3⟩ := pk_step i n b hr
      refine ⟨h, by omega, ?_, by rw [mod_succ, if_neg t, Nat.zero_add]; exact h3⟩
      show (if n.testBit i = true then _ else _) = _
      rw [if_neg t]
      exact h2
section
variable {P : Program} {w : World} {K : PySem.W.Frag} {mg : Str → Option Value} {base : Heap}
def spTops : Sp := fun vs H Q _ => ∃ (n : Nat), vs = [.int n] ∧ 1 ≤ n ∧ n ≤ 10 ^ 30 ∧ ∀ (H' : Hp) (p : Addr) (xs : List V), Same H H' → H p = none → H' p = some (.lst xs) → All2 (Nd H') xs ((pk 101 n 0).map full) → Q (.ref p) H'
theorem ok_peaks {f g1 g2 : Addr} {fd d1 d2 : FuncData} (F : Fun K "peaks" "peaks" sPeaks f fd) (GCheckSize : FnOk P w K mg base CX0 3 g1 d1 ["size"] spCheckSize) (ACheckSize : At K mg "check_size" g1 d1 ["size"])
    (GPowerWithin : FnOk P w K mg base CX0 1 g2 d2 ["number"] spPower) (APowerWithin : At K mg "power_within" g2 d2 ["number"]) : FnOk P w K mg base CX0 4 f fd ["size"] spTops := by
  refine F.ok scPeaks (fun vs H Q E h => ?_) (fun cdv A outer s H vs Q E hr h => ?_)
  · obtain ⟨_, rfl, _⟩ := h
    rfl
  obtain ⟨n, rfl, h1, h30, q⟩ := h
  refine ⟨_, (pss_cons (ps_expr (pe_call GCheckSize (hr.mono (by decide)) rfl ACheckSize.m ACheckSize.kp ACheckSize.b .nil pass0 (pa_cons (pv 0) pa_nil)))
    (pss_cons (ps_set (i := 1) scPeaks.nd rfl (Or.inl rfl) (pe_lst pa_nil))
    (pss_cons (ps_set (i := 2) scPeaks.nd rfl (Or.inl rfl) pe_int)
    (pss_cons (ps_while PassesOwn.never (pt_cmpR op_lt (pv 2) (pv 0) (nomark _))
    (pss_cons (ps_set (i := 3) scPeaks.nd rfl (Or.inl rfl) (pe_op op_add (pv 2) (pe_call GPowerWithin (hr.mono (by decide)) rfl APowerWithin.m APowerWithin.kp APowerWithin.b .nil pass0 (pa_cons (pe_op op_sub (pv 0) (pv 2)) pa_nil))))
    (pss_cons (ps_expr (pe_bm PySem.F.plainAttrs_list PySem.F.slot_list_append PySem.F.type_list_append mt_append (pv 1) (pa_cons (pe_tup (pa_cons (pv 2) (pa_cons (pv 3) pa_nil))) pa_nil)))
    (pss_one (ps_set (i := 2) scPeaks.nd rfl (Or.inl rfl) (pv 3))))))
    (pss_one (ps_ret (pv 1))))))), ?_⟩
  refine ⟨_, rfl, n, rfl, by omega, by omega, ?_⟩
  refine ⟨Nat.zero_le _, fun fa nf => ?_⟩
  have nm : n % 2 ^ 101 = n := Nat.mod_eq_of_lt (Nat.lt_of_le_of_lt h30 (by decide))
  refine ⟨fun mu σ H' => ∃ (i b : Nat) (v3 : Option V) (xs : List V) (done : List (Nat × Nat)), σ = [some (.int n), some (.ref fa), some (.int b), v3] ∧ Same H H' ∧ H' fa = some (.lst xs) ∧ All2 (Nd H') xs (done.map full) ∧ done ++ pk i n b = pk 101 n 0 ∧ b + n % 2 ^ i = n ∧ mu = n - b,
    ⟨n, 101, 0, none, [], [], rfl, same_upd nf, upd_same, .nil, rfl, by omega, by omega⟩, ?_⟩
  rintro m σ H1 ⟨i, b, v3, xs, done, rfl, sm, hf, hx, hd, hb, rfl⟩
  refine ⟨_, rfl, _, rfl, _, _, rfl, rfl, _, rfl, ite2 (fun c => ?_) (fun c => ?_)⟩
  · have c1 : (b : Int) < (n : Int) := of_decide_eq_true c
    obtain ⟨h, hi, hp, hm⟩ := pk_step i n b (by omega)
    have ph := Nat.pow_pos (a := 2) (n := h) (by decide)
    have lh : (n - b).log2 = h := log2_is (by omega) (by have := Nat.mod_lt n ph; rw [Nat.pow_succ]; omega)
    have dl : done.length ≤ 101 := by
      have k1 := congrArg List.length hd
      rw [List.length_append] at k1
      have k2 := pk_len 101 n 0
      omega
    refine ⟨fun σ' H' => ∃ mu, mu < n - b ∧ ∃ (i b : Nat) (v3 : Option V) (xs : List V) (done : List (Nat × Nat)), σ' = [some (.int n), some (.ref fa), some (.int b), v3] ∧ Same H H' ∧ H' fa = some (.lst xs) ∧ All2 (Nd H') xs (done.map full) ∧ done ++ pk i n b = pk 101 n 0 ∧ b + n % 2 ^ i = n ∧ mu = n - b, fun σ' H' h => h, ?_⟩
    have e1 : (n : Int) - (b : Int) = ((n - b : Nat) : Int) := by omega
    refine ⟨_, rfl, _, rfl, _, rfl, _, _, rfl, rfl, n - b, congrArg (fun z => [V.int z]) e1, by omega, by omega, _, _, rfl, rfl, ?_⟩
    have e2 : (b : Int) + ((2 ^ (n - b).log2 : Nat) : Int) = ((b + 2 ^ h : Nat) : Int) := by rw [lh]; omega
    dsimp only
    rw [e2]
    refine ⟨_, rfl, .inl ⟨rfl, _, SqL.of hf⟩, _, rfl, _, rfl, (by show 2 ≤ sizeLine; decide), fun t nt => ?_⟩
    have s1 := same_upd (o := .tup [.int (b : Int), .int ((b + 2 ^ h : Nat) : Int)]) nt
    have hf1 := s1 _ _ hf
    refine ⟨fa, _, _, rfl, rfl, hf1, szlt (by rw [hx.len, List.length_map]; omega), ?_⟩
    refine ⟨_, rfl, ?_⟩
    refine ⟨n - (b + 2 ^ h), by omega, h, b + 2 ^ h, _, xs ++ [.ref t], done ++ [(b, h)], rfl, ?_, upd_same, ?_, ?_, by omega, rfl⟩
    · exact fun a o k => by rw [upd_ne (ne_of_none k nf)]; exact s1 _ _ (sm _ _ k)
    · rw [List.map_append]
      refine (hx.mono (fun v x (k : Nd H1 v x) => (k.same s1).upd hf1)).app (.cons ?_ .nil)
      exact Nd.upd (x := full (b, h)) ⟨t, rfl, upd_same⟩ hf1
    · rw [← hd, hp, List.append_assoc]
      rfl
  · have c1 : ¬ (b : Int) < (n : Int) := of_decide_eq_false (Bool.eq_false_iff.mpr c)
    rw [pk_nil i n b (by omega), List.append_nil] at hd
    rw [hd] at hx
    exact ⟨_, rfl, q H1 fa xs sm nf hf hx⟩
end
end LT

namespace LT
open PySem PySem.Spec PyProof.Rows L2
theorem cut_last (xs : List V) : cutV xs none (some (-1)) = xs.dropLast := by
  unfold cutV
  have e : HT.sIx xs.length xs.length (some (-1)) = xs.length - 1 := by
    show (if (-1 : Int) < 0 then ((-1 : Int) + (xs.length : Int)).toNat else min (-1 : Int).toNat xs.length) = _
    rw [if_pos (by decide)]
    omega
  rw [e, HT.sIx_none, List.drop_zero, Nat.sub_zero, List.dropLast_eq_take]
theorem All2.droplast {α : Type} {R : V → α → Prop} : ∀ {vs : List V} {xs : List α}, All2 R vs xs → All2 R vs.dropLast xs.dropLast
  | _, _, .nil => .nil
  | _, _, .cons _ .nil => .nil
  | _, _, .cons h (.cons k t) => .cons h (All2.droplast (.cons k t))
section
variable {P : Program} {w : World} {K : PySem.W.Frag} {mg : Str → Option Value} {base : Heap}
def spEdges : Sp := fun vs H Q _ => ∃ (n : Nat), vs = [.int n] ∧ 1 ≤ n ∧ n ≤ 10 ^ 30 ∧ ∀ (H' : Hp) (p : Addr) (xs : List V), Same H H' → H p = none → H' p = some (.lst xs) → All2 (Nd H') xs (((pk 101 n 0).map full).dropLast.map fun x => (x.1, n)) → Q (.ref p) H'
theorem ok_edges {f g1 : Addr} {fd d1 : FuncData} (F : Fun K "edges" "edges" sEdges f fd) (GPeaks : FnOk P w K mg base CX0 4 g1 d1 ["size"] spTops) (APeaks : At K mg "peaks" g1 d1 ["size"]) : FnOk P w K mg base CX0 5 f fd ["size"] spEdges := by
  refine F.ok scEdges (fun vs H Q E h => ?_) (fun cdv A outer s H vs Q E hr h => ?_)
  · obtain ⟨_, rfl, _⟩ := h
    rfl
  obtain ⟨n, rfl, h1, h30, q⟩ := h
  refine ⟨_, (pss_one (ps_ret (pe_lc (own := [("begin", 1), ("_", 2)]) rfl scEdges.nd (pi_list (pe_slice sl_list (pe_call GPeaks (hr.mono (by decide)) rfl APeaks.m APeaks.kp APeaks.b .nil pass0 (pa_cons (pv 0) pa_nil)) po_none (po_some (pe_un un_neg pe_int)))) (blkOk_by (N := ["size", "begin", "_"]) (sc := defScope sEdges) (by decide +kernel)) (fun _ _ _ _ _ => (pg_tupB (n := 2) rfl (pgs_cons (pg_name (i := 1) scEdges.nd rfl (Or.inl rfl)) (pgs_cons (pg_name (i := 2) scEdges.nd rfl (Or.inl rfl)) pgs_nil)))) (fun _ _ _ _ _ => pts_nil) (fun _ _ _ _ _ => (pe_tup (pa_cons (pv 1) (pa_cons (pv 0) pa_nil))))))), ?_⟩
  refine ⟨_, rfl, n, rfl, h1, h30, fun H1 p xs sm np hp hx => ?_⟩
  have L101 : ((pk 101 n 0).map full).length ≤ 101 := by rw [List.length_map]; exact pk_len 101 n 0
  generalize (pk 101 n 0).map full = L at q hx L101
  refine ⟨1, rfl, -1, rfl, p, _, rfl, SqL.of hp, fun c nc => ?_⟩
  have sc := same_upd (o := .lst (cutV xs none (some (-1)))) nc
  have hc : (upd H1 c (.lst (cutV xs none (some (-1))))) c = some (.lst xs.dropLast) := by rw [upd_same, cut_last]
  have hx1 := (hx.mono (fun v x (k : Nd H1 v x) => k.same sc)).droplast
  generalize upd H1 c (.lst (cutV xs none (some (-1)))) = H2 at hc hx1 sc
  refine ⟨c, rfl, ⟨_, SqL.of hc⟩, fun D nD => lc_list (xs := xs.dropLast) (fun i H' => ∃ ys : List V, Same H2 H' ∧ H' D = some (.lst ys) ∧ All2 (Nd H') ys ((L.dropLast.take i).map fun x => (x.1, n))) ⟨[], same_upd nD, upd_same, .nil⟩ (fun i H' _ ⟨_, k, _⟩ => SqL.of (k _ _ hc)) ?_ ?_⟩
  · rintro i x H3 hi ⟨ys, s3, hD, hy3⟩
    obtain ⟨y, hy, xp, rfl, hxp⟩ := hx1.nth hi
    have il : i < L.dropLast.length := (List.getElem?_eq_some_iff.mp hy).1
    rw [List.length_dropLast] at il
    refine ⟨xp, _, rfl, SqT.of (s3 _ _ hxp), rfl, _, _, rfl, _, _, rfl, rfl, rfl, ?_⟩
    refine ⟨_, rfl, _, rfl, (by show 2 ≤ sizeLine; decide), fun t nt => ?_⟩
    have st := same_upd (o := .tup [.int (y.1 : Int), .int (n : Int)]) nt
    refine ⟨ys, st _ _ hD, szlt (by rw [hy3.len, List.length_map, List.length_take, List.length_dropLast]; omega), ys ++ [.ref t], ?_, upd_same, ?_⟩
    · exact fun a o k => by rw [upd_ne (ne_of_none k nD)]; exact st _ _ (s3 _ _ k)
    · rw [take_more hy, List.map_append]
      exact (hy3.mono (fun v x (k : Nd H3 v x) => (k.same st).upd (st _ _ hD))).app (.cons (Nd.upd (x := (y.1, n)) ⟨t, rfl, upd_same⟩ (st _ _ hD)) .nil)
  rintro H3 ⟨ys, s3, hD, hy3⟩
  have et : L.dropLast.take xs.dropLast.length = L.dropLast := List.take_of_length_le (by rw [hx1.len]; exact Nat.le_refl _)
  rw [et] at hy3
  refine q H3 D ys (sm.trans (sc.trans s3)) ?_ hD hy3
  exact (sm.trans sc).free nD
end
end LT

namespace LT
open PySem PySem.Spec PyProof.Rows L2
theorem fm0 (x : Int) {m : Int} (h : 0 < m) : 0 ≤ x.fmod m := by
  rw [Int.fmod_eq_emod_of_nonneg _ (by omega)]
  exact Int.emod_nonneg _ (by omega)
theorem fm1 (x : Int) {m : Int} (h : 0 < m) : x.fmod m < m := by
  rw [Int.fmod_eq_emod_of_nonneg _ (by omega)]
  exact Int.emod_lt_of_pos _ h
def CPowW (i j : Int) : Prop := 0 ≤ j ∧ (Builtin.Int.intBits i : Int) * j ≤ 2 ^ 27
theorem op_powW {X : Cx} : OpR X (binaryOp .Pow) (rI CPowW fun i j => .int (i ^ j.toNat)) := opI fun _ _ _ _ _ _ _ hc q => pow_int hc.1 hc.2 q
theorem intBits_le {i : Int} {k : Nat} (h : i.natAbs < 2 ^ k) : Builtin.Int.intBits i ≤ k := by
  unfold Builtin.Int.intBits
  split
  · omega
  · rename_i c
    have : i.natAbs ≠ 0 := by simpa using c
    have := (Nat.log2_lt this).mpr h
    omega
theorem powW3 {i : Int} (h : i.natAbs < 2 ^ 1000) : CPowW i 3 := by
  have := intBits_le h
  refine ⟨by decide, ?_⟩
  omega
/-- a reel: three ints, the last one a count -/
def ReelAt (H : Hp) (b : Addr) (c : Nat) : Prop := ∃ x y z : Int, H b = some (.lst [.int x, .int y, .int z]) ∧ y.natAbs < 2 ^ 200 ∧ 0 ≤ z ∧ z ≤ c
theorem ReelAt.same {H H' : Hp} {b : Addr} {c : Nat} (h : ReelAt H b c) (s : Same H H') : ReelAt H' b c := by
  obtain ⟨x, y, z, e, r⟩ := h
  exact ⟨x, y, z, s _ _ e, r⟩
theorem ReelAt.mono {H : Hp} {b : Addr} {c d : Nat} (h : ReelAt H b c) (k : c ≤ d) : ReelAt H b d := by
  obtain ⟨x, y, z, e, r1, r2, r3⟩ := h
  exact ⟨x, y, z, e, r1, r2, by omega⟩
theorem ReelAt.ne {H : Hp} {b p : Addr} {c : Nat} (h : ReelAt H b c) (n : H p = none) : p ≠ b := fun z => by
  obtain ⟨_, _, _, e, _⟩ := h
  rw [← z, n] at e
  cases e
theorem ReelAt.upd {H : Hp} {b p : Addr} {c : Nat} {o : HO} (h : ReelAt H b c) (n : p ≠ b) : ReelAt (upd H p o) b c := by
  obtain ⟨x, y, z, e, r⟩ := h
  exact ⟨x, y, z, by rw [upd_ne (fun z => n z.symm)]; exact e, r⟩
section
variable {P : Program} {w : World} {K : PySem.W.Frag} {mg : Str → Option Value} {base : Heap}
def spWound (K : PySem.W.Frag) : Sp := fun vs H Q _ => ∃ (a : Addr) (ns : List Int) (k : Nat), vs = [.ref a, .int k] ∧ SqL K H a (ns.map V.int) ∧ k ≤ 63 ∧ ∀ (H' : Hp) (p : Addr), Same H H' → H p = none → ReelAt H' p 0 → Q (.ref p) H'
theorem ok_law_wound {f : Addr} {fd : FuncData} (F : Fun K "_law_wound" "_law_wound" sLawWound f fd) (z_max : mg "max" = none) (z_len : mg "len" = none) (z_int : mg "int" = none) : FnOk P w K mg base CX0 1 f fd ["script", "k"] (spWound K) := by
  refine F.ok scLawWound (fun vs H Q E h => ?_) (fun cdv A outer s H vs Q E hr h => ?_)
  · obtain ⟨_, _, _, rfl, _⟩ := h
    rfl
  obtain ⟨a, ns, k, rfl, hS, hk, q⟩ := h
  refine ⟨_, (pss_cons (ps_set (i := 2) scLawWound.nd rfl (Or.inl rfl) pe_int)
    (pss_cons (ps_if (pt_cmpR op_lt (pv 1) (pe_callB call_len_seq (by rfl) z_len PySem.boot_len (pa_cons (pv 0) pa_nil)) (nomark _))
    (pss_one (ps_set (i := 2) scLawWound.nd rfl (Or.inl rfl) (pe_ix ix_list (pv 0) (pv 1) (fun _ _ => rfl))))
    pss_nil)
    (pss_one (ps_ret (pe_lst (pa_cons (pe_callB (call_max2 rfl) (by rfl) z_max (by decide +kernel) (pa_cons pe_int (pa_cons (pe_op op_sub (pv 2) (pe_op op_pow pe_int pe_int)) pa_nil))) (pa_cons (pe_op op_add (pe_op op_add (pe_op op_mul (pe_op op_modN (pe_callTy call_int1 (by rfl) z_int (by decide +kernel) (pa_cons (pv 2) pa_nil)) (pe_op op_add (pe_op op_pow pe_int pe_int) pe_int)) pe_int) (pe_op op_mul pe_int (pv 1))) pe_int) (pa_cons pe_int pa_nil)))))))), ?_⟩
  have fin : ∀ (cell : Int), Q (.ref 0) H → True := fun _ _ => trivial
  refine ⟨_, rfl, _, rfl, a, _, rfl, .inl hS, _, _, rfl, rfl, _, rfl, ite2 (fun c => ?_) (fun c => ?_)⟩
  · have c1 : (k : Int) < ((ns.map V.int).length : Int) := of_decide_eq_true c
    have c2 : k < (ns.map V.int).length := by omega
    have c3 : k < ns.length := by rw [List.length_map] at c2; exact c2
    have e : (ns.map V.int)[k]? = some (.int ns[k]) := by rw [List.getElem?_map, List.getElem?_eq_getElem c3]; rfl
    generalize ns[k] = cell at e
    refine ⟨_, rfl, _, rfl, a, _, _, _, rfl, rfl, hS, atI_nat e, ?_⟩
    refine ⟨_, rfl, _, _, rfl, rfl, ⟨by decide, by decide, by decide⟩, _, _, rfl, rfl, _, _, rfl, _, rfl, .inl ⟨_, rfl, _, _, rfl, rfl, ⟨by decide, by decide, by decide⟩, _, _, rfl, rfl, _, _, rfl, rfl, (by show (10 ^ (38 : Int).toNat + 133 : Int) ≠ 0; decide), _, _, rfl, rfl, .inr ⟨by decide, by decide⟩, _, rfl, _, _, rfl, rfl, .inl ⟨by decide, by decide⟩, _, _, rfl, rfl, _, _, rfl, rfl, (by show 3 ≤ sizeLine; decide), fun p np => ?_⟩⟩
    have f0 := fm0 cell (m := 10 ^ (38 : Int).toNat + 133) (by decide)
    have f1 := fm1 cell (m := 10 ^ (38 : Int).toNat + 133) (by decide)
    have e10 : (10 : Int) ^ (38 : Int).toNat = 100000000000000000000000000000000000000 := by decide
    rw [e10] at f0 f1
    refine q _ p (same_upd np) np ⟨_, _, _, upd_same, ?_, by decide, by decide⟩
    rw [e10]
    generalize cell.fmod (100000000000000000000000000000000000000 + 133) = z at f0 f1
    omega
  · refine ⟨_, rfl, _, _, rfl, rfl, ⟨by decide, by decide, by decide⟩, _, _, rfl, rfl, _, _, rfl, _, rfl, .inl ⟨_, rfl, _, _, rfl, rfl, ⟨by decide, by decide, by decide⟩, _, _, rfl, rfl, _, _, rfl, rfl, (by show (10 ^ (38 : Int).toNat + 133 : Int) ≠ 0; decide), _, _, rfl, rfl, .inr ⟨by decide, by decide⟩, _, rfl, _, _, rfl, rfl, .inl ⟨by decide, by decide⟩, _, _, rfl, rfl, _, _, rfl, rfl, (by show 3 ≤ sizeLine; decide), fun p np => ?_⟩⟩
    have f0 := fm0 0 (m := 10 ^ (38 : Int).toNat + 133) (by decide)
    have f1 := fm1 0 (m := 10 ^ (38 : Int).toNat + 133) (by decide)
    have e10 : (10 : Int) ^ (38 : Int).toNat = 100000000000000000000000000000000000000 := by decide
    rw [e10] at f0 f1
    refine q _ p (same_upd np) np ⟨_, _, _, upd_same, ?_, by decide, by decide⟩
    rw [e10]
    generalize (0 : Int).fmod (100000000000000000000000000000000000000 + 133) = z at f0 f1
    omega
def spSpin : Sp := fun vs H Q _ => ∃ (b : Addr) (many : Int) (c : Nat), vs = [.ref b, .int many] ∧ 0 < many ∧ many.natAbs < 2 ^ 250 ∧ ReelAt H b c ∧ c ≤ 10 ^ 9 ∧
  ∀ (r : Nat) (H' : Hp), (r : Int) < many → (∀ a, a ≠ b → H' a = H a) → ReelAt H' b (c + 1) → Q (.int r) H'
theorem ok_law_spin {f : Addr} {fd : FuncData} (F : Fun K "_law_spin" "_law_spin" sLawSpin f fd) (z_int : mg "int" = none) : FnOk P w K mg base CX0 1 f fd ["reel", "many"] spSpin := by
  refine F.ok scLawSpin (fun vs H Q E h => ?_) (fun cdv A outer s H vs Q E hr h => ?_)
  · obtain ⟨_, _, _, rfl, _⟩ := h
    rfl
  obtain ⟨b, many, cn, rfl, hm, hm2, ⟨x, y, z, h0, hy, z0, zc⟩, hc, q0⟩ := h
  have q : ∀ (i : Int) (H' : Hp), (∀ a, a ≠ b → H' a = H a) → ReelAt H' b (cn + 1) → Q (.int (i.fmod many)) H' := fun i H' k1 k2 => by
    have a0 := fm0 i hm
    have a1 := fm1 i hm
    obtain ⟨r, e⟩ := Int.eq_ofNat_of_zero_le a0
    rw [e] at a1 ⊢
    exact q0 r H' a1 k1 k2
  refine ⟨_, (pss_cons (ps_if (pt_cmpR op_gt (pe_ix ix_list (pv 0) pe_int (fun _ _ => rfl)) pe_int (nomark _))
    (pss_cons (ps_set (i := 2) scLawSpin.nd rfl (Or.inl rfl) (pe_op op_modN (pe_callTy call_int1 (by rfl) z_int (by decide +kernel) (pa_cons (pe_ix ix_list (pv 0) pe_int (fun _ _ => rfl)) pa_nil)) (pv 1)))
    (pss_cons (ps_asg (pe_op op_fdivW (pe_ix ix_list (pv 0) pe_int (fun _ _ => rfl)) (pv 1)) (pg_sub (pv 0) pe_int set_list))
    (pss_one (ps_ret (pv 2)))))
    pss_nil)
    (pss_cons (ps_asg (pe_op op_add (pe_ix ix_list (pv 0) pe_int (fun _ _ => rfl)) pe_int) (pg_sub (pv 0) pe_int set_list))
    (pss_cons (ps_set (i := 3) scLawSpin.nd rfl (Or.inl rfl) (pe_op op_modN (pe_callTy call_int1 (by rfl) z_int (by decide +kernel) (pa_cons (pe_op op_powW (pe_op op_add (pe_ix ix_list (pv 0) pe_int (fun _ _ => rfl)) (pe_op op_mul pe_int (pe_ix ix_list (pv 0) pe_int (fun _ _ => rfl)))) pe_int) pa_nil)) (pe_op op_add (pe_op op_pow pe_int pe_int) pe_int)))
    (pss_cons (ps_set (i := 3) scLawSpin.nd rfl (Or.inl rfl) (pe_op op_modN (pe_callTy call_int1 (by rfl) z_int (by decide +kernel) (pa_cons (pe_op op_powW (pe_op op_add (pv 3) (pe_op op_mul pe_int (pe_ix ix_list (pv 0) pe_int (fun _ _ => rfl)))) pe_int) pa_nil)) (pe_op op_add (pe_op op_pow pe_int pe_int) pe_int)))
    (pss_one (ps_ret (pe_op op_modN (pe_callTy call_int1 (by rfl) z_int (by decide +kernel) (pa_cons (pe_op op_fdivW (pv 3) pe_int) pa_nil)) (pv 1)))))))), ?_⟩
  refine ⟨_, rfl, b, _, _, _, rfl, rfl, SqL.of h0, atI_nat (j := 0) rfl, _, _, rfl, rfl, _, rfl, ite2 (fun c => ?_) (fun c => ?_)⟩
  · refine ⟨_, rfl, b, _, _, _, rfl, rfl, SqL.of h0, atI_nat (j := 0) rfl, .inl ⟨_, rfl, _, rfl, _, _, rfl, rfl, by omega, ?_⟩⟩
    refine ⟨_, rfl, b, _, _, _, rfl, rfl, SqL.of h0, atI_nat (j := 0) rfl, _, rfl, _, _, rfl, rfl, wide_div hm hm2 (by decide) (by decide), _, rfl, b, _, _, 0, rfl, rfl, h0, rfl, ?_⟩
    refine ⟨_, rfl, ?_⟩
    exact q x _ (fun a ha => upd_ne ha) ⟨_, y, z, upd_same, hy, z0, by omega⟩
  · refine ⟨_, rfl, b, _, _, _, rfl, rfl, SqL.of h0, atI_nat (j := 2) rfl, _, _, rfl, rfl, _, rfl, b, _, _, 2, rfl, rfl, h0, rfl, ?_⟩
    dsimp only
    have h1 : (upd H b (.lst ([.int x, .int y, .int z].set 2 (.int (z + 1))))) b = some (.lst [.int x, .int y, .int (z + 1)]) := upd_same
    have k1 : ∀ a, a ≠ b → (upd H b (.lst ([.int x, .int y, .int z].set 2 (.int (z + 1))))) a = H a := fun a ha => upd_ne ha
    generalize upd H b (.lst ([.int x, .int y, .int z].set 2 (.int (z + 1)))) = H1 at h1 k1
    refine ⟨_, rfl, b, _, _, _, rfl, rfl, SqL.of h1, atI_nat (j := 1) rfl, _, rfl, b, _, _, _, rfl, rfl, SqL.of h1, atI_nat (j := 2) rfl, _, _, rfl, rfl, .inl ⟨by decide, by decide⟩, _, _, rfl, rfl, _, _, rfl, rfl, powW3 (by omega), .inl ⟨_, rfl, _, _, rfl, rfl, ⟨by decide, by decide, by decide⟩, _, _, rfl, rfl, _, _, rfl, rfl, (by show (10 ^ (42 : Int).toNat + 63 : Int) ≠ 0; decide), ?_⟩⟩
    dsimp only
    have e10 : (10 : Int) ^ (42 : Int).toNat = 1000000000000000000000000000000000000000000 := by decide
    rw [e10]
    have a0 := fm0 ((y + 86028121 * (z + 1)) ^ (3 : Int).toNat) (m := 1000000000000000000000000000000000000000000 + 63) (by decide)
    have a1 := fm1 ((y + 86028121 * (z + 1)) ^ (3 : Int).toNat) (m := 1000000000000000000000000000000000000000000 + 63) (by decide)
    generalize ((y + 86028121 * (z + 1)) ^ (3 : Int).toNat).fmod (1000000000000000000000000000000000000000000 + 63) = mi at a0 a1
    refine ⟨_, rfl, _, rfl, b, _, _, _, rfl, rfl, SqL.of h1, atI_nat (j := 2) rfl, _, _, rfl, rfl, .inl ⟨by decide, by decide⟩, _, _, rfl, rfl, _, _, rfl, rfl, powW3 (by omega), .inl ⟨_, rfl, _, _, rfl, rfl, ⟨by decide, by decide, by decide⟩, _, _, rfl, rfl, _, _, rfl, rfl, (by show (10 ^ (44 : Int).toNat + 57 : Int) ≠ 0; decide), ?_⟩⟩
    dsimp only
    generalize ((mi + 67867967 * (z + 1)) ^ (3 : Int).toNat).fmod (10 ^ (44 : Int).toNat + 57) = mj
    refine ⟨_, rfl, _, _, rfl, rfl, wide_div (by decide) (b := 20) (by decide) (by decide) (by decide), .inl ⟨_, rfl, _, rfl, _, _, rfl, rfl, by omega, ?_⟩⟩
    exact q _ _ k1 ⟨_, _, _, h1, hy, by omega, by omega⟩
end
end LT

namespace LT
open PySem PySem.Spec PyProof.Rows L2
section
variable {P : Program} {w : World} {K : PySem.W.Frag} {mg : Str → Option Value} {base : Heap}
theorem shl_nat (k : Nat) : (1 : Int) * 2 ^ ((k : Nat) : Int).toNat = ((2 ^ k : Nat) : Int) := by rw [Int.one_mul, Int.toNat_natCast]; exact (Int.natCast_pow 2 k).symm
def spDrawnSize : Sp := fun vs H Q _ => ∃ (b : Addr) (c : Nat), vs = [.ref b] ∧ ReelAt H b c ∧ c ≤ 10 ^ 8 ∧
  ∀ (n : Nat) (H' : Hp), 1 ≤ n → n ≤ 10 ^ 30 → But b H H' → ReelAt H' b (c + 5) → Q (.int n) H'
theorem ok_law_drawn_size {f g1 : Addr} {fd d1 : FuncData} (F : Fun K "_law_drawn_size" "_law_drawn_size" sLawDrawnSize f fd) (GLawSpin : FnOk P w K mg base CX0 1 g1 d1 ["reel", "many"] spSpin) (ALawSpin : At K mg "_law_spin" g1 d1 ["reel", "many"]) (z_min : mg "min" = none) (z_int : mg "int" = none) :
    FnOk P w K mg base CX0 2 f fd ["reel"] spDrawnSize := by
  refine F.ok scLawDrawnSize (fun vs H Q E h => ?_) (fun cdv A outer s H vs Q E hr h => ?_)
  · obtain ⟨_, _, rfl, _⟩ := h
    rfl
  obtain ⟨b, c, rfl, hb, hc, q⟩ := h
  refine ⟨_, (pss_cons (ps_par (i := 1) (j := 2) (by rfl) scLawDrawnSize.nd rfl rfl (by decide) rfl rfl (pa_cons (pe_call GLawSpin (hr.mono (by decide)) rfl ALawSpin.m ALawSpin.kp ALawSpin.b .nil pass0 (pa_cons (pv 0) (pa_cons pe_int pa_nil))) (pa_cons (pe_call GLawSpin (hr.mono (by decide)) rfl ALawSpin.m ALawSpin.kp ALawSpin.b .nil pass0 (pa_cons (pv 0) (pa_cons pe_int pa_nil))) pa_nil)) (by rfl))
    (pss_cons (ps_set (i := 3) scLawDrawnSize.nd rfl (Or.inl rfl) (pe_lst (pa_cons (pe_op op_add pe_int (pe_call GLawSpin (hr.mono (by decide)) rfl ALawSpin.m ALawSpin.kp ALawSpin.b .nil pass0 (pa_cons (pv 0) (pa_cons (pe_op op_pow pe_int pe_int) pa_nil)))) (pa_cons (pe_op op_add (pe_op op_shl pe_int (pv 1)) (pe_op op_shl pe_int (pv 2))) (pa_cons (pe_op op_sub (pe_op op_shl pe_int (pe_op op_add (pv 1) pe_int)) pe_int) pa_nil)))))
    (pss_cons (ps_set (i := 3) scLawDrawnSize.nd rfl (Or.inl rfl) (pe_op op_cat (pv 3) (pe_lst (pa_cons (pe_op op_add (pe_op op_sub (pe_op op_sub (pe_op op_shl pe_int (pe_op op_add (pv 1) pe_int)) pe_int) (pe_op op_shl pe_int (pe_callB (call_min2 rfl) (by rfl) z_min (by decide +kernel) (pa_cons (pv 1) (pa_cons (pv 2) pa_nil))))) (pe_callTy call_int1 (by rfl) z_int (by decide +kernel) (pa_cons (pe_cmpR op_eq (pv 1) pe_int (nomark _)) pa_nil))) (pa_cons (pe_op op_add pe_int (pe_call GLawSpin (hr.mono (by decide)) rfl ALawSpin.m ALawSpin.kp ALawSpin.b .nil pass0 (pa_cons (pv 0) (pa_cons pe_int pa_nil)))) pa_nil)))))
    (pss_one (ps_ret (pe_ix ix_list (pv 3) (pe_call GLawSpin (hr.mono (by decide)) rfl ALawSpin.m ALawSpin.kp ALawSpin.b .nil pass0 (pa_cons (pv 0) (pa_cons pe_int pa_nil))) (fun _ _ => rfl))))))), ?_⟩
  refine ⟨_, rfl, b, 99, c, rfl, by decide, by decide, hb, by omega, fun pw H1 p1 k1 b1 => ?_⟩
  refine ⟨_, rfl, b, 99, _, rfl, by decide, by decide, b1, by omega, fun ot H2 o1 k2 b2 => ?_⟩
  refine ⟨_, _, rfl, ?_⟩
  have B2 : But b H H2 := fun a o n h => by rw [k2 a n, k1 a n]; exact h
  refine ⟨_, rfl, _, _, rfl, rfl, ⟨by decide, by decide, by decide⟩, b, _, _, rfl, by decide, by decide, b2, by omega, fun r3 H3 r31 k3 b3 => ?_⟩
  have B3 : But b H H3 := fun a o n h => by rw [k3 a n]; exact B2 a o n h
  refine ⟨_, _, rfl, rfl, ?_⟩
  refine ⟨_, rfl, _, _, rfl, rfl, ⟨Int.natCast_nonneg _, by omega, by decide⟩, _, rfl, _, _, rfl, rfl, ⟨Int.natCast_nonneg _, by omega, by decide⟩, _, _, rfl, rfl, ?_⟩
  refine ⟨_, rfl, _, _, rfl, rfl, _, _, rfl, rfl, ⟨by omega, by omega, by decide⟩, _, _, rfl, rfl, (by show 3 ≤ sizeLine; decide), fun l nl => ?_⟩
  dsimp only
  have ep : (pw : Int) + 1 = ((pw + 1 : Nat) : Int) := by omega
  rw [ep, shl_nat, shl_nat, shl_nat]
  have p0 := Nat.pow_pos (a := 2) (n := pw) (by decide)
  have q0 := Nat.pow_pos (a := 2) (n := ot) (by decide)
  have pb : 2 ^ pw ≤ 2 ^ 98 := Nat.pow_le_pow_right (by decide) (by omega)
  have qb : 2 ^ ot ≤ 2 ^ 98 := Nat.pow_le_pow_right (by decide) (by omega)
  have ps : 2 ^ (pw + 1) = 2 * 2 ^ pw := by rw [Nat.pow_succ]; omega
  have lb_ : l ≠ b := b3.ne nl
  have s4 := same_upd (o := .lst [.int (1 + (r3 : Int)), .int (((2 ^ pw : Nat) : Int) + ((2 ^ ot : Nat) : Int)), .int (((2 ^ (pw + 1) : Nat) : Int) - 1)]) nl
  have h4 : (upd H3 l (.lst [.int (1 + (r3 : Int)), .int (((2 ^ pw : Nat) : Int) + ((2 ^ ot : Nat) : Int)), .int (((2 ^ (pw + 1) : Nat) : Int) - 1)])) l = some (.lst [.int (1 + (r3 : Int)), .int (((2 ^ pw : Nat) : Int) + ((2 ^ ot : Nat) : Int)), .int (((2 ^ (pw + 1) : Nat) : Int) - 1)]) := upd_same
  have B4 := B3.trans (But.of (b := b) s4)
  have b4 := b3.same s4
  generalize upd H3 l (.lst [.int (1 + (r3 : Int)), .int (((2 ^ pw : Nat) : Int) + ((2 ^ ot : Nat) : Int)), .int (((2 ^ (pw + 1) : Nat) : Int) - 1)]) = H4 at h4 B4 b4
  have em : (if (ot : Int) < (pw : Int) then (ot : Int) else (pw : Int)) = ((min pw ot : Nat) : Int) := by split <;> omega
  have mb : 2 ^ (min pw ot) ≤ 2 ^ pw := Nat.pow_le_pow_right (by decide) (by omega)
  have m0 := Nat.pow_pos (a := 2) (n := min pw ot) (by decide)
  refine ⟨_, rfl, _, rfl, _, _, rfl, rfl, _, _, rfl, rfl, ⟨by omega, by omega, by decide⟩, _, _, rfl, rfl, _, rfl, _, rfl, _, _, rfl, ?_⟩
  rw [em]
  refine ⟨_, _, rfl, rfl, ⟨Int.natCast_nonneg _, by omega, by decide⟩, _, _, rfl, rfl, _, rfl, rfl, .inr ⟨_, rfl, _, _, rfl, rfl, ?_⟩⟩
  dsimp only
  rw [ep, shl_nat, shl_nat]
  refine ⟨_, rfl, b, 99, _, rfl, by decide, by decide, b4, by omega, fun r5 H5 r51 k5 b5 => ⟨_, _, rfl, rfl, (by show 2 ≤ sizeLine; decide), fun l2 n2 => ?_⟩⟩
  have B5 : But b H H5 := fun a o n h => by rw [k5 a n]; exact B4 a o n h
  have h5 : H5 l = some _ := (k5 l lb_).trans h4
  have s6 := same_upd (o := .lst [.int (((2 ^ (pw + 1) : Nat) : Int) - 1 - ((2 ^ min pw ot : Nat) : Int) + if decide ((V.int (pw : Int)) = V.int 0) = true then 1 else 0), .int (1 + (r5 : Int))]) n2
  refine ⟨l, l2, _, _, rfl, rfl, s6 _ _ h5, upd_same, (by show 3 + 2 ≤ sizeLine; decide), fun l3 n3 => ?_⟩
  have s7 := same_upd (o := .lst ([.int (1 + (r3 : Int)), .int (((2 ^ pw : Nat) : Int) + ((2 ^ ot : Nat) : Int)), .int (((2 ^ (pw + 1) : Nat) : Int) - 1)] ++ [.int (((2 ^ (pw + 1) : Nat) : Int) - 1 - ((2 ^ min pw ot : Nat) : Int) + if decide ((V.int (pw : Int)) = V.int 0) = true then 1 else 0), .int (1 + (r5 : Int))])) n3
  have hz : (if decide ((V.int (pw : Int)) = V.int 0) = true then (1 : Int) else 0) = if pw = 0 then 1 else 0 := by
    by_cases c : pw = 0
    · subst c; rfl
    · rw [if_neg c]
      exact if_neg (fun z => c (by have := V.int.inj (of_decide_eq_true z); omega))
  have e30 : (10 : Int) ^ (30 : Int).toNat = 1000000000000000000000000000000 := by decide
  rw [e30] at r31
  have hv : ∀ r : Nat, (r : Int) < 5 → ∃ n : Nat, atI ([V.int (1 + (r3 : Int)), .int (((2 ^ pw : Nat) : Int) + ((2 ^ ot : Nat) : Int)), .int (((2 ^ (pw + 1) : Nat) : Int) - 1)] ++ [.int (((2 ^ (pw + 1) : Nat) : Int) - 1 - ((2 ^ min pw ot : Nat) : Int) + if decide ((V.int (pw : Int)) = V.int 0) = true then 1 else 0), .int (1 + (r5 : Int))]) (r : Int) = some (.int (n : Int)) ∧ 1 ≤ n ∧ n ≤ 10 ^ 30 := by
    intro r hr5
    have key : ∀ (i : Int), (1 ≤ i ∧ i ≤ 10 ^ 30) → ∀ (o : Option V), o = some (.int i) → ∃ n : Nat, o = some (.int (n : Int)) ∧ 1 ≤ n ∧ n ≤ 10 ^ 30 := fun i hi o ho => by
      obtain ⟨n, rfl⟩ := Int.eq_ofNat_of_zero_le (show 0 ≤ i by omega)
      exact ⟨n, ho, by omega, by omega⟩
    rw [hz]
    have : r = 0 ∨ r = 1 ∨ r = 2 ∨ r = 3 ∨ r = 4 := by omega
    rcases this with rfl | rfl | rfl | rfl | rfl
    · exact key _ (by omega) _ (atI_nat (j := 0) rfl)
    · exact key _ (by omega) _ (atI_nat (j := 1) rfl)
    · exact key _ (by omega) _ (atI_nat (j := 2) rfl)
    · refine key _ ?_ _ (atI_nat (j := 3) rfl)
      by_cases c : pw = 0
      · subst c
        rw [if_pos rfl]
        have : min 0 ot = 0 := by omega
        rw [this]
        decide
      · rw [if_neg c]
        have : 2 ≤ 2 ^ pw := Nat.pow_le_pow_right (n := 2) (by decide) (show 1 ≤ pw by omega)
        omega
    · exact key _ (by omega) _ (atI_nat (j := 4) rfl)
  generalize [V.int (1 + (r3 : Int)), .int (((2 ^ pw : Nat) : Int) + ((2 ^ ot : Nat) : Int)), .int (((2 ^ (pw + 1) : Nat) : Int) - 1)] ++ [.int (((2 ^ (pw + 1) : Nat) : Int) - 1 - ((2 ^ min pw ot : Nat) : Int) + if decide ((V.int (pw : Int)) = V.int 0) = true then 1 else 0), .int (1 + (r5 : Int))] = L at s7 hv ⊢
  have b7 := (b5.same s6).same s7
  have h7 : (upd (upd H5 l2 (.lst [.int (((2 ^ (pw + 1) : Nat) : Int) - 1 - ((2 ^ min pw ot : Nat) : Int) + if decide ((V.int (pw : Int)) = V.int 0) = true then 1 else 0), .int (1 + (r5 : Int))])) l3 (.lst L)) l3 = some (.lst L) := upd_same
  have B7 := (B5.trans (But.of (b := b) s6)).trans (But.of (b := b) s7)
  generalize upd (upd H5 l2 (.lst [.int (((2 ^ (pw + 1) : Nat) : Int) - 1 - ((2 ^ min pw ot : Nat) : Int) + if decide ((V.int (pw : Int)) = V.int 0) = true then 1 else 0), .int (1 + (r5 : Int))])) l3 (.lst L) = H7 at b7 h7 B7
  have l3b : l3 ≠ b := (b5.same s6).ne n3
  refine ⟨_, rfl, _, rfl, b, 5, _, rfl, by decide, by decide, b7, by omega, fun r H8 r8 k8 b8 => ?_⟩
  obtain ⟨n, hn, n1, n30⟩ := hv r r8
  exact ⟨l3, _, _, _, rfl, rfl, SqL.of ((k8 l3 l3b).trans h7), hn, q n H8 n1 n30 (fun a o z h => by rw [k8 a z]; exact B7 a o z h) b8⟩
end
end LT

namespace LT
open PySem PySem.Spec PyProof.Rows L2 PySem.SeqAt PySem.W
section
variable {prog : Program} {w : World} {A : Around} {E : Value → Shared → Prop} {s : Shared}
theorem min_two_data {a b : Value} {x y : PyData} {as : List Addr} {Q : Value → Shared → Prop} (hh : A.handled = none) (hr : ReadsAll s.heap [a, b] [x, y] as) (ha : AlikeAll [x, y]) (hu : A.units + 1 + PyData.depthAll [x, y] < cLine)
    (h : ∀ h' tk, (∀ b o, s.heap.get? b = some o → h'.get? b = some o) → Q (if dataLt y x then b else a) { s with heap := h', toks := tk }) :
    wpAny (model prog w) A (call (.builtin "min") [a, b]) Q E s := by
  have hname : (toString "min" ++ toString ".loop" : String) = "min.loop" := by decide
  refine call_function_tree F.kind_min F.plain_min F.entry_min (F.args_min2 _ _) ?_
  show wpAny _ A.in1 (Builtin.Builtins.bindParams "min" ["key", "default"] 0 ⟨[], []⟩ >>= _) _ _ s
  refine wpAny_bind (wpAny_of_eq (show Builtin.Builtins.bindParams "min" ["key", "default"] 0 ⟨[], []⟩ = pure [none, none] from rfl) ?_)
  show wpAny _ A.in1 (newTuple [a, b] >>= _) _ _ s
  refine wpAny_bind (wpAny_newObj_type ?_)
  have hT : (s.heap.push { cls := .type "tuple", data := .seq #[a, b] }).IsTuple s.heap.objs.size #[a, b] := ⟨_, Heap.get?_push_size _ rfl, rfl, 0, rfl⟩
  have kp : ∀ c o, s.heap.get? c = some o → (s.heap.push { cls := .type "tuple", data := .seq #[a, b] }).get? c = some o := fun c o e => Heap.get?_push_of_some _ e
  have hr1 : ReadsAll (s.heap.push { cls := .type "tuple", data := .seq #[a, b] }) (#[a, b] : Array Value).toList [x, y] as := PyProof.Rows.ReadsAll.keeps kp hr
  refine wpAny_bind (iter_tupleW (A := A.in1) (s := { s with heap := s.heap.push { cls := .type "tuple", data := .seq #[a, b] } }) hh hT fun s₂ e W st hfp hw hk => ?_)
  refine wpAny_bind (wpAny_newObj_type ?_)
  have hSf : s₂.heap.objs.size ∉ _ := fun hm => Nat.lt_irrefl _ (hfp _ hm)
  rw [hname]
  refine wpAny_pure ⟨plainId_quiet F.plain_min_loop _, codeAny_min_loop_firstH W _ hw _ (cmpIn_lt (s := { s with heap := s.heap.push { cls := .type "tuple", data := .seq #[a, b] } }) (A := A.in1) hr1 ha (by show A.units + 1 + _ < _; exact hu)) s₂.heap.objs.size hSf (fresh_in hk) _ (by show 0 < 2; decide) (fun b o e => Heap.get?_push_of_some _ (hk b o e)) (W.frame 0 s₂ _ s₂.toks st (Nat.le_refl _) fun b _ o e => Heap.get?_push_of_some _ e) (Heap.get?_push_size _ rfl) fun v s' hP hm => ?_⟩
  have m := Moved.drop_new (tk := s₂.toks) hm (Nat.le_refl _)
  obtain ⟨h', tk, rfl, hk'⟩ := moved_old e rfl m
  have hv : v = if dataLt y x then b else a := by
    have hP' : (#[a, b] : Array Value)[if dataLt y x then 1 else 0]? = some v := hP
    cases hd : dataLt y x with
    | true => rw [hd] at hP'; exact (Option.some.inj hP').symm
    | false => rw [hd] at hP'; exact (Option.some.inj hP').symm
  rw [hv]
  exact h h' tk fun b o e => hk' b o (kp b o e)
end
theorem call_min2D {X : Cx} (hc : X.calm = true) (hu : X.A.units + 65 < cLine) : CallR X (.builtin "min") (fun xs H Q => ∃ x y d e, xs = [x, y] ∧ Dp X.K H x d ∧ Dp X.K H y e ∧ AlikeAll [d, e] ∧ PyData.depthAll [d, e] ≤ 64 ∧ Q (if dataLt e d then y else x) H) := by
  intro pins s σ H xs us Q I r h
  obtain ⟨x, y, d, e, rfl, hd, he, ha, hl, q⟩ := h
  obtain ⟨as, ra⟩ := Dp.readsAll I [d, e] [x, y] us (.cons hd (.cons he .nil)) r
  obtain ⟨u, u', rfl, r1, r2⟩ := vals2 r
  refine min_two_data (I.ok.hd hc) ra ha (by omega) fun h' tk k => ⟨_, H, I.kept k, ?_, q⟩
  cases dataLt e d with
  | true => exact r2
  | false => exact r1
theorem call_min2DB {X : Cx} {s : Shared} {H : Hp} {sc : Scope} {ce : Env} {fp : List Addr} (hc : X.calm = true) (hu : X.A.units + 65 < cLine) : CallR (X.blk s H sc ce fp) (.builtin "min") (fun xs H Q => ∃ x y d e, xs = [x, y] ∧ Dp X.K H x d ∧ Dp X.K H y e ∧ AlikeAll [d, e] ∧ PyData.depthAll [d, e] ≤ 64 ∧ Q (if dataLt e d then y else x) H) := call_min2D (X := X.blk s H sc ce fp) hc hu
theorem pairs_alike (a b c d : Int) : AlikeAll [.tuple [.int a, .int b], .tuple [.int c, .int d]] := by
  refine ⟨fun x hx y hy => ?_, fun x hx => ?_⟩
  · simp only [List.mem_cons, List.not_mem_nil, or_false] at hx hy
    rcases hx with rfl | rfl <;> rcases hy with rfl | rfl <;> simp [alike, alikeAll]
  · simp only [List.mem_cons, List.not_mem_nil, or_false] at hx
    rcases hx with rfl | rfl <;> exact fun z => nomatch z
end LT

namespace LT
open PySem PySem.Spec PyProof.Rows L2
/-- the digits 1 -/
def ones (n : Nat) : Nat := if h : n = 0 then 0 else n % 2 + ones (n / 2)
termination_by n
decreasing_by omega
theorem ones_zero : ones 0 = 0 := by rw [ones]; rfl
theorem ones_step (n : Nat) : ones n = n % 2 + ones (n / 2) := by
  by_cases h : n = 0
  · subst h; rw [Nat.zero_mod, Nat.zero_div, ones_zero]
  · rw [ones, dif_neg h]
theorem ones_one : ones 1 = 1 := by rw [ones_step]; show 1 + ones 0 = 1; rw [ones_zero]
theorem ones_dbl (n : Nat) : ones (2 * n) = ones n := by rw [ones_step, Nat.mul_mod_right, Nat.zero_add, Nat.mul_div_cancel_left _ (by decide)]
theorem ones_dbl1 (n : Nat) : ones (2 * n + 1) = ones n + 1 := by
  rw [ones_step, show (2 * n + 1) % 2 = 1 by omega, show (2 * n + 1) / 2 = n by omega]; omega
theorem ones_pos {n : Nat} (h : 1 ≤ n) : 1 ≤ ones n := by
  induction n using Nat.strongRecOn with
  | ind n ih =>
    rw [ones_step]
    by_cases c : n % 2 = 1
    · omega
    · have := ih (n / 2) (by omega) (by omega)
      omega
theorem ones_split : ∀ (i a r : Nat), r < 2 ^ i → ones (2 ^ i * a + r) = ones a + ones r
  | 0, a, r, h => by
    have : r = 0 := by simp at h; omega
    subst this
    rw [Nat.pow_zero, Nat.one_mul, Nat.add_zero, ones_zero, Nat.add_zero]
  | i + 1, a, r, h => by
    rw [Nat.pow_succ] at h
    have e : 2 ^ (i + 1) * a + r = 2 * (2 ^ i * a + r / 2) + r % 2 := by
      rw [Nat.pow_succ, Nat.mul_right_comm]
      omega
    have ih := ones_split i a (r / 2) (by omega)
    have s := ones_step r
    have c : r % 2 = 0 ∨ r % 2 = 1 := by omega
    rcases c with c | c
    · rw [e, c, Nat.add_zero, ones_dbl, ih]; omega
    · rw [e, c, ones_dbl1, ih]; omega
theorem ones_pow (i : Nat) : ones (2 ^ i) = 1 := by
  have := ones_split i 1 0 (Nat.pow_pos (by decide))
  rw [Nat.mul_one, Nat.add_zero, ones_one, ones_zero] at this
  exact this
theorem ones_le (i n : Nat) (h : n < 2 ^ i) : ones n ≤ i := by
  induction i generalizing n with
  | zero => have : n = 0 := by simp at h; omega
            subst this; rw [ones_zero]; exact Nat.le_refl _
  | succ i ih =>
    rw [Nat.pow_succ] at h
    have := ih (n / 2) (by omega)
    rw [ones_step]
    omega
theorem ones_le_self (n : Nat) : ones n ≤ n := by
  induction n using Nat.strongRecOn with
  | ind n ih =>
    by_cases c : n = 0
    · subst c; rw [ones_zero]; exact Nat.le_refl _
    · have := ih (n / 2) (by omega)
      rw [ones_step]
      omega
theorem pk_ones : ∀ (i n b : Nat), (pk i n b).length = ones (n % 2 ^ i)
  | 0, n, b => by rw [Nat.pow_zero, Nat.mod_one, ones_zero]; rfl
  | i + 1, n, b => by
    rw [mod_succ]
    have ml := Nat.mod_lt n (Nat.pow_pos (a := 2) (n := i) (by decide))
    by_cases t : n.testBit i = true
    · show (if n.testBit i = true then (b, i) :: pk i n (b + 2 ^ i) else pk i n b).length = _
      rw [if_pos t, if_pos t, List.length_cons, pk_ones i n _]
      have := ones_split i 1 (n % 2 ^ i) ml
      rw [Nat.mul_one, ones_one] at this
      omega
    · show (if n.testBit i = true then (b, i) :: pk i n (b + 2 ^ i) else pk i n b).length = _
      rw [if_neg t, if_neg t, pk_ones i n _, Nat.zero_add]
end LT

namespace LT
open PySem PySem.Spec PyProof.Rows L2
theorem npk_ones {n : Nat} (h : n ≤ 10 ^ 30) : (pk 101 n 0).length = ones n := by rw [pk_ones, Nat.mod_eq_of_lt (Nat.lt_of_le_of_lt h (by decide))]
section
variable {P : Program} {w : World} {K : PySem.W.Frag} {mg : Str → Option Value} {base : Heap}
def spRootSums : Sp := fun vs H Q _ => ∃ (n : Nat), vs = [.int n] ∧ 1 ≤ n ∧ n ≤ 10 ^ 30 ∧ ∀ (H' : Hp), Same H H' → Q (.int ((ones n - 1 : Nat) : Int)) H'
theorem ok_root_sums {f g1 : Addr} {fd d1 : FuncData} (F : Fun K "root_sums" "root_sums" sRootSums f fd) (GEdges : FnOk P w K mg base CX0 5 g1 d1 ["size"] spEdges) (AEdges : At K mg "edges" g1 d1 ["size"]) (z_len : mg "len" = none) : FnOk P w K mg base CX0 6 f fd ["size"] spRootSums := by
  refine F.ok scRootSums (fun vs H Q E h => ?_) (fun cdv A outer s H vs Q E hr h => ?_)
  · obtain ⟨_, rfl, _⟩ := h
    rfl
  obtain ⟨n, rfl, h1, h30, q⟩ := h
  refine ⟨_, (pss_one (ps_ret (pe_callB call_len_seq (by rfl) z_len PySem.boot_len (pa_cons (pe_call GEdges (hr.mono (by decide)) rfl AEdges.m AEdges.kp AEdges.b .nil pass0 (pa_cons (pv 0) pa_nil)) pa_nil)))), ?_⟩
  refine ⟨_, rfl, n, rfl, h1, h30, fun H1 p xs sm np hp hx => ⟨p, xs, rfl, .inl (SqL.of hp), ?_⟩⟩
  dsimp only
  rw [hx.len, List.length_map, List.length_dropLast, List.length_map, npk_ones h30]
  exact q H1 sm
end
end LT

namespace LT
open PySem PySem.Spec PyProof.Rows L2
theorem ones_ge (n : Nat) : 2 ^ ones n ≤ n + 1 := by
  induction n using Nat.strongRecOn with
  | ind n ih =>
    by_cases c : n = 0
    · subst c; rw [ones_zero]; decide
    · have := ih (n / 2) (by omega)
      rw [ones_step]
      have d : n % 2 = 0 ∨ n % 2 = 1 := by omega
      rcases d with d | d
      · rw [d, Nat.zero_add]; omega
      · rw [d, Nat.add_comm, Nat.pow_succ]; omega
theorem ones_full (i : Nat) : ones (2 ^ i - 1) = i := by
  induction i with
  | zero => exact ones_zero
  | succ i ih =>
    have p := Nat.pow_pos (a := 2) (n := i) (by decide)
    rw [ones_step, Nat.pow_succ, show (2 ^ i * 2 - 1) % 2 = 1 by omega, show (2 ^ i * 2 - 1) / 2 = 2 ^ i - 1 by omega, ih]
    omega
/-- the least multiple of 2 ^ i from l on -/
def up (l i : Nat) : Nat := (l + 2 ^ i - 1) / 2 ^ i * 2 ^ i
theorem up_ge (l i : Nat) : l ≤ up l i := by
  have p := Nat.pow_pos (a := 2) (n := i) (by decide)
  unfold up
  have h1 := Nat.div_add_mod (l + 2 ^ i - 1) (2 ^ i)
  have h2 := Nat.mod_lt (l + 2 ^ i - 1) p
  rw [Nat.mul_comm] at h1
  omega
theorem up_le {l i m : Nat} (h : l ≤ m) (d : 2 ^ i ∣ m) : up l i ≤ m := by
  have p := Nat.pow_pos (a := 2) (n := i) (by decide)
  obtain ⟨k, rfl⟩ := d
  unfold up
  rw [Nat.mul_comm (2 ^ i) k]
  refine Nat.mul_le_mul_right _ ?_
  rw [← Nat.lt_succ_iff, Nat.div_lt_iff_lt_mul p, Nat.succ_mul, Nat.mul_comm k]
  omega
theorem up_dvd (l i : Nat) : 2 ^ i ∣ up l i := Nat.dvd_mul_left _ _
theorem up_zero (l : Nat) : up l 0 = l := by unfold up; rw [Nat.pow_zero, Nat.div_one, Nat.mul_one]; omega
/-- the last power with a multiple up to m -/
theorem up_best {l m : Nat} (h1 : 1 ≤ l) (h : l ≤ m) : ∃ i, 2 ^ i ≤ m ∧ up l i ≤ m ∧ ones (up l i) ≤ ones m := by
  have far : ∀ k, m < 2 ^ k → m < up l k := fun k hk => by
    have a := up_ge l k
    obtain ⟨c, hc⟩ := up_dvd l k
    have c1 : c ≠ 0 := fun z => by subst z; rw [hc] at a; omega
    have := Nat.le_mul_of_pos_right (2 ^ k) (Nat.pos_of_ne_zero c1)
    omega
  have ex : ∃ i, up l i ≤ m ∧ m < up l (i + 1) := by
    have key : ∀ k, m < up l k → ∃ i, up l i ≤ m ∧ m < up l (i + 1) := by
      intro k
      induction k with
      | zero => intro z; rw [up_zero] at z; omega
      | succ k ih =>
        intro z
        by_cases c : up l k ≤ m
        · exact ⟨k, c, z⟩
        · exact ih (by omega)
    exact key m (far m Nat.lt_two_pow_self)
  obtain ⟨i, hi, hj⟩ := ex
  have p := Nat.pow_pos (a := 2) (n := i) (by decide)
  have ge := up_ge l i
  obtain ⟨a, ha⟩ := up_dvd l i
  have a1 : 1 ≤ a := by
    have : a ≠ 0 := fun z => by subst z; omega
    omega
  have odd : a % 2 = 1 := by
    have d : a % 2 = 0 ∨ a % 2 = 1 := by omega
    rcases d with d | d
    · exfalso
      have : 2 ^ (i + 1) ∣ up l i := by
        rw [ha, Nat.pow_succ, show a = 2 * (a / 2) by omega, ← Nat.mul_assoc]
        exact Nat.dvd_mul_right _ _
      have := up_le ge this
      omega
    · exact d
  have nx : up l (i + 1) ≤ up l i + 2 ^ i := by
    refine up_le (by omega) ?_
    rw [ha, Nat.pow_succ, show 2 ^ i * a + 2 ^ i = 2 ^ i * 2 * ((a + 1) / 2) by
      rw [Nat.mul_assoc, show 2 * ((a + 1) / 2) = a + 1 by omega, Nat.mul_succ]]
    exact Nat.dvd_mul_right _ _
  refine ⟨i, ?_, hi, ?_⟩
  · have := Nat.le_mul_of_pos_right (2 ^ i) a1
    omega
  · have e : m = 2 ^ i * a + (m - up l i) := by omega
    rw [e, ones_split i a _ (by omega), ha]
    have := ones_split i a 0 p
    rw [Nat.add_zero, ones_zero] at this
    omega
/-- c is one less than the fewest digits 1 between l and h, s the first number that has so many -/
def least (l h c s : Nat) : Prop := l ≤ s ∧ s ≤ h ∧ ones s = c + 1 ∧ ∀ m, l ≤ m → m ≤ h → c + 1 ≤ ones m ∧ (ones m = c + 1 → s ≤ m)
def most (l h c s : Nat) : Prop := l ≤ s ∧ s ≤ h ∧ ones s = c + 1 ∧ ∀ m, l ≤ m → m ≤ h → ones m ≤ c + 1 ∧ (ones m = c + 1 → s ≤ m)
theorem least_one {l h c s d t : Nat} (x : least l h c s) (y : least l h d t) : c = d ∧ s = t := by
  obtain ⟨x1, x2, x3, x4⟩ := x
  obtain ⟨y1, y2, y3, y4⟩ := y
  have a := x4 t y1 y2
  have b := y4 s x1 x2
  have e : c = d := by omega
  subst e
  have a2 := a.2 y3
  have b2 := b.2 x3
  omega
theorem most_one {l h c s d t : Nat} (x : most l h c s) (y : most l h d t) : c = d ∧ s = t := by
  obtain ⟨x1, x2, x3, x4⟩ := x
  obtain ⟨y1, y2, y3, y4⟩ := y
  have a := x4 t y1 y2
  have b := y4 s x1 x2
  have e : c = d := by omega
  subst e
  have a2 := a.2 y3
  have b2 := b.2 x3
  omega
/-- the best of the first j candidates -/
def bestUp (l h j c s : Nat) : Prop := l ≤ s ∧ s ≤ h ∧ ones s = c + 1 ∧ ∀ i, i < j → up l i ≤ h → c + 1 ≤ ones (up l i) ∧ (ones (up l i) = c + 1 → s ≤ up l i)
theorem least_of {l h j c s : Nat} (l1 : 1 ≤ l) (x : bestUp l h j c s) (hj : h < 2 ^ j) : least l h c s := by
  obtain ⟨x1, x2, x3, x4⟩ := x
  refine ⟨x1, x2, x3, fun m m1 m2 => ?_⟩
  obtain ⟨i, a, b, d⟩ := up_best l1 m1
  have ij : i < j := (Nat.pow_lt_pow_iff_right (by decide : 1 < 2)).mp (show 2 ^ i < 2 ^ j by omega)
  obtain ⟨k1, k2⟩ := x4 i ij (by omega)
  refine ⟨by omega, fun z => ?_⟩
  have := k2 (by omega)
  omega
/-- the next number with more digits 1 -/
def nxt (s : Nat) : Nat := s ||| (s + 1)
theorem nxt_even (a : Nat) : nxt (2 * a) = 2 * a + 1 := by
  unfold nxt
  apply Nat.eq_of_testBit_eq
  intro i
  rw [Nat.testBit_or]
  cases i with
  | zero => simp [Nat.testBit_zero]
  | succ i =>
    rw [Nat.testBit_succ, Nat.testBit_succ, show (2 * a + 1) / 2 = a by omega, show 2 * a / 2 = a by omega, Bool.or_self]
theorem nxt_odd (a : Nat) : nxt (2 * a + 1) = 2 * nxt a + 1 := by
  unfold nxt
  apply Nat.eq_of_testBit_eq
  intro i
  rw [Nat.testBit_or]
  cases i with
  | zero => simp [Nat.testBit_zero]
  | succ i =>
    rw [Nat.testBit_succ, Nat.testBit_succ, Nat.testBit_succ, show (2 * a + 1) / 2 = a by omega, show (2 * a + 1 + 1) / 2 = a + 1 by omega, show (2 * (a ||| (a + 1)) + 1) / 2 = (a ||| (a + 1)) by omega, Nat.testBit_or]
theorem nxt_is (s : Nat) : s < nxt s ∧ ones (nxt s) = ones s + 1 ∧ ∀ m, s ≤ m → m < nxt s → ones m ≤ ones s := by
  induction s using Nat.strongRecOn with
  | ind s ih =>
    have d : s = 2 * (s / 2) ∨ s = 2 * (s / 2) + 1 := by omega
    rcases d with d | d
    · generalize s / 2 = a at d
      subst d
      rw [nxt_even]
      refine ⟨by omega, by rw [ones_dbl1, ones_dbl], fun m h1 h2 => ?_⟩
      have : m = 2 * a := by omega
      rw [this]
      exact Nat.le_refl _
    · have lt : s / 2 < s := by omega
      obtain ⟨i1, i2, i3⟩ := ih (s / 2) lt
      generalize s / 2 = a at d i1 i2 i3
      subst d
      rw [nxt_odd]
      refine ⟨by omega, by rw [ones_dbl1, ones_dbl1, i2], fun m h1 h2 => ?_⟩
      have sm := ones_step m
      rw [ones_dbl1]
      by_cases c : m / 2 < nxt a
      · have := i3 (m / 2) (by omega) c
        omega
      · have e : m / 2 = nxt a := by omega
        rw [e, i2] at sm
        omega
/-- s so far: none ahead of it has so many digits 1 -/
def firstSo (l s : Nat) : Prop := l ≤ s ∧ ∀ m, l ≤ m → m < s → ones m < ones s
theorem first_next {l s : Nat} (x : firstSo l s) : firstSo l (nxt s) := by
  obtain ⟨a, b, c⟩ := nxt_is s
  refine ⟨by have := x.1; omega, fun m h1 h2 => ?_⟩
  by_cases k : m < s
  · have := x.2 m h1 k; omega
  · have := c m (by omega) h2; omega
theorem most_of {l h s : Nat} (l1 : 1 ≤ l) (x : firstSo l s) (k : s ≤ h) (k2 : h < nxt s) : most l h (ones s - 1) s := by
  have o := ones_pos (n := s) (by have := x.1; omega)
  refine ⟨x.1, k, by omega, fun m h1 h2 => ?_⟩
  by_cases c : m < s
  · have := x.2 m h1 c; omega
  · have := (nxt_is s).2.2 m (by omega) (by omega)
    omega
end LT

namespace LT
open PySem PySem.Spec PyProof.Rows L2
/-- f 0 + .. + f (n - 1) -/
def sumR : Nat → (Nat → Nat) → Nat
  | 0, _ => 0
  | n + 1, f => sumR n f + f n
theorem sumR_congr {f g : Nat → Nat} : ∀ {n : Nat}, (∀ i, i < n → f i = g i) → sumR n f = sumR n g
  | 0, _ => rfl
  | n + 1, h => by
    show sumR n f + f n = sumR n g + g n
    rw [sumR_congr fun i hi => h i (by omega), h n (by omega)]
theorem sumR_add (f g : Nat → Nat) : ∀ n, sumR n (fun i => f i + g i) = sumR n f + sumR n g
  | 0 => rfl
  | n + 1 => by
    show sumR n (fun i => f i + g i) + (f n + g n) = sumR n f + f n + (sumR n g + g n)
    rw [sumR_add f g n]; omega
theorem sumR_const (c : Nat) : ∀ n, sumR n (fun _ => c) = n * c
  | 0 => (Nat.zero_mul c).symm
  | n + 1 => by
    show sumR n (fun _ => c) + c = (n + 1) * c
    rw [sumR_const c n, Nat.succ_mul]
theorem sumR_zero {f : Nat → Nat} {n : Nat} (h : ∀ i, i < n → f i = 0) : sumR n f = 0 := by rw [sumR_congr h, sumR_const, Nat.mul_zero]
theorem sumR_le {f g : Nat → Nat} : ∀ {n : Nat}, (∀ i, i < n → f i ≤ g i) → sumR n f ≤ sumR n g
  | 0, _ => Nat.le_refl _
  | n + 1, h => by
    show sumR n f + f n ≤ sumR n g + g n
    have := sumR_le (n := n) fun i hi => h i (by omega)
    have := h n (by omega)
    omega
theorem sumR_split (f : Nat → Nat) (m : Nat) : ∀ k, sumR (m + k) f = sumR m f + sumR k (fun i => f (m + i))
  | 0 => rfl
  | k + 1 => by
    show sumR (m + k) f + f (m + k) = sumR m f + (sumR k (fun i => f (m + i)) + f (m + k))
    rw [sumR_split f m k]; omega
theorem sumR_head (f : Nat → Nat) (n : Nat) : sumR (n + 1) f = f 0 + sumR n (fun i => f (i + 1)) := by
  have := sumR_split f 1 n
  rw [Nat.add_comm 1 n] at this
  rw [this]
  show 0 + f 0 + _ = _
  rw [Nat.zero_add]
  congr 1
  exact sumR_congr fun i _ => by rw [Nat.add_comm]
theorem sumR_rev (f : Nat → Nat) : ∀ n, sumR n f = sumR n (fun i => f (n - 1 - i))
  | 0 => rfl
  | n + 1 => by
    rw [sumR_head (fun i => f (n + 1 - 1 - i)) n]
    show sumR n f + f n = f (n + 1 - 1 - 0) + sumR n (fun i => f (n + 1 - 1 - (i + 1)))
    rw [sumR_rev f n, Nat.add_sub_cancel, Nat.sub_zero, Nat.add_comm]
    congr 1
    exact sumR_congr fun i hi => by rw [show n - 1 - i = n - (i + 1) by omega]
theorem sumR_swap (f : Nat → Nat → Nat) (m : Nat) : ∀ n, sumR n (fun i => sumR m (fun j => f i j)) = sumR m (fun j => sumR n (fun i => f i j))
  | 0 => (sumR_zero fun _ _ => rfl).symm
  | n + 1 => by
    show sumR n (fun i => sumR m (fun j => f i j)) + sumR m (fun j => f n j) = sumR m (fun j => sumR n (fun i => f i j) + f n j)
    rw [sumR_swap f m n, sumR_add]
theorem sumR_below (c : Nat) : ∀ m, sumR m (fun j => if j < c then 1 else 0) = min c m
  | 0 => by show 0 = min c 0; omega
  | m + 1 => by
    show sumR m (fun j => if j < c then 1 else 0) + (if m < c then 1 else 0) = min c (m + 1)
    rw [sumR_below c m]
    split <;> omega
/-- the sum of quotients -/
def fs (n a b d : Nat) : Nat := sumR n (fun i => (a + i * b) / d)
def tri (n : Nat) : Nat := n * (n - 1) / 2
theorem tri_step (n : Nat) : tri (n + 1) = tri n + n := by
  unfold tri
  rw [Nat.add_sub_cancel]
  cases n with
  | zero => rfl
  | succ k =>
    rw [Nat.add_sub_cancel]
    have e : (k + 1 + 1) * (k + 1) = (k + 1) * k + 2 * (k + 1) := by
      rw [Nat.mul_comm (k + 1) k, ← Nat.add_mul]
    rw [e, Nat.add_mul_div_left _ _ (by decide)]
theorem sumR_lin (a b : Nat) : ∀ n, sumR n (fun i => a + i * b) = n * a + tri n * b
  | 0 => by show 0 = 0 * a + 0 * b; omega
  | n + 1 => by
    show sumR n (fun i => a + i * b) + (a + n * b) = (n + 1) * a + tri (n + 1) * b
    rw [sumR_lin a b n, tri_step, Nat.add_mul, Nat.add_mul, Nat.one_mul]
    omega
/-- whole parts taken off -/
theorem fs_off {n a b d : Nat} (hd : 0 < d) : fs n a b d = tri n * (b / d) + n * (a / d) + fs n (a % d) (b % d) d := by
  have e : fs n a b d = sumR n (fun i => (a / d + i * (b / d)) + (a % d + i * (b % d)) / d) := sumR_congr fun i _ => by
    have h : a + i * b = d * (a / d + i * (b / d)) + (a % d + i * (b % d)) := by
      have h1 := Nat.div_add_mod a d
      have h2 := Nat.div_add_mod b d
      have h3 : i * b = i * (d * (b / d)) + i * (b % d) := by rw [← Nat.mul_add, h2]
      have h4 : d * (a / d + i * (b / d)) = d * (a / d) + i * (d * (b / d)) := by rw [Nat.mul_add, Nat.mul_left_comm]
      omega
    rw [h, Nat.mul_add_div hd]
  rw [e, sumR_add, sumR_lin]
  unfold fs
  omega
/-- counted along the other axis -/
theorem fs_turn {n a b d : Nat} (ha : a < d) (hb : b < d) : fs n a b d = fs ((b * n + a) / d) ((b * n + a) % d) d b := by
  have hd : 0 < d := by omega
  have hN := Nat.div_add_mod (b * n + a) d
  have hr := Nat.mod_lt (b * n + a) hd
  generalize (b * n + a) / d = n' at *
  generalize (b * n + a) % d = a' at *
  have c0 : d * n' = n' * d := Nat.mul_comm _ _
  have cb : b * n = n * b := Nat.mul_comm _ _
  have fle : ∀ i, i < n → (a + i * b) / d ≤ n' := fun i hi => by
    have h1 := Nat.mul_le_mul_right b (show i + 1 ≤ n from hi)
    rw [Nat.succ_mul] at h1
    rw [← Nat.lt_succ_iff, Nat.div_lt_iff_lt_mul hd, Nat.succ_mul]
    omega
  by_cases hn : n' = 0
  · subst hn
    show sumR n _ = sumR 0 _
    exact sumR_zero fun i hi => Nat.le_zero.mp (fle i hi)
  have b0 : 0 < b := by
    rcases Nat.eq_zero_or_pos b with z | z
    · subst z
      have := Nat.le_mul_of_pos_right d (Nat.pos_of_ne_zero hn)
      omega
    · exact z
  have gle : ∀ j, j < n' → (a' + j * d) / b ≤ n := fun j hj => by
    have h1 := Nat.mul_le_mul_right d (show j + 1 ≤ n' from hj)
    rw [Nat.succ_mul] at h1
    rw [← Nat.lt_succ_iff, Nat.div_lt_iff_lt_mul b0, Nat.succ_mul]
    omega
  have e1 : fs n a b d = sumR n (fun i => sumR n' (fun j => if j < (a + i * b) / d then 1 else 0)) := sumR_congr fun i hi => by
    rw [sumR_below, Nat.min_eq_left (fle i hi)]
  have e2 : fs n' a' d b = sumR n' (fun j => sumR n (fun i => if i < (a' + j * d) / b then 1 else 0)) := sumR_congr fun j hj => by
    rw [sumR_below, Nat.min_eq_left (gle j hj)]
  rw [e1, e2, sumR_rev, sumR_swap, sumR_rev]
  refine sumR_congr fun j hj => sumR_congr fun i hi => ?_
  have key : (n' - 1 - j < (a + (n - 1 - i) * b) / d) ↔ (i < (a' + j * d) / b) := by
    show (n' - 1 - j + 1 ≤ _) ↔ (i + 1 ≤ _)
    rw [Nat.le_div_iff_mul_le hd, Nat.le_div_iff_mul_le b0]
    have h1 : (n' - 1 - j + 1) * d + j * d = n' * d := by rw [← Nat.add_mul]; congr 1; omega
    have h2 : (n - 1 - i) * b + (i + 1) * b = n * b := by rw [← Nat.add_mul]; congr 1; omega
    omega
  by_cases k : i < (a' + j * d) / b
  · rw [if_pos k, if_pos (key.mpr k)]
  · rw [if_neg k, if_neg (fun z => k (key.mp z))]
/-- a number by its digits 1 and its quotients -/
theorem legendre : ∀ (j x : Nat), x < 2 ^ (j + 1) → x = ones x + sumR j (fun k => x / 2 ^ (k + 1))
  | 0, x, h => by
    have : x = 0 ∨ x = 1 := by simp at h; omega
    rcases this with rfl | rfl
    · rw [ones_zero]; rfl
    · rw [ones_one]; rfl
  | j + 1, x, h => by
    have ih := legendre j (x / 2) (by rw [Nat.pow_succ] at h; omega)
    have s := ones_step x
    have e : sumR (j + 1) (fun k => x / 2 ^ (k + 1)) = x / 2 + sumR j (fun k => x / 2 / 2 ^ (k + 1)) := by
      rw [sumR_head]
      congr 1
      exact sumR_congr fun k _ => by rw [Nat.div_div_eq_div_mul, Nat.pow_succ 2 (k + 1), Nat.mul_comm]
    rw [e]
    omega
theorem quots {n a b j : Nat} (h : ∀ i, i < n → a + i * b < 2 ^ (j + 1)) : n * a + tri n * b = sumR n (fun i => ones (a + i * b)) + sumR j (fun k => fs n a b (2 ^ (k + 1))) := by
  rw [← sumR_lin]
  have e : sumR n (fun i => a + i * b) = sumR n (fun i => ones (a + i * b) + sumR j (fun k => (a + i * b) / 2 ^ (k + 1))) := sumR_congr fun i hi => legendre j _ (h i hi)
  rw [e, sumR_add, sumR_swap]
  rfl
theorem less_one {n : Nat} {f : Nat → Nat} (h : ∀ i, i < n → 1 ≤ f i) : sumR n f = sumR n (fun i => f i - 1) + n := by
  have e : sumR n f = sumR n (fun i => (f i - 1) + 1) := sumR_congr fun i hi => by have := h i hi; omega
  rw [e, sumR_add, sumR_const, Nat.mul_one]
end LT

namespace LT
open PySem PySem.Spec PyProof.Rows L2
section
variable {P : Program} {w : World} {K : PySem.W.Frag} {mg : Str → Option Value} {base : Heap}
def spStretch : Sp := fun vs H Q _ => ∃ (l h : Nat), vs = [.int l, .int h] ∧ 1 ≤ l ∧ l ≤ h ∧ h ≤ 10 ^ 30 ∧ Q .non H
theorem ok_check_stretch {f g1 : Addr} {fd d1 : FuncData} (F : Fun K "_check_stretch" "_check_stretch" sCheckStretch f fd) (GCheckSize : FnOk P w K mg base CX0 3 g1 d1 ["size"] spCheckSize) (ACheckSize : At K mg "check_size" g1 d1 ["size"]) : FnOk P w K mg base CX0 4 f fd ["low", "high"] spStretch := by
  refine F.ok scCheckStretch (fun vs H Q E h => ?_) (fun cdv A outer s H vs Q E hr h => ?_)
  · obtain ⟨_, _, rfl, _⟩ := h
    rfl
  obtain ⟨l, h, rfl, l1, lh, h30, q⟩ := h
  refine ⟨_, (pss_cons (ps_expr (pe_call GCheckSize (hr.mono (by decide)) rfl ACheckSize.m ACheckSize.kp ACheckSize.b .nil pass0 (pa_cons (pv 0) pa_nil)))
    (pss_cons (ps_expr (pe_call GCheckSize (hr.mono (by decide)) rfl ACheckSize.m ACheckSize.kp ACheckSize.b .nil pass0 (pa_cons (pv 1) pa_nil)))
    (pss_one (ps_if (pt_cmpR op_gt (pv 0) (pv 1) (nomark _))
    (pss_one ps_never)
    pss_nil)))), ?_⟩
  refine ⟨_, rfl, _, rfl, by omega, by omega, _, rfl, _, rfl, by omega, by omega, _, rfl, _, rfl, _, _, rfl, rfl, false, congrArg V.bl (decide_eq_false (by show ¬ (l : Int) > (h : Int); omega)), ?_⟩
  exact q
end
end LT

namespace LT
open PySem PySem.Spec PyProof.Rows L2
section
variable {P : Program} {w : World} {K : PySem.W.Frag} {mg : Str → Option Value} {base : Heap}
def spCheapest : Sp := fun vs H Q _ => ∃ (l h : Nat), vs = [.int l, .int h] ∧ 1 ≤ l ∧ l ≤ h ∧ h ≤ 10 ^ 30 ∧ ∀ (H' : Hp) (p : Addr) (c s : Nat), Same H H' → H p = none → Nd H' (.ref p) (c, s) → least l h c s → Q (.ref p) H'
theorem neg_fmod (l i : Nat) : (l : Int) + Int.fmod (-(l : Int)) ((2 ^ i : Nat) : Int) = ((up l i : Nat) : Int) := by
  have p := Nat.pow_pos (a := 2) (n := i) (by decide)
  rw [Int.fmod_eq_emod_of_nonneg _ (Int.natCast_nonneg _)]
  unfold up
  generalize 2 ^ i = m at p
  have h1 := Nat.div_add_mod (l + m - 1) m
  have h2 := Nat.mod_lt (l + m - 1) p
  have e : (-(l : Int)) % (m : Int) = ((m - 1 - (l + m - 1) % m : Nat) : Int) := by
    have h3 : -(l : Int) = ((m - 1 - (l + m - 1) % m : Nat) : Int) + (m : Int) * (-(((l + m - 1) / m : Nat) : Int)) := by
      have h4 : ((m * ((l + m - 1) / m) : Nat) : Int) = (m : Int) * (((l + m - 1) / m : Nat) : Int) := Int.natCast_mul _ _
      rw [Int.mul_neg, ← h4]
      omega
    rw [h3, Int.add_mul_emod_self_left]
    exact Int.emod_eq_of_lt (Int.natCast_nonneg _) (by omega)
  rw [e]
  rw [Nat.mul_comm] at h1
  omega
theorem ok_cheapest {f g1 g2 : Addr} {fd d1 d2 : FuncData} (F : Fun K "cheapest" "cheapest" sCheapest f fd) (GCheckStretch : FnOk P w K mg base CX0 4 g1 d1 ["low", "high"] spStretch) (ACheckStretch : At K mg "_check_stretch" g1 d1 ["low", "high"])
    (GRootSums : FnOk P w K mg base CX0 6 g2 d2 ["size"] spRootSums) (ARootSums : At K mg "root_sums" g2 d2 ["size"]) (z_min : mg "min" = none) : FnOk P w K mg base CX0 7 f fd ["low", "high"] spCheapest := by
  refine F.ok scCheapest (fun vs H Q E h => ?_) (fun cdv A outer s H vs Q E hr h => ?_)
  · obtain ⟨_, _, rfl, _⟩ := h
    rfl
  obtain ⟨l, h, rfl, l1, lh, h30, q⟩ := h
  have two : 2 ≤ sizeLine := by decide
  refine ⟨_, (pss_cons (ps_expr (pe_call GCheckStretch (hr.mono (by decide)) rfl ACheckStretch.m ACheckStretch.kp ACheckStretch.b .nil pass0 (pa_cons (pv 0) (pa_cons (pv 1) pa_nil))))
    (pss_cons (ps_set (i := 2) scCheapest.nd rfl (Or.inl rfl) (pe_tup (pa_cons (pe_call GRootSums (hr.mono (by decide)) rfl ARootSums.m ARootSums.kp ARootSums.b .nil pass0 (pa_cons (pv 0) pa_nil)) (pa_cons (pv 0) pa_nil))))
    (pss_cons (ps_set (i := 3) scCheapest.nd rfl (Or.inl rfl) pe_int)
    (pss_cons (ps_while PassesOwn.never (pt_cmpR op_le (pv 3) (pv 1) (nomark _))
    (pss_cons (ps_set (i := 4) scCheapest.nd rfl (Or.inl rfl) (pe_op op_add (pv 0) (pe_op op_modN (pe_un un_neg (pv 0)) (pv 3))))
    (pss_cons (ps_if (pt_cmpR op_le (pv 4) (pv 1) (nomark _))
    (pss_one (ps_set (i := 2) scCheapest.nd rfl (Or.inl rfl) (pe_callB (call_min2D rfl (units1 hr)) (by rfl) z_min (by decide +kernel) (pa_cons (pv 2) (pa_cons (pe_tup (pa_cons (pe_call GRootSums (hr.mono (by decide)) rfl ARootSums.m ARootSums.kp ARootSums.b .nil pass0 (pa_cons (pv 4) pa_nil)) (pa_cons (pv 4) pa_nil))) pa_nil)))))
    pss_nil)
    (pss_one (ps_set (i := 3) scCheapest.nd rfl (Or.inl rfl) (pe_op op_mul (pv 3) pe_int))))))
    (pss_one (ps_ret (pv 2))))))), ?_⟩
  refine ⟨_, rfl, _, rfl, l, h, rfl, l1, lh, h30, ?_⟩
  refine ⟨_, rfl, l, rfl, l1, by omega, fun H1 s1 => ⟨_, rfl, two, fun t nt => ?_⟩⟩
  have s2 := same_upd (o := .tup [.int ((ones l - 1 : Nat) : Int), .int (l : Int)]) nt
  have ol := ones_pos l1
  have hb1 : bestUp l h 1 (ones l - 1) l := ⟨Nat.le_refl _, lh, by omega, fun i hi _ => by
    have : i = 0 := by omega
    subst this
    rw [up_zero]
    omega⟩
  refine ⟨fun mu σ H' => ∃ (j c s : Nat) (p : Addr) (v4 : Option V), σ = [some (.int (l : Int)), some (.int (h : Int)), some (.ref p), some (.int ((2 ^ j : Nat) : Int)), v4] ∧ Same H H' ∧ H p = none ∧ Nd H' (.ref p) (c, s) ∧ bestUp l h j c s ∧ 1 ≤ j ∧ j ≤ 101 ∧ mu = 101 - j,
    ⟨100, 1, ones l - 1, l, t, none, rfl, s1.trans s2, s1.free nt, ⟨t, rfl, upd_same⟩, hb1, by decide, by decide, rfl⟩, ?_⟩
  rintro mu σ H2 ⟨j, c, s, p, v4, rfl, sm, np, hp, hb, j1, j101, rfl⟩
  have pj := Nat.pow_pos (a := 2) (n := j) (by decide)
  refine ⟨_, rfl, _, rfl, _, _, rfl, rfl, _, rfl, ite2 (fun c1 => ?_) (fun c1 => ?_)⟩
  · have c2 : ((2 ^ j : Nat) : Int) ≤ (h : Int) := of_decide_eq_true c1
    have jl : j < 100 := by
      have : 2 ^ j < 2 ^ 100 := by
        have : (10 : Nat) ^ 30 < 2 ^ 100 := by decide
        omega
      exact (Nat.pow_lt_pow_iff_right (by decide : 1 < 2)).mp this
    have er : ((2 ^ j : Nat) : Int) * 2 = ((2 ^ (j + 1) : Nat) : Int) := by rw [Nat.pow_succ]; omega
    refine ⟨_, fun σ' H' h => h, _, rfl, _, rfl, _, rfl, _, rfl, _, _, rfl, rfl, (by omega), _, _, rfl, rfl, ?_⟩
    dsimp only
    rw [neg_fmod]
    have ug := up_ge l j
    refine ⟨_, rfl, _, rfl, _, _, rfl, rfl, _, rfl, ite2 (fun c3 => ?_) (fun c3 => ?_)⟩
    · have c4 : ((up l j : Nat) : Int) ≤ (h : Int) := of_decide_eq_true c3
      have ou := ones_pos (n := up l j) (by omega)
      refine ⟨_, rfl, _, rfl, up l j, rfl, by omega, by omega, fun H3 s3 => ⟨_, rfl, two, fun t2 nt2 => ?_⟩⟩
      have s4 := same_upd (o := .tup [.int ((ones (up l j) - 1 : Nat) : Int), .int ((up l j : Nat) : Int)]) nt2
      have ht2 : Nd (upd H3 t2 (.tup [.int ((ones (up l j) - 1 : Nat) : Int), .int ((up l j : Nat) : Int)])) (.ref t2) (ones (up l j) - 1, up l j) := ⟨t2, rfl, upd_same⟩
      have s34 := s3.trans s4
      have hp4 := hp.same s34
      generalize upd H3 t2 (.tup [.int ((ones (up l j) - 1 : Nat) : Int), .int ((up l j : Nat) : Int)]) = H4 at s4 ht2 s34 hp4
      refine ⟨_, _, _, _, rfl, hp4.dp, ht2.dp, pairs_alike _ _ _ _, by simp [PyData.depthAll, PyData.depth], ?_⟩
      rw [PySem.W.dataLt_ii]
      obtain ⟨b1, b2, b3, b4⟩ := hb
      have nt20 : H t2 = none := sm.free (s3.free nt2)
      by_cases k : ((ones (up l j) - 1 : Nat) : Int) < (c : Int) ∨ (((ones (up l j) - 1 : Nat) : Int) = (c : Int) ∧ ((up l j : Nat) : Int) < (s : Int))
      · rw [decide_eq_true k]
        refine ⟨_, rfl, _, _, rfl, rfl, .inr ⟨by decide, by decide⟩, ?_⟩
        dsimp only
        rw [er]
        refine ⟨101 - (j + 1), by omega, j + 1, ones (up l j) - 1, up l j, t2, _, rfl, sm.trans s34, nt20, ht2, ⟨ug, by omega, by omega, fun i hi hu => ?_⟩, by omega, by omega, rfl⟩
        by_cases e : i < j
        · have := b4 i e hu
          omega
        · have : i = j := by omega
          subst this
          omega
      · rw [decide_eq_false k]
        refine ⟨_, rfl, _, _, rfl, rfl, .inr ⟨by decide, by decide⟩, ?_⟩
        dsimp only
        rw [er]
        refine ⟨101 - (j + 1), by omega, j + 1, c, s, p, _, rfl, sm.trans s34, np, hp4, ⟨b1, b2, b3, fun i hi hu => ?_⟩, by omega, by omega, rfl⟩
        by_cases e : i < j
        · exact b4 i e hu
        · have : i = j := by omega
          subst this
          omega
    · have c4 : ¬ ((up l j : Nat) : Int) ≤ (h : Int) := of_decide_eq_false (Bool.eq_false_iff.mpr c3)
      refine ⟨_, rfl, _, _, rfl, rfl, .inr ⟨by decide, by decide⟩, ?_⟩
      dsimp only
      rw [er]
      obtain ⟨b1, b2, b3, b4⟩ := hb
      refine ⟨101 - (j + 1), by omega, j + 1, c, s, p, _, rfl, sm, np, hp, ⟨b1, b2, b3, fun i hi hu => ?_⟩, by omega, by omega, rfl⟩
      by_cases e : i < j
      · exact b4 i e hu
      · have : i = j := by omega
        subst this
        omega
  · have c2 : ¬ ((2 ^ j : Nat) : Int) ≤ (h : Int) := of_decide_eq_false (Bool.eq_false_iff.mpr c1)
    exact ⟨_, rfl, q H2 p c s sm np hp (least_of l1 hb (by omega))⟩
def spCostliest : Sp := fun vs H Q _ => ∃ (l h : Nat), vs = [.int l, .int h] ∧ 1 ≤ l ∧ l ≤ h ∧ h ≤ 10 ^ 30 ∧ ∀ (H' : Hp) (p : Addr) (c s : Nat), Same H H' → H p = none → Nd H' (.ref p) (c, s) → most l h c s → Q (.ref p) H'
theorem or_next (s : Nat) : Builtin.bitOr (s : Int) ((s : Int) + 1) = ((nxt s : Nat) : Int) := by
  rw [show (s : Int) + 1 = ((s + 1 : Nat) : Int) from rfl, bitOr_nn (Int.natCast_nonneg _) (Int.natCast_nonneg _), Int.toNat_natCast, Int.toNat_natCast]
  rfl
theorem ok_costliest {f g1 g2 : Addr} {fd d1 d2 : FuncData} (F : Fun K "costliest" "costliest" sCostliest f fd) (GCheckStretch : FnOk P w K mg base CX0 4 g1 d1 ["low", "high"] spStretch) (ACheckStretch : At K mg "_check_stretch" g1 d1 ["low", "high"])
    (GRootSums : FnOk P w K mg base CX0 6 g2 d2 ["size"] spRootSums) (ARootSums : At K mg "root_sums" g2 d2 ["size"]) : FnOk P w K mg base CX0 7 f fd ["low", "high"] spCostliest := by
  refine F.ok scCostliest (fun vs H Q E h => ?_) (fun cdv A outer s H vs Q E hr h => ?_)
  · obtain ⟨_, _, rfl, _⟩ := h
    rfl
  obtain ⟨l, h, rfl, l1, lh, h30, q⟩ := h
  have two : 2 ≤ sizeLine := by decide
  refine ⟨_, (pss_cons (ps_expr (pe_call GCheckStretch (hr.mono (by decide)) rfl ACheckStretch.m ACheckStretch.kp ACheckStretch.b .nil pass0 (pa_cons (pv 0) (pa_cons (pv 1) pa_nil))))
    (pss_cons (ps_set (i := 2) scCostliest.nd rfl (Or.inl rfl) (pv 0))
    (pss_cons (ps_while PassesOwn.never (pt_cmpR op_le (pe_op op_or (pv 2) (pe_op op_add (pv 2) pe_int)) (pv 1) (nomark _))
    (pss_one (ps_set (i := 2) scCostliest.nd rfl (Or.inl rfl) (pe_op op_or (pv 2) (pe_op op_add (pv 2) pe_int)))))
    (pss_one (ps_ret (pe_tup (pa_cons (pe_call GRootSums (hr.mono (by decide)) rfl ARootSums.m ARootSums.kp ARootSums.b .nil pass0 (pa_cons (pv 2) pa_nil)) (pa_cons (pv 2) pa_nil)))))))), ?_⟩
  refine ⟨_, rfl, _, rfl, l, h, rfl, l1, lh, h30, ?_⟩
  refine ⟨_, rfl, ?_⟩
  refine ⟨fun mu σ H' => ∃ (s : Nat), σ = [some (.int (l : Int)), some (.int (h : Int)), some (.int (s : Int))] ∧ H' = H ∧ firstSo l s ∧ s ≤ h ∧ mu = h - s,
    ⟨h - l, l, rfl, rfl, ⟨Nat.le_refl _, fun m a b => absurd b (by omega)⟩, lh, rfl⟩, ?_⟩
  rintro mu σ H2 ⟨s, rfl, rfl, hs, sh, rfl⟩
  have nx := nxt_is s
  refine ⟨_, rfl, _, rfl, _, _, rfl, rfl, _, _, rfl, rfl, _, rfl, _, _, rfl, rfl, _, rfl, ite2 (fun c1 => ?_) (fun c1 => ?_)⟩
  · have c2 : Builtin.bitOr (s : Int) ((s : Int) + 1) ≤ (h : Int) := of_decide_eq_true c1
    rw [or_next] at c2
    refine ⟨_, fun σ' H' h => h, _, rfl, _, rfl, _, _, rfl, rfl, _, _, rfl, rfl, ?_⟩
    dsimp only
    rw [or_next]
    exact ⟨h - nxt s, by omega, nxt s, rfl, rfl, first_next hs, by omega, rfl⟩
  · have c2 : ¬ Builtin.bitOr (s : Int) ((s : Int) + 1) ≤ (h : Int) := of_decide_eq_false (Bool.eq_false_iff.mpr c1)
    rw [or_next] at c2
    refine ⟨_, rfl, s, rfl, by have := hs.1; omega, by omega, fun H3 s3 => ⟨_, rfl, two, fun t nt => ?_⟩⟩
    refine q _ t (ones s - 1) s (s3.trans (same_upd nt)) (s3.free nt) ⟨t, rfl, upd_same⟩ (most_of l1 hs sh (by omega))
end
end LT

namespace LT
open PySem PySem.Spec PyProof.Rows L2
theorem ediv_cast (a b : Nat) : (a : Int) / (b : Int) = ((a / b : Nat) : Int) := (Int.natCast_ediv a b).symm
theorem fmod_cast (a b : Nat) : Int.fmod (a : Int) (b : Int) = ((a % b : Nat) : Int) := by
  rw [Int.fmod_eq_emod_of_nonneg _ (Int.natCast_nonneg _)]
  exact (Int.natCast_emod a b).symm
theorem mulW {a b : Nat} {k l : Nat} (h1 : a < 2 ^ k) (h2 : b < 2 ^ l) (k0 : 0 < k) (l0 : 0 < l) (h : k + l ≤ 1000000) : CMulW (a : Int) (b : Int) := wide_mul (by show a < 2 ^ k; exact h1) (by show b < 2 ^ l; exact h2) k0 l0 h
theorem divW {a b : Nat} {l : Nat} (h0 : 0 < b) (h2 : b < 2 ^ l) (l0 : 0 < l) (h : l ≤ 9000) : CDivW (a : Int) (b : Int) := wide_div (by omega) (by show b < 2 ^ l; exact h2) l0 h
theorem mul_lt {a b k l : Nat} (h1 : a < 2 ^ k) (h2 : b < 2 ^ l) : a * b < 2 ^ (k + l) := by
  rw [Nat.pow_add]
  exact Nat.mul_lt_mul'' h1 h2
theorem pred_mul (n : Nat) : (n : Int) * ((n : Int) - 1) = ((n * (n - 1) : Nat) : Int) := by
  cases n with
  | zero => rfl
  | succ k =>
    rw [Nat.add_sub_cancel, show ((k + 1 : Nat) : Int) - 1 = (k : Int) by omega]
    exact (Int.natCast_mul _ _).symm
section
variable {P : Program} {w : World} {K : PySem.W.Frag} {mg : Str → Option Value} {base : Heap}
def spQuot : Sp := fun vs H Q _ => ∃ (a b n d : Nat), vs = [.int a, .int b, .int n, .int d] ∧ a < 2 ^ 200 ∧ b < 2 ^ 200 ∧ n < 2 ^ 200 ∧ d < 2 ^ 200 ∧ 1 ≤ d ∧ Q (.int ((fs n a b d : Nat) : Int)) H
theorem ok_quotients_sum {f : Addr} {fd : FuncData} (F : Fun K "_quotients_sum" "_quotients_sum" sQuotientsSum f fd) : FnOk P w K mg base CX0 1 f fd ["first", "step", "number", "divisor"] spQuot := by
  refine F.ok scQuotientsSum (fun vs H Q E h => ?_) (fun cdv A outer s H vs Q E hr h => ?_)
  · obtain ⟨_, _, _, _, rfl, _⟩ := h
    rfl
  obtain ⟨a0, b0, n0, d0, rfl, ha, hb, hn, hd, d1, q⟩ := h
  refine ⟨_, (pss_cons (ps_set (i := 4) scQuotientsSum.nd rfl (Or.inl rfl) pe_int)
    (pss_cons (ps_while PassesOwn.never (pt_cmpR op_gt (pv 2) pe_int (nomark _))
    (pss_cons (ps_aug (i := 4) scQuotientsSum.nd rfl (Or.inl rfl) (pe_op op_add (pe_op op_mulW (pe_op op_fdivW (pe_op op_mulW (pv 2) (pe_op op_sub (pv 2) pe_int)) pe_int) (pe_op op_fdivW (pv 1) (pv 3))) (pe_op op_mulW (pv 2) (pe_op op_fdivW (pv 0) (pv 3)))) ip_add)
    (pss_cons (ps_par (i := 1) (j := 0) (by rfl) scQuotientsSum.nd rfl rfl (by decide) rfl rfl (pa_cons (pe_op op_modN (pv 1) (pv 3)) (pa_cons (pe_op op_modN (pv 0) (pv 3)) pa_nil)) (by rfl))
    (pss_cons (ps_par (i := 2) (j := 0) (by rfl) scQuotientsSum.nd rfl rfl (by decide) rfl rfl (pa_cons (pe_op op_fdivW (pe_op op_add (pe_op op_mulW (pv 1) (pv 2)) (pv 0)) (pv 3)) (pa_cons (pe_op op_modN (pe_op op_add (pe_op op_mulW (pv 1) (pv 2)) (pv 0)) (pv 3)) pa_nil)) (by rfl))
    (pss_one (ps_par (i := 1) (j := 3) (by rfl) scQuotientsSum.nd rfl rfl (by decide) rfl rfl (pa_cons (pv 3) (pa_cons (pv 1) pa_nil)) (by rfl)))))))
    (pss_one (ps_ret (pv 4))))), ?_⟩
  refine ⟨fun mu σ H' => ∃ (a b n d t : Nat), σ = [some (.int (a : Int)), some (.int (b : Int)), some (.int (n : Int)), some (.int (d : Int)), some (.int (t : Int))] ∧ H' = H ∧ a < 2 ^ 200 ∧ b < 2 ^ 200 ∧ n < 2 ^ 200 ∧ d < 2 ^ 200 ∧ (1 ≤ n → 1 ≤ d) ∧ t + fs n a b d = fs n0 a0 b0 d0 ∧ mu = d + 0,
    ⟨d0, a0, b0, n0, d0, 0, rfl, rfl, ha, hb, hn, hd, fun _ => d1, Nat.zero_add _, rfl⟩, ?_⟩
  rintro mu σ H1 ⟨a, b, n, d, t, rfl, rfl, ha, hb, hn, hd, d1, hf, hmu⟩
  refine ⟨_, rfl, _, _, rfl, rfl, _, rfl, ite2 (fun c1 => ?_) (fun c1 => ?_)⟩
  · have c2 : (n : Int) > 0 := of_decide_eq_true c1
    have dp : 1 ≤ d := d1 (by omega)
    have bd : b % d < d := Nat.mod_lt _ dp
    have ad : a % d < d := Nat.mod_lt _ dp
    have tn : n * (n - 1) < 2 ^ 400 := mul_lt (k := 200) (l := 200) hn (by omega)
    have trin : tri n < 2 ^ 400 := Nat.lt_of_le_of_lt (Nat.div_le_self _ _) tn
    have bq : b / d < 2 ^ 200 := Nat.lt_of_le_of_lt (Nat.div_le_self _ _) hb
    have aq : a / d < 2 ^ 200 := Nat.lt_of_le_of_lt (Nat.div_le_self _ _) ha
    have nn : b % d * n + a % d < d * (n + 1) := by
      have h1 := Nat.mul_le_mul_right n (show b % d + 1 ≤ d from bd)
      rw [Nat.succ_mul] at h1
      rw [Nat.mul_succ]
      omega
    have nle : (b % d * n + a % d) / d ≤ n := by
      rw [← Nat.lt_succ_iff, Nat.div_lt_iff_lt_mul dp, Nat.mul_comm n.succ d]
      exact nn
    have al : (b % d * n + a % d) % d < d := Nat.mod_lt _ dp
    have off := fs_off (n := n) (a := a) (b := b) dp
    have turn := fs_turn (n := n) ad bd
    have hn1 : (n : Int) - 1 = ((n - 1 : Nat) : Int) := by omega
    refine ⟨_, fun σ' H' h => h, _, rfl, _, rfl, _, rfl, _, _, rfl, rfl, _, _, rfl, rfl, ?_, _, _, rfl, rfl, wide_div (b := 2) (by decide) (by decide) (by decide) (by decide), _, rfl, _, rfl, _, _, rfl, rfl, divW (l := 200) dp hd (by decide) (by decide), _, _, rfl, rfl, ?_, _, rfl, _, rfl, _, rfl, _, _, rfl, rfl, divW (l := 200) dp hd (by decide) (by decide), _, _, rfl, rfl, ?_, _, _, rfl, rfl, _, _, rfl, rfl, ?_⟩
    · rw [hn1]
      exact mulW (k := 200) (l := 200) hn (by omega) (by decide) (by decide) (by decide)
    · show CMulW ((n : Int) * ((n : Int) - 1) / 2) ((b : Int) / (d : Int))
      rw [pred_mul, show ((n * (n - 1) : Nat) : Int) / 2 = ((tri n : Nat) : Int) from ediv_cast _ 2, ediv_cast]
      exact mulW trin bq (by decide) (by decide) (by decide)
    · show CMulW (n : Int) ((a : Int) / (d : Int))
      rw [ediv_cast]
      exact mulW hn aq (by decide) (by decide) (by decide)
    dsimp only
    have dne : (d : Int) ≠ 0 := by omega
    refine ⟨_, rfl, _, rfl, _, _, rfl, rfl, dne, _, rfl, _, rfl, _, _, rfl, rfl, dne, _, _, rfl, ?_⟩
    dsimp only
    rw [fmod_cast, fmod_cast]
    have e1 : ((b % d : Nat) : Int) * (n : Int) + ((a % d : Nat) : Int) = ((b % d * n + a % d : Nat) : Int) := by
      rw [show ((b % d : Nat) : Int) * (n : Int) = ((b % d * n : Nat) : Int) from (Int.natCast_mul _ _).symm]
      rfl
    have bm : b % d < 2 ^ 200 := by omega
    refine ⟨_, rfl, _, rfl, _, _, rfl, rfl, mulW bm hn (by decide) (by decide) (by decide), _, rfl, _, _, rfl, rfl, _, rfl, _, _, rfl, rfl, divW (l := 200) dp hd (by decide) (by decide), _, rfl, _, rfl, _, _, rfl, rfl, mulW bm hn (by decide) (by decide) (by decide), _, rfl, _, _, rfl, rfl, _, rfl, _, _, rfl, rfl, dne, _, _, rfl, ?_⟩
    dsimp only
    rw [e1, ediv_cast, fmod_cast]
    refine ⟨_, rfl, _, rfl, _, _, rfl, ?_⟩
    have e2 : (t : Int) + ((n : Int) * ((n : Int) - 1) / 2 * ((b : Int) / (d : Int)) + (n : Int) * ((a : Int) / (d : Int))) = ((t + (tri n * (b / d) + n * (a / d)) : Nat) : Int) := by
      rw [pred_mul, show ((n * (n - 1) : Nat) : Int) / 2 = ((tri n : Nat) : Int) from ediv_cast _ 2, ediv_cast, ediv_cast]
      rw [show ((tri n : Nat) : Int) * ((b / d : Nat) : Int) = ((tri n * (b / d) : Nat) : Int) from (Int.natCast_mul _ _).symm, show (n : Int) * ((a / d : Nat) : Int) = ((n * (a / d) : Nat) : Int) from (Int.natCast_mul _ _).symm]
      rfl
    refine ⟨b % d, by omega, (b % d * n + a % d) % d, d, (b % d * n + a % d) / d, b % d, t + (tri n * (b / d) + n * (a / d)), ?_, rfl, by omega, hd, by omega, by omega, fun z => ?_, by omega, rfl⟩
    · rw [← e2]
      rfl
    · by_cases c : b % d = 0
      · rw [c, Nat.zero_mul, Nat.zero_add, Nat.div_eq_of_lt ad] at z
        omega
      · omega
  · have c2 : ¬ (n : Int) > 0 := of_decide_eq_false (Bool.eq_false_iff.mpr c1)
    have n0' : n = 0 := by omega
    subst n0'
    have z : fs 0 a b d = 0 := rfl
    rw [z, Nat.add_zero] at hf
    subst hf
    exact ⟨_, rfl, q⟩
def spAlong : Sp := fun vs H Q _ => ∃ (a b n : Nat), vs = [.int a, .int b, .int n] ∧ 1 ≤ a ∧ a < 2 ^ 102 ∧ b < 2 ^ 102 ∧ n < 2 ^ 102 ∧ (∀ i, i < n → a + i * b < 2 ^ 102) ∧ Q (.int ((sumR n (fun i => ones (a + i * b) - 1) : Nat) : Int)) H
theorem ok_roots_along {f g1 : Addr} {fd d1 : FuncData} (F : Fun K "_roots_along" "_roots_along" sRootsAlong f fd) (GQuotientsSum : FnOk P w K mg base CX0 1 g1 d1 ["first", "step", "number", "divisor"] spQuot) (AQuotientsSum : At K mg "_quotients_sum" g1 d1 ["first", "step", "number", "divisor"]) : FnOk P w K mg base CX0 2 f fd ["first", "step", "number"] spAlong := by
  refine F.ok scRootsAlong (fun vs H Q E h => ?_) (fun cdv A outer s H vs Q E hr h => ?_)
  · obtain ⟨_, _, _, rfl, _⟩ := h
    rfl
  obtain ⟨a, b, n, rfl, a1, ha, hb, hn, hx, q⟩ := h
  refine ⟨_, (pss_cons (ps_set (i := 3) scRootsAlong.nd rfl (Or.inl rfl) (pe_op op_sub (pe_op op_add (pe_op op_mulW (pv 2) (pv 0)) (pe_op op_mulW (pe_op op_fdivW (pe_op op_mulW (pv 2) (pe_op op_sub (pv 2) pe_int)) pe_int) (pv 1))) (pv 2)))
    (pss_cons (ps_set (i := 4) scRootsAlong.nd rfl (Or.inl rfl) pe_int)
    (pss_cons (ps_while PassesOwn.never (pt_cmpR op_le (pv 4) (pe_op op_add (pv 0) (pe_op op_mulW (pv 1) (pe_op op_sub (pv 2) pe_int))) (nomark _))
    (pss_cons (ps_aug (i := 3) scRootsAlong.nd rfl (Or.inl rfl) (pe_call GQuotientsSum (hr.mono (by decide)) rfl AQuotientsSum.m AQuotientsSum.kp AQuotientsSum.b .nil pass0 (pa_cons (pv 0) (pa_cons (pv 1) (pa_cons (pv 2) (pa_cons (pv 4) pa_nil))))) ip_sub)
    (pss_one (ps_set (i := 4) scRootsAlong.nd rfl (Or.inl rfl) (pe_op op_mulW (pv 4) pe_int)))))
    (pss_one (ps_ret (pv 3)))))), ?_⟩
  have up : ∀ {x : Nat}, x < 2 ^ 102 → x < 2 ^ 200 := fun h => Nat.lt_trans h (by decide)
  have tn : n * (n - 1) < 2 ^ 400 := mul_lt (k := 200) (l := 200) (up hn) (by have := up hn; omega)
  have trin : tri n < 2 ^ 400 := Nat.lt_of_le_of_lt (Nat.div_le_self _ _) tn
  have c1 : CMulW (n : Int) ((n : Int) - 1) := by
    refine wide_mul (a := 200) (b := 200) (by show n < 2 ^ 200; exact up hn) ?_ (by decide) (by decide) (by decide)
    have := up hn
    omega
  have c2 : CMulW ((n : Int) * ((n : Int) - 1) / 2) (b : Int) := by
    rw [pred_mul, show ((n * (n - 1) : Nat) : Int) / 2 = ((tri n : Nat) : Int) from ediv_cast _ 2]
    exact mulW trin (up hb) (by decide) (by decide) (by decide)
  refine ⟨_, rfl, _, rfl, _, _, rfl, rfl, mulW (up hn) (up ha) (by decide) (by decide) (by decide), _, rfl, _, rfl, _, _, rfl, rfl, _, _, rfl, rfl, c1, _, _, rfl, rfl, wide_div (b := 2) (by decide) (by decide) (by decide) (by decide), _, rfl, _, _, rfl, rfl, c2, _, _, rfl, rfl, _, rfl, _, _, rfl, rfl, ?_⟩
  have e0 : (n : Int) * (a : Int) + (n : Int) * ((n : Int) - 1) / 2 * (b : Int) - (n : Int) = ((n * a + tri n * b : Nat) : Int) - (n : Int) := by
    rw [pred_mul, show ((n * (n - 1) : Nat) : Int) / 2 = ((tri n : Nat) : Int) from ediv_cast _ 2, show (n : Int) * (a : Int) = ((n * a : Nat) : Int) from (Int.natCast_mul _ _).symm, show ((tri n : Nat) : Int) * (b : Int) = ((tri n * b : Nat) : Int) from (Int.natCast_mul _ _).symm]
    rfl
  dsimp only
  rw [e0]
  refine ⟨fun mu σ H' => ∃ (j : Nat) (t : Int), σ = [some (.int (a : Int)), some (.int (b : Int)), some (.int (n : Int)), some (.int t), some (.int ((2 ^ (j + 1) : Nat) : Int))] ∧ H' = H ∧ t + ((sumR j (fun k => fs n a b (2 ^ (k + 1))) : Nat) : Int) = ((n * a + tri n * b : Nat) : Int) - (n : Int) ∧ j ≤ 102 ∧ mu = 102 - j,
    ⟨102, 0, _, rfl, rfl, by show _ + ((0 : Nat) : Int) = _; omega, by decide, rfl⟩, ?_⟩
  rintro mu σ H1 ⟨j, t, rfl, rfl, ht, j102, hmu⟩
  have pj := Nat.pow_pos (a := 2) (n := j + 1) (by decide)
  have c3 : CMulW (b : Int) ((n : Int) - 1) := by
    refine wide_mul (a := 200) (b := 200) (by show b < 2 ^ 200; exact up hb) ?_ (by decide) (by decide) (by decide)
    have := up hn
    omega
  have last : (a : Int) + (b : Int) * ((n : Int) - 1) < 2 ^ 102 := by
    cases n with
    | zero =>
      rw [show ((0 : Nat) : Int) - 1 = -1 by omega, Int.mul_neg, Int.mul_one]
      omega
    | succ k =>
      have := hx k (by omega)
      rw [show ((k + 1 : Nat) : Int) - 1 = (k : Int) by omega, show (b : Int) * (k : Int) = ((k * b : Nat) : Int) by rw [Nat.mul_comm]; exact (Int.natCast_mul _ _).symm]
      omega
  have lastx : (a : Int) + (b : Int) * ((n : Int) - 1) < ((2 ^ (j + 1) : Nat) : Int) → ∀ i, i < n → a + i * b < 2 ^ (j + 1) := fun h i hi => by
    cases n with
    | zero => omega
    | succ k =>
      rw [show ((k + 1 : Nat) : Int) - 1 = (k : Int) by omega, show (b : Int) * (k : Int) = ((k * b : Nat) : Int) by rw [Nat.mul_comm]; exact (Int.natCast_mul _ _).symm] at h
      have := Nat.mul_le_mul_right b (show i ≤ k by omega)
      omega
  refine ⟨_, rfl, _, rfl, _, rfl, _, rfl, _, _, rfl, rfl, _, _, rfl, rfl, c3, _, _, rfl, rfl, _, _, rfl, rfl, _, rfl, ite2 (fun c4 => ?_) (fun c4 => ?_)⟩
  · have c5 : ((2 ^ (j + 1) : Nat) : Int) ≤ (a : Int) + (b : Int) * ((n : Int) - 1) := of_decide_eq_true c4
    have jl : j + 1 < 102 := by
      have h1 : ((2 ^ (j + 1) : Nat) : Int) < 2 ^ 102 := Int.lt_of_le_of_lt c5 last
      have h2 : (2 ^ (j + 1) : Nat) < 2 ^ 102 := by omega
      exact (Nat.pow_lt_pow_iff_right (by decide : 1 < 2)).mp h2
    have pjb : 2 ^ (j + 1) < 2 ^ 200 := Nat.lt_of_le_of_lt (Nat.pow_le_pow_right (n := 2) (by decide) (show j + 1 ≤ 102 by omega)) (by decide)
    have er : ((2 ^ (j + 1) : Nat) : Int) * 2 = ((2 ^ (j + 1 + 1) : Nat) : Int) := by rw [Nat.pow_succ 2 (j + 1)]; omega
    refine ⟨_, fun σ' H' h => h, _, rfl, _, rfl, _, rfl, _, rfl, _, rfl, a, b, n, 2 ^ (j + 1), rfl, up ha, up hb, up hn, pjb, pj, _, _, rfl, rfl, _, rfl, _, _, rfl, rfl, mulW (k := 200) (l := 2) pjb (by decide) (by decide) (by decide) (by decide), ?_⟩
    dsimp only
    refine ⟨102 - (j + 1), by omega, j + 1, t - ((fs n a b (2 ^ (j + 1)) : Nat) : Int), ?_, rfl, ?_, by omega, rfl⟩
    · rw [← er]
      rfl
    · show _ + ((sumR j (fun k => fs n a b (2 ^ (k + 1))) + fs n a b (2 ^ (j + 1)) : Nat) : Int) = _
      omega
  · have c5 : ¬ ((2 ^ (j + 1) : Nat) : Int) ≤ (a : Int) + (b : Int) * ((n : Int) - 1) := of_decide_eq_false (Bool.eq_false_iff.mpr c4)
    have hq := quots (j := j) (lastx (by omega))
    have h1 := less_one (n := n) (f := fun i => ones (a + i * b)) (fun i hi => ones_pos (by omega))
    have et : t = ((sumR n (fun i => ones (a + i * b) - 1) : Nat) : Int) := by
      have h2 : sumR n (fun i => ones (a + i * b)) = sumR n (fun i => ones (a + i * b) - 1) + n := h1
      omega
    subst et
    exact ⟨_, rfl, q⟩
end
end LT

namespace LT
open PySem PySem.Spec PyProof.Rows L2
section
variable {P : Program} {w : World} {K : PySem.W.Frag} {mg : Str → Option Value} {base : Heap}
/-- the sum of root_sums of l, l + 1, .., so many -/
def rt (l m : Nat) : Nat := sumR m (fun i => ones (l + i) - 1)
def spTotal : Sp := fun vs H Q _ => ∃ (l h : Nat), vs = [.int l, .int h] ∧ 1 ≤ l ∧ l ≤ h ∧ h ≤ 10 ^ 30 ∧ Q (.int ((rt l (h + 1 - l) : Nat) : Int)) H
theorem ok_roots_total {f g1 g2 : Addr} {fd d1 d2 : FuncData} (F : Fun K "roots_total" "roots_total" sRootsTotal f fd) (GCheckStretch : FnOk P w K mg base CX0 4 g1 d1 ["low", "high"] spStretch) (ACheckStretch : At K mg "_check_stretch" g1 d1 ["low", "high"])
    (GRootsAlong : FnOk P w K mg base CX0 2 g2 d2 ["first", "step", "number"] spAlong) (ARootsAlong : At K mg "_roots_along" g2 d2 ["first", "step", "number"]) : FnOk P w K mg base CX0 5 f fd ["low", "high"] spTotal := by
  refine F.ok scRootsTotal (fun vs H Q E h => ?_) (fun cdv A outer s H vs Q E hr h => ?_)
  · obtain ⟨_, _, rfl, _⟩ := h
    rfl
  obtain ⟨l, h, rfl, l1, lh, h30, q⟩ := h
  refine ⟨_, (pss_cons (ps_expr (pe_call GCheckStretch (hr.mono (by decide)) rfl ACheckStretch.m ACheckStretch.kp ACheckStretch.b .nil pass0 (pa_cons (pv 0) (pa_cons (pv 1) pa_nil))))
    (pss_one (ps_ret (pe_call GRootsAlong (hr.mono (by decide)) rfl ARootsAlong.m ARootsAlong.kp ARootsAlong.b .nil pass0 (pa_cons (pv 0) (pa_cons pe_int (pa_cons (pe_op op_add (pe_op op_sub (pv 1) (pv 0)) pe_int) pa_nil))))))), ?_⟩
  have b30 : (10 : Nat) ^ 30 + 2 < 2 ^ 102 := by decide
  refine ⟨_, rfl, _, rfl, l, h, rfl, l1, lh, h30, ?_⟩
  refine ⟨_, rfl, _, rfl, _, rfl, _, _, rfl, rfl, _, _, rfl, rfl, l, 1, h + 1 - l, congrArg (fun z => [V.int (l : Int), V.int 1, V.int z]) (by omega), l1, by omega, by decide, by omega, fun i hi => by omega, ?_⟩
  have e : sumR (h + 1 - l) (fun i => ones (l + i * 1) - 1) = rt l (h + 1 - l) := sumR_congr fun i _ => by rw [Nat.mul_one]
  rw [e]
  exact q
end
end LT

namespace LT
open PySem PySem.Spec PyProof.Rows L2
section
variable {P : Program} {w : World} {K : PySem.W.Frag} {mg : Str → Option Value} {base : Heap}
def spNumberBetween : Sp := fun vs H Q _ => ∃ n l h : Int, vs = [.int n, .int l, .int h] ∧ l ≤ n ∧ n ≤ h ∧ Q .non H
theorem ok_check_number_between {f g : Addr} {fd gd : FuncData} (F : Fun K "check_number_between" "check_number_between" sCheckNumberBetween f fd) (GIsBetween : FnOk P w K mg base CX0 2 g gd ["value", "low", "high"] spBetween) (AIsBetween : At K mg "is_between" g gd ["value", "low", "high"]) : FnOk P w K mg base CX0 3 f fd ["number", "least", "most"] spNumberBetween := by
  refine F.ok scCheckNumberBetween (fun vs H Q E h => ?_) (fun cdv A outer s H vs Q E hr h => ?_)
  · obtain ⟨_, _, _, rfl, _⟩ := h
    rfl
  obtain ⟨n, l, h, rfl, h1, h2, q⟩ := h
  refine ⟨_, (pss_one (ps_if (pt_not (pt_val (pe_call GIsBetween (hr.mono (by decide)) rfl AIsBetween.m AIsBetween.kp AIsBetween.b .nil pass0 (pa_cons (pv 0) (pa_cons (pv 1) (pa_cons (pv 2) pa_nil))))))
    (pss_one ps_never)
    pss_nil)), ?_⟩
  refine ⟨_, rfl, _, rfl, _, rfl, n, l, h, rfl, _, rfl, ?_⟩
  rw [decide_eq_true h1, decide_eq_true h2]
  exact q
def spMade : Sp := fun vs H Q _ => ∃ (n : Nat), vs = [.int n] ∧ 1 ≤ n ∧ n ≤ 10 ^ 30 ∧ ∀ (H' : Hp), Same H H' → Q (.int ((n - ones n : Nat) : Int)) H'
theorem ok_made_sums {f g1 : Addr} {fd d1 : FuncData} (F : Fun K "_made_sums" "_made_sums" sMadeSums f fd) (GRootSums : FnOk P w K mg base CX0 6 g1 d1 ["size"] spRootSums) (ARootSums : At K mg "root_sums" g1 d1 ["size"]) : FnOk P w K mg base CX0 7 f fd ["size"] spMade := by
  refine F.ok scMadeSums (fun vs H Q E h => ?_) (fun cdv A outer s H vs Q E hr h => ?_)
  · obtain ⟨_, rfl, _⟩ := h
    rfl
  obtain ⟨n, rfl, n1, n30, q⟩ := h
  refine ⟨_, (pss_one (ps_ret (pe_op op_sub (pe_op op_sub (pv 0) (pe_call GRootSums (hr.mono (by decide)) rfl ARootSums.m ARootSums.kp ARootSums.b .nil pass0 (pa_cons (pv 0) pa_nil))) pe_int))), ?_⟩
  have o1 := ones_pos n1
  have o2 := ones_le_self n
  refine ⟨_, rfl, _, rfl, n, rfl, n1, n30, fun H1 s1 => ⟨_, _, rfl, rfl, _, _, rfl, rfl, ?_⟩⟩
  dsimp only
  rw [show (n : Int) - ((ones n - 1 : Nat) : Int) - 1 = ((n - ones n : Nat) : Int) by omega]
  exact q H1 s1
def spAppend : Sp := fun vs H Q _ => ∃ (n m : Nat), vs = [.int n, .int m] ∧ 1 ≤ n ∧ n + m ≤ 10 ^ 30 ∧ ∀ (H' : Hp), Same H H' → Q (.int ((m : Int) - ((ones (n + m) : Nat) : Int) + ((ones n : Nat) : Int))) H'
theorem ok_append_sums {f g1 g2 g3 : Addr} {fd d1 d2 d3 : FuncData} {t : Tok} (F : Fun K "append_sums" "append_sums" sAppendSums f fd) (GCheckSize : FnOk P w K mg base CX0 3 g1 d1 ["size"] spCheckSize) (ACheckSize : At K mg "check_size" g1 d1 ["size"])
    (GCheckNumberBetween : FnOk P w K mg base CX0 3 g2 d2 ["number", "least", "most"] spNumberBetween) (ACheckNumberBetween : At K mg "check_number_between" g2 d2 ["number", "least", "most"])
    (GMadeSums : FnOk P w K mg base CX0 7 g3 d3 ["size"] spMade) (AMadeSums : At K mg "_made_sums" g3 d3 ["size"]) (g_MOST_ENTRIES : mg "MOST_ENTRIES" = some (.int 1000000000000000000000000000000 t)) : FnOk P w K mg base CX0 8 f fd ["size", "number"] spAppend := by
  refine F.ok scAppendSums (fun vs H Q E h => ?_) (fun cdv A outer s H vs Q E hr h => ?_)
  · obtain ⟨_, _, rfl, _⟩ := h
    rfl
  obtain ⟨n, m, rfl, n1, n30, q⟩ := h
  refine ⟨_, (pss_cons (ps_expr (pe_call GCheckSize (hr.mono (by decide)) rfl ACheckSize.m ACheckSize.kp ACheckSize.b .nil pass0 (pa_cons (pv 0) pa_nil)))
    (pss_cons (ps_expr (pe_call GCheckNumberBetween (hr.mono (by decide)) rfl ACheckNumberBetween.m ACheckNumberBetween.kp ACheckNumberBetween.b .nil pass0 (pa_cons (pv 1) (pa_cons pe_int (pa_cons (pe_op op_sub (pe_glob (v := .int 1000000000000000000000000000000) rfl g_MOST_ENTRIES ⟨_, rfl⟩) (pv 0)) pa_nil)))))
    (pss_one (ps_ret (pe_op op_sub (pe_call GMadeSums (hr.mono (by decide)) rfl AMadeSums.m AMadeSums.kp AMadeSums.b .nil pass0 (pa_cons (pe_op op_add (pv 0) (pv 1)) pa_nil)) (pe_call GMadeSums (hr.mono (by decide)) rfl AMadeSums.m AMadeSums.kp AMadeSums.b .nil pass0 (pa_cons (pv 0) pa_nil))))))), ?_⟩
  refine ⟨_, rfl, _, rfl, by omega, by omega, ?_⟩
  refine ⟨_, rfl, _, rfl, _, _, rfl, rfl, _, _, _, rfl, by omega, by omega, ?_⟩
  have o1 := ones_le_self (n + m)
  have o2 := ones_le_self n
  refine ⟨_, rfl, _, rfl, _, _, rfl, rfl, n + m, rfl, by omega, by omega, fun H1 s1 => ⟨_, rfl, n, rfl, n1, by omega, fun H2 s2 => ⟨_, _, rfl, rfl, ?_⟩⟩⟩
  dsimp only
  rw [show ((n + m - ones (n + m) : Nat) : Int) - ((n - ones n : Nat) : Int) = (m : Int) - ((ones (n + m) : Nat) : Int) + ((ones n : Nat) : Int) by omega]
  exact q H2 (s1.trans s2)
end
end LT

namespace LT
open PySem PySem.Spec PyProof.Rows L2
section
variable {P : Program} {w : World} {K : PySem.W.Frag} {mg : Str → Option Value} {base : Heap}
def spCheckOlder : Sp := fun vs H Q _ => ∃ n e : Int, vs = [.int n, .int e] ∧ 1 ≤ e ∧ e ≤ n ∧ Q .non H
theorem ok_check_older {f g : Addr} {fd gd : FuncData} (F : Fun K "check_older" "check_older" sCheckOlder f fd) (GIsBetween : FnOk P w K mg base CX0 2 g gd ["value", "low", "high"] spBetween) (AIsBetween : At K mg "is_between" g gd ["value", "low", "high"]) : FnOk P w K mg base CX0 3 f fd ["size", "older"] spCheckOlder := by
  refine F.ok scCheckOlder (fun vs H Q E h => ?_) (fun cdv A outer s H vs Q E hr h => ?_)
  · obtain ⟨_, _, rfl, _⟩ := h
    rfl
  obtain ⟨n, e, rfl, h1, h2, q⟩ := h
  refine ⟨_, (pss_one (ps_if (pt_not (pt_val (pe_call GIsBetween (hr.mono (by decide)) rfl AIsBetween.m AIsBetween.kp AIsBetween.b .nil pass0 (pa_cons (pv 1) (pa_cons pe_int (pa_cons (pv 0) pa_nil))))))
    (pss_one ps_never)
    pss_nil)), ?_⟩
  refine ⟨_, rfl, _, rfl, e, 1, n, rfl, _, rfl, ?_⟩
  rw [decide_eq_true h1, decide_eq_true h2]
  exact q
end
end LT

namespace LT
open PySem PySem.Spec PyProof.Rows L2
def natsV (l : List Nat) : List V := l.map fun x : Nat => V.int (x : Int)
/-! ### logs that grow: what a state is, and what the calls make of it -/
abbrev LS := Nat × List Nat × Int
inductive LOp where
  | app (k : Nat)
  | mark
  | cut (k : Nat)
def StAt (H : Hp) (v : V) (x : LS) : Prop := ∃ t m : Addr, v = .ref t ∧ H t = some (.tup [.int (x.1 : Int), .ref m, .int x.2.2]) ∧ H m = some (.tup (natsV x.2.1))
def OpAt (H : Hp) (v : V) : LOp → Prop
  | .app k => ∃ t : Addr, v = .ref t ∧ H t = some (.tup [.str "append", .int (k : Int)])
  | .mark => ∃ t : Addr, v = .ref t ∧ H t = some (.tup [.str "mark"])
  | .cut k => ∃ t : Addr, v = .ref t ∧ H t = some (.tup [.str "cut", .int (k : Int)])
def CallAt (H : Hp) (v : V) (x : LOp × LS) : Prop := ∃ (t : Addr) (o s : V), v = .ref t ∧ H t = some (.tup [o, s]) ∧ OpAt H o x.1 ∧ StAt H s x.2
def lok (x : LS) : LOp → Prop
  | .app k => 1 ≤ k ∧ x.1 + k ≤ 10 ^ 30
  | .mark => True
  | .cut k => 1 ≤ k ∧ k ≤ x.1
def acost (n k : Nat) : Int := (k : Int) - ((ones (n + k) : Nat) : Int) + ((ones n : Nat) : Int)
def lafter (x : LS) : LOp → LS
  | .app k => (x.1 + k, x.2.1, x.2.2 + acost x.1 k)
  | .mark => if x.1 ∈ x.2.1 then x else (x.1, x.2.1 ++ [x.1], x.2.2 + ((ones x.1 - 1 : Nat) : Int))
  | .cut k => (k, x.2.1.filter (fun m => decide (m ≤ k)), x.2.2)
theorem StAt.same {H H' : Hp} {v : V} {x : LS} (h : StAt H v x) (s : Same H H') : StAt H' v x := by
  obtain ⟨t, m, e, a, b⟩ := h
  exact ⟨t, m, e, s _ _ a, s _ _ b⟩
theorem OpAt.same {H H' : Hp} {v : V} {o : LOp} (h : OpAt H v o) (s : Same H H') : OpAt H' v o := by
  cases o <;> (obtain ⟨t, e, a⟩ := h; exact ⟨t, e, s _ _ a⟩)
theorem CallAt.same {H H' : Hp} {v : V} {x : LOp × LS} (h : CallAt H v x) (s : Same H H') : CallAt H' v x := by
  obtain ⟨t, o, s', e, a, b, c⟩ := h
  exact ⟨t, o, s', e, s _ _ a, b.same s, c.same s⟩
/-- tuples stay -/
def Tups (H H' : Hp) : Prop := ∀ (a : Addr) (xs : List V), H a = some (.tup xs) → H' a = some (.tup xs)
theorem Tups.trans {H H1 H2 : Hp} (a : Tups H H1) (b : Tups H1 H2) : Tups H H2 := fun p xs h => b p xs (a p xs h)
theorem Same.tups {H H' : Hp} (s : Same H H') : Tups H H' := fun a xs h => s a _ h
theorem StAt.tups {H H' : Hp} {v : V} {x : LS} (h : StAt H v x) (s : Tups H H') : StAt H' v x := by
  obtain ⟨t, m, e, a, b⟩ := h
  exact ⟨t, m, e, s _ _ a, s _ _ b⟩
theorem OpAt.tups {H H' : Hp} {v : V} {o : LOp} (h : OpAt H v o) (s : Tups H H') : OpAt H' v o := by
  cases o <;> (obtain ⟨t, e, a⟩ := h; exact ⟨t, e, s _ _ a⟩)
theorem CallAt.tups {H H' : Hp} {v : V} {x : LOp × LS} (h : CallAt H v x) (s : Tups H H') : CallAt H' v x := by
  obtain ⟨t, o, s', e, a, b, c⟩ := h
  exact ⟨t, o, s', e, s _ _ a, b.tups s, c.tups s⟩
/-! ### the object -/
theorem stca : ¬ (("_state" : Str) = "_calls") := by decide +kernel
def fldsL (s : V) (c : Addr) : List (Str × V) := putF "_calls" (.ref c) (putF "_state" s [])
theorem fldsL_eq (s : V) (c : Addr) : fldsL s c = ([("_state", s), ("_calls", V.ref c)] : List (Str × V)) := by
  show (if ("_state" : Str) = "_calls" then [(("_state" : Str), V.ref c)] else (("_state" : Str), s) :: putF "_calls" (V.ref c) []) = ([("_state", s), ("_calls", V.ref c)] : List (Str × V))
  rw [if_neg stca]
  rfl
theorem fldsL_state (s : V) (c : Addr) : (fldsL s c).lookup ("_state" : Str) = some s := by
  unfold fldsL
  rw [lookup_putF, if_neg stca, lookup_putF, if_pos rfl]
theorem fldsL_calls (s : V) (c : Addr) : (fldsL s c).lookup ("_calls" : Str) = some (.ref c) := by
  unfold fldsL
  rw [lookup_putF, if_pos rfl]
theorem fldsL_no (s : V) (c : Addr) {m : Str} (h1 : ¬ m = "_calls") (h2 : ¬ m = "_state") : (fldsL s c).lookup m = none := by
  unfold fldsL
  rw [lookup_putF, if_neg h1, lookup_putF, if_neg h2]
  rfl
theorem fldsL_put (s s' : V) (c : Addr) : putF "_state" s' (fldsL s c) = fldsL s' c := by
  rw [fldsL_eq, fldsL_eq]
  show (if ("_state" : Str) = "_state" then [(("_state" : Str), s'), (("_calls" : Str), V.ref c)] else (("_state" : Str), s) :: putF "_state" s' [(("_calls" : Str), V.ref c)]) = ([("_state", s'), ("_calls", V.ref c)] : List (Str × V))
  rw [if_pos rfl]
/-- a log at p with its list of calls at c -/
def LogAt (C : Addr) (H : Hp) (p c : Addr) (x : LS) (cs : List (LOp × LS)) : Prop := ∃ (dx : Addr) (s : V) (vs : List V), H p = some (.ins C dx (fldsL s c)) ∧ StAt H s x ∧ H c = some (.lst vs) ∧ All2 (CallAt H) vs cs
theorem LogAt.same {C : Addr} {H H' : Hp} {p c : Addr} {x : LS} {cs : List (LOp × LS)} (h : LogAt C H p c x cs) (s : Same H H') : LogAt C H' p c x cs := by
  obtain ⟨dx, v, vs, a, b, d, e⟩ := h
  exact ⟨dx, v, vs, s _ _ a, b.same s, s _ _ d, e.mono fun v x (k : CallAt H v x) => k.same s⟩
/-- all but the log stays -/
def ButL (p c : Addr) (H H' : Hp) : Prop := ∀ b o, H b = some o → b ≠ p → b ≠ c → H' b = some o
theorem ButL.refl (p c : Addr) (H : Hp) : ButL p c H H := fun _ _ h _ _ => h
theorem ButL.trans {p c : Addr} {H H1 H2 : Hp} (a : ButL p c H H1) (b : ButL p c H1 H2) : ButL p c H H2 := fun q o h n m => b q o (a q o h n m) n m
theorem ButL.of {p c : Addr} {H H' : Hp} (s : Same H H') : ButL p c H H' := fun b o h _ _ => s b o h
theorem LogAt.ne {C : Addr} {H : Hp} {p c : Addr} {x : LS} {cs : List (LOp × LS)} (h : LogAt C H p c x cs) : p ≠ c := by
  obtain ⟨_, _, _, a, _, b, _⟩ := h
  exact ne_of a b (fun z => by cases z)
theorem ButL.tups {C : Addr} {H H' : Hp} {p c : Addr} {x : LS} {cs : List (LOp × LS)} (B : ButL p c H H') (h : LogAt C H p c x cs) : Tups H H' := by
  obtain ⟨_, _, _, a, _, b, _⟩ := h
  exact fun q xs e => B q _ e (ne_of e a (fun z => by cases z)) (ne_of e b (fun z => by cases z))
/-- what the top tells of the class -/
structure TLog (K : PySem.W.Frag) (C : Addr) : Prop where
  cl : Cls K C
  nS : NoAttr K C "_state"
  nC : NoAttr K C "_calls"
end LT

namespace LT
open PySem PySem.Spec PyProof.Rows L2
theorem ne_cut : ¬ ("cut" : Str) = "append" := by decide +kernel
theorem ne_mark : ¬ ("mark" : Str) = "append" := by decide +kernel
theorem ne_mark2 : ¬ ("mark" : Str) = "cut" := by decide +kernel
theorem str_no {a b : Str} (h : ¬ a = b) : V.bl (decide (V.str a = V.str b)) = V.bl false := by rw [decide_eq_false fun z => h (V.str.inj z)]
theorem natsV_flat : ∀ ms : List Nat, (natsV ms).all flatV = true
  | [] => rfl
  | m :: ms => by
    show (flatV (V.int _) && (natsV ms).all flatV) = true
    rw [natsV_flat ms]
    rfl
theorem natsV_in (n : Nat) : ∀ ms : List Nat, inV (.int (n : Int)) (natsV ms) = decide (n ∈ ms)
  | [] => rfl
  | m :: ms => by
    have ih := natsV_in n ms
    unfold inV at ih ⊢
    show (eqV (V.int (m : Int)) (V.int (n : Int)) || (natsV ms).any _) = _
    rw [ih]
    have : eqV (V.int (m : Int)) (V.int (n : Int)) = decide (n = m) := by
      show ((m : Int) == (n : Int)) = _
      rw [Bool.eq_iff_iff, beq_iff_eq, decide_eq_true_eq]
      omega
    rw [this, Bool.eq_iff_iff, Bool.or_eq_true, decide_eq_true_eq, decide_eq_true_eq, decide_eq_true_eq, List.mem_cons]
theorem natsV_take {ms : List Nat} {j : Nat} {v : V} (h : (natsV ms)[j]? = some v) : ∃ m, ms[j]? = some m ∧ v = .int (m : Int) := by
  unfold natsV at h
  rw [List.getElem?_map] at h
  obtain ⟨m, a, b⟩ := Option.map_eq_some_iff.mp h
  exact ⟨m, a, b.symm⟩
theorem natsV_len (ms : List Nat) : (natsV ms).length = ms.length := by unfold natsV; rw [List.length_map]
theorem natsV_app (a b : List Nat) : natsV (a ++ b) = natsV a ++ natsV b := by unfold natsV; rw [List.map_append]
section
variable {P : Program} {w : World} {K : PySem.W.Frag} {mg : Str → Option Value} {base : Heap}
def spLogInit (C : Addr) : Sp := fun vs H Q _ => ∃ (p dx : Addr) (n : Nat), vs = [.ref p, .int n] ∧ H p = some (.ins C dx []) ∧ 1 ≤ n ∧ n ≤ 10 ^ 30 ∧
  ∀ (c : Addr) (H' : Hp), H c = none → LogAt C H' p c (n, [], 0) [] → (∀ b o, H b = some o → b ≠ p → H' b = some o) → Q .non H'
theorem ok_log_init {f g1 C : Addr} {fd d1 : FuncData} (F : Fun K "__init__" "LiveLog.__init__" sLiveLogInit f fd) (T : TLog K C)
    (GCheckSize : FnOk P w K mg base CX0 3 g1 d1 ["size"] spCheckSize) (ACheckSize : At K mg "check_size" g1 d1 ["size"]) : FnOk P w K mg base CX0 4 f fd ["self", "size"] (spLogInit C) := by
  refine F.ok scLiveLogInit (fun vs H Q E h => ?_) (fun cdv A outer s H vs Q E hr h => ?_)
  · obtain ⟨_, _, _, rfl, _⟩ := h
    rfl
  obtain ⟨p, dx, n, rfl, hp, n1, n30, q⟩ := h
  refine ⟨_, (pss_cons (ps_expr (pe_call GCheckSize (hr.mono (by decide)) rfl ACheckSize.m ACheckSize.kp ACheckSize.b .nil pass0 (pa_cons (pv 1) pa_nil)))
    (pss_cons (ps_fld (pv 0) (pe_tup (pa_cons (pv 1) (pa_cons (pe_tup pa_nil) (pa_cons pe_int pa_nil)))) rfl)
    (pss_one (ps_fld (pv 0) (pe_lst pa_nil) rfl)))), ?_⟩
  refine ⟨_, rfl, _, rfl, by omega, by omega, ?_⟩
  have three : 3 ≤ sizeLine := by decide
  refine ⟨_, rfl, Nat.zero_le _, fun m nm => ⟨three, fun t nt => ⟨_, rfl, p, C, dx, [], rfl, ?_, T.cl, T.nS, (by show 0 < 1000; decide), Nat.zero_le _, fun c nc => ⟨_, rfl, p, C, dx, putF "_state" (.ref t) [], rfl, ?_, T.cl, T.nC, (by show 1 < 1000; decide), ?_⟩⟩⟩⟩
  all_goals
    have w1 := same_upd (o := .tup []) nm
    have w2 := same_upd (o := .tup [.int (n : Int), .ref m, .int 0]) nt
    have s2 := w1.trans w2
  · exact s2 _ _ hp
  · have pc : p ≠ c := fun z => by rw [← z, upd_same] at nc; cases nc
    rw [upd_ne pc]
    exact upd_same
  · have ht : (upd (upd H m (.tup [])) t (.tup [.int (n : Int), .ref m, .int 0])) t = some (.tup [.int (n : Int), .ref m, .int 0]) := upd_same
    have hm : (upd (upd H m (.tup [])) t (.tup [.int (n : Int), .ref m, .int 0])) m = some (.tup []) := w2 _ _ upd_same
    have hp2 := s2 _ _ hp
    generalize upd (upd H m (.tup [])) t (.tup [.int (n : Int), .ref m, .int 0]) = H2 at nc ht hm hp2 s2 ⊢
    dsimp only at nc ⊢
    have pc : p ≠ c := fun z => by rw [← z, upd_same] at nc; cases nc
    have nc2 : H2 c = none := by rw [upd_ne (fun z => pc z.symm)] at nc; exact nc
    have tp : t ≠ p := ne_of ht hp2 (fun z => by cases z)
    have mp : m ≠ p := ne_of hm hp2 (fun z => by cases z)
    have tc : t ≠ c := ne_of_none ht nc2
    have mc : m ≠ c := ne_of_none hm nc2
    refine q c _ (s2.free nc2) ⟨dx, .ref t, [], upd_same, ⟨t, m, rfl, ?_, ?_⟩, ?_, .nil⟩ fun b o k nb => ?_
    · rw [upd_ne tp, upd_ne tc, upd_ne tp]; exact ht
    · rw [upd_ne mp, upd_ne mc, upd_ne mp]; exact hm
    · rw [upd_ne (fun z => pc z.symm)]; exact upd_same
    · have k2 := s2 _ _ k
      rw [upd_ne nb, upd_ne (ne_of_none k2 nc2), upd_ne nb]
      exact k2
def spPresent (C : Addr) : Sp := fun vs H Q _ => ∃ (p c : Addr) (x : LS) (cs : List (LOp × LS)), vs = [.ref p] ∧ LogAt C H p c x cs ∧ Q (.int (x.1 : Int)) H
theorem ok_log_present {f C : Addr} {fd : FuncData} (F : Fun K "present" "LiveLog.present" sLiveLogPresent f fd) (T : TLog K C) : FnOk P w K mg base CX0 1 f fd ["self"] (spPresent C) := by
  refine F.ok scLiveLogPresent (fun vs H Q E h => ?_) (fun cdv A outer s H vs Q E hr h => ?_)
  · obtain ⟨_, _, _, _, rfl, _⟩ := h
    rfl
  obtain ⟨p, c, x, cs, rfl, ⟨dx, _, vs, hp, ⟨t, m, rfl, ht, hm⟩, hc, hcs⟩, q⟩ := h
  refine ⟨_, (pss_one (ps_ret (pe_ix ix_tup (pe_fld (pv 0) rfl) pe_int (fun _ _ => rfl)))), ?_⟩
  exact ⟨_, rfl, p, C, dx, _, _, rfl, hp, T.cl, T.nS, fldsL_state _ _, t, _, _, _, rfl, rfl, SqT.of ht, atI_nat (j := 0) rfl, q⟩
def spMarks (C : Addr) : Sp := fun vs H Q _ => ∃ (p c : Addr) (x : LS) (cs : List (LOp × LS)), vs = [.ref p] ∧ LogAt C H p c x cs ∧ ∀ (H' : Hp) (r : Addr), Same H H' → H r = none → H' r = some (.lst (natsV x.2.1)) → Q (.ref r) H'
theorem ok_log_marks {f C : Addr} {fd : FuncData} (F : Fun K "marks" "LiveLog.marks" sLiveLogMarks f fd) (T : TLog K C) (z_list : mg "list" = none) : FnOk P w K mg base CX0 1 f fd ["self"] (spMarks C) := by
  refine F.ok scLiveLogMarks (fun vs H Q E h => ?_) (fun cdv A outer s H vs Q E hr h => ?_)
  · obtain ⟨_, _, _, _, rfl, _⟩ := h
    rfl
  obtain ⟨p, c, x, cs, rfl, ⟨dx, _, vs, hp, ⟨t, m, rfl, ht, hm⟩, hc, hcs⟩, q⟩ := h
  refine ⟨_, (pss_one (ps_ret (pe_callTy call_list_of (by rfl) z_list (by decide +kernel) (pa_cons (pe_ix ix_tup (pe_fld (pv 0) rfl) pe_int (fun _ _ => rfl)) pa_nil)))), ?_⟩
  exact ⟨_, rfl, p, C, dx, _, _, rfl, hp, T.cl, T.nS, fldsL_state _ _, t, _, _, _, rfl, rfl, SqT.of ht, atI_nat (j := 1) rfl, m, _, rfl, .inr (SqT.of hm), fun r nr => q _ r (same_upd nr) nr upd_same⟩
def lgood (x : LS) : Prop := 1 ≤ x.1 ∧ x.1 ≤ 10 ^ 30 ∧ x.2.1.length ≤ 1000
def spBehind : Sp := fun vs H Q _ => ∃ (z v u : V) (x : LS) (o : LOp), vs = [z, v, u] ∧ StAt H v x ∧ OpAt H u o ∧ lgood x ∧ lok x o ∧ ∀ (H' : Hp) (r : V), Same H H' → StAt H' r (lafter x o) → Q r H'
theorem ok_log_behind {f g1 g2 g3 g4 : Addr} {fd d1 d2 d3 d4 : FuncData} {t : Tok} (F : Fun K "_behind" "LiveLog._behind" sLiveLogBehind f fd)
    (GCheckNumberBetween : FnOk P w K mg base CX0 3 g1 d1 ["number", "least", "most"] spNumberBetween) (ACheckNumberBetween : At K mg "check_number_between" g1 d1 ["number", "least", "most"])
    (GAppendSums : FnOk P w K mg base CX0 8 g2 d2 ["size", "number"] spAppend) (AAppendSums : At K mg "append_sums" g2 d2 ["size", "number"])
    (GCheckOlder : FnOk P w K mg base CX0 3 g3 d3 ["size", "older"] spCheckOlder) (ACheckOlder : At K mg "check_older" g3 d3 ["size", "older"])
    (GRootSums : FnOk P w K mg base CX0 6 g4 d4 ["size"] spRootSums) (ARootSums : At K mg "root_sums" g4 d4 ["size"])
    (g_MOST_ENTRIES : mg "MOST_ENTRIES" = some (.int 1000000000000000000000000000000 t)) (z_tuple : mg "tuple" = none) : FnOk P w K mg base CX0 9 f fd ["self", "state", "operation"] spBehind := by
  refine F.ok scLiveLogBehind (fun vs H Q E h => ?_) (fun cdv A outer s H vs Q E hr h => ?_)
  · obtain ⟨_, _, _, _, _, rfl, _⟩ := h
    rfl
  obtain ⟨z, v, u, ⟨n, ms, sp⟩, o, rfl, ⟨t, m, rfl, ht, hm⟩, hu, ⟨n1, n30, ml⟩, hok, q⟩ := h
  refine ⟨_, (pss_cons (ps_asg (pv 1) (pg_tup (by rfl) (pgs_cons (pg_name (i := 3) scLiveLogBehind.nd rfl (Or.inl rfl)) (pgs_cons (pg_name (i := 4) scLiveLogBehind.nd rfl (Or.inl rfl)) (pgs_cons (pg_name (i := 5) scLiveLogBehind.nd rfl (Or.inl rfl)) pgs_nil)))))
    (pss_cons (ps_if (pt_cmpR op_eq (pe_ix ix_tup (pv 2) pe_int (fun _ _ => rfl)) pe_str (nomark _))
    (pss_cons (ps_set (i := 6) scLiveLogBehind.nd rfl (Or.inl rfl) (pe_ix ix_tup (pv 2) pe_int (fun _ _ => rfl)))
    (pss_cons (ps_expr (pe_call GCheckNumberBetween (hr.mono (by decide)) rfl ACheckNumberBetween.m ACheckNumberBetween.kp ACheckNumberBetween.b .nil pass0 (pa_cons (pv 6) (pa_cons pe_int (pa_cons (pe_op op_sub (pe_glob (v := .int 1000000000000000000000000000000) rfl g_MOST_ENTRIES ⟨_, rfl⟩) (pv 3)) pa_nil)))))
    (pss_one (ps_ret (pe_tup (pa_cons (pe_op op_add (pv 3) (pv 6)) (pa_cons (pv 4) (pa_cons (pe_op op_add (pv 5) (pe_call GAppendSums (hr.mono (by decide)) rfl AAppendSums.m AAppendSums.kp AAppendSums.b .nil pass0 (pa_cons (pv 3) (pa_cons (pv 6) pa_nil)))) pa_nil))))))))
    pss_nil)
    (pss_cons (ps_if (pt_cmpR op_eq (pe_ix ix_tup (pv 2) pe_int (fun _ _ => rfl)) pe_str (nomark _))
    (pss_cons (ps_set (i := 7) scLiveLogBehind.nd rfl (Or.inr rfl) (pe_ix ix_tup (pv 2) pe_int (fun _ _ => rfl)))
    (pss_cons (ps_expr (pe_call GCheckOlder (hr.mono (by decide)) rfl ACheckOlder.m ACheckOlder.kp ACheckOlder.b .nil pass0 (pa_cons (pv 3) (pa_cons (pv 7) pa_nil))))
    (pss_one (ps_ret (pe_tup (pa_cons (pv 7) (pa_cons (pe_callTy call_tuple_of (by rfl) z_tuple (by decide +kernel) (pa_cons (pe_lc (own := [("mark", 8)]) rfl scLiveLogBehind.nd (pi_tup (pv 4)) (blkOk_by (N := ["self", "state", "operation", "present", "marks", "spent", "number", "size", "mark"]) (sc := defScope sLiveLogBehind) (by decide +kernel)) (fun _ _ _ _ _ => (pg_name (i := 8) scLiveLogBehind.nd rfl (Or.inl rfl))) (fun _ _ _ _ _ => pts_one (pt_cmpR op_le (pv 8) (pv 7) (nomark _))) (fun _ _ _ _ _ => (pv 8))) pa_nil)) (pa_cons (pv 5) pa_nil))))))))
    pss_nil)
    (pss_cons (ps_if (pt_cmpR op_in_seq (pv 3) (pv 4) (by rfl))
    (pss_one (ps_ret (pv 1)))
    pss_nil)
    (pss_one (ps_ret (pe_tup (pa_cons (pv 3) (pa_cons (pe_op op_catA (pv 4) (pe_tup (pa_cons (pv 3) pa_nil))) (pa_cons (pe_op op_add (pv 5) (pe_call GRootSums (hr.mono (by decide)) rfl ARootSums.m ARootSums.kp ARootSums.b .nil pass0 (pa_cons (pv 3) pa_nil))) pa_nil)))))))))), ?_⟩
  dsimp only at ht hm n1 n30 ml
  have three : 3 ≤ sizeLine := by decide
  have one1 : 1 ≤ sizeLine := by decide
  refine ⟨_, rfl, t, _, rfl, SqT.of ht, rfl, _, _, rfl, _, _, rfl, _, _, rfl, rfl, ?_⟩
  cases o with
  | app k =>
    obtain ⟨ot, rfl, hot⟩ := hu
    obtain ⟨k1, k30⟩ := hok
    dsimp only at k30
    refine ⟨_, rfl, ot, _, _, _, rfl, rfl, SqT.of hot, atI_nat (j := 0) rfl, rfl, true, rfl, ?_⟩
    refine ⟨_, rfl, ot, _, _, _, rfl, rfl, SqT.of hot, atI_nat (j := 1) rfl, ?_⟩
    refine ⟨_, rfl, _, rfl, _, _, rfl, rfl, (k : Int), 1, _, rfl, by omega, by omega, ?_⟩
    refine ⟨_, rfl, _, rfl, _, _, rfl, rfl, _, rfl, _, rfl, _, rfl, _, rfl, n, k, rfl, n1, k30, fun H1 s1 => ⟨_, _, rfl, rfl, three, fun r nr => ?_⟩⟩
    have wr := same_upd (o := .tup [.int ((n : Int) + (k : Int)), .ref m, .int (sp + ((k : Int) - ((ones (n + k) : Nat) : Int) + ((ones n : Nat) : Int)))]) nr
    exact q _ (.ref r) (s1.trans wr) ⟨r, m, rfl, upd_same, wr _ _ (s1 _ _ hm)⟩
  | cut k =>
    obtain ⟨ot, rfl, hot⟩ := hu
    obtain ⟨k1, kn⟩ := hok
    dsimp only at kn
    refine ⟨_, rfl, ot, _, _, _, rfl, rfl, SqT.of hot, atI_nat (j := 0) rfl, rfl, false, str_no ne_cut, ?_⟩
    refine ⟨_, rfl, ot, _, _, _, rfl, rfl, SqT.of hot, atI_nat (j := 0) rfl, rfl, true, rfl, ?_⟩
    refine ⟨_, rfl, ot, _, _, _, rfl, rfl, SqT.of hot, atI_nat (j := 1) rfl, ?_⟩
    refine ⟨_, rfl, _, rfl, (n : Int), (k : Int), rfl, by omega, by omega, ?_⟩
    refine ⟨_, rfl, _, rfl, m, rfl, ⟨_, SqT.of hm⟩, fun D nD => ?_⟩
    refine lc_tup (K := K) (a := m) (xs := natsV ms) (fun j H' => Same H H' ∧ H' D = some (.lst (natsV ((ms.take j).filter fun m => decide (m ≤ k))))) ⟨same_upd nD, upd_same⟩ (fun j H' _ ⟨s5, _⟩ => SqT.of (s5 _ _ hm)) ?_ ?_
    · rintro j v H3 hj ⟨s3, hD⟩
      obtain ⟨y, hyj, rfl⟩ := natsV_take hj
      have jl := (List.getElem?_eq_some_iff.mp hyj).1
      refine ⟨rfl, ?_⟩
      rw [take_more hyj, List.filter_append]
      by_cases c : y ≤ k
      · have ef : [y].filter (fun m => decide (m ≤ k)) = [y] := by simp [c]
        rw [ef]
        refine ⟨_, rfl, _, rfl, _, _, rfl, rfl, true, congrArg V.bl (decide_eq_true (by omega)), ?_⟩
        refine ⟨_, rfl, _, hD, szlt (by
          rw [natsV_len]
          have := List.length_filter_le (fun m => decide (m ≤ k)) (ms.take j)
          rw [List.length_take] at this
          omega), ?_, ?_⟩
        · exact fun a o k => by rw [upd_ne (ne_of_none k nD)]; exact s3 _ _ k
        · rw [natsV_app]
          exact upd_same
      · have ef : [y].filter (fun m => decide (m ≤ k)) = [] := by simp [c]
        rw [ef, List.append_nil]
        exact ⟨_, rfl, _, rfl, _, _, rfl, rfl, false, congrArg V.bl (decide_eq_false (by omega)), s3, hD⟩
    rintro H3 ⟨s3, hD⟩
    rw [natsV_len, List.take_length] at hD
    refine ⟨D, _, rfl, .inl ⟨SqL.of hD, fun l nl => ?_⟩⟩
    have wl := same_upd (o := .tup (natsV (ms.filter fun m => decide (m ≤ k)))) nl
    refine ⟨_, rfl, three, fun r nr => ?_⟩
    have wr := same_upd (o := .tup [.int (k : Int), .ref l, .int sp]) nr
    exact q _ (.ref r) (s3.trans (wl.trans wr)) ⟨r, l, rfl, upd_same, wr _ _ upd_same⟩
  | mark =>
    obtain ⟨ot, rfl, hot⟩ := hu
    refine ⟨_, rfl, ot, _, _, _, rfl, rfl, SqT.of hot, atI_nat (j := 0) rfl, rfl, false, str_no ne_mark, ?_⟩
    refine ⟨_, rfl, ot, _, _, _, rfl, rfl, SqT.of hot, atI_nat (j := 0) rfl, rfl, false, str_no ne_mark2, ?_⟩
    refine ⟨_, rfl, _, rfl, m, _, rfl, .inr (SqT.of hm), rfl, natsV_flat ms, ?_⟩
    have eI : (if false = true then !inV (V.int (n : Int)) (natsV ms) else inV (V.int (n : Int)) (natsV ms)) = decide (n ∈ ms) := natsV_in n ms
    rw [eI]
    by_cases c : n ∈ ms
    · rw [decide_eq_true c]
      refine ⟨true, rfl, _, rfl, q H _ (Same.refl H) ?_⟩
      have e : lafter (n, ms, sp) .mark = (n, ms, sp) := if_pos c
      rw [e]
      exact ⟨t, m, rfl, ht, hm⟩
    · rw [decide_eq_false c]
      have e : lafter (n, ms, sp) .mark = (n, ms ++ [n], sp + ((ones n - 1 : Nat) : Int)) := if_neg c
      rw [e] at q
      refine ⟨false, rfl, _, rfl, _, rfl, _, rfl, one1, fun t1 nt1 => ?_⟩
      have w1 := same_upd (o := .tup [.int (n : Int)]) nt1
      have ht1 : (upd H t1 (.tup [.int (n : Int)])) t1 = some (.tup [.int (n : Int)]) := upd_same
      generalize upd H t1 (.tup [.int (n : Int)]) = H1 at w1 ht1 ⊢
      refine ⟨m, t1, natsV ms, [.int (n : Int)], rfl, rfl, SqT.of (w1 _ _ hm), SqT.of ht1, szle (by rw [natsV_len, List.length_singleton]; omega), fun e => ?_, fun _ e => ?_, fun _ _ p np => ?_⟩
      · have e0 : ms = [] := List.map_eq_nil_iff.mp e
        subst e0
        refine ⟨_, rfl, _, rfl, n, rfl, n1, n30, fun H2 s2 => ⟨_, _, rfl, rfl, three, fun r nr => ?_⟩⟩
        have wr := same_upd (o := .tup [.int (n : Int), .ref t1, .int (sp + ((ones n - 1 : Nat) : Int))]) nr
        exact q _ (.ref r) (w1.trans (s2.trans wr)) ⟨r, t1, rfl, upd_same, wr _ _ (s2 _ _ ht1)⟩
      · cases e
      · have wp := same_upd (o := .tup (natsV ms ++ [.int (n : Int)])) np
        refine ⟨_, rfl, _, rfl, n, rfl, n1, n30, fun H2 s2 => ⟨_, _, rfl, rfl, three, fun r nr => ?_⟩⟩
        have wr := same_upd (o := .tup [.int (n : Int), .ref p, .int (sp + ((ones n - 1 : Nat) : Int))]) nr
        exact q _ (.ref r) (w1.trans (wp.trans (s2.trans wr))) ⟨r, p, rfl, upd_same, by rw [natsV_app]; exact wr _ _ (s2 _ _ upd_same)⟩
def spPerform (C : Addr) : Sp := fun vs H Q _ => ∃ (p c : Addr) (x : LS) (cs : List (LOp × LS)) (v : V) (o : LOp), vs = [.ref p, v] ∧ LogAt C H p c x cs ∧ OpAt H v o ∧ lgood x ∧ lok x o ∧ cs.length ≤ 1000 ∧
  ∀ (H' : Hp), ButL p c H H' → LogAt C H' p c (lafter x o) (cs ++ [(o, x)]) → Q .non H'
theorem no_behind : ¬ ("_behind" : Str) = "_calls" ∧ ¬ ("_behind" : Str) = "_state" := by decide +kernel
theorem no_perform : ¬ ("_perform" : Str) = "_calls" ∧ ¬ ("_perform" : Str) = "_state" := by decide +kernel
theorem ok_log_perform {f g1 C : Addr} {fd d1 : FuncData} (F : Fun K "_perform" "LiveLog._perform" sLiveLogPerform f fd) (TLiveLog : TLog K C)
    (GLiveLogBehind : FnOk P w K mg base CX0 9 g1 d1 ["self", "state", "operation"] spBehind) (MLiveLogBehind : Meth K C "_behind" g1) (BLiveLogBehind : Binds K d1 ["self", "state", "operation"] []) : FnOk P w K mg base CX0 10 f fd ["self", "operation"] (spPerform C) := by
  refine F.ok scLiveLogPerform (fun vs H Q E h => ?_) (fun cdv A outer s H vs Q E hr h => ?_)
  · obtain ⟨_, _, _, _, _, _, rfl, _⟩ := h
    rfl
  obtain ⟨p, c, x, cs, v, o, rfl, hL, ho, hg, hok, hl, q⟩ := h
  refine ⟨_, (pss_cons (ps_set (i := 2) scLiveLogPerform.nd rfl (Or.inl rfl) (pe_meth (pv 0) TLiveLog.cl MLiveLogBehind GLiveLogBehind (hr.mono (by decide)) BLiveLogBehind .nil pass0 (pa_cons (pe_fld (pv 0) rfl) (pa_cons (pv 1) pa_nil))))
    (pss_cons (ps_expr (pe_bm PySem.F.plainAttrs_list PySem.F.slot_list_append PySem.F.type_list_append mt_append (pe_fld (pv 0) rfl) (pa_cons (pe_tup (pa_cons (pv 1) (pa_cons (pe_fld (pv 0) rfl) pa_nil))) pa_nil)))
    (pss_one (ps_fld (pv 0) (pv 2) rfl)))), ?_⟩
  have two : 2 ≤ sizeLine := by decide
  obtain ⟨dx, sv, vs, hp, hst, hc, hcs⟩ := id hL
  refine ⟨_, rfl, p, dx, _, rfl, hp, fldsL_no _ _ no_behind.1 no_behind.2, ?_⟩
  refine ⟨_, rfl, p, C, dx, _, _, rfl, hp, TLiveLog.cl, TLiveLog.nS, fldsL_state _ _, _, rfl, _, sv, v, x, o, rfl, hst, ho, hg, hok, fun H1 r s1 hr1 => ?_⟩
  have hp1 := s1 _ _ hp
  have hc1 := s1 _ _ hc
  have hcs1 := hcs.mono fun v x (k : CallAt H v x) => k.same s1
  have hst1 := hst.same s1
  have ho1 := ho.same s1
  have cl := hcs.len
  refine ⟨_, rfl, p, C, dx, _, _, rfl, hp1, TLiveLog.cl, TLiveLog.nC, fldsL_calls _ _, .inl ⟨rfl, _, SqL.of hc1⟩, _, rfl, _, rfl, p, C, dx, _, _, rfl, hp1, TLiveLog.cl, TLiveLog.nS, fldsL_state _ _, two, fun t nt => ⟨c, _, _, rfl, rfl, same_upd nt _ _ hc1, szlt (by omega), ?_⟩⟩
  have wt := same_upd (o := .tup [v, sv]) nt
  have htt : (upd H1 t (.tup [v, sv])) t = some (.tup [v, sv]) := upd_same
  have hp2 := wt _ _ hp1
  have hc2 := wt _ _ hc1
  have hr2 := hr1.same wt
  have hcs2 : All2 (CallAt (upd H1 t (.tup [v, sv]))) (vs ++ [.ref t]) (cs ++ [(o, x)]) := (hcs1.mono fun v x (k : CallAt H1 v x) => k.same wt).app (.cons ⟨t, v, sv, rfl, htt, ho1.same wt, hst1.same wt⟩ .nil)
  have s2 := s1.trans wt
  generalize upd H1 t (.tup [v, sv]) = H2 at htt hp2 hc2 hr2 hcs2 s2 ⊢
  have pc : p ≠ c := hL.ne
  have hp3 : (upd H2 c (.lst (vs ++ [.ref t]))) p = some (.ins C dx (fldsL sv c)) := by rw [upd_ne pc]; exact hp2
  refine ⟨_, rfl, _, rfl, p, C, dx, _, rfl, hp3, TLiveLog.cl, TLiveLog.nS, (by rw [fldsL_eq]; show 2 < 1000; decide), ?_⟩
  rw [fldsL_put]
  have T3 : Tups H2 (upd (upd H2 c (.lst (vs ++ [.ref t]))) p (.ins C dx (fldsL r c))) := fun a xs k => by
    rw [upd_ne (ne_of k hp2 (fun z => by cases z)), upd_ne (ne_of k hc2 (fun z => by cases z))]
    exact k
  refine q _ (fun b ob k nb nc => ?_) ⟨dx, r, vs ++ [.ref t], upd_same, hr2.tups T3, ?_, hcs2.mono fun v x (k : CallAt H2 v x) => k.tups T3⟩
  · rw [upd_ne nb, upd_ne nc]
    exact s2 _ _ k
  · rw [upd_ne (fun z => pc z.symm)]
    exact upd_same
def spCallL (C : Addr) (mkop : Nat → LOp) (few : Bool) : Sp := fun vs H Q _ => ∃ (p c : Addr) (x : LS) (cs : List (LOp × LS)) (k : Nat), vs = (if few then [.ref p] else [.ref p, .int (k : Int)]) ∧ LogAt C H p c x cs ∧ lgood x ∧ lok x (mkop k) ∧ cs.length ≤ 1000 ∧
  ∀ (H' : Hp), ButL p c H H' → LogAt C H' p c (lafter x (mkop k)) (cs ++ [(mkop k, x)]) → Q .non H'
theorem ok_log_append {f g1 C : Addr} {fd d1 : FuncData} (F : Fun K "append" "LiveLog.append" sLiveLogAppend f fd) (TLiveLog : TLog K C)
    (GLiveLogPerform : FnOk P w K mg base CX0 10 g1 d1 ["self", "operation"] (spPerform C)) (MLiveLogPerform : Meth K C "_perform" g1) (BLiveLogPerform : Binds K d1 ["self", "operation"] []) : FnOk P w K mg base CX0 11 f fd ["self", "number"] (spCallL C .app false) := by
  refine F.ok scLiveLogAppend (fun vs H Q E h => ?_) (fun cdv A outer s H vs Q E hr h => ?_)
  · obtain ⟨_, _, _, _, _, rfl, _⟩ := h
    rfl
  obtain ⟨p, c, x, cs, k, rfl, hL, hg, hok, hl, q⟩ := h
  refine ⟨_, (pss_one (ps_expr (pe_meth (pv 0) TLiveLog.cl MLiveLogPerform GLiveLogPerform (hr.mono (by decide)) BLiveLogPerform .nil pass0 (pa_cons (pe_tup (pa_cons pe_str (pa_cons (pv 1) pa_nil))) pa_nil)))), ?_⟩
  have two : 2 ≤ sizeLine := by decide
  obtain ⟨dx, sv, vs, hp, _⟩ := id hL
  refine ⟨_, rfl, p, dx, _, rfl, hp, fldsL_no _ _ no_perform.1 no_perform.2, _, rfl, two, fun t nt => ?_⟩
  have wt := same_upd (o := .tup [.str "append", .int (k : Int)]) nt
  exact ⟨p, c, x, cs, .ref t, .app k, rfl, hL.same wt, ⟨t, rfl, upd_same⟩, hg, hok, hl, fun H' B hL' => q H' ((ButL.of wt).trans B) hL'⟩
theorem ok_log_mark {f g1 C : Addr} {fd d1 : FuncData} (F : Fun K "mark" "LiveLog.mark" sLiveLogMark f fd) (TLiveLog : TLog K C)
    (GLiveLogPerform : FnOk P w K mg base CX0 10 g1 d1 ["self", "operation"] (spPerform C)) (MLiveLogPerform : Meth K C "_perform" g1) (BLiveLogPerform : Binds K d1 ["self", "operation"] []) : FnOk P w K mg base CX0 11 f fd ["self"] (spCallL C (fun _ => .mark) true) := by
  refine F.ok scLiveLogMark (fun vs H Q E h => ?_) (fun cdv A outer s H vs Q E hr h => ?_)
  · obtain ⟨_, _, _, _, _, rfl, _⟩ := h
    rfl
  obtain ⟨p, c, x, cs, k, rfl, hL, hg, hok, hl, q⟩ := h
  refine ⟨_, (pss_one (ps_expr (pe_meth (pv 0) TLiveLog.cl MLiveLogPerform GLiveLogPerform (hr.mono (by decide)) BLiveLogPerform .nil pass0 (pa_cons (pe_tup (pa_cons pe_str pa_nil)) pa_nil)))), ?_⟩
  have one1 : 1 ≤ sizeLine := by decide
  obtain ⟨dx, sv, vs, hp, _⟩ := id hL
  refine ⟨_, rfl, p, dx, _, rfl, hp, fldsL_no _ _ no_perform.1 no_perform.2, one1, fun t nt => ?_⟩
  have wt := same_upd (o := .tup [.str "mark"]) nt
  exact ⟨p, c, x, cs, .ref t, .mark, rfl, hL.same wt, ⟨t, rfl, upd_same⟩, hg, hok, hl, fun H' B hL' => q H' ((ButL.of wt).trans B) hL'⟩
end
end LT

namespace LT
open PySem PySem.Spec PyProof.Rows L2
/-! ### what is shown fits -/
def small (x : Nat × Nat) : Prop := x.1 ≤ 1000 ∧ x.2 ≤ 1000
theorem int_short {a : Nat} (h : a ≤ 1000000) : (PyData.shown (.int ((a : Nat) : Int))).length ≤ 13 := PyData.shown_int_le (by show a < 10 ^ 12; omega)
theorem int_weight {a : Nat} (h : a ≤ 1000000) : PyData.weight (.int ((a : Nat) : Int)) ≤ 20 := by
  show (if ((a : Nat) : Int) == 0 then 0 else ((a : Nat) : Int).natAbs.log2 + 1) ≤ 20
  split
  · omega
  · rename_i z
    have : ((a : Nat) : Int).natAbs = a := rfl
    rw [this]
    have a0 : a ≠ 0 := fun e => z (by subst e; rfl)
    have := (Nat.log2_lt (k := 20) a0).mpr (by omega)
    omega
theorem nds_short : ∀ l : List (Nat × Nat), (∀ x ∈ l, small x) → PyData.intsShortAll 13 (l.map nd) = true
  | [], _ => rfl
  | x :: l, h => by
    have hx := h x List.mem_cons_self
    simp only [List.map_cons, PyData.intsShortAll, nd, PyData.intsShort, Bool.and_eq_true, decide_eq_true_eq, Bool.and_true]
    exact ⟨⟨int_short (by have := hx.1; omega), int_short (by have := hx.2; omega)⟩, nds_short l fun y hy => h y (List.mem_cons_of_mem _ hy)⟩
theorem nds_weight : ∀ l : List (Nat × Nat), (∀ x ∈ l, small x) → PyData.weightAll (l.map nd) ≤ 43 * l.length
  | [], _ => Nat.le_refl _
  | x :: l, h => by
    have hx := h x List.mem_cons_self
    have ih := nds_weight l fun y hy => h y (List.mem_cons_of_mem _ hy)
    have w1 := int_weight (a := x.1) (by have := hx.1; omega)
    have w2 := int_weight (a := x.2) (by have := hx.2; omega)
    have e : PyData.weightAll ((x :: l).map nd) = (PyData.weight (.int ((x.1 : Nat) : Int)) + 1 + (PyData.weight (.int ((x.2 : Nat) : Int)) + 1 + 0)) + 1 + PyData.weightAll (l.map nd) := by
      simp only [List.map_cons, PyData.weightAll, nd, PyData.weight]
    rw [e, List.length_cons]
    omega
theorem nds_fits (l : List (Nat × Nat)) (h : ∀ x ∈ l, small x) (hl : l.length ≤ 1000) : (PyData.list (l.map nd)).shown.length ≤ sizeLine := by
  have w := nds_weight l h
  refine PyData.shown_fits (B := 13) (by decide) (by decide) (PyData.leavesShort_of_canLay0 13 _ ?_ ?_) ?_
  · simp only [PyData.canLay0]
    exact nds_lay l
  · simp only [PyData.intsShort]
    exact nds_short l h
  · show PyData.weightAll (l.map nd) ≤ 2 ^ 20
    omega
theorem nds_showable : ∀ l : List (Nat × Nat), (∀ x ∈ l, small x) → PyData.showableAll (l.map nd) = true
  | [], _ => rfl
  | x :: l, h => by
    have hx := h x List.mem_cons_self
    simp only [List.map_cons, PyData.showableAll, nd, PyData.showable, Bool.and_eq_true, Bool.and_true]
    exact ⟨⟨decide_eq_true (Nat.lt_of_le_of_lt (Nat.log2_le_self _) (by have := hx.1; show ((x.1 : Nat) : Int).natAbs < 1920; omega)), decide_eq_true (Nat.lt_of_le_of_lt (Nat.log2_le_self _) (by have := hx.2; show ((x.2 : Nat) : Int).natAbs < 1920; omega))⟩, nds_showable l fun y hy => h y (List.mem_cons_of_mem _ hy)⟩
def nats (l : List Nat) : List PyData := l.map fun a => .int ((a : Nat) : Int)
theorem nats_short : ∀ l : List Nat, (∀ x ∈ l, x ≤ 1000) → PyData.intsShortAll 13 (nats l) = true
  | [], _ => rfl
  | x :: l, h => by
    have hx := h x List.mem_cons_self
    simp only [nats, List.map_cons, PyData.intsShortAll, PyData.intsShort, Bool.and_eq_true, decide_eq_true_eq]
    exact ⟨int_short (by omega), nats_short l fun y hy => h y (List.mem_cons_of_mem _ hy)⟩
theorem nats_weight : ∀ l : List Nat, (∀ x ∈ l, x ≤ 1000) → PyData.weightAll (nats l) ≤ 21 * l.length
  | [], _ => Nat.le_refl _
  | x :: l, h => by
    have hx := h x List.mem_cons_self
    have ih := nats_weight l fun y hy => h y (List.mem_cons_of_mem _ hy)
    have w1 := int_weight (a := x) (by omega)
    have e : PyData.weightAll (nats (x :: l)) = PyData.weight (.int ((x : Nat) : Int)) + 1 + PyData.weightAll (nats l) := by
      simp only [nats, List.map_cons, PyData.weightAll]
    rw [e, List.length_cons]
    omega
theorem nats_lay (l : List Nat) : PyData.canLayAll0 (nats l) = true := by
  unfold nats
  have := ints_lay (l.map fun a => ((a : Nat) : Int))
  rw [List.map_map] at this
  exact this
theorem nats_shaped (l : List Nat) : SeqAt.shaped (.list (nats l)) = true := by
  have := ints_shaped (l.map fun a => ((a : Nat) : Int))
  rw [List.map_map] at this
  exact this
theorem nats_dp {K : PySem.W.Frag} {H : Hp} (l : List Nat) : DpAll K H (l.map fun a => V.int ((a : Nat) : Int)) (nats l) := by
  have := ints_dp (K := K) (H := H) (l.map fun a => ((a : Nat) : Int))
  rw [List.map_map, List.map_map] at this
  exact this
theorem nats_fits (l : List Nat) (h : ∀ x ∈ l, x ≤ 1000) (hl : l.length ≤ 1000) : (PyData.list (nats l)).shown.length ≤ sizeLine := by
  have w := nats_weight l h
  refine PyData.shown_fits (B := 13) (by decide) (by decide) (PyData.leavesShort_of_canLay0 13 _ ?_ ?_) ?_
  · simp only [PyData.canLay0]
    exact nats_lay l
  · simp only [PyData.intsShort]
    exact nats_short l h
  · show PyData.weightAll (nats l) ≤ 2 ^ 20
    omega
theorem nats_showable : ∀ l : List Nat, (∀ x ∈ l, x ≤ 1000) → PyData.showableAll (nats l) = true
  | [], _ => rfl
  | x :: l, h => by
    have hx := h x List.mem_cons_self
    simp only [nats, List.map_cons, PyData.showableAll, PyData.showable, Bool.and_eq_true]
    exact ⟨decide_eq_true (Nat.lt_of_le_of_lt (Nat.log2_le_self _) (by show ((x : Nat) : Int).natAbs < 1920; omega)), nats_showable l fun y hy => h y (List.mem_cons_of_mem _ hy)⟩
/-- a whole number and a pair of them -/
def numPair (a b c : Nat) : PyData := .list [.int ((a : Nat) : Int), .tuple [.int ((b : Nat) : Int), .int ((c : Nat) : Int)]]
theorem numPair_shaped (a b c : Nat) : SeqAt.shaped (numPair a b c) = true := by
  show (PyData.canLay0 _ && decide (PyData.depth _ ≤ 64)) = true
  simp [numPair, PyData.canLay0, PyData.canLayAll0, PyData.depth, PyData.depthAll]
theorem numPair_showable {a b c : Nat} (h1 : a ≤ 1000000) (h2 : b ≤ 1000) (h3 : c ≤ 1000) : (numPair a b c).showable = true := by
  simp only [numPair, PyData.showable, PyData.showableAll, Bool.and_eq_true, Bool.and_true]
  have big : ∀ x : Nat, x ≤ 1000000 → decide (((x : Nat) : Int).natAbs.log2 < 1920) = true := fun x hx => decide_eq_true (by
    show x.log2 < 1920
    by_cases z : x = 0
    · subst z; decide
    · have := (Nat.log2_lt (k := 20) z).mpr (by omega)
      omega)
  exact ⟨big a h1, big b (by omega), big c (by omega)⟩
theorem numPair_fits {a b c : Nat} (h1 : a ≤ 1000000) (h2 : b ≤ 1000) (h3 : c ≤ 1000) : (numPair a b c).shown.length ≤ sizeLine := by
  have w1 := int_weight h1
  have w2 := int_weight (a := b) (by omega)
  have w3 := int_weight (a := c) (by omega)
  refine PyData.shown_fits (B := 13) (by decide) (by decide) (PyData.leavesShort_of_canLay0 13 _ ?_ ?_) ?_
  · simp [numPair, PyData.canLay0, PyData.canLayAll0]
  · simp only [numPair, PyData.intsShort, PyData.intsShortAll, Bool.and_eq_true, decide_eq_true_eq, Bool.and_true]
    exact ⟨int_short h1, int_short (by omega), int_short (by omega)⟩
  · have e : (numPair a b c).weight = PyData.weight (.int ((a : Nat) : Int)) + 1 + ((PyData.weight (.int ((b : Nat) : Int)) + 1 + (PyData.weight (.int ((c : Nat) : Int)) + 1 + 0)) + 1 + 0) := by
      simp only [numPair, PyData.weight, PyData.weightAll]
    rw [e]
    omega
/-! ### repr of single values -/
def reprS : V → Str
  | .int i => toString i
  | .bl b => if b then "True" else "False"
  | _ => "None"
def reprOk : V → Prop
  | .int i => i.natAbs.log2 < 1920
  | .bl _ => True
  | .non => True
  | _ => False
theorem call_reprS {X : Cx} : CallR X (.builtin "repr") (fun xs H Q => ∃ v, xs = [v] ∧ reprOk v ∧ Q (.str (reprS v)) H) := by
  intro pins s σ H xs us Q I r h
  obtain ⟨v, rfl, ok, q⟩ := h
  cases v with
  | int i =>
    obtain ⟨u, rfl, t, rfl⟩ := vals1 r
    exact PySem.P.repr_of_int ok ⟨.str _, H, I.tok _, ⟨_, rfl⟩, q⟩
  | bl b =>
    obtain ⟨u, rfl, e⟩ := vals1 r
    cases (show u = Value.bool b from e)
    exact PySem.P.repr_of_bool ⟨.str _, H, I.tok _, ⟨_, rfl⟩, q⟩
  | non =>
    obtain ⟨u, rfl, e⟩ := vals1 r
    cases (show u = Value.none from e)
    exact PySem.P.repr_of_none ⟨.str _, H, I.tok _, ⟨_, rfl⟩, q⟩
  | str _ => exact ok.elim
  | byt _ => exact ok.elim
  | flt _ => exact ok.elim
  | ref _ => exact ok.elim
  | ty _ => exact ok.elim
end LT

namespace LT
open PySem PySem.Spec PyProof.Rows L2
section
variable {X : Cx} {o : Expr} {f : Str} {pos : Pos} {to : TE}
/-- an attribute as a target within others -/
def gFld (K : PySem.W.Frag) (to : TE) (f : Str) : TG := fun v σ H Q => to σ H fun x H1 => ∃ (a C dx : Addr) (fs : List (Str × V)), x = .ref a ∧ H1 a = some (.ins C dx fs) ∧ Cls K C ∧ NoAttr K C f ∧ fs.length < 1000 ∧ Q σ (upd H1 a (.ins C dx (putF f v fs)))
theorem pg_fld (ho : PE X o to) : PG X (.Attribute o f pos) (gFld X.K to f) := by
  refine ⟨fun pins s σ H v u Q I r h => ?_⟩
  rw [assign_Attribute]
  refine wpAny_bind (wpAny_holding (thn (ho.run pins s σ H _ I h) fun ov s1 ⟨x, H1, I1, r1, q1⟩ => ?_))
  obtain ⟨a, C, dx, fs, ex, ea, c, n, l, q2⟩ := q1
  subst ex
  obtain rfl : ov = Value.ref a := r1
  refine wpAny_bind (wpAny_standAt (wpAny_bind (wpAny_holding (setattr_ok I1 ea c n l r fun s2 I2 => ?_))))
  exact wpAny_release ⟨σ, _, I2, q2⟩
end
end LT

namespace LT
open PySem PySem.Spec PyProof.Rows L2
/-- what the top tells of the classes for isinstance -/
structure TIs (K : PySem.W.Frag) (C D : Addr) : Prop where
  ha : PySem.W.findIn K (.ref C) "__class__" = some (some (.builtin "object.__class__"))
  hn : PySem.W.specialIn K (.builtin "object.__class__") "__get__" = some (some (.builtin "getset_descriptor.__get__"))
  htk : PySem.W.takesIn K (.builtin "object.__class__") = some true
  hm : PySem.W.mroIn K C (.type "object") = some true
  kC : PySem.W.kitOne K (.ref C) (.ref C) = some true
  kD : PySem.W.kitOne K (.ref C) (.ref D) = some false
def stD (x : LS) : PyData := .tuple [.int (x.1 : Int), .tuple (nats x.2.1), .int x.2.2]
theorem stD_shaped (x : LS) : SeqAt.shaped (stD x) = true := by
  have a := nats_lay x.2.1
  have b : PyData.depthAll (nats x.2.1) ≤ 1 := by
    have := ints_depth (x.2.1.map fun a => ((a : Nat) : Int))
    rw [List.map_map] at this
    exact this
  show (PyData.canLay0 _ && decide (PyData.depth _ ≤ 64)) = true
  rw [Bool.and_eq_true]
  refine ⟨by simp only [stD, PyData.canLay0, PyData.canLayAll0, a, Bool.and_true, Bool.true_and], decide_eq_true ?_⟩
  simp only [stD, PyData.depth, PyData.depthAll]
  omega
theorem nats_reflA : ∀ l : List Nat, PyData.eqvAll (nats l) (nats l) = true := by
  intro l
  induction l with
  | nil => simp only [nats, List.map_nil, PyData.eqvAll]
  | cons a t ih =>
    unfold nats at ih ⊢
    simp only [List.map_cons, PyData.eqvAll, PyData.eqv, ih, Bool.and_true, beq_self_eq_true]
theorem stD_refl (x : LS) : PyData.eqv (stD x) (stD x) = true := by
  simp only [stD, PyData.eqv, PyData.eqvAll, nats_reflA, beq_self_eq_true, Bool.and_true]
theorem StAt.dp {K : PySem.W.Frag} {H : Hp} {v : V} {x : LS} (h : StAt H v x) : Dp K H v (stD x) := by
  obtain ⟨t, m, rfl, a, b⟩ := h
  exact .tup (SqT.of a) (.cons (.int _) (.cons (.tup (SqT.of b) (nats_dp x.2.1)) (.cons (.int _) .nil)))
theorem LogAt.lst {C : Addr} {H : Hp} {p c : Addr} {x : LS} {cs : List (LOp × LS)} (h : LogAt C H p c x cs) : ∃ dx fs, H p = some (.ins C dx fs) ∧ (∀ m : Str, (¬ m = "_calls" ∧ ¬ m = "_state") → fs.lookup m = none) ∧ ∃ vs, H c = some (.lst vs) := by
  obtain ⟨dx, v, vs, a, b, d, e⟩ := h
  exact ⟨dx, _, a, fun m k => fldsL_no _ _ k.1 k.2, vs, d⟩
theorem LogAt.off {C : Addr} {H H' : Hp} {p c q : Addr} {x : LS} {cs : List (LOp × LS)} {ys : List V} (h : LogAt C H p c x cs) (k : ∀ a, a ≠ q → H' a = H a) (hq : H q = some (.lst ys)) (cq : c ≠ q) : LogAt C H' p c x cs := by
  obtain ⟨dx, v, vs, a, b, d, e⟩ := h
  have T : Tups H H' := fun a xs e => by rw [k a (ne_of e hq (fun z => by cases z))]; exact e
  exact ⟨dx, v, vs, by rw [k p (ne_of a hq (fun z => by cases z))]; exact a, b.tups T, by rw [k c cq]; exact d, e.mono fun v x (k : CallAt H v x) => k.tups T⟩
/-- one log stays where another one changes -/
theorem LogAt.other {C : Addr} {H H' : Hp} {p c p' c' : Addr} {x x' : LS} {cs cs' : List (LOp × LS)} (h : LogAt C H p c x cs) (h' : LogAt C H p' c' x' cs') (k : ButL p' c' H H') (pp : p ≠ p') (cc : c ≠ c') : LogAt C H' p c x cs := by
  have T := k.tups h'
  obtain ⟨dx, v, vs, a, b, d, e⟩ := h
  obtain ⟨dx', v', vs', a', b', d', e'⟩ := h'
  exact ⟨dx, v, vs, k _ _ a pp (ne_of a d' (fun z => by cases z)), b.tups T, k _ _ d (ne_of d a' (fun z => by cases z)) cc, e.mono fun v x (k : CallAt H v x) => k.tups T⟩
section
variable {P : Program} {w : World} {K : PySem.W.Frag} {mg : Str → Option Value} {base : Heap}
def spSpent (C : Addr) : Sp := fun vs H Q _ => ∃ (p c : Addr) (x : LS) (cs : List (LOp × LS)), vs = [.ref p] ∧ LogAt C H p c x cs ∧ Q (.int x.2.2) H
theorem ok_log_spent {f C : Addr} {fd : FuncData} (F : Fun K "spent" "LiveLog.spent" sLiveLogSpent f fd) (T : TLog K C) : FnOk P w K mg base CX0 1 f fd ["self"] (spSpent C) := by
  refine F.ok scLiveLogSpent (fun vs H Q E h => ?_) (fun cdv A outer s H vs Q E hr h => ?_)
  · obtain ⟨_, _, _, _, rfl, _⟩ := h
    rfl
  obtain ⟨p, c, x, cs, rfl, ⟨dx, _, vs, hp, ⟨t, m, rfl, ht, hm⟩, hc, hcs⟩, q⟩ := h
  refine ⟨_, (pss_one (ps_ret (pe_ix ix_tup (pe_fld (pv 0) rfl) pe_int (fun _ _ => rfl)))), ?_⟩
  exact ⟨_, rfl, p, C, dx, _, _, rfl, hp, T.cl, T.nS, fldsL_state _ _, t, _, _, _, rfl, rfl, SqT.of ht, atI_nat (j := 2) rfl, q⟩
theorem ok_log_cut {f g1 C : Addr} {fd d1 : FuncData} (F : Fun K "cut" "LiveLog.cut" sLiveLogCut f fd) (TLiveLog : TLog K C)
    (GLiveLogPerform : FnOk P w K mg base CX0 10 g1 d1 ["self", "operation"] (spPerform C)) (MLiveLogPerform : Meth K C "_perform" g1) (BLiveLogPerform : Binds K d1 ["self", "operation"] []) : FnOk P w K mg base CX0 11 f fd ["self", "size"] (spCallL C .cut false) := by
  refine F.ok scLiveLogCut (fun vs H Q E h => ?_) (fun cdv A outer s H vs Q E hr h => ?_)
  · obtain ⟨_, _, _, _, _, rfl, _⟩ := h
    rfl
  obtain ⟨p, c, x, cs, k, rfl, hL, hg, hok, hl, q⟩ := h
  refine ⟨_, (pss_one (ps_expr (pe_meth (pv 0) TLiveLog.cl MLiveLogPerform GLiveLogPerform (hr.mono (by decide)) BLiveLogPerform .nil pass0 (pa_cons (pe_tup (pa_cons pe_str (pa_cons (pv 1) pa_nil))) pa_nil)))), ?_⟩
  have two : 2 ≤ sizeLine := by decide
  obtain ⟨dx, sv, vs, hp, _⟩ := id hL
  refine ⟨_, rfl, p, dx, _, rfl, hp, fldsL_no _ _ no_perform.1 no_perform.2, _, rfl, two, fun t nt => ?_⟩
  have wt := same_upd (o := .tup [.str "cut", .int (k : Int)]) nt
  exact ⟨p, c, x, cs, .ref t, .cut k, rfl, hL.same wt, ⟨t, rfl, upd_same⟩, hg, hok, hl, fun H' B hL' => q H' ((ButL.of wt).trans B) hL'⟩
def spLog (C : Addr) : Sp := fun vs H Q _ => ∃ (p c : Addr) (x : LS) (cs : List (LOp × LS)), vs = [.ref p] ∧ LogAt C H p c x cs ∧ cs.length ≤ 1000 ∧
  ∀ (H' : Hp) (r : Addr) (ys : List V), Same H H' → H r = none → H' r = some (.lst ys) → All2 (OpAt H') ys (cs.map (·.1)) → Q (.ref r) H'
theorem OpAt.updL {H : Hp} {v : V} {o : LOp} {s : Addr} {xs : List V} {ob : HO} (h : OpAt H v o) (hs : H s = some (.lst xs)) : OpAt (upd H s ob) v o := by
  cases o <;> (obtain ⟨t, e, a⟩ := h; exact ⟨t, e, by rw [upd_ne (ne_of a hs (fun z => by cases z))]; exact a⟩)
theorem ok_log_log {f C : Addr} {fd : FuncData} (F : Fun K "log" "LiveLog.log" sLiveLogLog f fd) (T : TLog K C) : FnOk P w K mg base CX0 1 f fd ["self"] (spLog C) := by
  refine F.ok scLiveLogLog (fun vs H Q E h => ?_) (fun cdv A outer s H vs Q E hr h => ?_)
  · obtain ⟨_, _, _, _, rfl, _⟩ := h
    rfl
  obtain ⟨p, c, x, cs, rfl, ⟨dx, sv, vs, hp, hst, hc, hcs⟩, hl, q⟩ := h
  refine ⟨_, (pss_one (ps_ret (pe_lc (own := [("operation", 1), ("_", 2)]) rfl scLiveLogLog.nd (pi_list (pe_fld (pv 0) rfl)) (blkOk_by (N := ["self", "operation", "_"]) (sc := defScope sLiveLogLog) (by decide +kernel)) (fun _ _ _ _ _ => (pg_tupB (n := 2) rfl (pgs_cons (pg_name (i := 1) scLiveLogLog.nd rfl (Or.inl rfl)) (pgs_cons (pg_name (i := 2) scLiveLogLog.nd rfl (Or.inl rfl)) pgs_nil)))) (fun _ _ _ _ _ => pts_nil) (fun _ _ _ _ _ => (pv 1))))), ?_⟩
  refine ⟨_, rfl, p, C, dx, _, _, rfl, hp, T.cl, T.nC, fldsL_calls _ _, c, rfl, ⟨_, SqL.of hc⟩, fun D nD => ?_⟩
  refine lc_list (K := K) (a := c) (xs := vs) (fun j H' => ∃ zs : List V, Same H H' ∧ H' D = some (.lst zs) ∧ All2 (OpAt H') zs ((cs.take j).map (·.1))) ⟨[], same_upd nD, upd_same, .nil⟩ (fun j H' _ ⟨_, s1, _⟩ => SqL.of (s1 _ _ hc)) ?_ ?_
  · rintro j v H1 hj ⟨zs, s1, hD, hz⟩
    obtain ⟨y, hyj, hy⟩ := hcs.nth hj
    have jl := (List.getElem?_eq_some_iff.mp hyj).1
    obtain ⟨t, o, st, rfl, ht, ho, _⟩ := hy.same s1
    refine ⟨t, _, rfl, SqT.of ht, rfl, _, _, rfl, _, _, rfl, rfl, rfl, ?_⟩
    refine ⟨_, rfl, zs, hD, szlt (by rw [hz.len, List.length_map, List.length_take]; omega), zs ++ [o], ?_, upd_same, ?_⟩
    · exact fun a ob k => by rw [upd_ne (ne_of_none k nD)]; exact s1 _ _ k
    · rw [take_more hyj, List.map_append]
      exact (hz.mono fun v x (k : OpAt H1 v x) => k.updL hD).app (.cons (ho.updL hD) .nil)
  rintro H1 ⟨zs, s1, hD, hz⟩
  rw [hcs.len, List.take_length] at hz
  exact q H1 D zs s1 nD hD hz
def spUndo (C : Addr) : Sp := fun vs H Q _ => ∃ (p c : Addr) (x y : LS) (cs : List (LOp × LS)) (o : LOp), vs = [.ref p] ∧ LogAt C H p c x (cs ++ [(o, y)]) ∧ ∀ (H' : Hp), ButL p c H H' → LogAt C H' p c y cs → Q .non H'
theorem All2.last {α : Type} {R : V → α → Prop} : ∀ {vs : List V} {us : List α} {x : α}, All2 R vs (us ++ [x]) → ∃ vs' v, vs = vs' ++ [v] ∧ All2 R vs' us ∧ R v x
  | _, [], _, .cons h .nil => ⟨[], _, rfl, .nil, h⟩
  | _, u :: us, x, .cons h t => by
    obtain ⟨vs', v, e, a, r⟩ := All2.last t
    exact ⟨_ :: vs', v, by rw [e]; rfl, .cons h a, r⟩
theorem ok_log_undo {f C : Addr} {fd : FuncData} (F : Fun K "undo" "LiveLog.undo" sLiveLogUndo f fd) (T : TLog K C) : FnOk P w K mg base CX0 1 f fd ["self"] (spUndo C) := by
  refine F.ok scLiveLogUndo (fun vs H Q E h => ?_) (fun cdv A outer s H vs Q E hr h => ?_)
  · obtain ⟨_, _, _, _, _, _, rfl, _⟩ := h
    rfl
  obtain ⟨p, c, x, y, cs, o, rfl, hL, q⟩ := h
  have pc := hL.ne
  obtain ⟨dx, sv, vs, hp, hst, hc, hcs⟩ := hL
  obtain ⟨vs', v, rfl, hcs', hv⟩ := hcs.last
  obtain ⟨t, ov, st, rfl, ht, ho, hst'⟩ := hv
  refine ⟨_, (pss_cons (ps_if (pt_not (pt_truth (pe_fld (pv 0) rfl) (fun _ => rfl)))
    (pss_one ps_never)
    pss_nil)
    (pss_one (ps_asg (pe_bm0 PySem.F.plainAttrs_list PySem.F.slot_list_pop PySem.F.type_list_pop mt_pop (pe_fld (pv 0) rfl)) (pg_tup (by rfl) (pgs_cons (pg_name (i := 1) scLiveLogUndo.nd rfl (Or.inl rfl)) (pgs_cons (pg_fld (pv 0)) pgs_nil)))))), ?_⟩
  have te : (!(vs' ++ [V.ref t]).isEmpty) = true := by cases vs' <;> rfl
  have ixe : (vs' ++ [V.ref t])[(vs' ++ [V.ref t]).length - 1]? = some (.ref t) := by rw [List.length_append, List.length_singleton, Nat.add_sub_cancel]; exact List.getElem?_concat_length
  refine ⟨_, rfl, p, C, dx, _, _, rfl, hp, T.cl, T.nC, fldsL_calls _ _, true, .inl ⟨_, SqL.of hc, te.symm⟩, ?_⟩
  refine ⟨_, rfl, p, C, dx, _, _, rfl, hp, T.cl, T.nC, fldsL_calls _ _, .inl ⟨rfl, _, SqL.of hc⟩, c, _, _, rfl, rfl, hc, ixe, ?_⟩
  rw [List.dropLast_concat]
  have hp1 : (upd H c (.lst vs')) p = some (.ins C dx (fldsL sv c)) := by rw [upd_ne pc]; exact hp
  have ht1 : (upd H c (.lst vs')) t = some (.tup [ov, st]) := by rw [upd_ne (ne_of ht hc (fun z => by cases z))]; exact ht
  refine ⟨t, _, rfl, SqT.of ht1, rfl, _, _, rfl, _, _, rfl, _, rfl, p, C, dx, _, rfl, hp1, T.cl, T.nS, (by rw [fldsL_eq]; show 2 < 1000; decide), rfl, ?_⟩
  rw [fldsL_put]
  have T3 : Tups H (upd (upd H c (.lst vs')) p (.ins C dx (fldsL st c))) := fun a xs k => by
    rw [upd_ne (ne_of k hp (fun z => by cases z)), upd_ne (ne_of k hc (fun z => by cases z))]
    exact k
  refine q _ (fun b ob k nb nc => ?_) ⟨dx, st, vs', upd_same, hst'.tups T3, ?_, hcs'.mono fun v x (k : CallAt H v x) => k.tups T3⟩
  · rw [upd_ne nb, upd_ne nc]
    exact k
  · rw [upd_ne (fun z => pc z.symm)]
    exact upd_same
/-- two logs in one state -/
def EqL (C : Addr) : Addr → Addr → Hp → Prop := fun a b H => ∃ (ca cb : Addr) (x : LS) (csa csb : List (LOp × LS)), LogAt C H a ca x csa ∧ LogAt C H b cb x csb
theorem ok_log_eq {f CLiveLog CBudgetLog : Addr} {fd : FuncData} (F : Fun K "__eq__" "LiveLog.__eq__" sLiveLogEq f fd) (TLiveLog : TLog K CLiveLog) (TI : TIs K CLiveLog CBudgetLog) (gLiveLog : mg "LiveLog" = some (.ref CLiveLog)) (gBudgetLog : mg "BudgetLog" = some (.ref CBudgetLog)) (z_isinstance : mg "isinstance" = none) :
    FnOk P w K mg base CX0 1 f fd ["self", "other"] (spEq (EqL CLiveLog)) := by
  refine F.ok scLiveLogEq (fun vs H Q E h => ?_) (fun cdv A outer s H vs Q E hr h => ?_)
  · obtain ⟨_, _, rfl, _⟩ := h
    rfl
  obtain ⟨a, b, rfl, ⟨ca, cb, x, csa, csb, hA, hB⟩, q⟩ := h
  refine ⟨_, (pss_cons (ps_if (PW.pt (pw_or (pt_not (pt_val (pe_callB call_isi (by rfl) z_isinstance (by decide +kernel) (pa_cons (pv 1) (pa_cons (pe_glob (v := .ref CLiveLog) rfl gLiveLog rfl) pa_nil))))) (pw_or1 (pt_val (pe_callB call_isi (by rfl) z_isinstance (by decide +kernel) (pa_cons (pv 1) (pa_cons (pe_glob (v := .ref CBudgetLog) rfl gBudgetLog rfl) pa_nil)))))))
    (pss_one (ps_ret pe_bl))
    pss_nil)
    (pss_one (ps_ret (pe_cmpR (op_eqD hr.units) (pe_fld (pv 0) rfl) (pe_fld (pv 1) rfl) (nomark _))))), ?_⟩
  obtain ⟨dx, sv, vs, hp, hst, hc, hcs⟩ := hA
  obtain ⟨dx', sv', vs', hp', hst', hc', hcs'⟩ := hB
  have ty : TyX K H (.ref b) (.ref CLiveLog) := .base (.ins hp' TLiveLog.cl TI.ha TI.hn TI.htk TI.hm)
  refine ⟨_, rfl, _, _, _, _, true, rfl, .own _, ty, TI.kC, true, rfl, ?_⟩
  refine ⟨_, rfl, _, _, _, _, false, rfl, .own _, ty, TI.kD, false, rfl, ?_⟩
  refine ⟨_, rfl, a, CLiveLog, dx, _, _, rfl, hp, TLiveLog.cl, TLiveLog.nS, fldsL_state _ _, _, rfl, b, CLiveLog, dx', _, _, rfl, hp', TLiveLog.cl, TLiveLog.nS, fldsL_state _ _, stD x, stD x, hst.dp, hst'.dp, stD_shaped x, stD_shaped x, ?_⟩
  rw [stD_refl]
  exact q H Ext.rfl'
end
end LT

namespace LT
open PySem PySem.Spec PyProof.Rows L2
/-! ### a def with *rest: the arguments behind the first come as a tuple -/
def BindsV (fd : FuncData) (p1 p2 : Str) (n : Nat) : Prop :=
  ∀ (u : Value) (rest : List Value), rest.length = n → bindArgs fd ⟨u :: rest, []⟩ = (newTuple rest >>= fun t => pure [(p1, u), (p2, t)])
/-- what a def with *rest promises, for n arguments behind the first -/
def FnOkV (P : Program) (w : World) (K : PySem.W.Frag) (mg : Str → Option Value) (base : Heap) (CX : CXT) (k : Nat) (f : Addr) (n : Nat) (sp : Sp) : Prop :=
  ∀ (A : Around) (outer : List Env) (s : Shared) (H H1 : Hp) (u : Value) (rest : List Value) (v : V) (Q : VK) (E : XK), Room k A → rest.length = n → n ≤ sizeLine → Env0 P w K mg base A outer s H →
    Env0 P w K mg base A outer { s with heap := s.heap.push { cls := .type "tuple", data := .seq rest.toArray } } H1 → RelV v u → sp [v, .ref s.heap.objs.size] H1 Q E →
    codeAny (model P w) A (.call (.ref f) ⟨u :: rest, []⟩) (CR CX outer P w H1 { s with heap := s.heap.push { cls := .type "tuple", data := .seq rest.toArray } } Q E) s
theorem fnV_of {CX : CXT} {P : Program} {w : World} {K : PySem.W.Frag} {mg : Str → Option Value} {base : Heap} {k n : Nat} {f : Addr} {name qual : Str} {params : Arguments} {body : List Stmt} {scope : Scope} {dV kV doc pm cdv ct oc : Value} {an od : Option Addr}
    {osl : Array (Option Value)} {N : List Str} {p1 p2 : Str} {sp : Sp} (lk : K.lookup f = some ⟨oc, od, .func (PySem.W.fnOf name qual params body scope dV kV doc pm an cdv ct), osl⟩) (hcd : PySem.W.codeIn K cdv qual = true) (S : FnScope N [p1, p2] scope)
    (hb : BindsV (PySem.W.fnOf name qual params body scope dV kV doc pm an cdv ct) p1 p2 n)
    (hbody : ∀ (A : Around) (outer : List Env) (s : Shared) (H : Hp) (vs : List V) (Q : VK) (E : XK), Room k (A.deeper (envOfC qual scope s.heap.objs.size f cdv)) → sp vs H Q E →
      ∃ t, PSs (cxOf CX P w K mg base N qual scope f cdv A outer s H E) body t ∧ t { nx := fun _ H' => Q .non H', rt := Q } (start N vs) H) :
    FnOkV P w K mg base CX (k + 1) f n sp := by
  intro A outer s0 H0 H1 u rest v Q E hr hn hz e00 e0 rv hsp
  have KX0 : K.In s0.heap := e00.mod.kin.keeps fun b o e => (e00.bs b o e).1
  refine codeAny_call_function hr.depth (KX0 _ _ lk) rfl S.co S.gen rfl (PySem.W.codeRec_of KX0 hcd) ?_
  rw [hb u rest hn]
  refine wpAny_bind (wpAny_newTuple (wpAny_pure ?_) (by rw [hn]; exact hz))
  have rt : RelV (V.ref s0.heap.objs.size) (Value.ref s0.heap.objs.size) := rfl
  revert e0 rt hsp
  generalize ({ s0 with heap := s0.heap.push { cls := .type "tuple", data := .seq rest.toArray } } : Shared) = s
  generalize V.ref s0.heap.objs.size = vt
  generalize Value.ref s0.heap.objs.size = ut
  intro e0 hsp rt
  have r : Vals [v, vt] [u, ut] := .cons rv (.cons rt .nil)
  have KX : K.In s.heap := e0.mod.kin.keeps fun b o e => (e0.bs b o e).1
  have lim : s.heap.NoLimit := e0.mod.nolimit.keeps fun b o e => (e0.bs b o e).1
  have hkind : ∀ y ∈ [p1, p2].zip [u, ut], scope.names.lookup y.1 = some .local ∨ (scope.names.lookup y.1 = some .cell ∧ ((cellsFrom (s.heap.objs.size + 1) scope.names []).lookup y.1).isSome = true) := fun ⟨n, v⟩ hy => by
    rcases S.par n (List.of_mem_zip hy).1 with q | q
    · exact .inl q
    · exact .inr ⟨q, PySem.W.cellsFrom_some _ _ _ (.inl q)⟩
  refine wpAny_newFunctionEnv_cells (binds := [p1, p2].zip [u, ut]) S.kind hkind fun env he s1 x => ?_
  subst he
  refine ⟨lim.keeps x.toInCall.keep, codeAny_func ?_⟩
  obtain ⟨t, ht, hq⟩ := hbody A outer s H1 [v, vt] Q E (hr.deeper _) hsp
  have I : Inv (cxOf CX P w K mg base N qual scope f cdv A outer s H1 E) [] (start N [v, vt]) H1 s1 := inv_start S hr.hd e0 rfl r x
  refine wpAny_mono (ht.run [] s1 (start N [v, vt]) H1 _ I hq) (fun fl s' hs => ?_) fun e s' hs => hs
  have fin : ∀ {σ' : L2.St} {H' : Hp} {v : V} {u : Value}, Inv (cxOf CX P w K mg base N qual scope f cdv A outer s H1 E) [] σ' H' s' → RelV v u → Q v H' → CE outer P w H1 s Q u s' :=
    fun {σ' H' v u} J rv q => ⟨v, H', J.os, J.bare, J.base, J.hok, rv, q⟩
  cases fl with
  | ret u =>
    obtain ⟨v, σ', H', J, rv, q⟩ := hs
    exact fin J rv q
  | next =>
    obtain ⟨σ', H', J, q⟩ := hs
    exact fin (v := V.non) (u := Value.none) J rfl q
  | brk =>
    obtain ⟨_, _, _, q⟩ := hs
    exact False.elim q
  | cont =>
    obtain ⟨_, _, _, q⟩ := hs
    exact False.elim q
/-- the rule for a def with *rest -/
theorem okV {P : Program} {w : World} {K : PySem.W.Frag} {mg : Str → Option Value} {base : Heap} {x qual : Str} {st : Stmt} {f : Addr} {fd : FuncData} {N : List Str} {p1 p2 : Str} {k n : Nat} {sp : Sp} (F : Fun K x qual st f fd) (S : FnScope N [p1, p2] (defScope st)) (hb : BindsV fd p1 p2 n)
    (hbody : ∀ (cdv : Value) (A : Around) (outer : List Env) (s : Shared) (H : Hp) (vs : List V) (Q : VK) (E : XK), Room k (A.deeper (envOfC qual (defScope st) s.heap.objs.size f cdv)) → sp vs H Q E →
      ∃ t, PSs (cxOf CX0 P w K mg base N qual (defScope st) f cdv A outer s H E).nox (defBody st) t ∧ t { nx := fun _ H' => Q .non H', rt := Q } (start N vs) H) : FnOkV P w K mg base CX0 (k + 1) f n sp := by
  obtain ⟨oc, od, kV, doc, pm, an, cdv, ct, osl, rfl, lk, hcd⟩ := F.ex
  refine fnV_of lk hcd S hb fun A outer s H vs Q E hr hsp => ?_
  obtain ⟨t, h, q⟩ := hbody cdv A outer s H vs Q E hr hsp
  exact ⟨t, h.nox, q⟩
/-- how its arguments bind -/
theorem Fun.bindsV {K : PySem.W.Frag} {x qual : Str} {st : Stmt} {f : Addr} {fd : FuncData} {p1 p2 : Str} {n : Nat} (F : Fun K x qual st f fd)
    (h : ∀ (kV doc pm : Value) (an : Option Addr) (cdv ct : Value), BindsV (PySem.W.fnOf x qual (defArgs st) (defBody st) (defScope st) .none kV doc pm an cdv ct) p1 p2 n) : BindsV fd p1 p2 n := by
  obtain ⟨oc, od, kV, doc, pm, an, cdv, ct, osl, rfl, lk, hcd⟩ := F.ex
  exact h kV doc pm an cdv ct
section
variable {X : Cx} {CX : CXT} {k : Nat} {f C : Addr} {sp : Sp} {E : XK} {m : Str} {pos apos : Pos} {e o : Expr} {es : List Expr} {ta : TE} {t : TA}
/-- o.m(e, ..) of a method with *rest -/
def tMethV (C : Addr) (m : Str) (n : Nat) (sp : Sp) (E : XK) (ta : TE) (t : TA) : TE := fun σ H Q => ta σ H fun x H1 => ∃ a dx fs, x = .ref a ∧ H1 a = some (.ins C dx fs) ∧ fs.lookup m = none ∧
  t σ H1 fun vs H2 => vs.length = n ∧ ∀ tp, H2 tp = none → sp [x, .ref tp] (upd H2 tp (.tup vs)) Q E
theorem pe_methV {pl : Sem Bool} {n : Nat} (he : PE X o ta) (c : Cls X.K C) (hm : Meth X.K C m f) (F : FnOkV X.prog X.w X.K X.mg X.base CX k f n sp) (hr : Room k X.A) (hz : n ≤ sizeLine) (hx : Passes CX X E) (ha : PA X (e :: es) t)
    (hst : starEach (e :: es) X.env = (false, eval e X.env) :: starEach es X.env := by rfl) (hpl : (backTo pos (starEach es X.env)).any (·.1) = false := by rfl)
    (ht : eval (.Call (.Attribute o m apos) (e :: es) [] pos) X.env = (do
      let ov ← eval o X.env
      standAt apos.atName
      let (f, first) ← holding [ov] (getMethod ov m pl)
      callWith pos f first (backTo pos (starEach (e :: es) X.env)) (backToKw pos (keywordEach [] X.env))) := by rfl) :
    PE X (.Call (.Attribute o m apos) (e :: es) [] pos) (tMethV C m n sp E ta t) := by
  refine ⟨fun pins s σ H Q I h => ?_⟩
  refine PySem.W.methodCall_KW (pl := pl) (thn (he.run pins s σ H _ I h) fun u s1 ⟨x, H1, I1, rx, a, dx, fs, ex, ea, l, q⟩ => ?_) ht
  subst ex
  obtain rfl : u = Value.ref a := rx
  refine getmeth_ok I1 ea c hm l ?_
  refine PySem.W.callWith_K (first := [.ref a]) (h₀ := X.base) I.ok.mod.kin hm.kp (thn (ha.run pos pins s1 σ H1 _ I1 q) fun us s2 ⟨vs, H2, I2, r, hl, q2⟩ => ⟨I2.kIn, ?_⟩) hst hpl
  have hf : H2 s2.heap.objs.size = none := I2.hok.fresh (Nat.le_refl _)
  have ul : us.length = n := by rw [← r.length]; exact hl
  have I3 : Inv X pins σ (upd H2 s2.heap.objs.size (.tup vs)) { s2 with heap := s2.heap.push { cls := .type "tuple", data := .seq us.toArray } } :=
    I2.laid (t' := s2.toks) (fun b u e => Heap.get?_push_of_some _ e) (Nat.le_refl _) ⟨by rw [hl]; exact hz, us, r, ⟨_, Heap.get?_push_size _ rfl, rfl, _, rfl⟩⟩
  refine wpAny_call (codeAny_mono (F X.A X.stack s2 H2 _ (.ref a) us (.ref a) Q E hr ul hz I2.env0 I3.env0 rfl (q2 _ hf)) fun r s' hq => ?_)
  cases r with
  | error e => exact hx pins σ _ _ e s' I3 hq
  | ok fl =>
    cases fl with
    | ret u => exact I3.after hq
    | next => exact False.elim hq
    | brk => exact False.elim hq
    | cont => exact False.elim hq
end
end LT

namespace LT
open PySem PySem.Spec PyProof.Rows L2
/-- x in D, D a written dict of the module -/
def rInK (K : PySem.W.Frag) (w : World) : R2 := fun x y H Q => ∃ (p : Addr) (z : Str) (v : V), x = .str z ∧ y = .ref p ∧ (p == sysModules) = false ∧ KDct K w p z v ∧ Q (.bl true) H
theorem op_inK {X : Cx} : OpR X (compareOp .In) (rInK X.K X.w) := by
  intro pins s σ H x y v u Q I rx ry h
  obtain ⟨p, z, r, rfl, rfl, hs, ⟨es, n, u0, hl, hk, e, ru⟩, q⟩ := h
  obtain rfl : u = Value.ref p := ry
  obtain ⟨t, rfl⟩ := rx
  have hm := PySem.W.mapOf_K (prog := X.prog) (w := X.w) I.kIn hl hk
  refine wpAny_in_of (strKind_is X.prog X.w z t) hs hm ?_
  rw [PySem.W.find_K hl e]
  exact ⟨.bl true, H, I.tok _, rfl, q⟩
/-- a call's word and how many parameters it has -/
structure Pars (K : PySem.W.Frag) (w : World) (D : Addr) : Prop where
  low : (D == sysModules) = false
  app : KDct K w D "append" (.int 1)
  mark : KDct K w D "mark" (.int 0)
  cut : KDct K w D "cut" (.int 1)
def lafters (x : LS) : List LOp → LS
  | [] => x
  | o :: os => lafters (lafter x o) os
def Goods (x : LS) : List LOp → Prop
  | [] => True
  | o :: os => lgood x ∧ lok x o ∧ Goods (lafter x o) os
theorem lafters_at : ∀ {os : List LOp} {i : Nat} {o : LOp} (x : LS), os[i]? = some o → lafters x (os.take (i + 1)) = lafter (lafters x (os.take i)) o
  | [], i, o, x, h => by simp at h
  | a :: os, 0, o, x, h => by
    have h : a = o := Option.some.inj h
    subst h
    rfl
  | a :: os, i + 1, o, x, h => lafters_at (os := os) (lafter x a) (show os[i]? = some o from h)
theorem goods_at : ∀ {os : List LOp} {i : Nat} {o : LOp} {x : LS}, Goods x os → os[i]? = some o → lgood (lafters x (os.take i)) ∧ lok (lafters x (os.take i)) o
  | [], i, o, x, _, h => by simp at h
  | a :: os, 0, o, x, g, h => by
    have h : a = o := Option.some.inj h
    subst h
    exact ⟨g.1, g.2.1⟩
  | a :: os, i + 1, o, x, g, h => goods_at (os := os) g.2.2 (show os[i]? = some o from h)
section
variable {P : Program} {w : World} {K : PySem.W.Frag} {mg : Str → Option Value} {base : Heap}
def spIsOp : Sp := fun vs H Q _ => ∃ (v : V) (o : LOp), vs = [v] ∧ OpAt H v o ∧ Q (.bl true) H
theorem ok_is_operation {f DPARAMETERS : Addr} {fd : FuncData} (F : Fun K "_is_operation" "_is_operation" sIsOperation f fd) (gPARAMETERS : mg "PARAMETERS" = some (.ref DPARAMETERS)) (TP : Pars K w DPARAMETERS)
    (z_isinstance : mg "isinstance" = none) (z_tuple : mg "tuple" = none) (z_str : mg "str" = none) (z_len : mg "len" = none) : FnOk P w K mg base CX0 1 f fd ["value"] spIsOp := by
  refine F.ok scIsOperation (fun vs H Q E h => ?_) (fun cdv A outer s H vs Q E hr h => ?_)
  · obtain ⟨_, _, rfl, _⟩ := h
    rfl
  obtain ⟨v, o, rfl, ho, q⟩ := h
  refine ⟨_, (pss_cons (ps_if (PW.pt (pw_or (pt_not (pt_val (pe_callB call_isi (by rfl) z_isinstance (by decide +kernel) (pa_cons (pv 0) (pa_cons (pe_bltn (v := .ty "tuple") (u := .type "tuple") (by rfl) z_tuple (by decide +kernel) rfl) pa_nil))))) (pw_or (pt_cmpR op_eq (pe_callB call_len_seq (by rfl) z_len PySem.boot_len (pa_cons (pv 0) pa_nil)) pe_int (nomark _)) (pw_or1 (pt_not (pt_val (pe_callB call_isi (by rfl) z_isinstance (by decide +kernel) (pa_cons (pe_ix ix_tup (pv 0) pe_int (fun _ _ => rfl)) (pa_cons (pe_bltn (v := .ty "str") (u := .type "str") (by rfl) z_str (by decide +kernel) rfl) pa_nil)))))))))
    (pss_one (ps_ret pe_bl))
    pss_nil)
    (pss_one (ps_ret (pe_and (pe_cmpR op_inK (pe_ix ix_tup (pv 0) pe_int (fun _ _ => rfl)) (pe_glob (v := .ref DPARAMETERS) rfl gPARAMETERS rfl) (by rfl)) (pe_one (pe_cmpR op_eq (pe_callB call_len_seq (by rfl) z_len PySem.boot_len (pa_cons (pv 0) pa_nil)) (pe_op op_add pe_int (pe_ix ix_kdict (pe_glob (v := .ref DPARAMETERS) rfl gPARAMETERS rfl) (pe_ix ix_tup (pv 0) pe_int (fun _ _ => rfl)) (fun _ _ => rfl))) (nomark _))))))), ?_⟩
  cases o with
  | app k =>
    obtain ⟨ot, rfl, hot⟩ := ho
    refine ⟨_, rfl, _, _, _, _, true, rfl, .ty "tuple", .base (.tup hot), kit_ty (by decide +kernel), true, rfl, ?_⟩
    refine ⟨_, rfl, ot, _, rfl, .inr (SqT.of hot), rfl, false, rfl, ?_⟩
    refine ⟨_, rfl, ot, _, _, _, rfl, rfl, SqT.of hot, atI_nat (j := 0) rfl, _, _, _, _, true, rfl, .ty "str", .base (.str _), kit_ty (by decide +kernel), true, rfl, ?_⟩
    refine ⟨_, rfl, ot, _, _, _, rfl, rfl, SqT.of hot, atI_nat (j := 0) rfl, _, _, _, rfl, rfl, TP.low, TP.app, true, rfl, ?_⟩
    refine ⟨_, rfl, ot, _, rfl, .inr (SqT.of hot), _, rfl, ot, _, _, _, rfl, rfl, SqT.of hot, atI_nat (j := 0) rfl, _, _, _, rfl, rfl, TP.app, _, _, rfl, rfl, rfl, ?_⟩
    exact q
  | cut k =>
    obtain ⟨ot, rfl, hot⟩ := ho
    refine ⟨_, rfl, _, _, _, _, true, rfl, .ty "tuple", .base (.tup hot), kit_ty (by decide +kernel), true, rfl, ?_⟩
    refine ⟨_, rfl, ot, _, rfl, .inr (SqT.of hot), rfl, false, rfl, ?_⟩
    refine ⟨_, rfl, ot, _, _, _, rfl, rfl, SqT.of hot, atI_nat (j := 0) rfl, _, _, _, _, true, rfl, .ty "str", .base (.str _), kit_ty (by decide +kernel), true, rfl, ?_⟩
    refine ⟨_, rfl, ot, _, _, _, rfl, rfl, SqT.of hot, atI_nat (j := 0) rfl, _, _, _, rfl, rfl, TP.low, TP.cut, true, rfl, ?_⟩
    refine ⟨_, rfl, ot, _, rfl, .inr (SqT.of hot), _, rfl, ot, _, _, _, rfl, rfl, SqT.of hot, atI_nat (j := 0) rfl, _, _, _, rfl, rfl, TP.cut, _, _, rfl, rfl, rfl, ?_⟩
    exact q
  | mark =>
    obtain ⟨ot, rfl, hot⟩ := ho
    refine ⟨_, rfl, _, _, _, _, true, rfl, .ty "tuple", .base (.tup hot), kit_ty (by decide +kernel), true, rfl, ?_⟩
    refine ⟨_, rfl, ot, _, rfl, .inr (SqT.of hot), rfl, false, rfl, ?_⟩
    refine ⟨_, rfl, ot, _, _, _, rfl, rfl, SqT.of hot, atI_nat (j := 0) rfl, _, _, _, _, true, rfl, .ty "str", .base (.str _), kit_ty (by decide +kernel), true, rfl, ?_⟩
    refine ⟨_, rfl, ot, _, _, _, rfl, rfl, SqT.of hot, atI_nat (j := 0) rfl, _, _, _, rfl, rfl, TP.low, TP.mark, true, rfl, ?_⟩
    refine ⟨_, rfl, ot, _, rfl, .inr (SqT.of hot), _, rfl, ot, _, _, _, rfl, rfl, SqT.of hot, atI_nat (j := 0) rfl, _, _, _, rfl, rfl, TP.mark, _, _, rfl, rfl, rfl, ?_⟩
    exact q
def spPreview (C : Addr) : Sp := fun vs H Q _ => ∃ (p c tp : Addr) (x : LS) (cs : List (LOp × LS)) (us : List V) (os : List LOp), vs = [.ref p, .ref tp] ∧ LogAt C H p c x cs ∧ H tp = some (.tup us) ∧ All2 (OpAt H) us os ∧ Goods x os ∧
  ∀ (H' : Hp), Same H H' → Q (.int (lafters x os).2.2) H'
theorem ok_log_preview {n : Nat} {f g1 g2 C : Addr} {fd d1 d2 : FuncData} (F : Fun K "preview" "LiveLog.preview" sLiveLogPreview f fd) (hb : BindsV fd "self" "operations" n) (TLiveLog : TLog K C)
    (GIsOperation : FnOk P w K mg base CX0 1 g1 d1 ["value"] spIsOp) (AIsOperation : At K mg "_is_operation" g1 d1 ["value"])
    (GLiveLogBehind : FnOk P w K mg base CX0 9 g2 d2 ["self", "state", "operation"] spBehind) (MLiveLogBehind : Meth K C "_behind" g2) (BLiveLogBehind : Binds K d2 ["self", "state", "operation"] []) : FnOkV P w K mg base CX0 11 f n (spPreview C) := by
  refine okV F scLiveLogPreview hb (fun cdv A outer s H vs Q E hr h => ?_)
  obtain ⟨p, c, tp, x, cs, us, os, rfl, hL, htp, hus, hg, q⟩ := h
  refine ⟨_, (pss_cons (ps_for PassesOwn.never rfl (pi_tup (pv 1)) (pg_name (i := 2) scLiveLogPreview.nd rfl (Or.inl rfl))
    (pss_one (ps_if (pt_not (pt_val (pe_call GIsOperation (hr.mono (by decide)) rfl AIsOperation.m AIsOperation.kp AIsOperation.b .nil pass0 (pa_cons (pv 2) pa_nil))))
    (pss_one ps_never)
    pss_nil)))
    (pss_cons (ps_set (i := 3) scLiveLogPreview.nd rfl (Or.inl rfl) (pe_fld (pv 0) rfl))
    (pss_cons (ps_for PassesOwn.never rfl (pi_tup (pv 1)) (pg_name (i := 2) scLiveLogPreview.nd rfl (Or.inl rfl))
    (pss_one (ps_set (i := 3) scLiveLogPreview.nd rfl (Or.inl rfl) (pe_meth (pv 0) TLiveLog.cl MLiveLogBehind GLiveLogBehind (hr.mono (by decide)) BLiveLogBehind .nil pass0 (pa_cons (pv 3) (pa_cons (pv 2) pa_nil))))))
    (pss_one (ps_ret (pe_ix ix_tup (pv 3) pe_int (fun _ _ => rfl))))))), ?_⟩
  obtain ⟨dx, sv, vs, hp, hst, hc, hcs⟩ := id hL
  refine ⟨_, rfl, tp, rfl, ⟨_, SqT.of htp⟩, ?_⟩
  refine for_tup (K := K) (a := tp) (xs := us) (fun i σ H' => ∃ v2 : Option V, σ = [some (.ref p), some (.ref tp), v2, none] ∧ H' = H) ⟨none, rfl, rfl⟩ (fun i σ H' _ ⟨_, _, e⟩ => by rw [e]; exact SqT.of htp) ?_ ?_
  · rintro i v σ H' hi ⟨v2, rfl, rfl⟩
    obtain ⟨o, ho, hvo⟩ := hus.nth hi
    exact ⟨_, rfl, v, o, rfl, hvo, true, rfl, _, rfl, rfl⟩
  rintro σ H' ⟨v2, rfl, rfl⟩
  refine ⟨_, rfl, p, C, dx, _, _, rfl, hp, TLiveLog.cl, TLiveLog.nS, fldsL_state _ _, ?_⟩
  refine ⟨_, rfl, tp, rfl, ⟨_, SqT.of htp⟩, ?_⟩
  refine for_tup (K := K) (a := tp) (xs := us) (fun i σ H1 => ∃ (v2 : Option V) (s1 : V), σ = [some (.ref p), some (.ref tp), v2, some s1] ∧ Same H' H1 ∧ StAt H1 s1 (lafters x (os.take i))) ⟨_, _, rfl, Same.refl _, hst⟩ (fun i σ H1 _ ⟨_, _, _, e, _⟩ => SqT.of (e _ _ htp)) ?_ ?_
  · rintro i v σ H1 hi ⟨v2, s1, rfl, sm, hs1⟩
    obtain ⟨o, ho, hvo⟩ := hus.nth hi
    obtain ⟨g1, g2⟩ := goods_at hg ho
    refine ⟨_, rfl, p, dx, _, rfl, sm _ _ hp, fldsL_no _ _ no_behind.1 no_behind.2, _, rfl, _, rfl, _, s1, v, _, o, rfl, hs1, hvo.same sm, g1, g2, fun H2 r s2 hr => ?_⟩
    refine ⟨_, _, rfl, sm.trans s2, ?_⟩
    rw [lafters_at x ho]
    exact hr
  · rintro σ H1 ⟨v2, s1, rfl, sm, hs1⟩
    rw [hus.len, List.take_length] at hs1
    obtain ⟨t, m, rfl, ht, _⟩ := hs1
    exact ⟨_, rfl, t, _, _, _, rfl, rfl, SqT.of ht, atI_nat (j := 2) rfl, q _ sm⟩
end
end LT

namespace LT
open PySem PySem.Spec PyProof.Rows L2
theorem preview1 (kV doc pm : Value) (an : Option Addr) (cdv ct : Value) : BindsV (PySem.W.fnOf "preview" "LiveLog.preview" (defArgs sLiveLogPreview) (defBody sLiveLogPreview) (defScope sLiveLogPreview) .none kV doc pm an cdv ct) "self" "operations" 1 :=
  fun u rest hl => match rest, hl with | [_], _ => rfl
theorem preview2 (kV doc pm : Value) (an : Option Addr) (cdv ct : Value) : BindsV (PySem.W.fnOf "preview" "LiveLog.preview" (defArgs sLiveLogPreview) (defBody sLiveLogPreview) (defScope sLiveLogPreview) .none kV doc pm an cdv ct) "self" "operations" 2 :=
  fun u rest hl => match rest, hl with | [_, _], _ => rfl
end LT

namespace LT
open PySem PySem.Spec PyProof.Rows L2
theorem But.free {b a : Addr} {H H' : Hp} (B : But b H H') (h : H' a = none) (n : a ≠ b) : H a = none := by
  cases k : H a with
  | none => rfl
  | some o =>
    have := B a o n k
    rw [h] at this
    cases this
theorem But.butL {b p c : Addr} {H H' H'' : Hp} (B : But b H H') (k : ButL p c H' H'') (hp : H p = none) (hc : H c = none) : But b H H'' := fun a o z e => k a o (B a o z e) (ne_of_none e hp) (ne_of_none e hc)
theorem made_same {C p dx : Addr} {H H' : Hp} (np : H p = none) (ndx : H dx = none) (kp : ∀ b o, (upd (upd H dx (.own p)) p (.ins C dx [])) b = some o → b ≠ p → H' b = some o) : Same H H' := fun b o e =>
  kp b o (by rw [upd_ne (ne_of_none e np), upd_ne (ne_of_none e ndx)]; exact e) (ne_of_none e np)
theorem made_free {C p dx c : Addr} {H : Hp} (np : H p = none) (ndx : H dx = none) (nc : (upd (upd H dx (.own p)) p (.ins C dx [])) c = none) : H c = none := by
  cases k : H c with
  | none => rfl
  | some o =>
    rw [upd_ne (ne_of_none k np), upd_ne (ne_of_none k ndx), k] at nc
    cases nc
theorem acost_add (n k l : Nat) : acost n k + acost (n + k) l = acost n (k + l) := by
  unfold acost
  rw [← Nat.add_assoc]
  omega
end LT

namespace LT
open PySem PySem.Spec PyProof.Rows L2
section
variable {P : Program} {w : World} {K : PySem.W.Frag} {mg : Str → Option Value} {base : Heap}
/-! ### walking an enumerate -/
theorem for_enum {a : Addr} {xs : List V} {g : TG} {tb : TS} {D : Ends} {σ : L2.St} {H : Hp} (Pv : Nat → L2.St → Hp → Prop) (h0 : Pv 0 σ H) (hl : ∀ i σ H, i ≤ xs.length → Pv i σ H → SqL K H a xs)
    (hs : ∀ i x σ H T, xs[i]? = some x → Pv i σ H → H T = none → g (.ref T) σ (upd H T (.tup [.int (i : Nat), x])) fun σ2 H2 => tb { D with nx := Pv (i + 1), ct := Pv (i + 1), bk := D.nx } σ2 H2) (hd : ∀ σ H, Pv xs.length σ H → D.nx σ H) :
    ∃ W : Nat → Nat → L2.St → Hp → Prop, (∃ m, W 0 m σ H) ∧ ∀ i m σ H, W i m σ H →
      ((Ite K a).stop i H ∧ D.nx σ H) ∨ ((Ite K a).go i H ∧ ∃ N : L2.St → Hp → Prop, (∀ σ' H', N σ' H' → ∃ m', m' < m ∧ W (i + 1) m' σ' H') ∧ ∀ x H', (Ite K a).yld i H x H' → g x σ H' fun σ2 H2 => tb { D with nx := N, ct := N, bk := D.nx } σ2 H2) := by
  refine ⟨fun i m σ H => m = xs.length - i ∧ i ≤ xs.length ∧ Pv i σ H, ⟨xs.length, by simp, Nat.zero_le _, h0⟩, ?_⟩
  rintro i m σ H ⟨rfl, hi, p⟩
  have q := hl i σ H hi p
  by_cases hlt : i < xs.length
  · refine .inr ⟨⟨xs, xs[i], q, by simp [hlt]⟩, Pv (i + 1), fun σ' H' p' => ⟨xs.length - (i + 1), by omega, rfl, hlt, p'⟩, fun x H' y => ?_⟩
    obtain ⟨T, x1, rfl, nT, rfl, f⟩ := y
    exact hs i x1 σ H T (f xs q) p nT
  · have e : i = xs.length := by omega
    subst e
    exact .inl ⟨⟨xs, q, Nat.le_refl _⟩, hd σ H p⟩
end
end LT

namespace LT
open PySem PySem.Spec PyProof.Rows L2
/-- zip where the second list ends first -/
theorem for_zipS {K : PySem.W.Frag} {a b : Addr} {xs ys : List V} {g : TG} {tb : TS} {D : Ends} {σ : L2.St} {H : Hp} (hl : ys.length ≤ xs.length) (J : Nat → L2.St → Hp → Prop) (start : J 0 σ H)
    (still : ∀ i σ H, J i σ H → SqL K H a xs ∧ SqL K H b ys)
    (turn : ∀ (i : Nat) (x y : V) (t : Addr) (σ : L2.St) (H : Hp), xs[i]? = some x → ys[i]? = some y → J i σ H → H t = none → g (.ref t) σ (upd H t (.tup [x, y])) fun σ2 H2 => tb { D with nx := J (i + 1), ct := J (i + 1), bk := D.nx } σ2 H2)
    (fin : ∀ σ H, J ys.length σ H → D.nx σ H) :
    ∃ W : Nat → Nat → L2.St → Hp → Prop, (∃ m, W 0 m σ H) ∧ ∀ i m σ H, W i m σ H →
      ((Itz K a b).stop i H ∧ D.nx σ H) ∨ ((Itz K a b).go i H ∧ ∃ N : L2.St → Hp → Prop, (∀ σ' H', N σ' H' → ∃ m', m' < m ∧ W (i + 1) m' σ' H') ∧ ∀ v H', (Itz K a b).yld i H v H' → g v σ H' fun σ2 H2 => tb { D with nx := N, ct := N, bk := D.nx } σ2 H2) := by
  refine ⟨fun i m σ H => i + m = ys.length ∧ J i σ H, ⟨ys.length, Nat.zero_add _, start⟩, ?_⟩
  rintro i m σ H ⟨im, j⟩
  obtain ⟨s1, s2⟩ := still i σ H j
  by_cases z : m = 0
  · have e : i = ys.length := by omega
    subst e
    exact .inl ⟨⟨xs, ys, s1, s2, .inr (Nat.le_refl _)⟩, fin σ H j⟩
  · have h1 : i < ys.length := by omega
    have h2 : i < xs.length := by omega
    refine .inr ⟨⟨xs, ys, _, _, s1, s2, List.getElem?_eq_getElem h2, List.getElem?_eq_getElem h1⟩, J (i + 1), fun σ' H' j' => ⟨m - 1, by omega, by omega, j'⟩, ?_⟩
    rintro v H' ⟨t, x, y, rfl, ht, rfl, k1, k2⟩
    exact turn i x y t σ H (k1 xs s1) (k2 ys s2) j ht
theorem cut_first (xs : List V) (h : 1 ≤ xs.length) : cutV xs (some 1) none = xs.drop 1 := by
  unfold cutV
  have e : HT.sIx xs.length 0 (some 1) = 1 := by
    show (if (1 : Int) < 0 then ((1 : Int) + (xs.length : Int)).toNat else min (1 : Int).toNat xs.length) = 1
    rw [if_neg (by decide)]
    show min 1 xs.length = 1
    omega
  rw [e, HT.sIx_none]
  exact List.take_of_length_le (by rw [List.length_drop]; omega)
/-- the same in a comprehension -/
theorem lc_zipS {K : PySem.W.Frag} {a b : Addr} {xs ys : List V} {g : TG} {tt : TT} {te : TE} {vs : List Nat} {σ : L2.St} {H1 : Hp} {D : Addr} {Qd : Hp → Prop} (hl : ys.length ≤ xs.length) (J : Nat → Hp → Prop) (start : J 0 (upd H1 D (.lst [])))
    (still : ∀ i H, J i H → SqL K H a xs ∧ SqL K H b ys)
    (turn : ∀ (i : Nat) (x y : V) (t : Addr) (H : Hp), xs[i]? = some x → ys[i]? = some y → J i H → H t = none → g (.ref t) (wipe σ vs) (upd H t (.tup [x, y])) fun σ2 H2 => wipe σ2 vs = wipe σ vs ∧ tt σ2 H2 fun b H3 =>
      if b = true then te σ2 H3 fun y H4 => ∃ acc, H4 D = some (.lst acc) ∧ acc.length < sizeLine ∧ J (i + 1) (upd H4 D (.lst (acc ++ [y]))) else J (i + 1) H3)
    (fin : ∀ H, J ys.length H → Qd H) :
    ∃ W : Nat → Nat → Hp → Prop, (∃ m, W 0 m (upd H1 D (.lst []))) ∧ ∀ i m H, W i m H →
      ((Itz K a b).stop i H ∧ Qd H) ∨ ((Itz K a b).go i H ∧ ∃ Nx : Hp → Prop, (∀ H', Nx H' → ∃ m', m' < m ∧ W (i + 1) m' H') ∧ ∀ v H', (Itz K a b).yld i H v H' → g v (wipe σ vs) H' fun σ2 H2 => wipe σ2 vs = wipe σ vs ∧ tt σ2 H2 fun b H3 =>
        if b = true then te σ2 H3 fun y H4 => ∃ acc, H4 D = some (.lst acc) ∧ acc.length < sizeLine ∧ Nx (upd H4 D (.lst (acc ++ [y]))) else Nx H3) := by
  refine ⟨fun i m H => i + m = ys.length ∧ J i H, ⟨ys.length, Nat.zero_add _, start⟩, ?_⟩
  rintro i m H ⟨im, j⟩
  obtain ⟨s1, s2⟩ := still i H j
  by_cases z : m = 0
  · have e : i = ys.length := by omega
    subst e
    exact .inl ⟨⟨xs, ys, s1, s2, .inr (Nat.le_refl _)⟩, fin H j⟩
  · have h1 : i < ys.length := by omega
    have h2 : i < xs.length := by omega
    refine .inr ⟨⟨xs, ys, _, _, s1, s2, List.getElem?_eq_getElem h2, List.getElem?_eq_getElem h1⟩, J (i + 1), fun H' j' => ⟨m - 1, by omega, by omega, j'⟩, ?_⟩
    rintro v H' ⟨t, x, y, rfl, ht, rfl, k1, k2⟩
    exact turn i x y t H (k1 xs s1) (k2 ys s2) j ht
end LT

namespace LT
open PySem PySem.Spec PyProof.Rows L2
section
variable {P : Program} {w : World} {K : PySem.W.Frag} {mg : Str → Option Value} {base : Heap}
def spListOf : Sp := fun vs H Q _ => ∃ (p : Addr) (xs : List V) (lo hi : Nat), vs = [.ref p, .int lo, .int hi] ∧ H p = some (.lst xs) ∧ lo ≤ xs.length ∧ xs.length ≤ hi ∧ Q (.bl true) H
theorem ok_is_list_of {f : Addr} {fd : FuncData} (F : Fun K "is_list_of" "is_list_of" sIsListOf f fd) (z_isinstance : mg "isinstance" = none) (z_list : mg "list" = none) (z_len : mg "len" = none) : FnOk P w K mg base CX0 1 f fd ["value", "least", "most"] spListOf := by
  refine F.ok scIsListOf (fun vs H Q E h => ?_) (fun cdv A outer s H vs Q E hr h => ?_)
  · obtain ⟨_, _, _, _, rfl, _⟩ := h
    rfl
  obtain ⟨p, xs, lo, hi, rfl, hp, h1, h2, q⟩ := h
  refine ⟨_, (pss_one (ps_ret (pe_and (pe_callB call_isi (by rfl) z_isinstance (by decide +kernel) (pa_cons (pv 0) (pa_cons (pe_bltn (v := .ty "list") (u := .type "list") (by rfl) z_list (by decide +kernel) rfl) pa_nil))) (pe_one (pe_chain op_le op_le (pv 1) (pe_callB call_len_seq (by rfl) z_len PySem.boot_len (pa_cons (pv 0) pa_nil)) (pv 2)))))), ?_⟩
  refine ⟨_, rfl, _, _, _, _, true, rfl, .ty "list", .base (.lst hp), kit_ty (by decide +kernel), true, rfl, ?_⟩
  refine ⟨_, rfl, _, rfl, p, xs, rfl, .inl (SqL.of hp), _, _, rfl, rfl, true, congrArg V.bl (decide_eq_true (by omega)), _, rfl, _, _, rfl, rfl, ?_⟩
  show Q (.bl (decide (((xs.length : Nat) : Int) ≤ (hi : Int)))) H
  rw [decide_eq_true (show ((xs.length : Nat) : Int) ≤ (hi : Int) by omega)]
  exact q
end
end LT

namespace LT
open PySem PySem.Spec PyProof.Rows L2
section
variable {P : Program} {w : World} {K : PySem.W.Frag} {mg : Str → Option Value} {base : Heap}
def spCheckSpan : Sp := fun vs H Q _ => ∃ n b e : Nat, vs = [.int n, .int b, .int e] ∧ b < e ∧ e ≤ n ∧ Q .non H
theorem ok_check_span {f g : Addr} {fd gd : FuncData} (F : Fun K "check_span" "check_span" sCheckSpan f fd) (GIsBetween : FnOk P w K mg base CX0 2 g gd ["value", "low", "high"] spBetween) (AIsBetween : At K mg "is_between" g gd ["value", "low", "high"]) : FnOk P w K mg base CX0 3 f fd ["size", "begin", "end"] spCheckSpan := by
  refine F.ok scCheckSpan (fun vs H Q E h => ?_) (fun cdv A outer s H vs Q E hr h => ?_)
  · obtain ⟨_, _, _, rfl, _⟩ := h
    rfl
  obtain ⟨n, b, e, rfl, h1, h2, q⟩ := h
  refine ⟨_, (pss_cons (ps_if (pt_not (pt_val (pe_call GIsBetween (hr.mono (by decide)) rfl AIsBetween.m AIsBetween.kp AIsBetween.b .nil pass0 (pa_cons (pv 1) (pa_cons pe_int (pa_cons (pe_op op_sub (pv 0) pe_int) pa_nil))))))
    (pss_one ps_never)
    pss_nil)
    (pss_one (ps_if (pt_not (pt_val (pe_call GIsBetween (hr.mono (by decide)) rfl AIsBetween.m AIsBetween.kp AIsBetween.b .nil pass0 (pa_cons (pv 2) (pa_cons (pe_op op_add (pv 1) pe_int) (pa_cons (pv 0) pa_nil))))))
    (pss_one ps_never)
    pss_nil))), ?_⟩
  refine ⟨_, rfl, _, rfl, _, _, rfl, rfl, _, _, _, rfl, true, ?_, ?_⟩
  · exact congrArg V.bl (by rw [Bool.and_eq_true]; exact ⟨decide_eq_true (by omega), decide_eq_true (by show (b : Int) ≤ n - 1; omega)⟩)
  refine ⟨_, rfl, _, rfl, _, _, rfl, rfl, _, rfl, _, _, _, rfl, true, ?_, ?_⟩
  · exact congrArg V.bl (by rw [Bool.and_eq_true]; exact ⟨decide_eq_true (by show (b : Int) + 1 ≤ (e : Int); omega), decide_eq_true (by show (e : Int) ≤ n; omega)⟩)
  exact q
end
end LT

namespace LT
open PySem PySem.Spec PyProof.Rows L2
section
variable {P : Program} {w : World} {K : PySem.W.Frag} {mg : Str → Option Value} {base : Heap}
def spCompact : Sp := fun vs H Q _ => ∃ (b e : Nat), vs = [.int b, .int e] ∧ b < e ∧ e ≤ 10 ^ 30 ∧ ∀ (H' : Hp) (r : Addr) (ys : List V), Same H H' → H r = none → H' r = some (.lst ys) → All2 (Nd H') ys (nw (2 ^ 100) b e) → Q (.ref r) H'
theorem ok_compact {f g1 g2 : Addr} {fd d1 d2 : FuncData} {t1 t2 : Tok} (F : Fun K "compact" "compact" sCompact f fd) (GCheckSpan : FnOk P w K mg base CX0 3 g1 d1 ["size", "begin", "end"] spCheckSpan) (ACheckSpan : At K mg "check_span" g1 d1 ["size", "begin", "end"])
    (GNodesWithin : FnOk P w K mg base CX0 4 g2 d2 ["size", "begin", "end"] spWithinX) (ANodesWithin : At K mg "nodes_within" g2 d2 ["size", "begin", "end"])
    (g_MOST_ENTRIES : mg "MOST_ENTRIES" = some (.int 1000000000000000000000000000000 t1)) (g_FULL_SIZE : mg "FULL_SIZE" = some (.int 1267650600228229401496703205376 t2)) : FnOk P w K mg base CX0 5 f fd ["begin", "end"] spCompact := by
  refine F.ok scCompact (fun vs H Q E h => ?_) (fun cdv A outer s H vs Q E hr h => ?_)
  · obtain ⟨_, _, rfl, _⟩ := h
    rfl
  obtain ⟨b, e, rfl, h1, h30, q⟩ := h
  refine ⟨_, (pss_cons (ps_expr (pe_call GCheckSpan (hr.mono (by decide)) rfl ACheckSpan.m ACheckSpan.kp ACheckSpan.b .nil pass0 (pa_cons (pe_glob (v := .int 1000000000000000000000000000000) rfl g_MOST_ENTRIES ⟨_, rfl⟩) (pa_cons (pv 0) (pa_cons (pv 1) pa_nil)))))
    (pss_one (ps_ret (pe_call GNodesWithin (hr.mono (by decide)) rfl ANodesWithin.m ANodesWithin.kp ANodesWithin.b .nil pass0 (pa_cons (pe_glob (v := .int 1267650600228229401496703205376) rfl g_FULL_SIZE ⟨_, rfl⟩) (pa_cons (pv 0) (pa_cons (pv 1) pa_nil))))))), ?_⟩
  have e30 : (10 : Nat) ^ 30 = 1000000000000000000000000000000 := by decide
  have e100 : (2 : Nat) ^ 100 = 1267650600228229401496703205376 := by decide
  refine ⟨_, rfl, _, rfl, 1000000000000000000000000000000, b, e, rfl, h1, by omega, ?_⟩
  refine ⟨_, rfl, _, rfl, 1267650600228229401496703205376, b, e, rfl, by decide, by decide, by omega, by omega, fun H2 r ys s2 nr hr2 hy => ?_⟩
  rw [← e100] at hy
  exact q H2 r ys s2 nr hr2 hy
def spCompactCount : Sp := fun vs H Q _ => ∃ (b e : Nat), vs = [.int b, .int e] ∧ b < e ∧ e ≤ 10 ^ 30 ∧ ∀ (H' : Hp), Same H H' → Q (.int (((nw (2 ^ 100) b e).length : Nat) : Int)) H'
theorem ok_compact_count {f g1 : Addr} {fd d1 : FuncData} (F : Fun K "compact_count" "compact_count" sCompactCount f fd) (GCompact : FnOk P w K mg base CX0 5 g1 d1 ["begin", "end"] spCompact) (ACompact : At K mg "compact" g1 d1 ["begin", "end"]) (z_len : mg "len" = none) : FnOk P w K mg base CX0 6 f fd ["begin", "end"] spCompactCount := by
  refine F.ok scCompactCount (fun vs H Q E h => ?_) (fun cdv A outer s H vs Q E hr h => ?_)
  · obtain ⟨_, _, rfl, _⟩ := h
    rfl
  obtain ⟨b, e, rfl, h1, h30, q⟩ := h
  refine ⟨_, (pss_one (ps_ret (pe_callB call_len_seq (by rfl) z_len PySem.boot_len (pa_cons (pe_call GCompact (hr.mono (by decide)) rfl ACompact.m ACompact.kp ACompact.b .nil pass0 (pa_cons (pv 0) (pa_cons (pv 1) pa_nil))) pa_nil)))), ?_⟩
  refine ⟨_, rfl, _, rfl, b, e, rfl, h1, h30, fun H1 r ys s1 nr hr1 hy => ⟨r, ys, rfl, .inl (SqL.of hr1), ?_⟩⟩
  rw [hy.len]
  exact q H1 s1
/-- bounds that ascend -/
def Asc : Nat → List Nat → Prop
  | _, [] => True
  | lo, x :: l => lo ≤ x ∧ x ≤ 10 ^ 30 ∧ Asc (x + 1) l
def spBounds : Sp := fun vs H Q _ => ∃ (p : Addr) (B : List Nat), vs = [.ref p] ∧ H p = some (.lst (natsV B)) ∧ 2 ≤ B.length ∧ B.length ≤ 12 ∧ Asc 0 B ∧ ∀ H', Same H H' → Q .non H'
theorem ok_check_bounds {f g1 g2 : Addr} {fd d1 d2 : FuncData} {t1 t2 : Tok} (F : Fun K "_check_bounds" "_check_bounds" sCheckBounds f fd) (GIsListOf : FnOk P w K mg base CX0 1 g1 d1 ["value", "least", "most"] spListOf) (AIsListOf : At K mg "is_list_of" g1 d1 ["value", "least", "most"])
    (GIsBetween : FnOk P w K mg base CX0 2 g2 d2 ["value", "low", "high"] spBetween) (AIsBetween : At K mg "is_between" g2 d2 ["value", "low", "high"]) (g_MOST_BOUNDS : mg "MOST_BOUNDS" = some (.int 12 t1)) (g_MOST_ENTRIES : mg "MOST_ENTRIES" = some (.int 1000000000000000000000000000000 t2))
    (z_enumerate : mg "enumerate" = none) : FnOk P w K mg base CX0 3 f fd ["bounds"] spBounds := by
  refine F.ok scCheckBounds (fun vs H Q E h => ?_) (fun cdv A outer s H vs Q E hr h => ?_)
  · obtain ⟨_, _, rfl, _⟩ := h
    rfl
  obtain ⟨p, B, rfl, hp, l2, l12, hB, q⟩ := h
  refine ⟨_, (pss_cons (ps_if (pt_not (pt_val (pe_call GIsListOf (hr.mono (by decide)) rfl AIsListOf.m AIsListOf.kp AIsListOf.b .nil pass0 (pa_cons (pv 0) (pa_cons pe_int (pa_cons (pe_glob (v := .int 12) rfl g_MOST_BOUNDS ⟨_, rfl⟩) pa_nil))))))
    (pss_one ps_never)
    pss_nil)
    (pss_cons (ps_set (i := 1) scCheckBounds.nd rfl (Or.inl rfl) pe_int)
    (pss_one (ps_for PassesOwn.never rfl (pi_enum (by rfl) z_enumerate (pa_cons (pv 0) pa_nil)) (pg_tup (by rfl) (pgs_cons (pg_name (i := 2) scCheckBounds.nd rfl (Or.inl rfl)) (pgs_cons (pg_name (i := 3) scCheckBounds.nd rfl (Or.inl rfl)) pgs_nil)))
    (pss_cons (ps_if (pt_not (pt_val (pe_call GIsBetween (hr.mono (by decide)) rfl AIsBetween.m AIsBetween.kp AIsBetween.b .nil pass0 (pa_cons (pv 3) (pa_cons (pv 1) (pa_cons (pe_glob (v := .int 1000000000000000000000000000000) rfl g_MOST_ENTRIES ⟨_, rfl⟩) pa_nil))))))
    (pss_one ps_never)
    pss_nil)
    (pss_one (ps_set (i := 1) scCheckBounds.nd rfl (Or.inl rfl) (pe_op op_add (pv 3) pe_int)))))))), ?_⟩
  have il : (natsV B).length = B.length := List.length_map _
  refine ⟨_, rfl, p, _, 2, 12, rfl, hp, by omega, by omega, true, rfl, ?_⟩
  refine ⟨_, rfl, p, _, rfl, SqL.of hp, ?_⟩
  refine for_enum (a := p) (xs := natsV B) (fun i σ H' => ∃ (lo : Nat) (v2 v3 : Option V), σ = [some (.ref p), some (.int (lo : Int)), v2, v3] ∧ Same H H' ∧ Asc lo (B.drop i))
    ⟨0, none, none, rfl, Same.refl _, hB⟩ (fun i σ H' _ ⟨_, _, _, _, sm, _⟩ => SqL.of (sm _ _ hp)) ?_ ?_
  · rintro i x σ H2 T hi ⟨lo, v2, v3, rfl, sm, hs⟩ nT
    obtain ⟨y, hyi, rfl⟩ : ∃ y, B[i]? = some y ∧ x = .int (y : Int) := by
      unfold natsV at hi
      rw [List.getElem?_map] at hi
      obtain ⟨y, h1, h2⟩ := Option.map_eq_some_iff.mp hi
      exact ⟨y, h1, h2.symm⟩
    have hdr : B.drop i = y :: B.drop (i + 1) := by
      obtain ⟨hl, hxe⟩ := List.getElem?_eq_some_iff.mp hyi
      rw [List.drop_eq_getElem_cons hl, hxe]
    rw [hdr] at hs
    obtain ⟨k1, k2, k3⟩ := hs
    have sT := same_upd (o := .tup [.int ((i : Nat) : Int), .int (y : Int)]) nT
    have e30 : (10 : Nat) ^ 30 = 1000000000000000000000000000000 := by decide
    refine ⟨T, _, rfl, SqT.of upd_same, rfl, _, _, rfl, _, _, rfl, rfl, ?_⟩
    refine ⟨_, rfl, _, rfl, _, _, _, rfl, true, ?_, ?_⟩
    · exact congrArg V.bl (by rw [Bool.and_eq_true]; exact ⟨decide_eq_true (by omega), decide_eq_true (by omega)⟩)
    refine ⟨_, rfl, _, _, rfl, rfl, ?_⟩
    exact ⟨y + 1, _, _, rfl, sm.trans sT, k3⟩
  · rintro σ H2 ⟨lo, v2, v3, rfl, sm, hs⟩
    exact q H2 sm
/-- neighbouring bounds -/
def cnt (b e : Nat) : Nat := (nw (2 ^ 100) b e).length
theorem Asc.lt {lo : Nat} : ∀ {B : List Nat} {i : Nat} {x y : Nat}, Asc lo B → B[i]? = some x → B[i + 1]? = some y → x < y ∧ y ≤ 10 ^ 30
  | [], _, _, _, _, h, _ => by simp at h
  | [_], 0, _, _, _, _, h => by simp at h
  | a :: b :: B, 0, x, y, ⟨_, _, h1, h2, _⟩, hx, hy => by
    simp at hx hy
    subst hx hy
    exact ⟨by omega, h2⟩
  | a :: B, i + 1, x, y, ⟨_, _, h⟩, hx, hy => Asc.lt h (by simpa using hx) (by simpa using hy)
def spJoinSums : Sp := fun vs H Q _ => ∃ (p : Addr) (B : List Nat) (lo hi : Nat), vs = [.ref p] ∧ H p = some (.lst (natsV B)) ∧ 2 ≤ B.length ∧ B.length ≤ 12 ∧ Asc 0 B ∧ B[0]? = some lo ∧ B[B.length - 1]? = some hi ∧ lo < hi ∧ hi ≤ 10 ^ 30 ∧
  ∀ H', Same H H' → Q (.int ((((B.zip (B.drop 1)).map fun x => cnt x.1 x.2).sum : Nat) - (cnt lo hi : Int))) H'
theorem ok_join_sums {f g1 g2 : Addr} {fd d1 d2 : FuncData} (F : Fun K "join_sums" "join_sums" sJoinSums f fd) (GCheckBounds : FnOk P w K mg base CX0 3 g1 d1 ["bounds"] spBounds) (ACheckBounds : At K mg "_check_bounds" g1 d1 ["bounds"])
    (GCompactCount : FnOk P w K mg base CX0 6 g2 d2 ["begin", "end"] spCompactCount) (ACompactCount : At K mg "compact_count" g2 d2 ["begin", "end"]) (z_sum : mg "sum" = none) (z_zip : mg "zip" = none) : FnOk P w K mg base CX0 7 f fd ["bounds"] spJoinSums := by
  refine F.ok scJoinSums (fun vs H Q E h => ?_) (fun cdv A outer s H vs Q E hr h => ?_)
  · obtain ⟨_, _, _, _, rfl, _⟩ := h
    rfl
  obtain ⟨p, B, lo, hi, rfl, hp, l2, l12, hB, b0, bl, lh, h30, q⟩ := h
  refine' ⟨_, (pss_cons (ps_expr (pe_call GCheckBounds (hr.mono (by decide)) rfl ACheckBounds.m ACheckBounds.kp ACheckBounds.b .nil pass0 (pa_cons (pv 0) pa_nil)))
    (pss_cons (ps_set (i := 1) scJoinSums.nd rfl (Or.inl rfl) (pe_callB (cr_sum rfl) (by rfl) z_sum (by decide +kernel) (pa_cons (pe_lc (own := [("begin", 2), ("end", 3)]) rfl scJoinSums.nd (pi_zip (by rfl) z_zip (pa_cons (pv 0) (pa_cons (pe_slice sl_list (pv 0) (po_some pe_int) po_none) pa_nil))) (blkOk_by (N := ["bounds", "apart", "begin", "end"]) (sc := defScope sJoinSums) (by decide +kernel)) (fun _ _ _ _ _ => (pg_tupB (n := 2) rfl (pgs_cons (pg_name (i := 2) scJoinSums.nd rfl (Or.inl rfl)) (pgs_cons (pg_name (i := 3) scJoinSums.nd rfl (Or.inl rfl)) pgs_nil)))) (fun _ _ _ _ _ => pts_nil) (fun _ _ _ _ _ => (pe_call GCompactCount (hr.mono (by decide)) rfl ACompactCount.m ACompactCount.kp ACompactCount.b .nil pass0 (pa_cons (pv 2) (pa_cons (pv 3) pa_nil))))) pa_nil)))
    (pss_one (ps_ret (pe_op op_sub (pv 1) (pe_call GCompactCount (hr.mono (by decide)) rfl ACompactCount.m ACompactCount.kp ACompactCount.b .nil pass0 (pa_cons (pe_ix ix_list (pv 0) pe_int (fun _ _ => rfl)) (pa_cons (pe_ix ix_list (pv 0) (pe_un un_neg pe_int) (fun _ _ => rfl)) pa_nil)))))))), ?_⟩
  have il : (natsV B).length = B.length := List.length_map _
  refine ⟨_, rfl, p, B, rfl, hp, l2, l12, hB, fun H1 s1 => ?_⟩
  have hp1 := s1 _ _ hp
  refine ⟨_, rfl, _, rfl, 1, rfl, p, _, rfl, SqL.of hp1, fun c nc => ?_⟩
  rw [cut_first _ (by omega)]
  have sc := same_upd (o := .lst ((natsV B).drop 1)) nc
  have hc : (upd H1 c (.lst ((natsV B).drop 1))) c = some (.lst ((natsV B).drop 1)) := upd_same
  have hp2 := sc _ _ hp1
  generalize upd H1 c (.lst ((natsV B).drop 1)) = H2 at sc hc hp2 ⊢
  have hz : ∀ {i : Nat} {x : V}, (natsV B)[i]? = some x → ∃ y, B[i]? = some y ∧ x = .int (y : Int) := by
    intro i x hi
    unfold natsV at hi
    rw [List.getElem?_map] at hi
    obtain ⟨y, h1, h2⟩ := Option.map_eq_some_iff.mp hi
    exact ⟨y, h1, h2.symm⟩
  refine ⟨p, c, _, _, rfl, SqL.of hp2, SqL.of hc, fun D nD => ?_⟩
  have dl : ((natsV B).drop 1).length = B.length - 1 := by rw [List.length_drop, il]
  have zl : (B.zip (B.drop 1)).length = B.length - 1 := by rw [List.length_zip, List.length_drop]; omega
  refine lc_zipS (K := K) (a := p) (b := c) (xs := natsV B) (ys := (natsV B).drop 1) (by omega) (fun j H' => Same H2 H' ∧ H' D = some (.lst ((((B.zip (B.drop 1)).take j).map fun x => ((cnt x.1 x.2 : Nat) : Int)).map V.int))) ⟨same_upd nD, upd_same⟩ (fun i H' ⟨s5, _⟩ => ⟨SqL.of (s5 _ _ hp2), SqL.of (s5 _ _ hc)⟩) ?_ ?_
  · rintro i xa ya T H3 hxi hyi ⟨s3, hD⟩ nT
    rw [List.getElem?_drop, Nat.add_comm] at hyi
    obtain ⟨x, hx, rfl⟩ := hz hxi
    obtain ⟨y, hy, rfl⟩ := hz hyi
    obtain ⟨xy, y30⟩ := hB.lt hx hy
    have sT := same_upd (o := .tup [.int (x : Int), .int (y : Int)]) nT
    have hD2 := sT _ _ hD
    have hT : (upd H3 T (.tup [.int (x : Int), .int (y : Int)])) T = some (.tup [.int (x : Int), .int (y : Int)]) := upd_same
    have s4 := s3.trans sT
    generalize upd H3 T (.tup [.int (x : Int), .int (y : Int)]) = H4 at hD2 hT s4 ⊢
    have hzi : (B.zip (B.drop 1))[i]? = some (x, y) := by
      rw [List.getElem?_zip_eq_some]
      exact ⟨hx, by rw [List.getElem?_drop, Nat.add_comm]; exact hy⟩
    refine ⟨T, _, rfl, SqT.of hT, rfl, _, _, rfl, _, _, rfl, rfl, rfl, ?_⟩
    refine ⟨_, rfl, _, rfl, x, y, rfl, xy, y30, fun H5 s5 => ?_⟩
    refine ⟨_, s5 _ _ hD2, szlt (by rw [List.length_map, List.length_map, List.length_take]; omega), fun u o k => by rw [upd_ne (ne_of_none k nD)]; exact s5 _ _ (s4 _ _ k), ?_⟩
    rw [take_more hzi, List.map_append, List.map_append]
    exact upd_same
  · rintro H3 ⟨s3, hD⟩
    rw [dl, ← zl, List.take_length] at hD
    refine ⟨D, _, rfl, SqL.of hD, ?_⟩
    have hp3 := s3 _ _ hp2
    have g0 : (natsV B)[0]? = some (.int (lo : Int)) := by
      unfold natsV
      rw [List.getElem?_map, b0]
      rfl
    have gl : atI (natsV B) (-1) = some (.int (hi : Int)) := by
      have hne : B ≠ [] := fun z => by rw [z] at l2; simp at l2
      have : B = B.dropLast ++ [hi] := by
        have e := List.dropLast_concat_getLast hne
        have e2 : B.getLast hne = hi := by
          rw [List.getLast_eq_getElem]
          exact Option.some.inj ((List.getElem?_eq_getElem (by omega)).symm.trans bl)
        rw [e2] at e
        exact e.symm
      rw [this]
      unfold natsV
      rw [List.map_append]
      exact atI_last _ _
    refine ⟨_, rfl, _, rfl, p, _, _, _, rfl, rfl, SqL.of hp3, atI_nat (j := 0) g0, _, rfl, _, rfl, p, _, _, _, rfl, rfl, SqL.of hp3, gl, lo, hi, rfl, lh, h30, fun H5 s5 => ?_⟩
    refine ⟨_, _, rfl, rfl, ?_⟩
    have e : ((B.zip (B.drop 1)).map fun x => ((cnt x.1 x.2 : Nat) : Int)).sum = ((((B.zip (B.drop 1)).map fun x => cnt x.1 x.2).sum : Nat) : Int) := by
      generalize B.zip (B.drop 1) = Z
      induction Z with
      | nil => rfl
      | cons a l ih => rw [List.map_cons, List.map_cons, List.sum_cons, List.sum_cons, ih]; omega
    rw [e]
    exact q _ (s1.trans (sc.trans (s3.trans s5)))
end
end LT

namespace LT
open PySem PySem.Spec PyProof.Rows L2
theorem But.same {b : Addr} {H H1 H2 : Hp} (x : But b H H1) (y : Same H1 H2) : But b H H2 := fun a o n h => y a o (x a o n h)
theorem But.pick {b : Addr} {H H1 H2 : Hp} (x : But b H H1) (k : ∀ a, a ≠ b → H2 a = H1 a) : But b H H2 := fun a o n h => by rw [k a n]; exact x a o n h
theorem no_append : ¬ ("append" : Str) = "_calls" ∧ ¬ ("append" : Str) = "_state" := by decide +kernel
theorem no_mark : ¬ ("mark" : Str) = "_calls" ∧ ¬ ("mark" : Str) = "_state" := by decide +kernel
theorem no_preview : ¬ ("preview" : Str) = "_calls" ∧ ¬ ("preview" : Str) = "_state" := by decide +kernel
theorem ne_no {x y : V} (h : x = y) : V.bl (!decide (x = y)) = V.bl false := by rw [decide_eq_true h]; rfl
theorem ReelAt.butL {C : Addr} {H H' : Hp} {p c b : Addr} {n : Nat} {x : LS} {cs : List (LOp × LS)} (hb : ReelAt H b n) (k : ButL p c H H') (h : LogAt C H p c x cs) (cb : c ≠ b) : ReelAt H' b n := by
  obtain ⟨u, v, w, e, r⟩ := hb
  obtain ⟨_, _, hp, _⟩ := h.lst
  exact ⟨u, v, w, k _ _ e (ne_of e hp (fun z => by cases z)) cb.symm, r⟩
end LT

namespace LT
open PySem PySem.Spec PyProof.Rows L2
theorem Ch.few {n : Nat} : ∀ {lo hi : Nat} {l : List (Nat × Nat)}, Ch n lo hi l → lo + l.length ≤ hi
  | lo, hi, [], h => by
    have h : lo = hi := h
    rw [List.length_nil]
    omega
  | lo, hi, x :: l, h => by
    have h1 : x.1 = lo := h.1
    have h2 : x.1 < x.2 := h.2.1.1
    have := Ch.few h.2.2.2
    rw [List.length_cons]
    omega
theorem cnt_zero {n : Nat} (h1 : 1 ≤ n) (h : n ≤ 10 ^ 30) : cnt 0 n = ones n := by
  have l100 : n < 2 ^ 100 := Nat.lt_of_le_of_lt h (by decide)
  unfold cnt
  rw [nw_pk l100 (Nat.lt_trans l100 (by decide)), List.length_map, npk_ones h]
theorem cnt_few {n g : Nat} (h : n ≤ g) (h30 : g ≤ 10 ^ 30) : n + cnt n g ≤ g := by
  have l100 : g ≤ 2 ^ 100 := Nat.le_trans h30 (by decide)
  exact Ch.few (nw_ch (n := 2 ^ 100) (e := g) l100 n h)
theorem ones_few {n : Nat} (h : n ≤ 10 ^ 30) : ones n ≤ 101 := by
  rw [← npk_ones h]
  exact pk_len 101 n 0
theorem rt_least {l m c : Nat} (h : ∀ i, i < m → c + 1 ≤ ones (l + i)) : m * c ≤ rt l m := by
  unfold rt
  rw [← sumR_const c m]
  exact sumR_le fun i hi => by have := h i hi; omega
theorem rt_most {l m c : Nat} (h : ∀ i, i < m → ones (l + i) ≤ c + 1) : rt l m ≤ m * c := by
  unfold rt
  rw [← sumR_const c m]
  exact sumR_le fun i hi => by have := h i hi; omega
theorem twoMore (y : Nat) (x : Nat) (r : Nat) (h : (r : Int) < 2) : ∃ many : Nat, atI [V.int (x : Int), V.int (y : Int)] (r : Int) = some (.int (many : Int)) := by
  rcases (show r = 0 ∨ r = 1 by omega) with rfl | rfl
  · exact ⟨x, rfl⟩
  · exact ⟨y, rfl⟩
section
variable {P : Program} {w : World} {K : PySem.W.Frag} {mg : Str → Option Value} {base : Heap}
def spNodeCount : Sp := fun vs H Q _ => ∃ (n : Nat), vs = [.int n] ∧ 1 ≤ n ∧ n ≤ 10 ^ 30 ∧ ∀ (H' : Hp) (p : Addr), Same H H' → H' p = some (.tup [.int (2 * (n : Int) - 1 - ((ones n - 1 : Nat) : Int)), .int ((ones n - 1 : Nat) : Int)]) → Q (.ref p) H'
theorem ok_node_count {f g1 : Addr} {fd d1 : FuncData} (F : Fun K "node_count" "node_count" sNodeCount f fd) (GEdges : FnOk P w K mg base CX0 5 g1 d1 ["size"] spEdges) (AEdges : At K mg "edges" g1 d1 ["size"]) (z_len : mg "len" = none) : FnOk P w K mg base CX0 6 f fd ["size"] spNodeCount := by
  refine F.ok scNodeCount (fun vs H Q E h => ?_) (fun cdv A outer s H vs Q E hr h => ?_)
  · obtain ⟨_, rfl, _⟩ := h
    rfl
  obtain ⟨n, rfl, h1, h30, q⟩ := h
  refine ⟨_, (pss_cons (ps_set (i := 1) scNodeCount.nd rfl (Or.inl rfl) (pe_callB call_len_seq (by rfl) z_len PySem.boot_len (pa_cons (pe_call GEdges (hr.mono (by decide)) rfl AEdges.m AEdges.kp AEdges.b .nil pass0 (pa_cons (pv 0) pa_nil)) pa_nil)))
    (pss_one (ps_ret (pe_tup (pa_cons (pe_op op_sub (pe_op op_sub (pe_op op_mul pe_int (pv 0)) pe_int) (pv 1)) (pa_cons (pv 1) pa_nil)))))), ?_⟩
  refine ⟨_, rfl, n, rfl, h1, h30, fun H1 p xs sm np hp hx => ?_⟩
  have xl : xs.length = ones n - 1 := by rw [hx.len, List.length_map, List.length_dropLast, List.length_map, npk_ones h30]
  refine ⟨p, xs, rfl, .inl (SqL.of hp), ?_⟩
  dsimp only
  rw [xl]
  refine ⟨_, rfl, _, _, rfl, rfl, .inl ⟨by decide, by decide⟩, _, _, rfl, rfl, _, rfl, _, _, rfl, rfl, _, rfl, (by show 2 ≤ sizeLine; decide), fun t nt => ?_⟩
  exact q _ t (sm.trans (same_upd nt)) upd_same
def spCommon : Sp := fun vs H Q _ => ∃ (n o : Nat), vs = [.int n, .int o] ∧ 1 ≤ n ∧ n ≤ o ∧ o ≤ 10 ^ 30 ∧ ∀ (H' : Hp), Same H H' → Q (.int (if n = o then 2 * (n : Int) - 1 else 2 * (n : Int) - 1 - ((ones n - 1 : Nat) : Int))) H'
theorem ok_common_count {f g1 g2 : Addr} {fd d1 d2 : FuncData} (F : Fun K "common_count" "common_count" sCommonCount f fd) (GCheckSize : FnOk P w K mg base CX0 3 g1 d1 ["size"] spCheckSize) (ACheckSize : At K mg "check_size" g1 d1 ["size"])
    (GNodeCount : FnOk P w K mg base CX0 6 g2 d2 ["size"] spNodeCount) (ANodeCount : At K mg "node_count" g2 d2 ["size"]) (z_min : mg "min" = none) : FnOk P w K mg base CX0 7 f fd ["size", "other"] spCommon := by
  refine F.ok scCommonCount (fun vs H Q E h => ?_) (fun cdv A outer s H vs Q E hr h => ?_)
  · obtain ⟨_, _, rfl, _⟩ := h
    rfl
  obtain ⟨n, o, rfl, n1, no, o30, q⟩ := h
  refine ⟨_, (pss_cons (ps_expr (pe_call GCheckSize (hr.mono (by decide)) rfl ACheckSize.m ACheckSize.kp ACheckSize.b .nil pass0 (pa_cons (pv 0) pa_nil)))
    (pss_cons (ps_expr (pe_call GCheckSize (hr.mono (by decide)) rfl ACheckSize.m ACheckSize.kp ACheckSize.b .nil pass0 (pa_cons (pv 1) pa_nil)))
    (pss_cons (ps_asg (pe_call GNodeCount (hr.mono (by decide)) rfl ANodeCount.m ANodeCount.kp ANodeCount.b .nil pass0 (pa_cons (pe_callB (call_min2 rfl) (by rfl) z_min (by decide +kernel) (pa_cons (pv 0) (pa_cons (pv 1) pa_nil))) pa_nil)) (pg_tup (by rfl) (pgs_cons (pg_name (i := 2) scCommonCount.nd rfl (Or.inl rfl)) (pgs_cons (pg_name (i := 3) scCommonCount.nd rfl (Or.inl rfl)) pgs_nil))))
    (pss_cons (ps_if (pt_cmpR op_eq (pv 0) (pv 1) (nomark _))
    (pss_one (ps_ret (pe_op op_add (pv 2) (pv 3))))
    pss_nil)
    (pss_one (ps_ret (pv 2))))))), ?_⟩
  refine ⟨_, rfl, n, rfl, by omega, by omega, ?_⟩
  refine ⟨_, rfl, o, rfl, by omega, by omega, ?_⟩
  have em : (if (o : Int) < (n : Int) then (o : Int) else (n : Int)) = (n : Int) := if_neg (by omega)
  refine ⟨_, rfl, _, rfl, _, _, rfl, n, congrArg (fun z => [V.int z]) em, n1, by omega, fun H1 p sm hp => ?_⟩
  refine ⟨p, _, rfl, SqT.of hp, rfl, _, _, rfl, _, _, rfl, rfl, ?_⟩
  refine ⟨_, rfl, _, rfl, rfl, _, rfl, ite2 (fun c => ?_) (fun c => ?_)⟩
  · have c1 : V.int (n : Int) = V.int (o : Int) := of_decide_eq_true c
    have c2 := V.int.inj c1
    refine ⟨_, rfl, _, rfl, _, _, rfl, rfl, ?_⟩
    have k := q _ sm
    rw [if_pos (by omega)] at k
    have e : 2 * (n : Int) - 1 - ((ones n - 1 : Nat) : Int) + ((ones n - 1 : Nat) : Int) = 2 * (n : Int) - 1 := by omega
    show Q (.int (2 * (n : Int) - 1 - ((ones n - 1 : Nat) : Int) + ((ones n - 1 : Nat) : Int))) H1
    rw [e]
    exact k
  · have c1 : ¬ V.int (n : Int) = V.int (o : Int) := of_decide_eq_false (Bool.eq_false_iff.mpr c)
    have k := q _ sm
    rw [if_neg (fun z => c1 (by rw [z]))] at k
    exact ⟨_, rfl, k⟩
def spRight53 : Sp := fun vs H Q _ => ∃ (b : Addr) (c : Nat), vs = [.ref b] ∧ ReelAt H b c ∧ c ≤ 10 ^ 7 ∧ ∀ H', But b H H' → ReelAt H' b (c + 8) → Q (.bl true) H'
theorem ok_law_right {f g1 g2 g3 g4 g5 g6 g7 g8 g9 g10 g11 g12 g13 : Addr} {fd d1 d2 d3 d4 d5 d6 d7 d8 d9 d10 d11 d12 d13 : FuncData} (F : Fun K "_law_right" "_law_right" sLawRight f fd)
    (GLawSpin : FnOk P w K mg base CX0 1 g1 d1 ["reel", "many"] spSpin) (ALawSpin : At K mg "_law_spin" g1 d1 ["reel", "many"])
    (GLawDrawnSize : FnOk P w K mg base CX0 2 g2 d2 ["reel"] spDrawnSize) (ALawDrawnSize : At K mg "_law_drawn_size" g2 d2 ["reel"])
    (GNodeCount : FnOk P w K mg base CX0 6 g3 d3 ["size"] spNodeCount) (ANodeCount : At K mg "node_count" g3 d3 ["size"])
    (GRootSums : FnOk P w K mg base CX0 6 g4 d4 ["size"] spRootSums) (ARootSums : At K mg "root_sums" g4 d4 ["size"])
    (GEdges : FnOk P w K mg base CX0 5 g5 d5 ["size"] spEdges) (AEdges : At K mg "edges" g5 d5 ["size"])
    (GPeaks : FnOk P w K mg base CX0 4 g6 d6 ["size"] spTops) (APeaks : At K mg "peaks" g6 d6 ["size"])
    (GAppendSums : FnOk P w K mg base CX0 8 g7 d7 ["size", "number"] spAppend) (AAppendSums : At K mg "append_sums" g7 d7 ["size", "number"])
    (GCommonCount : FnOk P w K mg base CX0 7 g8 d8 ["size", "other"] spCommon) (ACommonCount : At K mg "common_count" g8 d8 ["size", "other"])
    (GCheapest : FnOk P w K mg base CX0 7 g9 d9 ["low", "high"] spCheapest) (ACheapest : At K mg "cheapest" g9 d9 ["low", "high"])
    (GCostliest : FnOk P w K mg base CX0 7 g10 d10 ["low", "high"] spCostliest) (ACostliest : At K mg "costliest" g10 d10 ["low", "high"])
    (GRootsTotal : FnOk P w K mg base CX0 5 g11 d11 ["low", "high"] spTotal) (ARootsTotal : At K mg "roots_total" g11 d11 ["low", "high"])
    (GJoinSums : FnOk P w K mg base CX0 7 g12 d12 ["bounds"] spJoinSums) (AJoinSums : At K mg "join_sums" g12 d12 ["bounds"])
    (GCompactCount : FnOk P w K mg base CX0 6 g13 d13 ["begin", "end"] spCompactCount) (ACompactCount : At K mg "compact_count" g13 d13 ["begin", "end"])
    (z_min : mg "min" = none) (z_max : mg "max" = none) (z_len : mg "len" = none) : FnOk P w K mg base CX0 9 f fd ["reel"] spRight53 := by
  refine F.ok scLawRight (fun vs H Q E h => ?_) (fun cdv A outer s H vs Q E hr h => ?_)
  · obtain ⟨_, _, rfl, _⟩ := h
    rfl
  obtain ⟨b, c, rfl, hb, hc, q⟩ := h
  refine ⟨_, (pss_cons (ps_set (i := 1) scLawRight.nd rfl (Or.inl rfl) (pe_call GLawDrawnSize (hr.mono (by decide)) rfl ALawDrawnSize.m ALawDrawnSize.kp ALawDrawnSize.b .nil pass0 (pa_cons (pv 0) pa_nil)))
    (pss_cons (ps_set (i := 2) scLawRight.nd rfl (Or.inl rfl) (pe_ix ix_list (pe_lst (pa_cons (pe_call GLawSpin (hr.mono (by decide)) rfl ALawSpin.m ALawSpin.kp ALawSpin.b .nil pass0 (pa_cons (pv 0) (pa_cons pe_int pa_nil))) (pa_cons (pe_call GLawSpin (hr.mono (by decide)) rfl ALawSpin.m ALawSpin.kp ALawSpin.b .nil pass0 (pa_cons (pv 0) (pa_cons (pe_op op_pow pe_int pe_int) pa_nil))) pa_nil))) (pe_call GLawSpin (hr.mono (by decide)) rfl ALawSpin.m ALawSpin.kp ALawSpin.b .nil pass0 (pa_cons (pv 0) (pa_cons pe_int pa_nil))) (fun _ _ => rfl)))
    (pss_cons (ps_set (i := 3) scLawRight.nd rfl (Or.inl rfl) (pe_callB (call_min2 rfl) (by rfl) z_min (by decide +kernel) (pa_cons (pe_op op_pow pe_int pe_int) (pa_cons (pe_op op_add (pv 1) (pv 2)) pa_nil))))
    (pss_cons (ps_asg (pe_call GNodeCount (hr.mono (by decide)) rfl ANodeCount.m ANodeCount.kp ANodeCount.b .nil pass0 (pa_cons (pv 1) pa_nil)) (pg_tup (by rfl) (pgs_cons (pg_name (i := 4) scLawRight.nd rfl (Or.inl rfl)) (pgs_cons (pg_name (i := 5) scLawRight.nd rfl (Or.inl rfl)) pgs_nil))))
    (pss_cons (ps_if (PW.pt (pw_or (pt_cmpR op_ne (pe_call GRootSums (hr.mono (by decide)) rfl ARootSums.m ARootSums.kp ARootSums.b .nil pass0 (pa_cons (pv 1) pa_nil)) (pv 5) (nomark _)) (pw_or (pt_cmpR op_ne (pe_callB call_len_seq (by rfl) z_len PySem.boot_len (pa_cons (pe_call GEdges (hr.mono (by decide)) rfl AEdges.m AEdges.kp AEdges.b .nil pass0 (pa_cons (pv 1) pa_nil)) pa_nil)) (pv 5) (nomark _)) (pw_or1 (pt_cmpR op_ne (pe_callB call_len_seq (by rfl) z_len PySem.boot_len (pa_cons (pe_call GPeaks (hr.mono (by decide)) rfl APeaks.m APeaks.kp APeaks.b .nil pass0 (pa_cons (pv 1) pa_nil)) pa_nil)) (pe_op op_add (pv 5) pe_int) (nomark _))))))
    (pss_one (ps_ret pe_bl))
    pss_nil)
    (pss_cons (ps_if (pt_cmpR op_ne (pe_call GAppendSums (hr.mono (by decide)) rfl AAppendSums.m AAppendSums.kp AAppendSums.b .nil pass0 (pa_cons (pv 1) (pa_cons (pe_op op_sub (pv 3) (pv 1)) pa_nil))) (pe_op op_sub (pe_op op_sub (pe_ix ix_tup (pe_call GNodeCount (hr.mono (by decide)) rfl ANodeCount.m ANodeCount.kp ANodeCount.b .nil pass0 (pa_cons (pv 3) pa_nil)) pe_int (fun _ _ => rfl)) (pv 3)) (pe_op op_sub (pv 4) (pv 1))) (nomark _))
    (pss_one (ps_ret pe_bl))
    pss_nil)
    (pss_cons (ps_if (pt_cmpR op_ne (pe_call GCommonCount (hr.mono (by decide)) rfl ACommonCount.m ACommonCount.kp ACommonCount.b .nil pass0 (pa_cons (pv 1) (pa_cons (pv 3) pa_nil))) (pe_ifExp (pt_cmpR op_gt (pv 3) (pv 1) (nomark _)) (pv 4) (pe_op op_add (pv 4) (pv 5))) (nomark _))
    (pss_one (ps_ret pe_bl))
    pss_nil)
    (pss_cons (ps_par (i := 6) (j := 7) (by rfl) scLawRight.nd rfl rfl (by decide) rfl rfl (pa_cons (pe_call GCheapest (hr.mono (by decide)) rfl ACheapest.m ACheapest.kp ACheapest.b .nil pass0 (pa_cons (pv 1) (pa_cons (pv 3) pa_nil))) (pa_cons (pe_call GCostliest (hr.mono (by decide)) rfl ACostliest.m ACostliest.kp ACostliest.b .nil pass0 (pa_cons (pv 1) (pa_cons (pv 3) pa_nil))) pa_nil)) (by rfl))
    (pss_cons (ps_if (PW.pt (pw_or (pt_not (pt_cmpR op_le (pe_ix ix_tup (pv 6) pe_int (fun _ _ => rfl)) (pe_callB (call_min2 rfl) (by rfl) z_min (by decide +kernel) (pa_cons (pe_call GRootSums (hr.mono (by decide)) rfl ARootSums.m ARootSums.kp ARootSums.b .nil pass0 (pa_cons (pv 1) pa_nil)) (pa_cons (pe_call GRootSums (hr.mono (by decide)) rfl ARootSums.m ARootSums.kp ARootSums.b .nil pass0 (pa_cons (pv 3) pa_nil)) pa_nil))) (nomark _))) (pw_or1 (pt_not (pt_cmpR op_ge (pe_ix ix_tup (pv 7) pe_int (fun _ _ => rfl)) (pe_callB (call_max2 rfl) (by rfl) z_max (by decide +kernel) (pa_cons (pe_call GRootSums (hr.mono (by decide)) rfl ARootSums.m ARootSums.kp ARootSums.b .nil pass0 (pa_cons (pv 1) pa_nil)) (pa_cons (pe_call GRootSums (hr.mono (by decide)) rfl ARootSums.m ARootSums.kp ARootSums.b .nil pass0 (pa_cons (pv 3) pa_nil)) pa_nil))) (nomark _))))))
    (pss_one (ps_ret pe_bl))
    pss_nil)
    (pss_cons (ps_set (i := 8) scLawRight.nd rfl (Or.inl rfl) (pe_call GRootsTotal (hr.mono (by decide)) rfl ARootsTotal.m ARootsTotal.kp ARootsTotal.b .nil pass0 (pa_cons (pv 1) (pa_cons (pv 3) pa_nil))))
    (pss_cons (ps_if (pt_not (pt_chain op_le op_le (pe_op op_mul (pe_op op_add (pe_op op_sub (pv 3) (pv 1)) pe_int) (pe_ix ix_tup (pv 6) pe_int (fun _ _ => rfl))) (pv 8) (pe_op op_mul (pe_op op_add (pe_op op_sub (pv 3) (pv 1)) pe_int) (pe_ix ix_tup (pv 7) pe_int (fun _ _ => rfl)))))
    (pss_one (ps_ret pe_bl))
    pss_nil)
    (pss_cons (ps_if (pt_cmpR op_eq (pv 3) (pv 1) (nomark _))
    (pss_one (ps_ret pe_bl))
    pss_nil)
    (pss_cons (ps_set (i := 9) scLawRight.nd rfl (Or.inl rfl) (pe_call GJoinSums (hr.mono (by decide)) rfl AJoinSums.m AJoinSums.kp AJoinSums.b .nil pass0 (pa_cons (pe_lst (pa_cons pe_int (pa_cons (pv 1) (pa_cons (pv 3) pa_nil)))) pa_nil)))
    (pss_cons (ps_if (pt_cmpR op_ne (pv 9) (pe_op op_sub (pe_op op_add (pe_op op_add (pv 5) pe_int) (pe_call GCompactCount (hr.mono (by decide)) rfl ACompactCount.m ACompactCount.kp ACompactCount.b .nil pass0 (pa_cons (pv 1) (pa_cons (pv 3) pa_nil)))) (pe_callB call_len_seq (by rfl) z_len PySem.boot_len (pa_cons (pe_call GPeaks (hr.mono (by decide)) rfl APeaks.m APeaks.kp APeaks.b .nil pass0 (pa_cons (pv 3) pa_nil)) pa_nil))) (nomark _))
    (pss_one (ps_ret pe_bl))
    pss_nil)
    (pss_one (ps_ret (pe_cmpR op_le (pv 9) (pe_call GAppendSums (hr.mono (by decide)) rfl AAppendSums.m AAppendSums.kp AAppendSums.b .nil pass0 (pa_cons (pv 1) (pa_cons (pe_op op_sub (pv 3) (pv 1)) pa_nil))) (nomark _)))))))))))))))))), ?_⟩
  have three : 3 ≤ sizeLine := by decide
  have two : 2 ≤ sizeLine := by decide
  have e30 : (10 : Int) ^ Int.toNat 30 = ((10 ^ 30 : Nat) : Int) := by decide
  refine ⟨_, rfl, b, c, rfl, hb, by omega, fun N H1 N1 N30 B1 hb1 => ?_⟩
  refine ⟨_, rfl, b, 99, _, rfl, by decide, by decide, hb1, by omega, fun r1 H2 r1b k2 hb2 => ?_⟩
  have B2 := B1.pick k2
  refine ⟨_, rfl, _, _, rfl, rfl, ⟨by decide, by decide, by decide⟩, b, _, _, rfl, by decide, by decide, hb2, by omega, fun r2 H3 r2b k3 hb3 => ?_⟩
  have B3 := B2.pick k3
  refine ⟨two, fun l nl => ?_⟩
  have wl := same_upd (o := .lst [.int (r1 : Int), .int (r2 : Int)]) nl
  have hb4 := hb3.same wl
  have B4 := B3.same wl
  have lb := hb3.ne nl
  have hl : (upd H3 l (.lst [.int (r1 : Int), .int (r2 : Int)])) l = some (.lst [.int (r1 : Int), .int (r2 : Int)]) := upd_same
  generalize upd H3 l (.lst [.int (r1 : Int), .int (r2 : Int)]) = H4 at hb4 B4 hl ⊢
  refine ⟨_, rfl, b, 2, _, rfl, by decide, by decide, hb4, by omega, fun r3 H5 r3b k5 hb5 => ?_⟩
  have B5 := B4.pick k5
  obtain ⟨mo, hat⟩ := twoMore r2 r1 r3 r3b
  refine ⟨l, _, _, _, rfl, rfl, SqL.of (by rw [k5 l lb]; exact hl), hat, ?_⟩
  clear hb1 hb2 hb3 hb4 B1 B2 B3 B4 k2 k3 k5 hl wl nl hat r1b r2b r3b
  obtain ⟨G, eG, NG, G30⟩ : ∃ G : Nat, (if (N : Int) + (mo : Int) < (10 : Int) ^ Int.toNat 30 then (N : Int) + (mo : Int) else (10 : Int) ^ Int.toNat 30) = (G : Int) ∧ N ≤ G ∧ G ≤ 10 ^ 30 := by
    rw [e30]
    by_cases c : (N : Int) + (mo : Int) < ((10 ^ 30 : Nat) : Int)
    · rw [if_pos c]
      exact ⟨N + mo, by omega, by omega, by omega⟩
    · rw [if_neg c]
      exact ⟨10 ^ 30, rfl, N30, Nat.le_refl _⟩
  refine ⟨_, _, rfl, rfl, ⟨by decide, by decide, by decide⟩, _, rfl, _, rfl, _, _, rfl, rfl, _, _, rfl, ?_⟩
  dsimp (config := { proj := false }) only
  rw [eG]
  have oN := ones_pos N1
  have oG := ones_pos (n := G) (by omega)
  refine ⟨_, rfl, N, rfl, N1, N30, fun H6 t s6 ht => ⟨t, _, rfl, SqT.of ht, rfl, _, _, rfl, _, _, rfl, rfl, ?_⟩⟩
  refine ⟨_, rfl, N, rfl, N1, N30, fun H7 s7 => ⟨_, rfl, rfl, false, ne_no rfl, ?_⟩⟩
  refine ⟨_, rfl, N, rfl, N1, N30, fun H8 pe xe s8 npe hpe hxe => ⟨pe, xe, rfl, .inl (SqL.of hpe), _, rfl, rfl, false, ne_no (congrArg (fun z : Nat => V.int (z : Int)) (by rw [hxe.len, List.length_map, List.length_dropLast, List.length_map, npk_ones N30])), ?_⟩⟩
  refine ⟨_, rfl, N, rfl, N1, N30, fun H9 pt xt s9 npt hpt hxt => ⟨pt, xt, rfl, .inl (SqL.of hpt), _, rfl, _, _, rfl, rfl, rfl, false, ne_no (congrArg V.int (by rw [hxt.len, List.length_map, npk_ones N30]; omega)), ?_⟩⟩
  have s59 := s6.trans (s7.trans (s8.trans s9))
  have hb9 := hb5.same s59
  have B9 := B5.same s59
  clear s6 s7 s8 s9 s59 hpe hxe hpt hxt npe npt ht hb5 B5
  refine ⟨_, rfl, _, rfl, _, rfl, _, _, rfl, rfl, N, G - N, congrArg (fun z => [V.int (N : Int), V.int z]) (by omega), N1, by omega, fun H10 s10 => ?_⟩
  refine ⟨_, rfl, G, rfl, by omega, G30, fun H11 tg s11 htg => ⟨tg, _, _, _, rfl, rfl, SqT.of htg, atI_nat (j := 0) rfl, _, rfl, _, _, rfl, rfl, _, rfl, _, rfl, _, _, rfl, rfl, _, _, rfl, rfl, rfl, false, ne_no (congrArg V.int (by rw [show N + (G - N) = G by omega]; omega)), ?_⟩⟩
  refine ⟨_, rfl, _, rfl, N, G, rfl, N1, NG, G30, fun H12 s12 => ?_⟩
  have s912 := s10.trans (s11.trans s12)
  have hb12 := hb9.same s912
  have B12 := B9.same s912
  clear s10 s11 s12 s912 htg hb9 B9
  refine ⟨_, rfl, _, rfl, _, _, rfl, rfl, ?_⟩
  by_cases cg : N < G
  case' pos =>
    refine ⟨true, congrArg V.bl (decide_eq_true (by omega)), _, rfl, rfl, false, ne_no (congrArg V.int (if_neg (by omega))), ?_⟩
  case' neg =>
    refine ⟨false, congrArg V.bl (decide_eq_false (by omega)), _, rfl, _, rfl, _, _, rfl, rfl, rfl, false, ne_no (congrArg V.int (by rw [if_pos (by omega)]; omega)), ?_⟩
  all_goals
    refine ⟨_, rfl, _, rfl, N, G, rfl, N1, NG, G30, fun H13 pl cl sl s13 npl hpl hl => ⟨_, rfl, _, rfl, N, G, rfl, N1, NG, G30, fun H14 ph ch sh s14 nph hph hh => ⟨_, _, rfl, ?_⟩⟩⟩
    obtain ⟨_, el, hpl⟩ := hpl
    cases el
    obtain ⟨_, eh, hph⟩ := hph
    cases eh
    obtain ⟨sl1, sl2, ol1, hl⟩ := hl
    obtain ⟨sh1, sh2, oh1, hh⟩ := hh
    have hpl14 := s14 _ _ hpl
    have ls : cl + 1 ≤ 101 := by rw [← ol1]; exact ones_few (by omega)
    have hs : ch + 1 ≤ 101 := by rw [← oh1]; exact ones_few (by omega)
    have lN := (hl N (Nat.le_refl _) NG).1
    have lG := (hl G NG (Nat.le_refl _)).1
    have hN := (hh N (Nat.le_refl _) NG).1
    have hG := (hh G NG (Nat.le_refl _)).1
    refine ⟨_, rfl, pl, _, _, _, rfl, rfl, SqT.of hpl14, atI_nat (j := 0) rfl, _, rfl, N, rfl, N1, N30, fun H15 s15 => ⟨_, rfl, G, rfl, by omega, G30, fun H16 s16 => ⟨_, _, rfl, _, _, rfl, rfl, true, congrArg V.bl (decide_eq_true ?_), ?_⟩⟩⟩
    · split <;> (dsimp only; omega)
    refine ⟨_, rfl, ph, _, _, _, rfl, rfl, SqT.of (s16 _ _ (s15 _ _ hph)), atI_nat (j := 0) rfl, _, rfl, N, rfl, N1, N30, fun H17 s17 => ⟨_, rfl, G, rfl, by omega, G30, fun H18 s18 => ⟨_, _, rfl, _, _, rfl, rfl, true, congrArg V.bl (decide_eq_true ?_), ?_⟩⟩⟩
    · split <;> (dsimp only; omega)
    have s1418 := s15.trans (s16.trans (s17.trans s18))
    have hpl18 := s1418 _ _ hpl14
    have hph18 := s1418 _ _ hph
    have hb18 := hb12.same (s13.trans (s14.trans s1418))
    have B18 := B12.same (s13.trans (s14.trans s1418))
    clear s13 s14 s15 s16 s17 s18 s1418 hpl hph hpl14 hb12 B12 npl nph
    refine ⟨_, rfl, _, rfl, N, G, rfl, N1, NG, G30, ?_⟩
    have r1 : (G + 1 - N) * cl ≤ rt N (G + 1 - N) := rt_least fun i hi => (hl (N + i) (by omega) (by omega)).1
    have r2 : rt N (G + 1 - N) ≤ (G + 1 - N) * ch := rt_most fun i hi => (hh (N + i) (by omega) (by omega)).1
    have eW : (G : Int) - (N : Int) + 1 = ((G + 1 - N : Nat) : Int) := by omega
    generalize rt N (G + 1 - N) = T at r1 r2 ⊢
    refine ⟨_, rfl, _, rfl, _, _, rfl, rfl, _, _, rfl, rfl, _, rfl, pl, _, _, _, rfl, rfl, SqT.of hpl18, atI_nat (j := 0) rfl, _, _, rfl, rfl, .inr ⟨by dsimp only; omega, by dsimp only; omega⟩, ?_⟩
    have r1' : ((G : Int) - (N : Int) + 1) * (cl : Int) ≤ (T : Int) := by
      rw [eW, ← Int.natCast_mul]
      exact Int.ofNat_le.mpr r1
    have r2' : (T : Int) ≤ ((G : Int) - (N : Int) + 1) * (ch : Int) := by
      rw [eW, ← Int.natCast_mul]
      exact Int.ofNat_le.mpr r2
    refine ⟨_, rfl, _, _, rfl, rfl, true, congrArg V.bl (decide_eq_true r1'), ?_⟩
    refine ⟨_, rfl, _, rfl, _, _, rfl, rfl, _, _, rfl, rfl, _, rfl, ph, _, _, _, rfl, rfl, SqT.of hph18, atI_nat (j := 0) rfl, _, _, rfl, rfl, .inr ⟨by dsimp only; omega, by dsimp only; omega⟩, _, _, rfl, rfl, true, congrArg V.bl (decide_eq_true r2'), ?_⟩
    refine ⟨_, rfl, _, rfl, rfl, _, rfl, ite2 (fun c => ?_) (fun c => ?_)⟩
    · exact q _ B18 hb18
    have c1 : ¬ V.int (G : Int) = V.int (N : Int) := of_decide_eq_false (Bool.eq_false_iff.mpr c)
    have NltG : N < G := by
      have : G ≠ N := fun z => c1 (by rw [z])
      omega
    refine ⟨_, rfl, _, rfl, three, fun l nl => ?_⟩
    have wl := same_upd (o := .lst [.int 0, .int (N : Int), .int (G : Int)]) nl
    refine ⟨l, [0, N, G], 0, G, rfl, upd_same, by show 2 ≤ 3; decide, by show 3 ≤ 12; decide, ⟨Nat.le_refl _, Nat.zero_le _, by omega, by omega, by omega, G30, trivial⟩, rfl, rfl, by omega, G30, fun H20 s20 => ?_⟩
    have c0N := cnt_zero N1 N30
    have c0G := cnt_zero (n := G) (by omega) G30
    have cf := cnt_few NG G30
    have ej : ((((([0, N, G] : List Nat).zip (([0, N, G] : List Nat).drop 1)).map fun x => cnt x.1 x.2).sum : Nat) : Int) - (cnt 0 G : Int) = ((ones N : Nat) : Int) + ((cnt N G : Nat) : Int) - ((ones G : Nat) : Int) := by
      show (((cnt 0 N + (cnt N G + 0) : Nat) : Nat) : Int) - (cnt 0 G : Int) = _
      rw [c0N, c0G]
      omega
    rw [ej]
    refine ⟨_, rfl, _, rfl, _, _, rfl, rfl, _, rfl, _, rfl, N, G, rfl, NltG, G30, fun H21 s21 => ⟨_, _, rfl, rfl, _, rfl, G, rfl, by omega, G30, fun H22 pt xt s22 npt hpt hxt => ⟨pt, xt, rfl, .inl (SqL.of hpt), _, _, rfl, rfl, rfl, false, ne_no (congrArg V.int ?_), ?_⟩⟩⟩
    · show ((ones N : Nat) : Int) + ((cnt N G : Nat) : Int) - ((ones G : Nat) : Int) = (((ones N - 1 : Nat) : Int) + 1 + ((cnt N G : Nat) : Int)) - ((xt.length : Nat) : Int)
      rw [hxt.len, List.length_map, npk_ones G30]
      omega
    refine ⟨_, rfl, _, rfl, _, rfl, _, rfl, _, _, rfl, rfl, N, G - N, congrArg (fun z => [V.int (N : Int), V.int z]) (by omega), N1, by omega, fun H23 s23 => ⟨_, _, rfl, rfl, ?_⟩⟩
    have sF := wl.trans (s20.trans (s21.trans (s22.trans s23)))
    have ef : ((ones N : Nat) : Int) + ((cnt N G : Nat) : Int) - ((ones G : Nat) : Int) ≤ ((G - N : Nat) : Int) - ((ones (N + (G - N)) : Nat) : Int) + ((ones N : Nat) : Int) := by
      rw [show N + (G - N) = G by omega]
      omega
    exact Eq.mpr (congrArg (fun v => Q v H23) (congrArg V.bl (decide_eq_true ef))) (q H23 (B18.same sF) (hb18.same sF))
end
end LT

namespace LT
open PySem PySem.Spec PyProof.Rows L2
theorem twoMany29 (r : Nat) (h : (r : Int) < 2) : ∃ many : Nat, atI [V.int 9, V.int (10 ^ Int.toNat 29)] (r : Int) = some (.int (many : Int)) ∧ 1 ≤ many ∧ many ≤ 10 ^ 29 := by
  rcases (show r = 0 ∨ r = 1 by omega) with rfl | rfl
  · exact ⟨9, rfl, by decide, by decide⟩
  · exact ⟨10 ^ 29, rfl, by decide, by decide⟩
theorem twoMany28 (r : Nat) (h : (r : Int) < 2) : ∃ many : Nat, atI [V.int 9, V.int (10 ^ Int.toNat 28)] (r : Int) = some (.int (many : Int)) ∧ 1 ≤ many ∧ many ≤ 10 ^ 28 := by
  rcases (show r = 0 ∨ r = 1 by omega) with rfl | rfl
  · exact ⟨9, rfl, by decide, by decide⟩
  · exact ⟨10 ^ 28, rfl, by decide, by decide⟩
theorem LogAt.butR {C : Addr} {H H' : Hp} {p c b : Addr} {n : Nat} {x : LS} {cs : List (LOp × LS)} (h : LogAt C H p c x cs) (hb : ReelAt H b n) (k : ∀ a, a ≠ b → H' a = H a) (cb : c ≠ b) : LogAt C H' p c x cs := by
  obtain ⟨_, _, _, e, _⟩ := hb
  exact h.off k e cb
section
variable {P : Program} {w : World} {K : PySem.W.Frag} {mg : Str → Option Value} {base : Heap}
def spLogRight : Sp := fun vs H Q _ => ∃ (b : Addr) (c : Nat), vs = [.ref b] ∧ ReelAt H b c ∧ c ≤ 10 ^ 7 ∧ ∀ H', But b H H' → ReelAt H' b (c + 20) → Q (.bl true) H'
theorem ok_law_log_right {f g1 g2 g3 g4 g5 g6 g7 g8 g9 C p1 p2 : Addr} {fd d1 d2 d3 d4 d5 d6 d8 d9 : FuncData} (F : Fun K "_law_log_right" "_law_log_right" sLawLogRight f fd) (TLiveLog : TLog K C) (gLiveLog : mg "LiveLog" = some (.ref C))
    (GLawSpin : FnOk P w K mg base CX0 1 g1 d1 ["reel", "many"] spSpin) (ALawSpin : At K mg "_law_spin" g1 d1 ["reel", "many"])
    (KLiveLog : Mk K C g2) (GLiveLogInit : FnOk P w K mg base CX0 4 g2 d2 ["self", "size"] (spLogInit C)) (BLiveLogInit : Binds K d2 ["self", "size"] [])
    (GLiveLogMark : FnOk P w K mg base CX0 11 g3 d3 ["self"] (spCallL C (fun _ => .mark) true)) (MLiveLogMark : Meth K C "mark" g3) (BLiveLogMark : Binds K d3 ["self"] [])
    (GLiveLogAppend : FnOk P w K mg base CX0 11 g4 d4 ["self", "number"] (spCallL C .app false)) (MLiveLogAppend : Meth K C "append" g4) (BLiveLogAppend : Binds K d4 ["self", "number"] [])
    (GLiveLogPresent : FnOk P w K mg base CX0 1 g5 d5 ["self"] (spPresent C)) (PLiveLogPresent : PropOf K C "present" p1 g5) (BLiveLogPresent : Binds K d5 ["self"] [])
    (GLiveLogSpent : FnOk P w K mg base CX0 1 g6 d6 ["self"] (spSpent C)) (PLiveLogSpent : PropOf K C "spent" p2 g6) (BLiveLogSpent : Binds K d6 ["self"] [])
    (GLiveLogPreview2 : FnOkV P w K mg base CX0 11 g7 2 (spPreview C)) (MLiveLogPreview : Meth K C "preview" g7)
    (GAppendSums : FnOk P w K mg base CX0 8 g8 d8 ["size", "number"] spAppend) (AAppendSums : At K mg "append_sums" g8 d8 ["size", "number"])
    (GRootSums : FnOk P w K mg base CX0 6 g9 d9 ["size"] spRootSums) (ARootSums : At K mg "root_sums" g9 d9 ["size"])
    (z_range : mg "range" = none) : FnOk P w K mg base CX0 12 f fd ["reel"] spLogRight := by
  refine F.ok scLawLogRight (fun vs H Q E h => ?_) (fun cdv A outer s H vs Q E hr h => ?_)
  · obtain ⟨_, _, rfl, _⟩ := h
    rfl
  obtain ⟨b, c, rfl, hb, hc, q⟩ := h
  refine ⟨_, (pss_cons (ps_set (i := 1) scLawLogRight.nd rfl (Or.inl rfl) (pe_op op_add pe_int (pe_call GLawSpin (hr.mono (by decide)) rfl ALawSpin.m ALawSpin.kp ALawSpin.b .nil pass0 (pa_cons (pv 0) (pa_cons (pe_ix ix_list (pe_lst (pa_cons pe_int (pa_cons (pe_op op_pow pe_int pe_int) pa_nil))) (pe_call GLawSpin (hr.mono (by decide)) rfl ALawSpin.m ALawSpin.kp ALawSpin.b .nil pass0 (pa_cons (pv 0) (pa_cons pe_int pa_nil))) (fun _ _ => rfl)) pa_nil)))))
    (pss_cons (ps_par3 (i := 2) (j := 3) (l := 4) (by rfl) scLawLogRight.nd rfl rfl rfl (by decide) (by decide) (by decide) rfl rfl rfl (pa_cons (pe_make KLiveLog GLiveLogInit (hr.mono (by decide)) rfl gLiveLog BLiveLogInit .nil pass0 (pa_cons (pv 1) pa_nil)) (pa_cons pe_int (pa_cons (pe_lst pa_nil) pa_nil))) (by rfl))
    (pss_cons (ps_for PassesOwn.never rfl (pi_range1 (by rfl) z_range (pa_cons pe_int pa_nil)) (pg_name (i := 5) scLawLogRight.nd rfl (Or.inl rfl))
    (pss_cons (ps_if (pt_cmpR op_eq (pe_call GLawSpin (hr.mono (by decide)) rfl ALawSpin.m ALawSpin.kp ALawSpin.b .nil pass0 (pa_cons (pv 0) (pa_cons pe_int pa_nil))) pe_int (nomark _))
    (pss_cons (ps_set (i := 3) scLawLogRight.nd rfl (Or.inl rfl) (pe_op op_add (pv 3) (pe_ifExp (pt_cmpR op_in_seq (pe_prop (pv 2) TLiveLog.cl PLiveLogPresent GLiveLogPresent (hr.mono (by decide)) BLiveLogPresent .nil pass0 rfl) (pv 4) (by rfl)) pe_int (pe_call GRootSums (hr.mono (by decide)) rfl ARootSums.m ARootSums.kp ARootSums.b .nil pass0 (pa_cons (pe_prop (pv 2) TLiveLog.cl PLiveLogPresent GLiveLogPresent (hr.mono (by decide)) BLiveLogPresent .nil pass0 rfl) pa_nil)))))
    (pss_cons (ps_expr (pe_bm PySem.F.plainAttrs_list PySem.F.slot_list_append PySem.F.type_list_append mt_append (pv 4) (pa_cons (pe_prop (pv 2) TLiveLog.cl PLiveLogPresent GLiveLogPresent (hr.mono (by decide)) BLiveLogPresent .nil pass0 rfl) pa_nil)))
    (pss_one (ps_expr (pe_meth0 (pv 2) TLiveLog.cl MLiveLogMark GLiveLogMark (hr.mono (by decide)) BLiveLogMark .nil pass0)))))
    (pss_cons (ps_set (i := 6) scLawLogRight.nd rfl (Or.inl rfl) (pe_op op_add pe_int (pe_call GLawSpin (hr.mono (by decide)) rfl ALawSpin.m ALawSpin.kp ALawSpin.b .nil pass0 (pa_cons (pv 0) (pa_cons (pe_ix ix_list (pe_lst (pa_cons pe_int (pa_cons (pe_op op_pow pe_int pe_int) pa_nil))) (pe_call GLawSpin (hr.mono (by decide)) rfl ALawSpin.m ALawSpin.kp ALawSpin.b .nil pass0 (pa_cons (pv 0) (pa_cons pe_int pa_nil))) (fun _ _ => rfl)) pa_nil)))))
    (pss_cons (ps_set (i := 3) scLawLogRight.nd rfl (Or.inl rfl) (pe_op op_add (pv 3) (pe_call GAppendSums (hr.mono (by decide)) rfl AAppendSums.m AAppendSums.kp AAppendSums.b .nil pass0 (pa_cons (pe_prop (pv 2) TLiveLog.cl PLiveLogPresent GLiveLogPresent (hr.mono (by decide)) BLiveLogPresent .nil pass0 rfl) (pa_cons (pv 6) pa_nil)))))
    (pss_one (ps_expr (pe_meth (pv 2) TLiveLog.cl MLiveLogAppend GLiveLogAppend (hr.mono (by decide)) BLiveLogAppend .nil pass0 (pa_cons (pv 6) pa_nil)))))))
    (pss_one (ps_if (pt_cmpR op_ne (pe_prop (pv 2) TLiveLog.cl PLiveLogSpent GLiveLogSpent (hr.mono (by decide)) BLiveLogSpent .nil pass0 rfl) (pv 3) (nomark _))
    (pss_one (ps_ret pe_bl))
    pss_nil))))
    (pss_one (ps_ret (pe_cmpR op_eq (pe_methV (pv 2) TLiveLog.cl MLiveLogPreview GLiveLogPreview2 (hr.mono (by decide)) (by decide) pass0 (pa_cons (pe_tup (pa_cons pe_str (pa_cons pe_int pa_nil))) (pa_cons (pe_tup (pa_cons pe_str pa_nil)) pa_nil))) (pe_op op_add (pe_op op_add (pv 3) (pe_call GAppendSums (hr.mono (by decide)) rfl AAppendSums.m AAppendSums.kp AAppendSums.b .nil pass0 (pa_cons (pe_prop (pv 2) TLiveLog.cl PLiveLogPresent GLiveLogPresent (hr.mono (by decide)) BLiveLogPresent .nil pass0 rfl) (pa_cons pe_int pa_nil)))) (pe_call GRootSums (hr.mono (by decide)) rfl ARootSums.m ARootSums.kp ARootSums.b .nil pass0 (pa_cons (pe_op op_add (pe_prop (pv 2) TLiveLog.cl PLiveLogPresent GLiveLogPresent (hr.mono (by decide)) BLiveLogPresent .nil pass0 rfl) pe_int) pa_nil))) (nomark _))))))), ?_⟩
  have one1 : 1 ≤ sizeLine := by decide
  have two : 2 ≤ sizeLine := by decide
  have three : 3 ≤ sizeLine := by decide
  have d29 : (10 : Nat) ^ 29 < 2 ^ 250 := by decide
  have d28 : (10 : Nat) ^ 28 < 2 ^ 250 := by decide
  have dd : (10 : Nat) ^ 29 + 7 * 10 ^ 28 + 10 ≤ 10 ^ 30 := by decide
  refine ⟨_, rfl, _, _, rfl, rfl, ⟨by decide, by decide, by decide⟩, two, fun l1 nl1 => ?_⟩
  have w1 := same_upd (o := .lst [.int 9, .int (10 ^ Int.toNat 29)]) nl1
  have hl1 : (upd H l1 (.lst [.int 9, .int (10 ^ Int.toNat 29)])) l1 = some (.lst [.int 9, .int (10 ^ Int.toNat 29)]) := upd_same
  have hb1 := hb.same w1
  have l1b := hb.ne nl1
  generalize upd H l1 (.lst [.int 9, .int (10 ^ Int.toNat 29)]) = H1 at w1 hl1 hb1 ⊢
  refine ⟨_, rfl, b, 2, c, rfl, by decide, by decide, hb1, by omega, fun r H2 r1 k2 hb2 => ?_⟩
  obtain ⟨many, hat, m1, m29⟩ := twoMany29 r r1
  refine ⟨l1, _, _, _, rfl, rfl, SqL.of (by rw [k2 l1 l1b]; exact hl1), hat, ?_⟩
  refine ⟨b, (many : Int), _, rfl, by omega, by omega, hb2, by omega, fun r2 H3 r21 k3 hb3 => ⟨_, _, rfl, rfl, ?_⟩⟩
  have B3 : But b H H3 := fun a o z k => by rw [k3 a z, k2 a z]; exact w1 a o k
  dsimp (config := { proj := false }) only
  rw [show (1 : Int) + (r2 : Int) = ((1 + r2 : Nat) : Int) by omega]
  have n1 : 1 ≤ 1 + r2 := by omega
  have n29 : 1 + r2 ≤ 10 ^ 29 := by omega
  generalize 1 + r2 = n at n1 n29
  clear hl1 hb1 hb2 k2 k3 w1 hat
  refine ⟨_, rfl, fun p dx np ndx nex => ⟨p, dx, n, rfl, upd_same, n1, by omega, fun cl H4 ncl hL kp => ⟨rfl, Nat.zero_le _, fun sa nsa => ⟨_, _, _, rfl, ?_⟩⟩⟩⟩
  have s34 := made_same np ndx kp
  have ncl3 := made_free np ndx ncl
  have hb4 := hb3.same s34
  have clb := hb3.ne ncl3
  have B4 := B3.trans (But.of (b := b) s34)
  have npH := B3.free np (hb3.ne np)
  have nclH := B3.free ncl3 clb
  clear s34 kp np ndx nex ncl ncl3 hb3 B3
  have w5 := same_upd (o := .lst []) nsa
  have hs5 : (upd H4 sa (.lst [])) sa = some (.lst (natsV [])) := upd_same
  have sab := hb4.ne nsa
  have sacl : cl ≠ sa := by
    obtain ⟨_, _, _, _, _, d⟩ := hL.lst
    exact fun z => by rw [← z, d] at nsa; cases nsa
  have nsaH := B4.free nsa sab
  have hL5 := hL.same w5
  have hb5 := hb4.same w5
  have B5 := B4.same w5
  generalize upd H4 sa (.lst []) = H5 at hs5 hL5 hb5 B5 ⊢
  clear w5 nsa hL hb4 B4
  refine ⟨6, rfl, by decide, by decide, ?_⟩
  refine for_range (lo := 0) (n := 6) (fun i σ H' => ∃ (x : LS) (cs : List (LOp × LS)) (ms : List Nat) (v5 v6 : Option V), σ = [some (.ref b), some (.int (n : Int)), some (.ref p), some (.int x.2.2), some (.ref sa), v5, v6] ∧ LogAt C H' p cl x cs ∧ H' sa = some (.lst (natsV ms)) ∧ ReelAt H' b (c + 2 + 3 * i) ∧ But b H H' ∧
      1 ≤ x.1 ∧ x.1 ≤ 10 ^ 29 + i * 10 ^ 28 ∧ x.2.1.length ≤ i ∧ ms.length ≤ i ∧ cs.length ≤ i ∧ (∀ m, m ∈ ms ↔ m ∈ x.2.1) ∧ ∀ m ∈ x.2.1, m ≤ x.1)
    ⟨(n, [], 0), [], [], none, none, rfl, hL5, hs5, hb5, B5, n1, Nat.le_trans n29 (Nat.le_add_right _ _), Nat.le_refl _, Nat.le_refl _, Nat.le_refl _, fun m => Iff.rfl, fun m hm => absurd hm List.not_mem_nil⟩ ?_ ?_
  · rintro i σ H7 hi ⟨x, cs, ms, v5, v6, rfl, hL7, hs7, hb7, B7, x1, xm, xl, ml, lcs, hms, hle⟩
    have NI : i * 10 ^ 28 ≤ 5 * 10 ^ 28 := Nat.mul_le_mul_right _ (by omega)
    have NI1 : (i + 1) * 10 ^ 28 = i * 10 ^ 28 + 10 ^ 28 := Nat.succ_mul _ _
    have x30 : x.1 + 10 ^ 28 + 10 ≤ 10 ^ 30 := by omega
    have xm' : x.1 ≤ 10 ^ 29 + (i + 1) * 10 ^ 28 := Nat.le_trans xm (Nat.add_le_add_left (Nat.mul_le_mul_right _ (Nat.le_succ i)) _)
    have hg : lgood x := ⟨x1, by omega, by omega⟩
    refine ⟨_, rfl, b, 3, _, rfl, by decide, by decide, hb7, by omega, fun r H8 r1 k8 hb8 => ⟨rfl, _, rfl, ite2 (fun cc => ?_) (fun cc => ?_)⟩⟩
    all_goals
      have hL8 := hL7.butR hb7 k8 clb
      have hs8 : H8 sa = some (.lst (natsV ms)) := by rw [k8 sa sab]; exact hs7
      have B8 := B7.pick k8
      clear hL7 hs7 hb7 B7 k8 cc
      obtain ⟨dx8, fs8, hp8, hno8, _⟩ := hL8.lst
    · -- a mark
      refine ⟨_, rfl, _, rfl, p, dx8, fs8, rfl, hp8, p, cl, x, cs, rfl, hL8, _, rfl, sa, _, rfl, .inl (SqL.of hs8), rfl, natsV_flat ms, ?_⟩
      have eI : (if false = true then !inV (V.int (x.1 : Int)) (natsV ms) else inV (V.int (x.1 : Int)) (natsV ms)) = decide (x.1 ∈ ms) := natsV_in x.1 ms
      rw [eI]
      have ok9 : (lafter x .mark).1 = x.1 ∧ (lafter x .mark).2.1.length ≤ i + 1 ∧ (∀ m, m ∈ ms ++ [x.1] ↔ m ∈ (lafter x .mark).2.1) ∧ ∀ m ∈ (lafter x .mark).2.1, m ≤ x.1 := by
        show (if x.1 ∈ x.2.1 then x else (x.1, x.2.1 ++ [x.1], x.2.2 + ((ones x.1 - 1 : Nat) : Int))).1 = x.1 ∧ (if x.1 ∈ x.2.1 then x else (x.1, x.2.1 ++ [x.1], x.2.2 + ((ones x.1 - 1 : Nat) : Int))).2.1.length ≤ i + 1 ∧ (∀ m, m ∈ ms ++ [x.1] ↔ m ∈ (if x.1 ∈ x.2.1 then x else (x.1, x.2.1 ++ [x.1], x.2.2 + ((ones x.1 - 1 : Nat) : Int))).2.1) ∧ ∀ m ∈ (if x.1 ∈ x.2.1 then x else (x.1, x.2.1 ++ [x.1], x.2.2 + ((ones x.1 - 1 : Nat) : Int))).2.1, m ≤ x.1
        by_cases c : x.1 ∈ x.2.1
        · rw [if_pos c]
          refine ⟨rfl, by omega, fun m => ?_, hle⟩
          rw [List.mem_append, List.mem_singleton, hms m]
          exact ⟨fun z => z.elim id fun z => by rw [z]; exact c, .inl⟩
        · rw [if_neg c]
          refine ⟨rfl, by show (x.2.1 ++ [x.1]).length ≤ i + 1; rw [List.length_append, List.length_singleton]; omega, fun m => ?_, fun m hm => ?_⟩
          · show m ∈ ms ++ [x.1] ↔ m ∈ x.2.1 ++ [x.1]
            rw [List.mem_append, List.mem_append, hms m]
          · rcases List.mem_append.mp hm with z | z
            · exact hle m z
            · rw [List.mem_singleton] at z
              omega
      by_cases c : x.1 ∈ x.2.1
      case' pos =>
        rw [decide_eq_true ((hms x.1).mpr c)]
        have ed : x.2.2 + 0 = (lafter x .mark).2.2 := by
          show _ = (if x.1 ∈ x.2.1 then x else (x.1, x.2.1 ++ [x.1], x.2.2 + ((ones x.1 - 1 : Nat) : Int))).2.2
          rw [if_pos c, Int.add_zero]
        refine ⟨true, rfl, _, _, rfl, rfl, ?_⟩
        dsimp (config := { proj := false }) only
        rw [ed]
        have s9 : Same H8 H8 := Same.refl _
      case' neg =>
        rw [decide_eq_false (fun z => c ((hms x.1).mp z))]
        have ed : x.2.2 + ((ones x.1 - 1 : Nat) : Int) = (lafter x .mark).2.2 := by
          show _ = (if x.1 ∈ x.2.1 then x else (x.1, x.2.1 ++ [x.1], x.2.2 + ((ones x.1 - 1 : Nat) : Int))).2.2
          rw [if_neg c]
        refine ⟨false, rfl, _, rfl, p, dx8, fs8, rfl, hp8, p, cl, x, cs, rfl, hL8, x.1, rfl, x1, by omega, fun H9 s9 => ⟨_, _, rfl, rfl, ?_⟩⟩
        dsimp (config := { proj := false }) only
        rw [ed]
      all_goals
        have hL9 := hL8.same s9
        have hs9 := s9 _ _ hs8
        have hb9 := hb8.same s9
        have B9 := B8.same s9
        have hp9 := s9 _ _ hp8
        refine ⟨_, rfl, .inl ⟨rfl, _, SqL.of hs9⟩, _, rfl, p, dx8, fs8, rfl, hp9, p, cl, x, cs, rfl, hL9, sa, _, _, rfl, rfl, hs9, szlt (by rw [natsV_len]; omega), ?_⟩
        have hL10 := hL9.off (H' := upd _ sa (.lst (natsV ms ++ [.int (x.1 : Int)]))) (fun a z => upd_ne z) hs9 sacl
        have hb10 := hb9.upd (o := .lst (natsV ms ++ [.int (x.1 : Int)])) sab
        have B10 := fun a o z (e : H a = some o) => (upd_ne (o := .lst (natsV ms ++ [.int (x.1 : Int)])) (ne_of_none e nsaH)).trans (B9 a o z e)
        obtain ⟨dx10, fs10, hp10, hno10, _⟩ := hL10.lst
        refine ⟨_, rfl, p, dx10, fs10, rfl, hp10, hno10 _ no_mark, p, cl, x, cs, 0, rfl, hL10, hg, trivial, by omega, fun H11 k11 hL11 => ?_⟩
        have hs11 : H11 sa = some (.lst (natsV (ms ++ [x.1]))) := by
          rw [natsV_app]
          exact k11 _ _ upd_same (ne_of upd_same hp10 (fun z => by cases z)) sacl.symm
        have hb11 := hb10.butL k11 hL10 clb
        have B11 : But b H H11 := But.butL B10 k11 npH nclH
        obtain ⟨dx11, fs11, hp11, hno11, _⟩ := hL11.lst
        refine ⟨_, rfl, p, dx11, fs11, rfl, hp11, p, cl, _, _, rfl, hL11, _, rfl, rfl, false, ne_no rfl, ?_⟩
        exact ⟨_, _, ms ++ [x.1], _, _, rfl, hL11, hs11, hb11.mono (by omega), B11, by rw [ok9.1]; exact x1, Nat.le_trans (Nat.le_of_eq ok9.1) xm', ok9.2.1, by rw [List.length_append, List.length_singleton]; omega, by rw [List.length_append, List.length_singleton]; omega, ok9.2.2.1, by rw [ok9.1]; exact ok9.2.2.2⟩
    · -- more entries
      refine ⟨_, rfl, _, _, rfl, rfl, ⟨by decide, by decide, by decide⟩, two, fun l nl => ?_⟩
      have wl := same_upd (o := .lst [.int 9, .int (10 ^ Int.toNat 28)]) nl
      have hl9 : (upd H8 l (.lst [.int 9, .int (10 ^ Int.toNat 28)])) l = some (.lst [.int 9, .int (10 ^ Int.toNat 28)]) := upd_same
      have hb9 := hb8.same wl
      have lb := hb8.ne nl
      have hL9 := hL8.same wl
      have hs9 := wl _ _ hs8
      have B9 := B8.same wl
      generalize upd H8 l (.lst [.int 9, .int (10 ^ Int.toNat 28)]) = H9 at hl9 hb9 hL9 hs9 B9 ⊢
      refine ⟨_, rfl, b, 2, _, rfl, by decide, by decide, hb9, by omega, fun r' H10 r1' k10 hb10 => ?_⟩
      obtain ⟨mm, hat, mm1, mm28⟩ := twoMany28 r' r1'
      refine ⟨l, _, _, _, rfl, rfl, SqL.of (by rw [k10 l lb]; exact hl9), hat, ?_⟩
      refine ⟨b, (mm : Int), _, rfl, by omega, by omega, hb10, by omega, fun r2 H11 r21 k11 hb11 => ⟨_, _, rfl, rfl, ?_⟩⟩
      have hL11 := (hL9.butR hb9 k10 clb).butR hb10 k11 clb
      have hs11 : H11 sa = some (.lst (natsV ms)) := by rw [k11 sa sab, k10 sa sab]; exact hs9
      have B11 := (B9.pick k10).pick k11
      clear hL8 hs8 hb8 B8 hL9 hs9 hb9 B9 hb10 k10 k11 hl9 wl hp8 hno8
      obtain ⟨k, hk⟩ : ∃ k : Nat, (1 : Int) + (r2 : Int) = (k : Int) := ⟨1 + r2, by omega⟩
      dsimp (config := { proj := false }) only
      rw [hk]
      obtain ⟨dx11, fs11, hp11, hno11, _⟩ := hL11.lst
      refine ⟨_, rfl, _, rfl, p, dx11, fs11, rfl, hp11, p, cl, x, cs, rfl, hL11, _, rfl, x.1, k, rfl, x1, by omega, fun H12 s12 => ⟨_, _, rfl, rfl, ?_⟩⟩
      have hL12 := hL11.same s12
      have hs12 := s12 _ _ hs11
      have hb12 := hb11.same s12
      have B12 := B11.same s12
      refine ⟨_, rfl, p, dx11, fs11, rfl, s12 _ _ hp11, hno11 _ no_append, _, rfl, p, cl, x, cs, k, rfl, hL12, hg, ⟨by omega, by omega⟩, by omega, fun H13 k13 hL13 => ?_⟩
      have hs13 : H13 sa = some (.lst (natsV ms)) := k13 _ _ hs12 (ne_of hs12 (s12 _ _ hp11) (fun z => by cases z)) sacl.symm
      have hb13 := hb12.butL k13 hL12 clb
      have B13 : But b H H13 := But.butL B12 k13 npH nclH
      obtain ⟨dx13, fs13, hp13, hno13, _⟩ := hL13.lst
      refine ⟨_, rfl, p, dx13, fs13, rfl, hp13, p, cl, _, _, rfl, hL13, _, rfl, rfl, false, ne_no rfl, ?_⟩
      have xk : x.1 + k ≤ 10 ^ 29 + (i + 1) * 10 ^ 28 := by omega
      exact ⟨_, _, ms, _, _, rfl, hL13, hs13, hb13.mono (by omega), B13, by show 1 ≤ x.1 + k; omega, xk, by show x.2.1.length ≤ i + 1; omega, by omega, by rw [List.length_append, List.length_singleton]; omega, hms, fun m hm => by show m ≤ x.1 + k; have := hle m hm; omega⟩
  · rintro σ H7 ⟨x, cs, ms, v5, v6, rfl, hL7, hs7, hb7, B7, x1, xm, xl, ml, lcs, hms, hle⟩
    have x30 : x.1 + 10 ^ 28 + 10 ≤ 10 ^ 30 := by omega
    have hg : lgood x := ⟨x1, by omega, by omega⟩
    have hg5 : lgood (lafter x (.app 5)) := ⟨by show 1 ≤ x.1 + 5; omega, by show x.1 + 5 ≤ 10 ^ 30; omega, by show x.2.1.length ≤ 1000; omega⟩
    obtain ⟨dx7, fs7, hp7, hno7, _⟩ := hL7.lst
    refine ⟨_, rfl, p, dx7, fs7, rfl, hp7, hno7 _ no_preview, two, fun t1 n1' => ⟨one1, fun t2 n2' => ⟨rfl, fun tp ntp => ?_⟩⟩⟩
    have w1 := same_upd (o := .tup [.str "append", .int 5]) n1'
    have w2 := same_upd (o := .tup [.str "mark"]) n2'
    have w3 := same_upd (o := .tup [.ref t1, .ref t2]) ntp
    have ht1 := w3 _ _ (w2 _ _ (upd_same (H := H7) (a := t1) (o := .tup [.str "append", .int 5])))
    have ht2 := w3 _ _ (upd_same (H := upd H7 t1 (.tup [.str "append", .int 5])) (a := t2) (o := .tup [.str "mark"]))
    have sw := w1.trans (w2.trans w3)
    refine ⟨p, cl, tp, x, cs, [.ref t1, .ref t2], [.app 5, .mark], rfl, hL7.same sw, upd_same, .cons ⟨t1, rfl, ht1⟩ (.cons ⟨t2, rfl, ht2⟩ .nil), ⟨hg, ⟨by decide, by omega⟩, hg5, trivial, trivial⟩, fun H8 s8 => ?_⟩
    have s78 := sw.trans s8
    have hL8 := hL7.same s78
    have hp8 := s78 _ _ hp7
    refine ⟨_, rfl, _, rfl, p, dx7, fs7, rfl, hp8, p, cl, x, cs, rfl, hL8, x.1, 5, rfl, x1, by omega, fun H9 s9 => ⟨_, _, rfl, rfl, _, rfl, p, dx7, fs7, rfl, s9 _ _ hp8, p, cl, x, cs, rfl, hL8.same s9, _, _, rfl, rfl, x.1 + 5, congrArg (fun z => [V.int z]) (by omega), by omega, by omega, fun H10 s10 => ⟨_, _, rfl, rfl, rfl, ?_⟩⟩⟩
    have ev : (lafters x [.app 5, .mark]).2.2 = x.2.2 + (((5 : Nat) : Int) - ((ones (x.1 + 5) : Nat) : Int) + ((ones x.1 : Nat) : Int)) + ((ones (x.1 + 5) - 1 : Nat) : Int) := by
      have nm : ¬ x.1 + 5 ∈ x.2.1 := fun z => by have := hle _ z; omega
      show (if x.1 + 5 ∈ x.2.1 then ((x.1 + 5, x.2.1, x.2.2 + acost x.1 5) : LS) else (x.1 + 5, x.2.1 ++ [x.1 + 5], x.2.2 + acost x.1 5 + ((ones (x.1 + 5) - 1 : Nat) : Int))).2.2 = _
      rw [if_neg nm]
      rfl
    have sF := s78.trans (s9.trans s10)
    exact Eq.mpr (congrArg (fun v => Q v H10) (congrArg V.bl (decide_eq_true (congrArg V.int ev)))) (q H10 (B7.same sF) ((hb7.same sF).mono (by omega)))
end
end LT

namespace LT
open PySem PySem.Spec PyProof.Rows L2
theorem script_at {ns : List Int} {lo hi : Option Int} {i : Nat} {x : V} (h : (cutV (ns.map V.int) lo hi ++ [.int 0])[i]? = some x) : ∃ c : Int, x = .int c := by
  have m := List.mem_of_getElem? h
  rcases List.mem_append.mp m with m | m
  · unfold cutV at m
    have m2 := List.mem_of_mem_drop (List.mem_of_mem_take m)
    obtain ⟨c, _, e⟩ := List.mem_map.mp m2
    exact ⟨c, e.symm⟩
  · exact ⟨0, List.mem_singleton.mp m⟩
theorem sqSame {K : PySem.W.Frag} {H H' : Hp} {a : Addr} {xs : List V} (h : SqL K H a xs) (e : Same H H') : SqL K H' a xs :=
  h.elim (fun h => .inl (h.elim (fun h => .inl (e _ _ h)) fun ⟨o, h⟩ => .inr ⟨o, e _ _ h⟩)) fun h => .inr h
def spLaw (K : PySem.W.Frag) : Sp := fun vs H Q _ => ∃ (a : Addr) (ns : List Int), vs = [.ref a] ∧ SqL K H a (ns.map V.int) ∧ ns.length ≤ 63 ∧ ∀ H', Q (.bl true) H'
end LT

namespace LT
open PySem PySem.Spec PyProof.Rows L2
theorem turns_is (k : Int) (len : Nat) (h : 1 ≤ k) : ∃ m : Nat, m ≤ k.toNat ∧ (if (if (len : Int) < k then (len : Int) else k) > 1 then (if (len : Int) < k then (len : Int) else k) else 1) = (m : Int) := by
  refine ⟨(if (if (len : Int) < k then (len : Int) else k) > 1 then (if (len : Int) < k then (len : Int) else k) else 1).toNat, ?_, ?_⟩ <;> split <;> split <;> omega
section
variable {P : Program} {w : World} {K : PySem.W.Frag} {mg : Str → Option Value} {base : Heap}
theorem ok_law {f g1 g4 g5 : Addr} {fd d1 d4 d5 : FuncData} (F : Fun K "law" "law" sLaw f fd)
    (GLawWound : FnOk P w K mg base CX0 1 g1 d1 ["script", "k"] (spWound K)) (ALawWound : At K mg "_law_wound" g1 d1 ["script", "k"])
    (GLawRight : FnOk P w K mg base CX0 9 g4 d4 ["reel"] spRight53) (ALawRight : At K mg "_law_right" g4 d4 ["reel"])
    (GLawLogRight : FnOk P w K mg base CX0 12 g5 d5 ["reel"] spLogRight) (ALawLogRight : At K mg "_law_log_right" g5 d5 ["reel"])
    (z_range : mg "range" = none) (z_len : mg "len" = none) (z_max : mg "max" = none) (z_min : mg "min" = none) : FnOk P w K mg base CX0 13 f fd ["script"] (spLaw K) := by
  refine F.ok scLaw (fun vs H Q E h => ?_) (fun cdv A outer s H vs Q E hr h => ?_)
  · obtain ⟨_, _, rfl, _⟩ := h
    rfl
  obtain ⟨a, ns, rfl, hS, h63, q⟩ := h
  refine ⟨_, (pss_cons (ps_for PassesOwn.never rfl (pi_range1 (by rfl) z_range (pa_cons (pe_callB (call_max2 rfl) (by rfl) z_max (by decide +kernel) (pa_cons pe_int (pa_cons (pe_callB (call_min2 rfl) (by rfl) z_min (by decide +kernel) (pa_cons pe_int (pa_cons (pe_callB call_len_seq (by rfl) z_len PySem.boot_len (pa_cons (pv 0) pa_nil)) pa_nil))) pa_nil))) pa_nil)) (pg_name (i := 1) scLaw.nd rfl (Or.inl rfl))
    (pss_cons (ps_set (i := 2) scLaw.nd rfl (Or.inl rfl) (pe_call GLawWound (hr.mono (by decide)) rfl ALawWound.m ALawWound.kp ALawWound.b .nil pass0 (pa_cons (pv 0) (pa_cons (pv 1) pa_nil))))
    (pss_one (ps_for PassesOwn.never rfl (pi_range1 (by rfl) z_range (pa_cons pe_int pa_nil)) (pg_name (i := 3) scLaw.nd rfl (Or.inl rfl))
    (pss_one (ps_if (PW.pt (pw_or (pt_not (pt_val (pe_call GLawRight (hr.mono (by decide)) rfl ALawRight.m ALawRight.kp ALawRight.b .nil pass0 (pa_cons (pv 2) pa_nil)))) (pw_or1 (pt_not (pt_val (pe_call GLawLogRight (hr.mono (by decide)) rfl ALawLogRight.m ALawLogRight.kp ALawLogRight.b .nil pass0 (pa_cons (pv 2) pa_nil)))))))
    (pss_one (ps_ret pe_bl))
    pss_nil))))))
    (pss_one (ps_ret pe_bl))), ?_⟩
  obtain ⟨m, m4, em⟩ := turns_is 4 (ns.map V.int).length (by decide)
  refine ⟨_, rfl, a, _, rfl, .inl hS, _, _, rfl, _, _, rfl, ?_⟩
  refine ⟨(m : Int), congrArg (fun z => [V.int z]) em, by omega, by omega, for_range (lo := 0) (n := m) (fun i σ H' => ∃ v1 v2 v3 : Option V, σ = [some (.ref a), v1, v2, v3] ∧ Same H H') ⟨none, none, none, rfl, Same.refl _⟩ ?_ ?_⟩
  · rintro k σ H2 hk ⟨v1, v2, v3, rfl, s2⟩
    have ek : (0 : Int) + (k : Int) = ((k : Nat) : Int) := by omega
    rw [ek]
    refine ⟨_, rfl, _, rfl, a, ns, k, rfl, sqSame hS s2, by omega, fun H3 b s3 nb hb => ?_⟩
    have nb1 : H b = none := s2.free nb
    have B3 : But b H H3 := But.of (s2.trans s3)
    refine ⟨4, rfl, by decide, by decide, ?_⟩
    refine for_range (lo := 0) (n := 4) (fun j σ H' => ∃ v3 : Option V, σ = [some (.ref a), some (.int (k : Int)), some (.ref b), v3] ∧ But b H H' ∧ ReelAt H' b (28 * j)) ⟨v3, rfl, B3, hb⟩ ?_ ?_
    · rintro j σ H4 hj ⟨v3, rfl, B4, hb4⟩
      refine ⟨_, rfl, b, _, rfl, hb4, by omega, fun H5 B5 hb5 => ⟨true, rfl, ?_⟩⟩
      refine ⟨_, rfl, b, _, rfl, hb5, by omega, fun H6 B6 hb6 => ⟨true, rfl, ?_⟩⟩
      exact ⟨_, rfl, (B4.trans B5).trans B6, hb6.mono (by omega)⟩
    · rintro σ H4 ⟨v3, rfl, B4, hb4⟩
      exact ⟨_, _, _, rfl, fun u o z => B4 u o (ne_of_none z nb1) z⟩
  · rintro σ H2 ⟨v1, v2, v3, rfl, s2⟩
    exact q H2
end
end LT

namespace LT
open PySem PySem.Spec PyProof.Rows L2
theorem all_mk {l : PySem.W.OpenLaw} {w : World} {K : PySem.W.Frag} {h : Heap} {mg : Str → Option Value} {fa f0 f1 f2 f3 f4 f5 f6 f7 f8 f9 f10 f11 f12 f13 f14 f15 f16 f17 f18 f19 f20 f21 f22 f23 f24 f25 f26 f27 f28 f29 f30 f31 f32 f33 f34 f35 f36 f37 f38 f39 f40 f41 f42 f43 f44 f45 f46 f47 : Addr} (X : K.In h) (G : h.Ns mainGlobals mg) (hfa : mg "law" = some (.ref fa))
    {od0 an0 od1 an1 od2 an2 od3 an3 od4 an4 od5 an5 od6 an6 od7 an7 od8 an8 od9 an9 od10 an10 od11 an11 od12 an12 od13 an13 od14 an14 od15 an15 od16 an16 od17 an17 od18 an18 od19 an19 od20 an20 od21 an21 od22 an22 od23 an23 od24 an24 od25 an25 od26 an26 od27 an27 od28 an28 od29 an29 od30 an30 od31 an31 od32 an32 od33 an33 od34 an34 od35 an35 od36 an36 od37 an37 od38 an38 od39 an39 od40 an40 od41 an41 od42 an42 od43 an43 od44 an44 od45 an45 od46 an46 od47 an47 : Option Addr} {sl0 sl1 sl2 sl3 sl4 sl5 sl6 sl7 sl8 sl9 sl10 sl11 sl12 sl13 sl14 sl15 sl16 sl17 sl18 sl19 sl20 sl21 sl22 sl23 sl24 sl25 sl26 sl27 sl28 sl29 sl30 sl31 sl32 sl33 sl34 sl35 sl36 sl37 sl38 sl39 sl40 sl41 sl42 sl43 sl44 sl45 sl46 sl47 : Array (Option Value)} {oc0 kV0 dc0 pm0 cd0 ct0 oc1 kV1 dc1 pm1 cd1 ct1 oc2 kV2 dc2 pm2 cd2 ct2 oc3 kV3 dc3 pm3 cd3 ct3 oc4 kV4 dc4 pm4 cd4 ct4 oc5 kV5 dc5 pm5 cd5 ct5 oc6 kV6 dc6 pm6 cd6 ct6 oc7 kV7 dc7 pm7 cd7 ct7 oc8 kV8 dc8 pm8 cd8 ct8 oc9 kV9 dc9 pm9 cd9 ct9 oc10 kV10 dc10 pm10 cd10 ct10 oc11 kV11 dc11 pm11 cd11 ct11 oc12 kV12 dc12 pm12 cd12 ct12 oc13 kV13 dc13 pm13 cd13 ct13 oc14 kV14 dc14 pm14 cd14 ct14 oc15 kV15 dc15 pm15 cd15 ct15 oc16 kV16 dc16 pm16 cd16 ct16 oc17 kV17 dc17 pm17 cd17 ct17 oc18 kV18 dc18 pm18 cd18 ct18 oc19 kV19 dc19 pm19 cd19 ct19 oc20 kV20 dc20 pm20 cd20 ct20 oc21 kV21 dc21 pm21 cd21 ct21 oc22 kV22 dc22 pm22 cd22 ct22 oc23 kV23 dc23 pm23 cd23 ct23 oc24 kV24 dc24 pm24 cd24 ct24 oc25 kV25 dc25 pm25 cd25 ct25 oc26 kV26 dc26 pm26 cd26 ct26 oc27 kV27 dc27 pm27 cd27 ct27 oc28 kV28 dc28 pm28 cd28 ct28 oc29 kV29 dc29 pm29 cd29 ct29 oc30 kV30 dc30 pm30 cd30 ct30 oc31 kV31 dc31 pm31 cd31 ct31 oc32 kV32 dc32 pm32 cd32 ct32 oc33 kV33 dc33 pm33 cd33 ct33 oc34 kV34 dc34 pm34 cd34 ct34 oc35 kV35 dc35 pm35 cd35 ct35 oc36 kV36 dc36 pm36 cd36 ct36 oc37 kV37 dc37 pm37 cd37 ct37 oc38 kV38 dc38 pm38 cd38 ct38 oc39 kV39 dc39 pm39 cd39 ct39 oc40 kV40 dc40 pm40 cd40 ct40 oc41 kV41 dc41 pm41 cd41 ct41 oc42 kV42 dc42 pm42 cd42 ct42 oc43 kV43 dc43 pm43 cd43 ct43 oc44 kV44 dc44 pm44 cd44 ct44 oc45 kV45 dc45 pm45 cd45 ct45 oc46 kV46 dc46 pm46 cd46 ct46 oc47 kV47 dc47 pm47 cd47 ct47 : Value}
    {CLiveLog : Addr} (aCLiveLog : PySem.W.nsIn K mainGlobals "LiveLog" = some (some (.ref CLiveLog)))
    (pgLiveLog : PySem.W.plainGet K CLiveLog Str.empty = true) (hdLiveLog : PySem.W.hasDictIn K CLiveLog = true) (poLiveLog : PySem.W.plainOver K CLiveLog = true) (saLiveLog : PySem.W.findIn K (.ref CLiveLog) "__setattr__" = some (some (.builtin "object.__setattr__"))) (mkLiveLog : PySem.W.makesIn K CLiveLog = true) (kcLiveLog : PySem.W.keepIn K (.ref CLiveLog) = true)
    (nLiveLog_state : PySem.W.findIn K (.ref CLiveLog) "_state" = some none)
    (nLiveLog_calls : PySem.W.findIn K (.ref CLiveLog) "_calls" = some none)
    (a0 : PySem.W.nsIn K mainGlobals "is_whole" = some (some (.ref f0))) (l0 : K.lookup f0 = some ⟨oc0, od0, .func (PySem.W.fnOf "is_whole" "is_whole" (defArgs sIsWhole) (defBody sIsWhole) (defScope sIsWhole) .none kV0 dc0 pm0 an0 cd0 ct0), sl0⟩) (c0 : PySem.W.codeIn K cd0 "is_whole" = true) (k0 : PySem.W.keepIn K (.ref f0) = true)
    (a1 : PySem.W.nsIn K mainGlobals "is_between" = some (some (.ref f1))) (l1 : K.lookup f1 = some ⟨oc1, od1, .func (PySem.W.fnOf "is_between" "is_between" (defArgs sIsBetween) (defBody sIsBetween) (defScope sIsBetween) .none kV1 dc1 pm1 an1 cd1 ct1), sl1⟩) (c1 : PySem.W.codeIn K cd1 "is_between" = true) (k1 : PySem.W.keepIn K (.ref f1) = true)
    (a2 : PySem.W.nsIn K mainGlobals "is_tree_node" = some (some (.ref f2))) (l2 : K.lookup f2 = some ⟨oc2, od2, .func (PySem.W.fnOf "is_tree_node" "is_tree_node" (defArgs sIsTreeNode) (defBody sIsTreeNode) (defScope sIsTreeNode) .none kV2 dc2 pm2 an2 cd2 ct2), sl2⟩) (c2 : PySem.W.codeIn K cd2 "is_tree_node" = true) (k2 : PySem.W.keepIn K (.ref f2) = true)
    (a3 : PySem.W.nsIn K mainGlobals "is_list_of" = some (some (.ref f3))) (l3 : K.lookup f3 = some ⟨oc3, od3, .func (PySem.W.fnOf "is_list_of" "is_list_of" (defArgs sIsListOf) (defBody sIsListOf) (defScope sIsListOf) .none kV3 dc3 pm3 an3 cd3 ct3), sl3⟩) (c3 : PySem.W.codeIn K cd3 "is_list_of" = true) (k3 : PySem.W.keepIn K (.ref f3) = true)
    (a4 : PySem.W.nsIn K mainGlobals "check_size" = some (some (.ref f4))) (l4 : K.lookup f4 = some ⟨oc4, od4, .func (PySem.W.fnOf "check_size" "check_size" (defArgs sCheckSize) (defBody sCheckSize) (defScope sCheckSize) .none kV4 dc4 pm4 an4 cd4 ct4), sl4⟩) (c4 : PySem.W.codeIn K cd4 "check_size" = true) (k4 : PySem.W.keepIn K (.ref f4) = true)
    (a5 : PySem.W.nsIn K mainGlobals "check_span" = some (some (.ref f5))) (l5 : K.lookup f5 = some ⟨oc5, od5, .func (PySem.W.fnOf "check_span" "check_span" (defArgs sCheckSpan) (defBody sCheckSpan) (defScope sCheckSpan) .none kV5 dc5 pm5 an5 cd5 ct5), sl5⟩) (c5 : PySem.W.codeIn K cd5 "check_span" = true) (k5 : PySem.W.keepIn K (.ref f5) = true)
    (a6 : PySem.W.nsIn K mainGlobals "check_older" = some (some (.ref f6))) (l6 : K.lookup f6 = some ⟨oc6, od6, .func (PySem.W.fnOf "check_older" "check_older" (defArgs sCheckOlder) (defBody sCheckOlder) (defScope sCheckOlder) .none kV6 dc6 pm6 an6 cd6 ct6), sl6⟩) (c6 : PySem.W.codeIn K cd6 "check_older" = true) (k6 : PySem.W.keepIn K (.ref f6) = true)
    (a7 : PySem.W.nsIn K mainGlobals "check_number_between" = some (some (.ref f7))) (l7 : K.lookup f7 = some ⟨oc7, od7, .func (PySem.W.fnOf "check_number_between" "check_number_between" (defArgs sCheckNumberBetween) (defBody sCheckNumberBetween) (defScope sCheckNumberBetween) .none kV7 dc7 pm7 an7 cd7 ct7), sl7⟩) (c7 : PySem.W.codeIn K cd7 "check_number_between" = true) (k7 : PySem.W.keepIn K (.ref f7) = true)
    (a8 : PySem.W.nsIn K mainGlobals "power_within" = some (some (.ref f8))) (l8 : K.lookup f8 = some ⟨oc8, od8, .func (PySem.W.fnOf "power_within" "power_within" (defArgs sPowerWithin) (defBody sPowerWithin) (defScope sPowerWithin) .none kV8 dc8 pm8 an8 cd8 ct8), sl8⟩) (c8 : PySem.W.codeIn K cd8 "power_within" = true) (k8 : PySem.W.keepIn K (.ref f8) = true)
    (a9 : PySem.W.nsIn K mainGlobals "_first_full" = some (some (.ref f9))) (l9 : K.lookup f9 = some ⟨oc9, od9, .func (PySem.W.fnOf "_first_full" "_first_full" (defArgs sFirstFull) (defBody sFirstFull) (defScope sFirstFull) .none kV9 dc9 pm9 an9 cd9 ct9), sl9⟩) (c9 : PySem.W.codeIn K cd9 "_first_full" = true) (k9 : PySem.W.keepIn K (.ref f9) = true)
    (a10 : PySem.W.nsIn K mainGlobals "nodes_within" = some (some (.ref f10))) (l10 : K.lookup f10 = some ⟨oc10, od10, .func (PySem.W.fnOf "nodes_within" "nodes_within" (defArgs sNodesWithin) (defBody sNodesWithin) (defScope sNodesWithin) .none kV10 dc10 pm10 an10 cd10 ct10), sl10⟩) (c10 : PySem.W.codeIn K cd10 "nodes_within" = true) (k10 : PySem.W.keepIn K (.ref f10) = true)
    (a11 : PySem.W.nsIn K mainGlobals "peaks" = some (some (.ref f11))) (l11 : K.lookup f11 = some ⟨oc11, od11, .func (PySem.W.fnOf "peaks" "peaks" (defArgs sPeaks) (defBody sPeaks) (defScope sPeaks) .none kV11 dc11 pm11 an11 cd11 ct11), sl11⟩) (c11 : PySem.W.codeIn K cd11 "peaks" = true) (k11 : PySem.W.keepIn K (.ref f11) = true)
    (a12 : PySem.W.nsIn K mainGlobals "edges" = some (some (.ref f12))) (l12 : K.lookup f12 = some ⟨oc12, od12, .func (PySem.W.fnOf "edges" "edges" (defArgs sEdges) (defBody sEdges) (defScope sEdges) .none kV12 dc12 pm12 an12 cd12 ct12), sl12⟩) (c12 : PySem.W.codeIn K cd12 "edges" = true) (k12 : PySem.W.keepIn K (.ref f12) = true)
    (a13 : PySem.W.nsIn K mainGlobals "node_count" = some (some (.ref f13))) (l13 : K.lookup f13 = some ⟨oc13, od13, .func (PySem.W.fnOf "node_count" "node_count" (defArgs sNodeCount) (defBody sNodeCount) (defScope sNodeCount) .none kV13 dc13 pm13 an13 cd13 ct13), sl13⟩) (c13 : PySem.W.codeIn K cd13 "node_count" = true) (k13 : PySem.W.keepIn K (.ref f13) = true)
    (a14 : PySem.W.nsIn K mainGlobals "common_count" = some (some (.ref f14))) (l14 : K.lookup f14 = some ⟨oc14, od14, .func (PySem.W.fnOf "common_count" "common_count" (defArgs sCommonCount) (defBody sCommonCount) (defScope sCommonCount) .none kV14 dc14 pm14 an14 cd14 ct14), sl14⟩) (c14 : PySem.W.codeIn K cd14 "common_count" = true) (k14 : PySem.W.keepIn K (.ref f14) = true)
    (a15 : PySem.W.nsIn K mainGlobals "_made_sums" = some (some (.ref f15))) (l15 : K.lookup f15 = some ⟨oc15, od15, .func (PySem.W.fnOf "_made_sums" "_made_sums" (defArgs sMadeSums) (defBody sMadeSums) (defScope sMadeSums) .none kV15 dc15 pm15 an15 cd15 ct15), sl15⟩) (c15 : PySem.W.codeIn K cd15 "_made_sums" = true) (k15 : PySem.W.keepIn K (.ref f15) = true)
    (a16 : PySem.W.nsIn K mainGlobals "append_sums" = some (some (.ref f16))) (l16 : K.lookup f16 = some ⟨oc16, od16, .func (PySem.W.fnOf "append_sums" "append_sums" (defArgs sAppendSums) (defBody sAppendSums) (defScope sAppendSums) .none kV16 dc16 pm16 an16 cd16 ct16), sl16⟩) (c16 : PySem.W.codeIn K cd16 "append_sums" = true) (k16 : PySem.W.keepIn K (.ref f16) = true)
    (a17 : PySem.W.nsIn K mainGlobals "root_sums" = some (some (.ref f17))) (l17 : K.lookup f17 = some ⟨oc17, od17, .func (PySem.W.fnOf "root_sums" "root_sums" (defArgs sRootSums) (defBody sRootSums) (defScope sRootSums) .none kV17 dc17 pm17 an17 cd17 ct17), sl17⟩) (c17 : PySem.W.codeIn K cd17 "root_sums" = true) (k17 : PySem.W.keepIn K (.ref f17) = true)
    (a18 : PySem.W.nsIn K mainGlobals "_quotients_sum" = some (some (.ref f18))) (l18 : K.lookup f18 = some ⟨oc18, od18, .func (PySem.W.fnOf "_quotients_sum" "_quotients_sum" (defArgs sQuotientsSum) (defBody sQuotientsSum) (defScope sQuotientsSum) .none kV18 dc18 pm18 an18 cd18 ct18), sl18⟩) (c18 : PySem.W.codeIn K cd18 "_quotients_sum" = true) (k18 : PySem.W.keepIn K (.ref f18) = true)
    (a19 : PySem.W.nsIn K mainGlobals "_roots_along" = some (some (.ref f19))) (l19 : K.lookup f19 = some ⟨oc19, od19, .func (PySem.W.fnOf "_roots_along" "_roots_along" (defArgs sRootsAlong) (defBody sRootsAlong) (defScope sRootsAlong) .none kV19 dc19 pm19 an19 cd19 ct19), sl19⟩) (c19 : PySem.W.codeIn K cd19 "_roots_along" = true) (k19 : PySem.W.keepIn K (.ref f19) = true)
    (a20 : PySem.W.nsIn K mainGlobals "_check_stretch" = some (some (.ref f20))) (l20 : K.lookup f20 = some ⟨oc20, od20, .func (PySem.W.fnOf "_check_stretch" "_check_stretch" (defArgs sCheckStretch) (defBody sCheckStretch) (defScope sCheckStretch) .none kV20 dc20 pm20 an20 cd20 ct20), sl20⟩) (c20 : PySem.W.codeIn K cd20 "_check_stretch" = true) (k20 : PySem.W.keepIn K (.ref f20) = true)
    (a21 : PySem.W.nsIn K mainGlobals "roots_total" = some (some (.ref f21))) (l21 : K.lookup f21 = some ⟨oc21, od21, .func (PySem.W.fnOf "roots_total" "roots_total" (defArgs sRootsTotal) (defBody sRootsTotal) (defScope sRootsTotal) .none kV21 dc21 pm21 an21 cd21 ct21), sl21⟩) (c21 : PySem.W.codeIn K cd21 "roots_total" = true) (k21 : PySem.W.keepIn K (.ref f21) = true)
    (a22 : PySem.W.nsIn K mainGlobals "cheapest" = some (some (.ref f22))) (l22 : K.lookup f22 = some ⟨oc22, od22, .func (PySem.W.fnOf "cheapest" "cheapest" (defArgs sCheapest) (defBody sCheapest) (defScope sCheapest) .none kV22 dc22 pm22 an22 cd22 ct22), sl22⟩) (c22 : PySem.W.codeIn K cd22 "cheapest" = true) (k22 : PySem.W.keepIn K (.ref f22) = true)
    (a23 : PySem.W.nsIn K mainGlobals "costliest" = some (some (.ref f23))) (l23 : K.lookup f23 = some ⟨oc23, od23, .func (PySem.W.fnOf "costliest" "costliest" (defArgs sCostliest) (defBody sCostliest) (defScope sCostliest) .none kV23 dc23 pm23 an23 cd23 ct23), sl23⟩) (c23 : PySem.W.codeIn K cd23 "costliest" = true) (k23 : PySem.W.keepIn K (.ref f23) = true)
    (a24 : PySem.W.nsIn K mainGlobals "compact" = some (some (.ref f24))) (l24 : K.lookup f24 = some ⟨oc24, od24, .func (PySem.W.fnOf "compact" "compact" (defArgs sCompact) (defBody sCompact) (defScope sCompact) .none kV24 dc24 pm24 an24 cd24 ct24), sl24⟩) (c24 : PySem.W.codeIn K cd24 "compact" = true) (k24 : PySem.W.keepIn K (.ref f24) = true)
    (a25 : PySem.W.nsIn K mainGlobals "compact_count" = some (some (.ref f25))) (l25 : K.lookup f25 = some ⟨oc25, od25, .func (PySem.W.fnOf "compact_count" "compact_count" (defArgs sCompactCount) (defBody sCompactCount) (defScope sCompactCount) .none kV25 dc25 pm25 an25 cd25 ct25), sl25⟩) (c25 : PySem.W.codeIn K cd25 "compact_count" = true) (k25 : PySem.W.keepIn K (.ref f25) = true)
    (a26 : PySem.W.nsIn K mainGlobals "_check_bounds" = some (some (.ref f26))) (l26 : K.lookup f26 = some ⟨oc26, od26, .func (PySem.W.fnOf "_check_bounds" "_check_bounds" (defArgs sCheckBounds) (defBody sCheckBounds) (defScope sCheckBounds) .none kV26 dc26 pm26 an26 cd26 ct26), sl26⟩) (c26 : PySem.W.codeIn K cd26 "_check_bounds" = true) (k26 : PySem.W.keepIn K (.ref f26) = true)
    (a27 : PySem.W.nsIn K mainGlobals "join_sums" = some (some (.ref f27))) (l27 : K.lookup f27 = some ⟨oc27, od27, .func (PySem.W.fnOf "join_sums" "join_sums" (defArgs sJoinSums) (defBody sJoinSums) (defScope sJoinSums) .none kV27 dc27 pm27 an27 cd27 ct27), sl27⟩) (c27 : PySem.W.codeIn K cd27 "join_sums" = true) (k27 : PySem.W.keepIn K (.ref f27) = true)
    (a28 : PySem.W.findIn K (.ref CLiveLog) "__init__" = some (some (.ref f28))) (i28 : PySem.W.isFn K (.ref f28) = true)
    (l28 : K.lookup f28 = some ⟨oc28, od28, .func (PySem.W.fnOf "__init__" "LiveLog.__init__" (defArgs sLiveLogInit) (defBody sLiveLogInit) (defScope sLiveLogInit) .none kV28 dc28 pm28 an28 cd28 ct28), sl28⟩) (c28 : PySem.W.codeIn K cd28 "LiveLog.__init__" = true) (k28 : PySem.W.keepIn K (.ref f28) = true)
    (a29 : PySem.W.findIn K (.ref CLiveLog) "__eq__" = some (some (.ref f29))) (i29 : PySem.W.isFn K (.ref f29) = true)
    (l29 : K.lookup f29 = some ⟨oc29, od29, .func (PySem.W.fnOf "__eq__" "LiveLog.__eq__" (defArgs sLiveLogEq) (defBody sLiveLogEq) (defScope sLiveLogEq) .none kV29 dc29 pm29 an29 cd29 ct29), sl29⟩) (c29 : PySem.W.codeIn K cd29 "LiveLog.__eq__" = true) (k29 : PySem.W.keepIn K (.ref f29) = true)
    {pr30 : Addr} {rs30 : List Value} (a30 : PySem.W.findIn K (.ref CLiveLog) "present" = some (some (.ref pr30))) (i30 : PySem.W.specialIn K (.ref pr30) "__get__" = some (some (.builtin "property.__get__"))) (t30 : PySem.W.takesIn K (.ref pr30) = some true) (r30 : PySem.W.recIn K pr30 "property" = some (.ref f30 :: rs30))
    (l30 : K.lookup f30 = some ⟨oc30, od30, .func (PySem.W.fnOf "present" "LiveLog.present" (defArgs sLiveLogPresent) (defBody sLiveLogPresent) (defScope sLiveLogPresent) .none kV30 dc30 pm30 an30 cd30 ct30), sl30⟩) (c30 : PySem.W.codeIn K cd30 "LiveLog.present" = true) (k30 : PySem.W.keepIn K (.ref f30) = true)
    {pr31 : Addr} {rs31 : List Value} (a31 : PySem.W.findIn K (.ref CLiveLog) "marks" = some (some (.ref pr31))) (i31 : PySem.W.specialIn K (.ref pr31) "__get__" = some (some (.builtin "property.__get__"))) (t31 : PySem.W.takesIn K (.ref pr31) = some true) (r31 : PySem.W.recIn K pr31 "property" = some (.ref f31 :: rs31))
    (l31 : K.lookup f31 = some ⟨oc31, od31, .func (PySem.W.fnOf "marks" "LiveLog.marks" (defArgs sLiveLogMarks) (defBody sLiveLogMarks) (defScope sLiveLogMarks) .none kV31 dc31 pm31 an31 cd31 ct31), sl31⟩) (c31 : PySem.W.codeIn K cd31 "LiveLog.marks" = true) (k31 : PySem.W.keepIn K (.ref f31) = true)
    {pr32 : Addr} {rs32 : List Value} (a32 : PySem.W.findIn K (.ref CLiveLog) "spent" = some (some (.ref pr32))) (i32 : PySem.W.specialIn K (.ref pr32) "__get__" = some (some (.builtin "property.__get__"))) (t32 : PySem.W.takesIn K (.ref pr32) = some true) (r32 : PySem.W.recIn K pr32 "property" = some (.ref f32 :: rs32))
    (l32 : K.lookup f32 = some ⟨oc32, od32, .func (PySem.W.fnOf "spent" "LiveLog.spent" (defArgs sLiveLogSpent) (defBody sLiveLogSpent) (defScope sLiveLogSpent) .none kV32 dc32 pm32 an32 cd32 ct32), sl32⟩) (c32 : PySem.W.codeIn K cd32 "LiveLog.spent" = true) (k32 : PySem.W.keepIn K (.ref f32) = true)
    (a33 : PySem.W.findIn K (.ref CLiveLog) "append" = some (some (.ref f33))) (i33 : PySem.W.isFn K (.ref f33) = true)
    (l33 : K.lookup f33 = some ⟨oc33, od33, .func (PySem.W.fnOf "append" "LiveLog.append" (defArgs sLiveLogAppend) (defBody sLiveLogAppend) (defScope sLiveLogAppend) .none kV33 dc33 pm33 an33 cd33 ct33), sl33⟩) (c33 : PySem.W.codeIn K cd33 "LiveLog.append" = true) (k33 : PySem.W.keepIn K (.ref f33) = true)
    (a34 : PySem.W.findIn K (.ref CLiveLog) "mark" = some (some (.ref f34))) (i34 : PySem.W.isFn K (.ref f34) = true)
    (l34 : K.lookup f34 = some ⟨oc34, od34, .func (PySem.W.fnOf "mark" "LiveLog.mark" (defArgs sLiveLogMark) (defBody sLiveLogMark) (defScope sLiveLogMark) .none kV34 dc34 pm34 an34 cd34 ct34), sl34⟩) (c34 : PySem.W.codeIn K cd34 "LiveLog.mark" = true) (k34 : PySem.W.keepIn K (.ref f34) = true)
    (a35 : PySem.W.findIn K (.ref CLiveLog) "cut" = some (some (.ref f35))) (i35 : PySem.W.isFn K (.ref f35) = true)
    (l35 : K.lookup f35 = some ⟨oc35, od35, .func (PySem.W.fnOf "cut" "LiveLog.cut" (defArgs sLiveLogCut) (defBody sLiveLogCut) (defScope sLiveLogCut) .none kV35 dc35 pm35 an35 cd35 ct35), sl35⟩) (c35 : PySem.W.codeIn K cd35 "LiveLog.cut" = true) (k35 : PySem.W.keepIn K (.ref f35) = true)
    (a36 : PySem.W.findIn K (.ref CLiveLog) "undo" = some (some (.ref f36))) (i36 : PySem.W.isFn K (.ref f36) = true)
    (l36 : K.lookup f36 = some ⟨oc36, od36, .func (PySem.W.fnOf "undo" "LiveLog.undo" (defArgs sLiveLogUndo) (defBody sLiveLogUndo) (defScope sLiveLogUndo) .none kV36 dc36 pm36 an36 cd36 ct36), sl36⟩) (c36 : PySem.W.codeIn K cd36 "LiveLog.undo" = true) (k36 : PySem.W.keepIn K (.ref f36) = true)
    (a37 : PySem.W.findIn K (.ref CLiveLog) "log" = some (some (.ref f37))) (i37 : PySem.W.isFn K (.ref f37) = true)
    (l37 : K.lookup f37 = some ⟨oc37, od37, .func (PySem.W.fnOf "log" "LiveLog.log" (defArgs sLiveLogLog) (defBody sLiveLogLog) (defScope sLiveLogLog) .none kV37 dc37 pm37 an37 cd37 ct37), sl37⟩) (c37 : PySem.W.codeIn K cd37 "LiveLog.log" = true) (k37 : PySem.W.keepIn K (.ref f37) = true)
    (a38 : PySem.W.findIn K (.ref CLiveLog) "preview" = some (some (.ref f38))) (i38 : PySem.W.isFn K (.ref f38) = true)
    (l38 : K.lookup f38 = some ⟨oc38, od38, .func (PySem.W.fnOf "preview" "LiveLog.preview" (defArgs sLiveLogPreview) (defBody sLiveLogPreview) (defScope sLiveLogPreview) .none kV38 dc38 pm38 an38 cd38 ct38), sl38⟩) (c38 : PySem.W.codeIn K cd38 "LiveLog.preview" = true) (k38 : PySem.W.keepIn K (.ref f38) = true)
    (a39 : PySem.W.nsIn K mainGlobals "_is_operation" = some (some (.ref f39))) (l39 : K.lookup f39 = some ⟨oc39, od39, .func (PySem.W.fnOf "_is_operation" "_is_operation" (defArgs sIsOperation) (defBody sIsOperation) (defScope sIsOperation) .none kV39 dc39 pm39 an39 cd39 ct39), sl39⟩) (c39 : PySem.W.codeIn K cd39 "_is_operation" = true) (k39 : PySem.W.keepIn K (.ref f39) = true)
    (a40 : PySem.W.findIn K (.ref CLiveLog) "_perform" = some (some (.ref f40))) (i40 : PySem.W.isFn K (.ref f40) = true)
    (l40 : K.lookup f40 = some ⟨oc40, od40, .func (PySem.W.fnOf "_perform" "LiveLog._perform" (defArgs sLiveLogPerform) (defBody sLiveLogPerform) (defScope sLiveLogPerform) .none kV40 dc40 pm40 an40 cd40 ct40), sl40⟩) (c40 : PySem.W.codeIn K cd40 "LiveLog._perform" = true) (k40 : PySem.W.keepIn K (.ref f40) = true)
    (a41 : PySem.W.findIn K (.ref CLiveLog) "_behind" = some (some (.ref f41))) (i41 : PySem.W.isFn K (.ref f41) = true)
    (l41 : K.lookup f41 = some ⟨oc41, od41, .func (PySem.W.fnOf "_behind" "LiveLog._behind" (defArgs sLiveLogBehind) (defBody sLiveLogBehind) (defScope sLiveLogBehind) .none kV41 dc41 pm41 an41 cd41 ct41), sl41⟩) (c41 : PySem.W.codeIn K cd41 "LiveLog._behind" = true) (k41 : PySem.W.keepIn K (.ref f41) = true)
    (a42 : PySem.W.nsIn K mainGlobals "_law_wound" = some (some (.ref f42))) (l42 : K.lookup f42 = some ⟨oc42, od42, .func (PySem.W.fnOf "_law_wound" "_law_wound" (defArgs sLawWound) (defBody sLawWound) (defScope sLawWound) .none kV42 dc42 pm42 an42 cd42 ct42), sl42⟩) (c42 : PySem.W.codeIn K cd42 "_law_wound" = true) (k42 : PySem.W.keepIn K (.ref f42) = true)
    (a43 : PySem.W.nsIn K mainGlobals "_law_spin" = some (some (.ref f43))) (l43 : K.lookup f43 = some ⟨oc43, od43, .func (PySem.W.fnOf "_law_spin" "_law_spin" (defArgs sLawSpin) (defBody sLawSpin) (defScope sLawSpin) .none kV43 dc43 pm43 an43 cd43 ct43), sl43⟩) (c43 : PySem.W.codeIn K cd43 "_law_spin" = true) (k43 : PySem.W.keepIn K (.ref f43) = true)
    (a44 : PySem.W.nsIn K mainGlobals "_law_drawn_size" = some (some (.ref f44))) (l44 : K.lookup f44 = some ⟨oc44, od44, .func (PySem.W.fnOf "_law_drawn_size" "_law_drawn_size" (defArgs sLawDrawnSize) (defBody sLawDrawnSize) (defScope sLawDrawnSize) .none kV44 dc44 pm44 an44 cd44 ct44), sl44⟩) (c44 : PySem.W.codeIn K cd44 "_law_drawn_size" = true) (k44 : PySem.W.keepIn K (.ref f44) = true)
    (a45 : PySem.W.nsIn K mainGlobals "_law_right" = some (some (.ref f45))) (l45 : K.lookup f45 = some ⟨oc45, od45, .func (PySem.W.fnOf "_law_right" "_law_right" (defArgs sLawRight) (defBody sLawRight) (defScope sLawRight) .none kV45 dc45 pm45 an45 cd45 ct45), sl45⟩) (c45 : PySem.W.codeIn K cd45 "_law_right" = true) (k45 : PySem.W.keepIn K (.ref f45) = true)
    (a46 : PySem.W.nsIn K mainGlobals "_law_log_right" = some (some (.ref f46))) (l46 : K.lookup f46 = some ⟨oc46, od46, .func (PySem.W.fnOf "_law_log_right" "_law_log_right" (defArgs sLawLogRight) (defBody sLawLogRight) (defScope sLawLogRight) .none kV46 dc46 pm46 an46 cd46 ct46), sl46⟩) (c46 : PySem.W.codeIn K cd46 "_law_log_right" = true) (k46 : PySem.W.keepIn K (.ref f46) = true)
    (a47 : PySem.W.nsIn K mainGlobals "law" = some (some (.ref f47))) (l47 : K.lookup f47 = some ⟨oc47, od47, .func (PySem.W.fnOf "law" "law" (defArgs sLaw) (defBody sLaw) (defScope sLaw) .none kV47 dc47 pm47 an47 cd47 ct47), sl47⟩) (c47 : PySem.W.codeIn K cd47 "law" = true) (k47 : PySem.W.keepIn K (.ref f47) = true)
    (z_bool : PySem.W.nsIn K mainGlobals "bool" = some none)
    (z_enumerate : PySem.W.nsIn K mainGlobals "enumerate" = some none)
    (z_int : PySem.W.nsIn K mainGlobals "int" = some none)
    (z_isinstance : PySem.W.nsIn K mainGlobals "isinstance" = some none)
    (z_len : PySem.W.nsIn K mainGlobals "len" = some none)
    (z_list : PySem.W.nsIn K mainGlobals "list" = some none)
    (z_max : PySem.W.nsIn K mainGlobals "max" = some none)
    (z_min : PySem.W.nsIn K mainGlobals "min" = some none)
    (z_range : PySem.W.nsIn K mainGlobals "range" = some none)
    (z_str : PySem.W.nsIn K mainGlobals "str" = some none)
    (z_sum : PySem.W.nsIn K mainGlobals "sum" = some none)
    (z_tuple : PySem.W.nsIn K mainGlobals "tuple" = some none)
    (z_zip : PySem.W.nsIn K mainGlobals "zip" = some none)
    {t_FULL_SIZE : Tok} (g_FULL_SIZE : PySem.W.nsIn K mainGlobals "FULL_SIZE" = some (some (.int 1267650600228229401496703205376 t_FULL_SIZE)))
    {t_MOST_BOUNDS : Tok} (g_MOST_BOUNDS : PySem.W.nsIn K mainGlobals "MOST_BOUNDS" = some (some (.int 12 t_MOST_BOUNDS)))
    {t_MOST_ENTRIES : Tok} (g_MOST_ENTRIES : PySem.W.nsIn K mainGlobals "MOST_ENTRIES" = some (some (.int 1000000000000000000000000000000 t_MOST_ENTRIES)))
    {esP : Array DictEntry} {nP : Nat} {tA tM tC : Tok} {DPARAMETERS : Addr}
    (aP : PySem.W.nsIn K mainGlobals "PARAMETERS" = some (some (.ref DPARAMETERS)))
    (dkP : K.lookup DPARAMETERS = some ⟨.type "dict", none, .dict esP nP, #[]⟩)
    (klP : PySem.W.KeysLit w.params esP.toList)
    (loP : (DPARAMETERS == sysModules) = false)
    (nAP : PySem.W.nsIn K DPARAMETERS "append" = some (some (.int 1 tA)))
    (nMP : PySem.W.nsIn K DPARAMETERS "mark" = some (some (.int 0 tM)))
    (nCP : PySem.W.nsIn K DPARAMETERS "cut" = some (some (.int 1 tC)))
    : ∃ fd : FuncData, (∀ (s : Shared) (v : Value), BindsTo s fd ⟨[v], []⟩ [("script", v)]) ∧ ∀ base : Heap, K.In base → base.Ns mainGlobals mg → FnOk l.prog w K mg base CX0 13 fa fd ["script"] (spLaw K) := by
  have e := hfa.symm.trans (PySem.W.mg_of X G a47)
  cases e
  have FIsWhole := fun_mk (st := sIsWhole) l0 c0 k0
  have FIsBetween := fun_mk (st := sIsBetween) l1 c1 k1
  have FIsTreeNode := fun_mk (st := sIsTreeNode) l2 c2 k2
  have FIsListOf := fun_mk (st := sIsListOf) l3 c3 k3
  have FCheckSize := fun_mk (st := sCheckSize) l4 c4 k4
  have FCheckSpan := fun_mk (st := sCheckSpan) l5 c5 k5
  have FCheckOlder := fun_mk (st := sCheckOlder) l6 c6 k6
  have FCheckNumberBetween := fun_mk (st := sCheckNumberBetween) l7 c7 k7
  have FPowerWithin := fun_mk (st := sPowerWithin) l8 c8 k8
  have FFirstFull := fun_mk (st := sFirstFull) l9 c9 k9
  have FNodesWithin := fun_mk (st := sNodesWithin) l10 c10 k10
  have FPeaks := fun_mk (st := sPeaks) l11 c11 k11
  have FEdges := fun_mk (st := sEdges) l12 c12 k12
  have FNodeCount := fun_mk (st := sNodeCount) l13 c13 k13
  have FCommonCount := fun_mk (st := sCommonCount) l14 c14 k14
  have FMadeSums := fun_mk (st := sMadeSums) l15 c15 k15
  have FAppendSums := fun_mk (st := sAppendSums) l16 c16 k16
  have FRootSums := fun_mk (st := sRootSums) l17 c17 k17
  have FQuotientsSum := fun_mk (st := sQuotientsSum) l18 c18 k18
  have FRootsAlong := fun_mk (st := sRootsAlong) l19 c19 k19
  have FCheckStretch := fun_mk (st := sCheckStretch) l20 c20 k20
  have FRootsTotal := fun_mk (st := sRootsTotal) l21 c21 k21
  have FCheapest := fun_mk (st := sCheapest) l22 c22 k22
  have FCostliest := fun_mk (st := sCostliest) l23 c23 k23
  have FCompact := fun_mk (st := sCompact) l24 c24 k24
  have FCompactCount := fun_mk (st := sCompactCount) l25 c25 k25
  have FCheckBounds := fun_mk (st := sCheckBounds) l26 c26 k26
  have FJoinSums := fun_mk (st := sJoinSums) l27 c27 k27
  have FLiveLogInit := fun_mk (st := sLiveLogInit) l28 c28 k28
  have FLiveLogEq := fun_mk (st := sLiveLogEq) l29 c29 k29
  have FLiveLogPresent := fun_mk (st := sLiveLogPresent) l30 c30 k30
  have FLiveLogMarks := fun_mk (st := sLiveLogMarks) l31 c31 k31
  have FLiveLogSpent := fun_mk (st := sLiveLogSpent) l32 c32 k32
  have FLiveLogAppend := fun_mk (st := sLiveLogAppend) l33 c33 k33
  have FLiveLogMark := fun_mk (st := sLiveLogMark) l34 c34 k34
  have FLiveLogCut := fun_mk (st := sLiveLogCut) l35 c35 k35
  have FLiveLogUndo := fun_mk (st := sLiveLogUndo) l36 c36 k36
  have FLiveLogLog := fun_mk (st := sLiveLogLog) l37 c37 k37
  have FLiveLogPreview := fun_mk (st := sLiveLogPreview) l38 c38 k38
  have FIsOperation := fun_mk (st := sIsOperation) l39 c39 k39
  have FLiveLogPerform := fun_mk (st := sLiveLogPerform) l40 c40 k40
  have FLiveLogBehind := fun_mk (st := sLiveLogBehind) l41 c41 k41
  have FLawWound := fun_mk (st := sLawWound) l42 c42 k42
  have FLawSpin := fun_mk (st := sLawSpin) l43 c43 k43
  have FLawDrawnSize := fun_mk (st := sLawDrawnSize) l44 c44 k44
  have FLawRight := fun_mk (st := sLawRight) l45 c45 k45
  have FLawLogRight := fun_mk (st := sLawLogRight) l46 c46 k46
  have FLaw := fun_mk (st := sLaw) l47 c47 k47
  have gLiveLog := PySem.W.mg_of X G aCLiveLog
  have TLiveLog : TLog K CLiveLog := ⟨⟨pgLiveLog, hdLiveLog, poLiveLog, saLiveLog⟩, nLiveLog_state, nLiveLog_calls⟩
  have AIsWhole : At K mg "is_whole" f0 (PySem.W.fnOf "is_whole" "is_whole" (defArgs sIsWhole) (defBody sIsWhole) (defScope sIsWhole) .none kV0 dc0 pm0 an0 cd0 ct0) ["value"] := ⟨PySem.W.mg_of X G a0, k0, FIsWhole.binds (ps := ["value"]) fun _ _ _ _ _ _ us hl => match us, hl with | [_], _ => rfl⟩
  have AIsBetween : At K mg "is_between" f1 (PySem.W.fnOf "is_between" "is_between" (defArgs sIsBetween) (defBody sIsBetween) (defScope sIsBetween) .none kV1 dc1 pm1 an1 cd1 ct1) ["value", "low", "high"] := ⟨PySem.W.mg_of X G a1, k1, FIsBetween.binds (ps := ["value", "low", "high"]) fun _ _ _ _ _ _ us hl => match us, hl with | [_, _, _], _ => rfl⟩
  have AIsTreeNode : At K mg "is_tree_node" f2 (PySem.W.fnOf "is_tree_node" "is_tree_node" (defArgs sIsTreeNode) (defBody sIsTreeNode) (defScope sIsTreeNode) .none kV2 dc2 pm2 an2 cd2 ct2) ["size", "value"] := ⟨PySem.W.mg_of X G a2, k2, FIsTreeNode.binds (ps := ["size", "value"]) fun _ _ _ _ _ _ us hl => match us, hl with | [_, _], _ => rfl⟩
  have AIsListOf : At K mg "is_list_of" f3 (PySem.W.fnOf "is_list_of" "is_list_of" (defArgs sIsListOf) (defBody sIsListOf) (defScope sIsListOf) .none kV3 dc3 pm3 an3 cd3 ct3) ["value", "least", "most"] := ⟨PySem.W.mg_of X G a3, k3, FIsListOf.binds (ps := ["value", "least", "most"]) fun _ _ _ _ _ _ us hl => match us, hl with | [_, _, _], _ => rfl⟩
  have ACheckSize : At K mg "check_size" f4 (PySem.W.fnOf "check_size" "check_size" (defArgs sCheckSize) (defBody sCheckSize) (defScope sCheckSize) .none kV4 dc4 pm4 an4 cd4 ct4) ["size"] := ⟨PySem.W.mg_of X G a4, k4, FCheckSize.binds (ps := ["size"]) fun _ _ _ _ _ _ us hl => match us, hl with | [_], _ => rfl⟩
  have ACheckSpan : At K mg "check_span" f5 (PySem.W.fnOf "check_span" "check_span" (defArgs sCheckSpan) (defBody sCheckSpan) (defScope sCheckSpan) .none kV5 dc5 pm5 an5 cd5 ct5) ["size", "begin", "end"] := ⟨PySem.W.mg_of X G a5, k5, FCheckSpan.binds (ps := ["size", "begin", "end"]) fun _ _ _ _ _ _ us hl => match us, hl with | [_, _, _], _ => rfl⟩
  have ACheckOlder : At K mg "check_older" f6 (PySem.W.fnOf "check_older" "check_older" (defArgs sCheckOlder) (defBody sCheckOlder) (defScope sCheckOlder) .none kV6 dc6 pm6 an6 cd6 ct6) ["size", "older"] := ⟨PySem.W.mg_of X G a6, k6, FCheckOlder.binds (ps := ["size", "older"]) fun _ _ _ _ _ _ us hl => match us, hl with | [_, _], _ => rfl⟩
  have ACheckNumberBetween : At K mg "check_number_between" f7 (PySem.W.fnOf "check_number_between" "check_number_between" (defArgs sCheckNumberBetween) (defBody sCheckNumberBetween) (defScope sCheckNumberBetween) .none kV7 dc7 pm7 an7 cd7 ct7) ["number", "least", "most"] := ⟨PySem.W.mg_of X G a7, k7, FCheckNumberBetween.binds (ps := ["number", "least", "most"]) fun _ _ _ _ _ _ us hl => match us, hl with | [_, _, _], _ => rfl⟩
  have APowerWithin : At K mg "power_within" f8 (PySem.W.fnOf "power_within" "power_within" (defArgs sPowerWithin) (defBody sPowerWithin) (defScope sPowerWithin) .none kV8 dc8 pm8 an8 cd8 ct8) ["number"] := ⟨PySem.W.mg_of X G a8, k8, FPowerWithin.binds (ps := ["number"]) fun _ _ _ _ _ _ us hl => match us, hl with | [_], _ => rfl⟩
  have AFirstFull : At K mg "_first_full" f9 (PySem.W.fnOf "_first_full" "_first_full" (defArgs sFirstFull) (defBody sFirstFull) (defScope sFirstFull) .none kV9 dc9 pm9 an9 cd9 ct9) ["begin", "end"] := ⟨PySem.W.mg_of X G a9, k9, FFirstFull.binds (ps := ["begin", "end"]) fun _ _ _ _ _ _ us hl => match us, hl with | [_, _], _ => rfl⟩
  have ANodesWithin : At K mg "nodes_within" f10 (PySem.W.fnOf "nodes_within" "nodes_within" (defArgs sNodesWithin) (defBody sNodesWithin) (defScope sNodesWithin) .none kV10 dc10 pm10 an10 cd10 ct10) ["size", "begin", "end"] := ⟨PySem.W.mg_of X G a10, k10, FNodesWithin.binds (ps := ["size", "begin", "end"]) fun _ _ _ _ _ _ us hl => match us, hl with | [_, _, _], _ => rfl⟩
  have APeaks : At K mg "peaks" f11 (PySem.W.fnOf "peaks" "peaks" (defArgs sPeaks) (defBody sPeaks) (defScope sPeaks) .none kV11 dc11 pm11 an11 cd11 ct11) ["size"] := ⟨PySem.W.mg_of X G a11, k11, FPeaks.binds (ps := ["size"]) fun _ _ _ _ _ _ us hl => match us, hl with | [_], _ => rfl⟩
  have AEdges : At K mg "edges" f12 (PySem.W.fnOf "edges" "edges" (defArgs sEdges) (defBody sEdges) (defScope sEdges) .none kV12 dc12 pm12 an12 cd12 ct12) ["size"] := ⟨PySem.W.mg_of X G a12, k12, FEdges.binds (ps := ["size"]) fun _ _ _ _ _ _ us hl => match us, hl with | [_], _ => rfl⟩
  have ANodeCount : At K mg "node_count" f13 (PySem.W.fnOf "node_count" "node_count" (defArgs sNodeCount) (defBody sNodeCount) (defScope sNodeCount) .none kV13 dc13 pm13 an13 cd13 ct13) ["size"] := ⟨PySem.W.mg_of X G a13, k13, FNodeCount.binds (ps := ["size"]) fun _ _ _ _ _ _ us hl => match us, hl with | [_], _ => rfl⟩
  have ACommonCount : At K mg "common_count" f14 (PySem.W.fnOf "common_count" "common_count" (defArgs sCommonCount) (defBody sCommonCount) (defScope sCommonCount) .none kV14 dc14 pm14 an14 cd14 ct14) ["size", "other"] := ⟨PySem.W.mg_of X G a14, k14, FCommonCount.binds (ps := ["size", "other"]) fun _ _ _ _ _ _ us hl => match us, hl with | [_, _], _ => rfl⟩
  have AMadeSums : At K mg "_made_sums" f15 (PySem.W.fnOf "_made_sums" "_made_sums" (defArgs sMadeSums) (defBody sMadeSums) (defScope sMadeSums) .none kV15 dc15 pm15 an15 cd15 ct15) ["size"] := ⟨PySem.W.mg_of X G a15, k15, FMadeSums.binds (ps := ["size"]) fun _ _ _ _ _ _ us hl => match us, hl with | [_], _ => rfl⟩
  have AAppendSums : At K mg "append_sums" f16 (PySem.W.fnOf "append_sums" "append_sums" (defArgs sAppendSums) (defBody sAppendSums) (defScope sAppendSums) .none kV16 dc16 pm16 an16 cd16 ct16) ["size", "number"] := ⟨PySem.W.mg_of X G a16, k16, FAppendSums.binds (ps := ["size", "number"]) fun _ _ _ _ _ _ us hl => match us, hl with | [_, _], _ => rfl⟩
  have ARootSums : At K mg "root_sums" f17 (PySem.W.fnOf "root_sums" "root_sums" (defArgs sRootSums) (defBody sRootSums) (defScope sRootSums) .none kV17 dc17 pm17 an17 cd17 ct17) ["size"] := ⟨PySem.W.mg_of X G a17, k17, FRootSums.binds (ps := ["size"]) fun _ _ _ _ _ _ us hl => match us, hl with | [_], _ => rfl⟩
  have AQuotientsSum : At K mg "_quotients_sum" f18 (PySem.W.fnOf "_quotients_sum" "_quotients_sum" (defArgs sQuotientsSum) (defBody sQuotientsSum) (defScope sQuotientsSum) .none kV18 dc18 pm18 an18 cd18 ct18) ["first", "step", "number", "divisor"] := ⟨PySem.W.mg_of X G a18, k18, FQuotientsSum.binds (ps := ["first", "step", "number", "divisor"]) fun _ _ _ _ _ _ us hl => match us, hl with | [_, _, _, _], _ => rfl⟩
  have ARootsAlong : At K mg "_roots_along" f19 (PySem.W.fnOf "_roots_along" "_roots_along" (defArgs sRootsAlong) (defBody sRootsAlong) (defScope sRootsAlong) .none kV19 dc19 pm19 an19 cd19 ct19) ["first", "step", "number"] := ⟨PySem.W.mg_of X G a19, k19, FRootsAlong.binds (ps := ["first", "step", "number"]) fun _ _ _ _ _ _ us hl => match us, hl with | [_, _, _], _ => rfl⟩
  have ACheckStretch : At K mg "_check_stretch" f20 (PySem.W.fnOf "_check_stretch" "_check_stretch" (defArgs sCheckStretch) (defBody sCheckStretch) (defScope sCheckStretch) .none kV20 dc20 pm20 an20 cd20 ct20) ["low", "high"] := ⟨PySem.W.mg_of X G a20, k20, FCheckStretch.binds (ps := ["low", "high"]) fun _ _ _ _ _ _ us hl => match us, hl with | [_, _], _ => rfl⟩
  have ARootsTotal : At K mg "roots_total" f21 (PySem.W.fnOf "roots_total" "roots_total" (defArgs sRootsTotal) (defBody sRootsTotal) (defScope sRootsTotal) .none kV21 dc21 pm21 an21 cd21 ct21) ["low", "high"] := ⟨PySem.W.mg_of X G a21, k21, FRootsTotal.binds (ps := ["low", "high"]) fun _ _ _ _ _ _ us hl => match us, hl with | [_, _], _ => rfl⟩
  have ACheapest : At K mg "cheapest" f22 (PySem.W.fnOf "cheapest" "cheapest" (defArgs sCheapest) (defBody sCheapest) (defScope sCheapest) .none kV22 dc22 pm22 an22 cd22 ct22) ["low", "high"] := ⟨PySem.W.mg_of X G a22, k22, FCheapest.binds (ps := ["low", "high"]) fun _ _ _ _ _ _ us hl => match us, hl with | [_, _], _ => rfl⟩
  have ACostliest : At K mg "costliest" f23 (PySem.W.fnOf "costliest" "costliest" (defArgs sCostliest) (defBody sCostliest) (defScope sCostliest) .none kV23 dc23 pm23 an23 cd23 ct23) ["low", "high"] := ⟨PySem.W.mg_of X G a23, k23, FCostliest.binds (ps := ["low", "high"]) fun _ _ _ _ _ _ us hl => match us, hl with | [_, _], _ => rfl⟩
  have ACompact : At K mg "compact" f24 (PySem.W.fnOf "compact" "compact" (defArgs sCompact) (defBody sCompact) (defScope sCompact) .none kV24 dc24 pm24 an24 cd24 ct24) ["begin", "end"] := ⟨PySem.W.mg_of X G a24, k24, FCompact.binds (ps := ["begin", "end"]) fun _ _ _ _ _ _ us hl => match us, hl with | [_, _], _ => rfl⟩
  have ACompactCount : At K mg "compact_count" f25 (PySem.W.fnOf "compact_count" "compact_count" (defArgs sCompactCount) (defBody sCompactCount) (defScope sCompactCount) .none kV25 dc25 pm25 an25 cd25 ct25) ["begin", "end"] := ⟨PySem.W.mg_of X G a25, k25, FCompactCount.binds (ps := ["begin", "end"]) fun _ _ _ _ _ _ us hl => match us, hl with | [_, _], _ => rfl⟩
  have ACheckBounds : At K mg "_check_bounds" f26 (PySem.W.fnOf "_check_bounds" "_check_bounds" (defArgs sCheckBounds) (defBody sCheckBounds) (defScope sCheckBounds) .none kV26 dc26 pm26 an26 cd26 ct26) ["bounds"] := ⟨PySem.W.mg_of X G a26, k26, FCheckBounds.binds (ps := ["bounds"]) fun _ _ _ _ _ _ us hl => match us, hl with | [_], _ => rfl⟩
  have AJoinSums : At K mg "join_sums" f27 (PySem.W.fnOf "join_sums" "join_sums" (defArgs sJoinSums) (defBody sJoinSums) (defScope sJoinSums) .none kV27 dc27 pm27 an27 cd27 ct27) ["bounds"] := ⟨PySem.W.mg_of X G a27, k27, FJoinSums.binds (ps := ["bounds"]) fun _ _ _ _ _ _ us hl => match us, hl with | [_], _ => rfl⟩
  have BLiveLogInit := FLiveLogInit.binds (ps := ["self", "size"]) fun _ _ _ _ _ _ us hl => match us, hl with | [_, _], _ => rfl
  have MLiveLogInit : Meth K CLiveLog "__init__" f28 := ⟨a28, i28, k28⟩
  have KLiveLog : Mk K CLiveLog f28 := ⟨mkLiveLog, a28, i28, kcLiveLog⟩
  have BLiveLogEq := FLiveLogEq.binds (ps := ["self", "other"]) fun _ _ _ _ _ _ us hl => match us, hl with | [_, _], _ => rfl
  have MLiveLogEq : Meth K CLiveLog "__eq__" f29 := ⟨a29, i29, k29⟩
  have BLiveLogPresent := FLiveLogPresent.binds (ps := ["self"]) fun _ _ _ _ _ _ us hl => match us, hl with | [_], _ => rfl
  have PLiveLogPresent : PropOf K CLiveLog "present" pr30 f30 := ⟨a30, i30, t30, ⟨_, r30⟩⟩
  have BLiveLogMarks := FLiveLogMarks.binds (ps := ["self"]) fun _ _ _ _ _ _ us hl => match us, hl with | [_], _ => rfl
  have PLiveLogMarks : PropOf K CLiveLog "marks" pr31 f31 := ⟨a31, i31, t31, ⟨_, r31⟩⟩
  have BLiveLogSpent := FLiveLogSpent.binds (ps := ["self"]) fun _ _ _ _ _ _ us hl => match us, hl with | [_], _ => rfl
  have PLiveLogSpent : PropOf K CLiveLog "spent" pr32 f32 := ⟨a32, i32, t32, ⟨_, r32⟩⟩
  have BLiveLogAppend := FLiveLogAppend.binds (ps := ["self", "number"]) fun _ _ _ _ _ _ us hl => match us, hl with | [_, _], _ => rfl
  have MLiveLogAppend : Meth K CLiveLog "append" f33 := ⟨a33, i33, k33⟩
  have BLiveLogMark := FLiveLogMark.binds (ps := ["self"]) fun _ _ _ _ _ _ us hl => match us, hl with | [_], _ => rfl
  have MLiveLogMark : Meth K CLiveLog "mark" f34 := ⟨a34, i34, k34⟩
  have BLiveLogCut := FLiveLogCut.binds (ps := ["self", "size"]) fun _ _ _ _ _ _ us hl => match us, hl with | [_, _], _ => rfl
  have MLiveLogCut : Meth K CLiveLog "cut" f35 := ⟨a35, i35, k35⟩
  have BLiveLogUndo := FLiveLogUndo.binds (ps := ["self"]) fun _ _ _ _ _ _ us hl => match us, hl with | [_], _ => rfl
  have MLiveLogUndo : Meth K CLiveLog "undo" f36 := ⟨a36, i36, k36⟩
  have BLiveLogLog := FLiveLogLog.binds (ps := ["self"]) fun _ _ _ _ _ _ us hl => match us, hl with | [_], _ => rfl
  have MLiveLogLog : Meth K CLiveLog "log" f37 := ⟨a37, i37, k37⟩
  have MLiveLogPreview : Meth K CLiveLog "preview" f38 := ⟨a38, i38, k38⟩
  have AIsOperation : At K mg "_is_operation" f39 (PySem.W.fnOf "_is_operation" "_is_operation" (defArgs sIsOperation) (defBody sIsOperation) (defScope sIsOperation) .none kV39 dc39 pm39 an39 cd39 ct39) ["value"] := ⟨PySem.W.mg_of X G a39, k39, FIsOperation.binds (ps := ["value"]) fun _ _ _ _ _ _ us hl => match us, hl with | [_], _ => rfl⟩
  have BLiveLogPerform := FLiveLogPerform.binds (ps := ["self", "operation"]) fun _ _ _ _ _ _ us hl => match us, hl with | [_, _], _ => rfl
  have MLiveLogPerform : Meth K CLiveLog "_perform" f40 := ⟨a40, i40, k40⟩
  have BLiveLogBehind := FLiveLogBehind.binds (ps := ["self", "state", "operation"]) fun _ _ _ _ _ _ us hl => match us, hl with | [_, _, _], _ => rfl
  have MLiveLogBehind : Meth K CLiveLog "_behind" f41 := ⟨a41, i41, k41⟩
  have ALawWound : At K mg "_law_wound" f42 (PySem.W.fnOf "_law_wound" "_law_wound" (defArgs sLawWound) (defBody sLawWound) (defScope sLawWound) .none kV42 dc42 pm42 an42 cd42 ct42) ["script", "k"] := ⟨PySem.W.mg_of X G a42, k42, FLawWound.binds (ps := ["script", "k"]) fun _ _ _ _ _ _ us hl => match us, hl with | [_, _], _ => rfl⟩
  have ALawSpin : At K mg "_law_spin" f43 (PySem.W.fnOf "_law_spin" "_law_spin" (defArgs sLawSpin) (defBody sLawSpin) (defScope sLawSpin) .none kV43 dc43 pm43 an43 cd43 ct43) ["reel", "many"] := ⟨PySem.W.mg_of X G a43, k43, FLawSpin.binds (ps := ["reel", "many"]) fun _ _ _ _ _ _ us hl => match us, hl with | [_, _], _ => rfl⟩
  have ALawDrawnSize : At K mg "_law_drawn_size" f44 (PySem.W.fnOf "_law_drawn_size" "_law_drawn_size" (defArgs sLawDrawnSize) (defBody sLawDrawnSize) (defScope sLawDrawnSize) .none kV44 dc44 pm44 an44 cd44 ct44) ["reel"] := ⟨PySem.W.mg_of X G a44, k44, FLawDrawnSize.binds (ps := ["reel"]) fun _ _ _ _ _ _ us hl => match us, hl with | [_], _ => rfl⟩
  have ALawRight : At K mg "_law_right" f45 (PySem.W.fnOf "_law_right" "_law_right" (defArgs sLawRight) (defBody sLawRight) (defScope sLawRight) .none kV45 dc45 pm45 an45 cd45 ct45) ["reel"] := ⟨PySem.W.mg_of X G a45, k45, FLawRight.binds (ps := ["reel"]) fun _ _ _ _ _ _ us hl => match us, hl with | [_], _ => rfl⟩
  have ALawLogRight : At K mg "_law_log_right" f46 (PySem.W.fnOf "_law_log_right" "_law_log_right" (defArgs sLawLogRight) (defBody sLawLogRight) (defScope sLawLogRight) .none kV46 dc46 pm46 an46 cd46 ct46) ["reel"] := ⟨PySem.W.mg_of X G a46, k46, FLawLogRight.binds (ps := ["reel"]) fun _ _ _ _ _ _ us hl => match us, hl with | [_], _ => rfl⟩
  have z_bool := PySem.W.mg_none_of X G z_bool
  have z_enumerate := PySem.W.mg_none_of X G z_enumerate
  have z_int := PySem.W.mg_none_of X G z_int
  have z_isinstance := PySem.W.mg_none_of X G z_isinstance
  have z_len := PySem.W.mg_none_of X G z_len
  have z_list := PySem.W.mg_none_of X G z_list
  have z_max := PySem.W.mg_none_of X G z_max
  have z_min := PySem.W.mg_none_of X G z_min
  have z_range := PySem.W.mg_none_of X G z_range
  have z_str := PySem.W.mg_none_of X G z_str
  have z_sum := PySem.W.mg_none_of X G z_sum
  have z_tuple := PySem.W.mg_none_of X G z_tuple
  have z_zip := PySem.W.mg_none_of X G z_zip
  have g_FULL_SIZE := PySem.W.mg_of X G g_FULL_SIZE
  have g_MOST_BOUNDS := PySem.W.mg_of X G g_MOST_BOUNDS
  have g_MOST_ENTRIES := PySem.W.mg_of X G g_MOST_ENTRIES
  refine ⟨PySem.W.fnOf "law" "law" (defArgs sLaw) (defBody sLaw) (defScope sLaw) .none kV47 dc47 pm47 an47 cd47 ct47, fun s v => .of_eq rfl, fun base _ _ => ?_⟩
  have gPARAMETERS := PySem.W.mg_of X G aP
  have TP : Pars K w DPARAMETERS := ⟨loP, ⟨_, _, _, dkP, klP, nAP, ⟨_, rfl⟩⟩, ⟨_, _, _, dkP, klP, nMP, ⟨_, rfl⟩⟩, ⟨_, _, _, dkP, klP, nCP, ⟨_, rfl⟩⟩⟩
  have GIsWholeV := ok_is_wholeV (P := l.prog) (w := w) (base := base) FIsWhole z_isinstance z_int z_bool
  have GIsWhole := ok_is_whole (P := l.prog) (w := w) (base := base) FIsWhole z_isinstance z_int z_bool
  have GIsBetweenV := ok_is_betweenV FIsBetween GIsWholeV AIsWhole
  have GIsBetween := ok_is_between FIsBetween GIsWhole AIsWhole
  have GTreeV := ok_is_tree_nodeV FIsTreeNode GIsBetweenV AIsBetween z_isinstance z_tuple z_len
  have GIsListOf := ok_is_list_of (P := l.prog) (w := w) (base := base) FIsListOf z_isinstance z_list z_len
  have GCheckSize := ok_check_size FCheckSize GIsBetween AIsBetween g_MOST_ENTRIES
  have GCheckSpan := ok_check_span FCheckSpan GIsBetween AIsBetween
  have GCheckOlder := ok_check_older FCheckOlder GIsBetween AIsBetween
  have GCheckNumberBetween := ok_check_number_between FCheckNumberBetween GIsBetween AIsBetween
  have GPowerWithin := ok_power_within (P := l.prog) (w := w) (mg := mg) (base := base) FPowerWithin
  have GFirstFull := ok_first_full FFirstFull GPowerWithin APowerWithin z_min
  have GNodesWithinX := ok_nodes_withinX FNodesWithin GTreeV AIsTreeNode GFirstFull AFirstFull
  have GPeaks := ok_peaks FPeaks GCheckSize ACheckSize GPowerWithin APowerWithin
  have GEdges := ok_edges FEdges GPeaks APeaks
  have GNodeCount := ok_node_count FNodeCount GEdges AEdges z_len
  have GCommonCount := ok_common_count FCommonCount GCheckSize ACheckSize GNodeCount ANodeCount z_min
  have GRootSums := ok_root_sums FRootSums GEdges AEdges z_len
  have GMadeSums := ok_made_sums FMadeSums GRootSums ARootSums
  have GAppendSums := ok_append_sums FAppendSums GCheckSize ACheckSize GCheckNumberBetween ACheckNumberBetween GMadeSums AMadeSums g_MOST_ENTRIES
  have GQuotientsSum := ok_quotients_sum (P := l.prog) (w := w) (mg := mg) (base := base) FQuotientsSum
  have GRootsAlong := ok_roots_along FRootsAlong GQuotientsSum AQuotientsSum
  have GCheckStretch := ok_check_stretch FCheckStretch GCheckSize ACheckSize
  have GRootsTotal := ok_roots_total FRootsTotal GCheckStretch ACheckStretch GRootsAlong ARootsAlong
  have GCheapest := ok_cheapest FCheapest GCheckStretch ACheckStretch GRootSums ARootSums z_min
  have GCostliest := ok_costliest FCostliest GCheckStretch ACheckStretch GRootSums ARootSums
  have GCompact := ok_compact FCompact GCheckSpan ACheckSpan GNodesWithinX ANodesWithin g_MOST_ENTRIES g_FULL_SIZE
  have GCompactCount := ok_compact_count FCompactCount GCompact ACompact z_len
  have GCheckBounds := ok_check_bounds FCheckBounds GIsListOf AIsListOf GIsBetween AIsBetween g_MOST_BOUNDS g_MOST_ENTRIES z_enumerate
  have GJoinSums := ok_join_sums FJoinSums GCheckBounds ACheckBounds GCompactCount ACompactCount z_sum z_zip
  have GIsOperation := ok_is_operation (P := l.prog) (w := w) (base := base) FIsOperation gPARAMETERS TP z_isinstance z_tuple z_str z_len
  have GLiveLogInit := ok_log_init FLiveLogInit TLiveLog GCheckSize ACheckSize
  have GLiveLogPresent := ok_log_present (P := l.prog) (w := w) (mg := mg) (base := base) FLiveLogPresent TLiveLog
  have GLiveLogSpent := ok_log_spent (P := l.prog) (w := w) (mg := mg) (base := base) FLiveLogSpent TLiveLog
  have GLiveLogBehind := ok_log_behind FLiveLogBehind GCheckNumberBetween ACheckNumberBetween GAppendSums AAppendSums GCheckOlder ACheckOlder GRootSums ARootSums g_MOST_ENTRIES z_tuple
  have GLiveLogPerform := ok_log_perform FLiveLogPerform TLiveLog GLiveLogBehind MLiveLogBehind BLiveLogBehind
  have GLiveLogAppend := ok_log_append FLiveLogAppend TLiveLog GLiveLogPerform MLiveLogPerform BLiveLogPerform
  have GLiveLogMark := ok_log_mark FLiveLogMark TLiveLog GLiveLogPerform MLiveLogPerform BLiveLogPerform
  have GLiveLogPreview2 := ok_log_preview FLiveLogPreview (Fun.bindsV FLiveLogPreview preview2) TLiveLog GIsOperation AIsOperation GLiveLogBehind MLiveLogBehind BLiveLogBehind
  have GLawWound := ok_law_wound (P := l.prog) (w := w) (base := base) FLawWound z_max z_len z_int
  have GLawSpin := ok_law_spin (P := l.prog) (w := w) (base := base) FLawSpin z_int
  have GLawDrawnSize := ok_law_drawn_size FLawDrawnSize GLawSpin ALawSpin z_min z_int
  have GLawRight := ok_law_right FLawRight GLawSpin ALawSpin GLawDrawnSize ALawDrawnSize GNodeCount ANodeCount GRootSums ARootSums GEdges AEdges GPeaks APeaks GAppendSums AAppendSums GCommonCount ACommonCount GCheapest ACheapest GCostliest ACostliest GRootsTotal ARootsTotal GJoinSums AJoinSums GCompactCount ACompactCount z_min z_max z_len
  have GLawLogRight := ok_law_log_right FLawLogRight TLiveLog gLiveLog GLawSpin ALawSpin KLiveLog GLiveLogInit BLiveLogInit GLiveLogMark MLiveLogMark BLiveLogMark GLiveLogAppend MLiveLogAppend BLiveLogAppend GLiveLogPresent PLiveLogPresent BLiveLogPresent GLiveLogSpent PLiveLogSpent BLiveLogSpent GLiveLogPreview2 MLiveLogPreview GAppendSums AAppendSums GRootSums ARootSums z_range
  exact ok_law FLaw GLawWound ALawWound GLawRight ALawRight GLawLogRight ALawLogRight z_range z_len z_max z_min
end LT
open PySem PySem.W PyProof.Rows
set_option maxRecDepth 100000 in
set_option maxHeartbeats 0 in
theorem PySem.Challenge.cw_logtrees_k53_whole_work_of_growing_logs_holds : PySem.Challenge.rw_logtrees_k53_whole_work_of_growing_logs.Holds := by
  w_on; o_law; k_head; (case hw => w_witness2)
  k_fill
  refine L2.walk_of (l := PySem.Challenge.rw_logtrees_k53_whole_work_of_growing_logs) (n := 63) (k := 13) (x := "script") (CX := fun _ => L2.CX0) (sp := fun w => LT.spLaw _) rfl (by decide) rfl ⟨rfl, by decide, by decide⟩ (fun w h Y => PySem.W.kIn_of Y) ?F (fun _ _ a ns hl _ hS => ⟨a, ns, rfl, hS, hl, fun _ => rfl⟩) (fun _ _ _ _ _ h => h)
  case F =>
    intro w mg fa h KX G hmg
    refine' LT.all_mk KX G hmg ?aCLiveLog ?pgLiveLog ?hdLiveLog ?poLiveLog ?saLiveLog ?mkLiveLog ?kcLiveLog ?nLiveLog_state ?nLiveLog_calls ?a0 ?l0 ?c0 ?k0 ?a1 ?l1 ?c1 ?k1 ?a2 ?l2 ?c2 ?k2 ?a3 ?l3 ?c3 ?k3 ?a4 ?l4 ?c4 ?k4 ?a5 ?l5 ?c5 ?k5 ?a6 ?l6 ?c6 ?k6 ?a7 ?l7 ?c7 ?k7 ?a8 ?l8 ?c8 ?k8 ?a9 ?l9 ?c9 ?k9 ?a10 ?l10 ?c10 ?k10 ?a11 ?l11 ?c11 ?k11 ?a12 ?l12 ?c12 ?k12 ?a13 ?l13 ?c13 ?k13 ?a14 ?l14 ?c14 ?k14 ?a15 ?l15 ?c15 ?k15 ?a16 ?l16 ?c16 ?k16 ?a17 ?l17 ?c17 ?k17 ?a18 ?l18 ?c18 ?k18 ?a19 ?l19 ?c19 ?k19 ?a20 ?l20 ?c20 ?k20 ?a21 ?l21 ?c21 ?k21 ?a22 ?l22 ?c22 ?k22 ?a23 ?l23 ?c23 ?k23 ?a24 ?l24 ?c24 ?k24 ?a25 ?l25 ?c25 ?k25 ?a26 ?l26 ?c26 ?k26 ?a27 ?l27 ?c27 ?k27 ?a28 ?i28 ?l28 ?c28 ?k28 ?a29 ?i29 ?l29 ?c29 ?k29 ?a30 ?i30 ?t30 ?r30 ?l30 ?c30 ?k30 ?a31 ?i31 ?t31 ?r31 ?l31 ?c31 ?k31 ?a32 ?i32 ?t32 ?r32 ?l32 ?c32 ?k32 ?a33 ?i33 ?l33 ?c33 ?k33 ?a34 ?i34 ?l34 ?c34 ?k34 ?a35 ?i35 ?l35 ?c35 ?k35 ?a36 ?i36 ?l36 ?c36 ?k36 ?a37 ?i37 ?l37 ?c37 ?k37 ?a38 ?i38 ?l38 ?c38 ?k38 ?a39 ?l39 ?c39 ?k39 ?a40 ?i40 ?l40 ?c40 ?k40 ?a41 ?i41 ?l41 ?c41 ?k41 ?a42 ?l42 ?c42 ?k42 ?a43 ?l43 ?c43 ?k43 ?a44 ?l44 ?c44 ?k44 ?a45 ?l45 ?c45 ?k45 ?a46 ?l46 ?c46 ?k46 ?a47 ?l47 ?c47 ?k47 ?z_bool ?z_enumerate ?z_int ?z_isinstance ?z_len ?z_list ?z_max ?z_min ?z_range ?z_str ?z_sum ?z_tuple ?z_zip ?g_FULL_SIZE ?g_MOST_BOUNDS ?g_MOST_ENTRIES ?aP ?dkP ?klP ?loP ?nAP ?nMP ?nCP
    (case aCLiveLog => k_is)
    (case pgLiveLog => k_is)
    (case hdLiveLog => k_is)
    (case poLiveLog => k_is)
    (case saLiveLog => k_is)
    (case mkLiveLog => k_is)
    (case kcLiveLog => k_is)
    (case nLiveLog_state => k_is)
    (case nLiveLog_calls => k_is)
    (case a0 => k_is)
    (case l0 => k_is)
    (case c0 => k_is)
    (case k0 => k_is)
    (case a1 => k_is)
    (case l1 => k_is)
    (case c1 => k_is)
    (case k1 => k_is)
    (case a2 => k_is)
    (case l2 => k_is)
    (case c2 => k_is)
    (case k2 => k_is)
    (case a3 => k_is)
    (case l3 => k_is)
    (case c3 => k_is)
    (case k3 => k_is)
    (case a4 => k_is)
    (case l4 => k_is)
    (case c4 => k_is)
    (case k4 => k_is)
    (case a5 => k_is)
    (case l5 => k_is)
    (case c5 => k_is)
    (case k5 => k_is)
    (case a6 => k_is)
    (case l6 => k_is)
    (case c6 => k_is)
    (case k6 => k_is)
    (case a7 => k_is)
    (case l7 => k_is)
    (case c7 => k_is)
    (case k7 => k_is)
    (case a8 => k_is)
    (case l8 => k_is)
    (case c8 => k_is)
    (case k8 => k_is)
    (case a9 => k_is)
    (case l9 => k_is)
    (case c9 => k_is)
    (case k9 => k_is)
    (case a10 => k_is)
    (case l10 => k_is)
    (case c10 => k_is)
    (case k10 => k_is)
    (case a11 => k_is)
    (case l11 => k_is)
    (case c11 => k_is)
    (case k11 => k_is)
    (case a12 => k_is)
    (case l12 => k_is)
    (case c12 => k_is)
    (case k12 => k_is)
    (case a13 => k_is)
    (case l13 => k_is)
    (case c13 => k_is)
    (case k13 => k_is)
    (case a14 => k_is)
    (case l14 => k_is)
    (case c14 => k_is)
    (case k14 => k_is)
    (case a15 => k_is)
    (case l15 => k_is)
    (case c15 => k_is)
    (case k15 => k_is)
    (case a16 => k_is)
    (case l16 => k_is)
    (case c16 => k_is)
    (case k16 => k_is)
    (case a17 => k_is)
    (case l17 => k_is)
    (case c17 => k_is)
    (case k17 => k_is)
    (case a18 => k_is)
    (case l18 => k_is)
    (case c18 => k_is)
    (case k18 => k_is)
    (case a19 => k_is)
    (case l19 => k_is)
    (case c19 => k_is)
    (case k19 => k_is)
    (case a20 => k_is)
    (case l20 => k_is)
    (case c20 => k_is)
    (case k20 => k_is)
    (case a21 => k_is)
    (case l21 => k_is)
    (case c21 => k_is)
    (case k21 => k_is)
    (case a22 => k_is)
    (case l22 => k_is)
    (case c22 => k_is)
    (case k22 => k_is)
    (case a23 => k_is)
    (case l23 => k_is)
    (case c23 => k_is)
    (case k23 => k_is)
    (case a24 => k_is)
    (case l24 => k_is)
    (case c24 => k_is)
    (case k24 => k_is)
    (case a25 => k_is)
    (case l25 => k_is)
    (case c25 => k_is)
    (case k25 => k_is)
    (case a26 => k_is)
    (case l26 => k_is)
    (case c26 => k_is)
    (case k26 => k_is)
    (case a27 => k_is)
    (case l27 => k_is)
    (case c27 => k_is)
    (case k27 => k_is)
    (case a28 => k_is)
    (case i28 => k_is)
    (case l28 => k_is)
    (case c28 => k_is)
    (case k28 => k_is)
    (case a29 => k_is)
    (case i29 => k_is)
    (case l29 => k_is)
    (case c29 => k_is)
    (case k29 => k_is)
    (case a30 => k_is)
    (case i30 => k_is)
    (case t30 => k_is)
    (case r30 => k_is)
    (case l30 => k_is)
    (case c30 => k_is)
    (case k30 => k_is)
    (case a31 => k_is)
    (case i31 => k_is)
    (case t31 => k_is)
    (case r31 => k_is)
    (case l31 => k_is)
    (case c31 => k_is)
    (case k31 => k_is)
    (case a32 => k_is)
    (case i32 => k_is)
    (case t32 => k_is)
    (case r32 => k_is)
    (case l32 => k_is)
    (case c32 => k_is)
    (case k32 => k_is)
    (case a33 => k_is)
    (case i33 => k_is)
    (case l33 => k_is)
    (case c33 => k_is)
    (case k33 => k_is)
    (case a34 => k_is)
    (case i34 => k_is)
    (case l34 => k_is)
    (case c34 => k_is)
    (case k34 => k_is)
    (case a35 => k_is)
    (case i35 => k_is)
    (case l35 => k_is)
    (case c35 => k_is)
    (case k35 => k_is)
    (case a36 => k_is)
    (case i36 => k_is)
    (case l36 => k_is)
    (case c36 => k_is)
    (case k36 => k_is)
    (case a37 => k_is)
    (case i37 => k_is)
    (case l37 => k_is)
    (case c37 => k_is)
    (case k37 => k_is)
    (case a38 => k_is)
    (case i38 => k_is)
    (case l38 => k_is)
    (case c38 => k_is)
    (case k38 => k_is)
    (case a39 => k_is)
    (case l39 => k_is)
    (case c39 => k_is)
    (case k39 => k_is)
    (case a40 => k_is)
    (case i40 => k_is)
    (case l40 => k_is)
    (case c40 => k_is)
    (case k40 => k_is)
    (case a41 => k_is)
    (case i41 => k_is)
    (case l41 => k_is)
    (case c41 => k_is)
    (case k41 => k_is)
    (case a42 => k_is)
    (case l42 => k_is)
    (case c42 => k_is)
    (case k42 => k_is)
    (case a43 => k_is)
    (case l43 => k_is)
    (case c43 => k_is)
    (case k43 => k_is)
    (case a44 => k_is)
    (case l44 => k_is)
    (case c44 => k_is)
    (case k44 => k_is)
    (case a45 => k_is)
    (case l45 => k_is)
    (case c45 => k_is)
    (case k45 => k_is)
    (case a46 => k_is)
    (case l46 => k_is)
    (case c46 => k_is)
    (case k46 => k_is)
    (case a47 => k_is)
    (case l47 => k_is)
    (case c47 => k_is)
    (case k47 => k_is)
    (case z_bool => k_is)
    (case z_enumerate => k_is)
    (case z_int => k_is)
    (case z_isinstance => k_is)
    (case z_len => k_is)
    (case z_list => k_is)
    (case z_max => k_is)
    (case z_min => k_is)
    (case z_range => k_is)
    (case z_str => k_is)
    (case z_sum => k_is)
    (case z_tuple => k_is)
    (case z_zip => k_is)
    (case g_FULL_SIZE => k_is)
    (case g_MOST_BOUNDS => k_is)
    (case g_MOST_ENTRIES => k_is)
    (case aP => k_is)
    (case dkP => k_is)
    (case klP => k_keys)
    (case loP => decide)
    (case nAP => k_is)
    (case nMP => k_is)
    (case nCP => k_is)
