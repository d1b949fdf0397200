import PyProof.Rows.All
import Wide.All
import OpenK.AllK
import Wide.FinOn
import HandS.ForMost
import HandS.Wide
import HandS.WideBits
import HandS.IsInst
import HandS.Style
import HandS.Deep
import HandS.RaiseMore
import HandS.Conv
import HandS.Flow
import HandS.SortRule
import HandS.NoneIn
import HandS.TupLen
import HandS.Set
import HandS.SetFor
import HandS.Strs
import HandS.Defaults
import KE.DataAny
import HandS.TupSets
import PyProof.ReprRoads
import PyProof.Rows.NestShow
import KE.DataMinMax
import KE.SortData
import PySem.Challenge.RW_logtrees_k33_great_known_nodes
set_option Elab.async false
set_option linter.all false
set_option maxRecDepth 100000
set_option maxHeartbeats 4000000
namespace LT
/-- the greatest power of two less than m (m from 2) -/
def gp (m : Nat) : Nat := 2 ^ Nat.log2 (m - 1)
theorem gp_pos (m : Nat) : 0 < gp m := Nat.pow_pos (by decide)
theorem gp_lt {m : Nat} (h : 2 ≤ m) : gp m < m := by
  have := Nat.log2_self_le (n := m - 1) (by omega)
  unfold gp; omega
theorem gp_ge {m : Nat} (h : 2 ≤ m) : m ≤ 2 * gp m := by
  have := Nat.lt_log2_self (n := m - 1)
  unfold gp; rw [Nat.pow_succ] at this; omega
theorem pow_eq_of {i j : Nat} {m : Nat} (h1 : 2 ^ i < m) (h2 : m ≤ 2 * 2 ^ i) (h3 : 2 ^ j < m) (h4 : m ≤ 2 * 2 ^ j) : i = j := by
  have a : 2 ^ i < 2 ^ (j + 1) := by rw [Nat.pow_succ]; omega
  have b : 2 ^ j < 2 ^ (i + 1) := by rw [Nat.pow_succ]; omega
  have a' := (Nat.pow_lt_pow_iff_right (by decide : 1 < 2)).mp a
  have b' := (Nat.pow_lt_pow_iff_right (by decide : 1 < 2)).mp b
  omega
theorem gp_eq {i m : Nat} (h1 : 2 ^ i < m) (h2 : m ≤ 2 * 2 ^ i) : gp m = 2 ^ i := by
  have h : 2 ≤ m := by have := Nat.pow_pos (a := 2) (n := i) (by decide); omega
  have := pow_eq_of (gp_lt h) (gp_ge h) h1 h2
  unfold gp; rw [this]
theorem gp_pow (i : Nat) : gp (2 ^ (i + 1)) = 2 ^ i := gp_eq (by rw [Nat.pow_succ]; have := Nat.pow_pos (a := 2) (n := i) (by decide); omega) (by rw [Nat.pow_succ]; omega)

/-- siblings from the root's half down to the leaf's: nodes as (begin, length-end) pairs -/
def sib (b m e : Nat) : List (Nat × Nat) :=
  if h : m ≤ 1 then [] else
    if e < b + gp m then (b + gp m, b + m) :: sib b (gp m) e
    else (b, b + gp m) :: sib (b + gp m) (m - gp m) e
termination_by m
decreasing_by
  · exact gp_lt (by omega)
  · have := gp_pos m; omega
theorem sib_one {b m e : Nat} (h : m ≤ 1) : sib b m e = [] := by rw [sib]; simp [h]
theorem sib_low {b m e : Nat} (h : 2 ≤ m) (k : e < b + gp m) : sib b m e = (b + gp m, b + m) :: sib b (gp m) e := by
  rw [sib]; rw [dif_neg (by omega), if_pos k]
theorem sib_high {b m e : Nat} (h : 2 ≤ m) (k : ¬ e < b + gp m) : sib b m e = (b, b + gp m) :: sib (b + gp m) (m - gp m) e := by
  rw [sib]; rw [dif_neg (by omega), if_neg k]

/-! ### joining up again -/
def join (x y : Nat × Nat) : Nat × Nat := (min x.1 y.1, max x.2 y.2)
/-- the halves of a node -/
def halv (x : Nat × Nat) : (Nat × Nat) × (Nat × Nat) := ((x.1, x.1 + gp (x.2 - x.1)), (x.1 + gp (x.2 - x.1), x.2))
def ok1 (x y : Nat × Nat) : Prop := (join x y).1 + 2 ≤ (join x y).2 ∧ (halv (join x y) = (x, y) ∨ halv (join x y) = (y, x))
def oks : Nat × Nat → List (Nat × Nat) → Prop
  | _, [] => True
  | x, y :: r => ok1 x y ∧ oks (join x y) r
def top : Nat × Nat → List (Nat × Nat) → Nat × Nat
  | x, [] => x
  | x, y :: r => top (join x y) r
theorem oks_append : ∀ (x : Nat × Nat) (l r : List (Nat × Nat)), oks x l → oks (top x l) r → oks x (l ++ r)
  | _, [], _, _, h => h
  | x, y :: l, r, h1, h2 => ⟨h1.1, oks_append (join x y) l r h1.2 h2⟩
theorem top_append : ∀ (x : Nat × Nat) (l r : List (Nat × Nat)), top x (l ++ r) = top (top x l) r
  | _, [], _ => rfl
  | x, y :: l, r => top_append (join x y) l r
theorem sib_up : ∀ (m b e : Nat), b ≤ e → e < b + m → oks (e, e + 1) (sib b m e).reverse ∧ top (e, e + 1) (sib b m e).reverse = (b, b + m) := by
  intro m
  induction m using Nat.strongRecOn with
  | ind m ih =>
    intro b e h1 h2
    by_cases hm : m ≤ 1
    · have : m = 1 := by omega
      subst this
      rw [sib_one (by omega)]
      have : e = b := by omega
      subst this
      exact ⟨True.intro, rfl⟩
    · have g1 := gp_lt (m := m) (by omega)
      have g2 := gp_pos m
      by_cases k : e < b + gp m
      · rw [sib_low (by omega) k, List.reverse_cons]
        obtain ⟨p, q⟩ := ih (gp m) g1 b e h1 k
        have j : join (b, b + gp m) (b + gp m, b + m) = (b, b + m) := by
          unfold join; simp only []; rw [Nat.min_eq_left (by omega), Nat.max_eq_right (by omega)]
        refine ⟨oks_append _ _ _ p ?_, ?_⟩
        · rw [q]
          refine ⟨⟨?_, .inl ?_⟩, True.intro⟩
          · rw [j]; simp only []; omega
          · rw [j]; unfold halv; simp only []; rw [Nat.add_sub_cancel_left]
        · rw [top_append, q]; exact j
      · rw [sib_high (by omega) k, List.reverse_cons]
        obtain ⟨p, q⟩ := ih (m - gp m) (by omega) (b + gp m) e (by omega) (by omega)
        have e2 : b + gp m + (m - gp m) = b + m := by omega
        rw [e2] at q
        have j : join (b + gp m, b + m) (b, b + gp m) = (b, b + m) := by
          unfold join; simp only []; rw [Nat.min_eq_right (by omega), Nat.max_eq_left (by omega)]
        refine ⟨oks_append _ _ _ p ?_, ?_⟩
        · rw [q]
          refine ⟨⟨?_, .inr ?_⟩, True.intro⟩
          · rw [j]; simp only []; omega
          · rw [j]; unfold halv; simp only []; rw [Nat.add_sub_cancel_left]
        · rw [top_append, q]; exact j
theorem sib_len_pow (i : Nat) : ∀ (b e : Nat), b ≤ e → e < b + 2 ^ i → (sib b (2 ^ i) e).length = i := by
  induction i with
  | zero => intro b e h1 h2; rw [sib_one (by simp)]; rfl
  | succ i ih =>
    intro b e h1 h2
    have h3 : 2 ≤ 2 ^ (i + 1) := by rw [Nat.pow_succ]; have := Nat.pow_pos (a := 2) (n := i) (by decide); omega
    have g := gp_pow i
    have e2 : 2 ^ (i + 1) - 2 ^ i = 2 ^ i := by rw [Nat.pow_succ]; omega
    by_cases k : e < b + gp (2 ^ (i + 1))
    · rw [sib_low h3 k, List.length_cons, g, ih b e h1 (by omega)]
    · rw [sib_high h3 k, List.length_cons, g, e2, ih (b + 2 ^ i) e (by omega) (by rw [Nat.pow_succ] at h2; omega)]
/-! ### the peaks by digits: (begin, height) -/
def pk : Nat → Nat → Nat → List (Nat × Nat)
  | 0, _, _ => []
  | i + 1, n, b => if n.testBit i then (b, i) :: pk i n (b + 2 ^ i) else pk i n b
theorem mod_succ (n i : Nat) : n % 2 ^ (i + 1) = (if n.testBit i then 2 ^ i else 0) + n % 2 ^ i := by
  rw [Nat.mod_pow_succ, Nat.testBit_eq_decide_div_mod_eq, Nat.add_comm]
  have h : n / 2 ^ i % 2 = 0 ∨ n / 2 ^ i % 2 = 1 := by omega
  rcases h with h | h <;> rw [h] <;> simp
theorem pk_nil : ∀ (i n b : Nat), n % 2 ^ i = 0 → pk i n b = []
  | 0, _, _, _ => rfl
  | i + 1, n, b, h => by
    rw [mod_succ] at h
    have p := Nat.pow_pos (a := 2) (n := i) (by decide)
    unfold pk
    cases t : n.testBit i with
    | true => rw [t] at h; simp at h
    | false => rw [t] at h; simp at h; simp; exact pk_nil i n b h
theorem pk_ne : ∀ (i n b : Nat), n % 2 ^ i ≠ 0 → pk i n b ≠ []
  | 0, _, _, h => by simp [Nat.mod_one] at h
  | i + 1, n, b, h => by
    rw [mod_succ] at h
    unfold pk
    cases t : n.testBit i with
    | true => simp
    | false => rw [t] at h; simp at h; simp; exact pk_ne i n b (by omega)
theorem pk_begin : ∀ (i n b : Nat) (x : Nat × Nat), x ∈ pk i n b → b ≤ x.1 ∧ x.2 < i
  | 0, _, _, _, h => by simp [pk] at h
  | i + 1, n, b, x, h => by
    unfold pk at h
    cases t : n.testBit i with
    | true =>
      rw [t] at h; simp at h
      rcases h with h | h
      · subst h; exact ⟨Nat.le_refl _, Nat.lt_succ_self _⟩
      · have := pk_begin i n _ x h; have p := Nat.pow_pos (a := 2) (n := i) (by decide); omega
    | false =>
      rw [t] at h; simp at h
      have := pk_begin i n _ x h; omega
/-- what the law says of the levels: s the place of the first row, of t rows in all -/
def lev (t : Nat) : Nat → List (Nat × Nat) → List (Nat × Nat × Nat)
  | _, [] => []
  | s, x :: r => (x.1, x.1 + 2 ^ x.2, x.2 + min (s + 1) (t - 1)) :: lev t (s + 1) r
def due (e : Nat) (l : List (Nat × Nat × Nat)) : List Nat := (l.filter fun x => decide (x.1 ≤ e) && decide (e < x.2.1)).map fun x => x.2.2
theorem due_none (t e : Nat) : ∀ (l : List (Nat × Nat)) (s : Nat), (∀ x ∈ l, e < x.1) → due e (lev t s l) = []
  | [], _, _ => rfl
  | x :: r, s, h => by
    have h1 := h x (List.mem_cons_self)
    have ih := due_none t e r (s + 1) fun y hy => h y (List.mem_cons_of_mem _ hy)
    show List.map _ (List.filter _ ((x.1, x.1 + 2 ^ x.2, x.2 + min (s + 1) (t - 1)) :: lev t (s + 1) r)) = []
    rw [List.filter_cons, if_neg (by simp; omega)]
    exact ih
theorem due_is (n e : Nat) : ∀ (i b s : Nat), b ≤ e → e < b + n % 2 ^ i → due e (lev (s + (pk i n b).length) s (pk i n b)) = [(sib b (n % 2 ^ i) e).length + min s (s + (pk i n b).length - 1)] := by
  intro i
  induction i with
  | zero => intro b s h1 h2; simp [Nat.mod_one] at h2; omega
  | succ i ih =>
    intro b s h1 h2
    have p := Nat.pow_pos (a := 2) (n := i) (by decide)
    have ml := Nat.mod_lt n p
    cases t : n.testBit i with
    | false =>
      have e1 : n % 2 ^ (i + 1) = n % 2 ^ i := by rw [mod_succ, t]; simp
      have e2 : pk (i + 1) n b = pk i n b := by show (if n.testBit i = true then _ else _) = _; rw [t]; simp
      rw [e1] at h2
      rw [e1, e2]; exact ih b s h1 h2
    | true =>
      have e1 : n % 2 ^ (i + 1) = 2 ^ i + n % 2 ^ i := by rw [mod_succ, t]; simp
      have e2 : pk (i + 1) n b = (b, i) :: pk i n (b + 2 ^ i) := by show (if n.testBit i = true then _ else _) = _; rw [t]; simp
      rw [e1] at h2
      rw [e1, e2, List.length_cons]
      by_cases r0 : n % 2 ^ i = 0
      · rw [pk_nil i n _ r0, r0]
        rw [r0] at h2
        rw [Nat.add_zero] at h2
        rw [Nat.add_zero (2 ^ i), sib_len_pow i b e h1 h2]
        show List.map _ (List.filter _ [(b, b + 2 ^ i, i + min (s + 1) (s + (0 + 1) - 1))]) = _
        rw [List.filter_cons, if_pos (by simp; omega)]
        simp
      · have hne : 1 ≤ (pk i n (b + 2 ^ i)).length := by
          have := pk_ne i n (b + 2 ^ i) r0
          cases hh : pk i n (b + 2 ^ i) with
          | nil => exact absurd hh this
          | cons _ _ => rw [List.length_cons]; omega
        have g : gp (2 ^ i + n % 2 ^ i) = 2 ^ i := gp_eq (by omega) (by omega)
        by_cases k : e < b + 2 ^ i
        · rw [sib_low (by omega) (by rw [g]; exact k), g, List.length_cons, sib_len_pow i b e h1 k]
          have d := due_none (s + ((pk i n (b + 2 ^ i)).length + 1)) e (pk i n (b + 2 ^ i)) (s + 1) fun x hx => by have := pk_begin _ _ _ x hx; omega
          show List.map _ (List.filter _ ((b, b + 2 ^ i, i + min (s + 1) (s + ((pk i n (b + 2 ^ i)).length + 1) - 1)) :: lev (s + ((pk i n (b + 2 ^ i)).length + 1)) (s + 1) (pk i n (b + 2 ^ i)))) = _
          rw [List.filter_cons, if_pos (by simp; omega), List.map_cons]
          have d' : List.map (fun x => x.2.2) (List.filter (fun x => decide (x.1 ≤ e) && decide (e < x.2.1)) (lev (s + ((pk i n (b + 2 ^ i)).length + 1)) (s + 1) (pk i n (b + 2 ^ i)))) = [] := d
          rw [d']
          simp
          omega
        · rw [sib_high (by omega) (by rw [g]; exact k), g, List.length_cons, Nat.add_sub_cancel_left]
          have q := ih (b + 2 ^ i) (s + 1) (by omega) (by omega)
          have e3 : s + 1 + (pk i n (b + 2 ^ i)).length = s + ((pk i n (b + 2 ^ i)).length + 1) := by omega
          rw [e3] at q
          show List.map _ (List.filter _ ((b, b + 2 ^ i, i + min (s + 1) (s + ((pk i n (b + 2 ^ i)).length + 1) - 1)) :: lev (s + ((pk i n (b + 2 ^ i)).length + 1)) (s + 1) (pk i n (b + 2 ^ i)))) = _
          rw [List.filter_cons, if_neg (by simp; omega)]
          refine Eq.trans q ?_
          congr 1
          omega
/-! ### which pairs are nodes -/
/-- the bits of m - 1 -/
def lb (m : Nat) : Nat := if m ≤ 1 then 0 else Nat.log2 (m - 1) + 1
theorem lb_le {x i : Nat} (h : x ≤ 2 ^ i) : lb x ≤ i := by
  unfold lb
  by_cases k : x ≤ 1
  · rw [if_pos k]; omega
  · rw [if_neg k]
    have h1 := Nat.log2_self_le (n := x - 1) (by omega)
    have h2 : 2 ^ Nat.log2 (x - 1) < 2 ^ i := by omega
    exact (Nat.pow_lt_pow_iff_right (by decide : 1 < 2)).mp h2
theorem lb_ge (x : Nat) : x ≤ 2 ^ lb x := by
  unfold lb
  by_cases k : x ≤ 1
  · rw [if_pos k]; omega
  · rw [if_neg k]
    have := Nat.lt_log2_self (n := x - 1)
    omega
theorem lb_pow (i : Nat) : lb (2 ^ i) = i := by
  have h1 := lb_le (Nat.le_refl (2 ^ i))
  have h2 := (Nat.pow_le_pow_iff_right (by decide : 1 < 2)).mp (lb_ge (2 ^ i))
  omega
theorem lb_gp {m : Nat} (h : 2 ≤ m) : 2 ^ lb m = 2 * gp m := by
  unfold lb gp; rw [if_neg (by omega), Nat.pow_succ]; omega
def tree (n b m : Nat) : Prop := 2 ^ lb m ∣ b ∧ (m = 2 ^ lb m ∨ b + m = n)
theorem tree_root (n : Nat) : tree n 0 n := ⟨Nat.dvd_zero _, .inr (Nat.zero_add _)⟩
theorem tree_low {n b m : Nat} (h : 2 ≤ m) (t : tree n b m) : tree n b (gp m) := by
  obtain ⟨d, _⟩ := t
  rw [lb_gp h] at d
  have e : 2 ^ lb (gp m) = gp m := by unfold gp; rw [lb_pow]
  exact ⟨by rw [e]; exact Nat.dvd_trans (Nat.dvd_mul_left _ _) d, .inl e.symm⟩
theorem tree_high {n b m : Nat} (h : 2 ≤ m) (t : tree n b m) : tree n (b + gp m) (m - gp m) := by
  obtain ⟨d, k⟩ := t
  rw [lb_gp h] at d k
  have g1 := gp_lt h
  have g2 := gp_ge h
  have dg : 2 ^ lb (m - gp m) ∣ gp m := by
    have : lb (m - gp m) ≤ Nat.log2 (m - 1) := lb_le (by unfold gp at g1 g2 ⊢; omega)
    exact Nat.pow_dvd_pow 2 this
  refine ⟨Nat.dvd_add (Nat.dvd_trans dg (Nat.dvd_trans (Nat.dvd_mul_left _ _) d)) dg, ?_⟩
  rcases k with k | k
  · left
    have e : m - gp m = gp m := by omega
    rw [e]
    unfold gp; rw [lb_pow]
  · right; omega
theorem sib_len_le : ∀ (m b e : Nat), b ≤ e → e < b + m → (sib b m e).length ≤ lb m := by
  intro m
  induction m using Nat.strongRecOn with
  | ind m ih =>
    intro b e h1 h2
    by_cases hm : m ≤ 1
    · rw [sib_one hm]; exact Nat.zero_le _
    · have g1 := gp_lt (m := m) (by omega)
      have g2 := gp_ge (m := m) (by omega)
      have g3 := gp_pos m
      have e1 : lb m = Nat.log2 (m - 1) + 1 := by unfold lb; rw [if_neg hm]
      by_cases k : e < b + gp m
      · rw [sib_low (by omega) k, List.length_cons]
        have := ih (gp m) g1 b e h1 k
        have e2 : lb (gp m) = Nat.log2 (m - 1) := by unfold gp; rw [lb_pow]
        omega
      · rw [sib_high (by omega) k, List.length_cons]
        have := ih (m - gp m) (by omega) (b + gp m) e (by omega) (by omega)
        have e2 : lb (m - gp m) ≤ Nat.log2 (m - 1) := lb_le (by unfold gp at g1 g2 ⊢; omega)
        omega
end LT
namespace LT
open PySem PySem.Spec PyProof.Rows L2
def topS (i : Nat) : Stmt := PySem.Challenge.pw_logtrees_k33_great_known_nodes.main.body.getD i (.Pass ⟨0, 0, 0, 0⟩)
abbrev sIsWhole : Stmt := topS 8
theorem scIsWhole : FnScope ["value"] ["value"] (defScope sIsWhole) := ⟨rfl, rfl, rfl, by decide +kernel, rfl, by decide +kernel, by decide +kernel⟩
abbrev sIsBetween : Stmt := topS 9
theorem scIsBetween : FnScope ["value", "low", "high"] ["value", "low", "high"] (defScope sIsBetween) := ⟨rfl, rfl, rfl, by decide +kernel, rfl, by decide +kernel, by decide +kernel⟩
abbrev sIsTreeNode : Stmt := topS 10
theorem scIsTreeNode : FnScope ["size", "value", "begin", "end", "room"] ["size", "value"] (defScope sIsTreeNode) := ⟨rfl, rfl, rfl, by decide +kernel, rfl, by decide +kernel, by decide +kernel⟩
abbrev sIsListOf : Stmt := topS 11
theorem scIsListOf : FnScope ["value", "least", "most"] ["value", "least", "most"] (defScope sIsListOf) := ⟨rfl, rfl, rfl, by decide +kernel, rfl, by decide +kernel, by decide +kernel⟩
abbrev sCheckSize : Stmt := topS 12
theorem scCheckSize : FnScope ["size"] ["size"] (defScope sCheckSize) := ⟨rfl, rfl, rfl, by decide +kernel, rfl, by decide +kernel, by decide +kernel⟩
abbrev sCheckNode : Stmt := topS 13
theorem scCheckNode : FnScope ["size", "node"] ["size", "node"] (defScope sCheckNode) := ⟨rfl, rfl, rfl, by decide +kernel, rfl, by decide +kernel, by decide +kernel⟩
abbrev sCheckNodes : Stmt := topS 14
theorem scCheckNodes : FnScope ["size", "nodes", "least", "most", "item", "node"] ["size", "nodes", "least", "most"] (defScope sCheckNodes) := ⟨rfl, rfl, rfl, by decide +kernel, rfl, by decide +kernel, by decide +kernel⟩
abbrev sPowerWithin : Stmt := topS 16
theorem scPowerWithin : FnScope ["number"] ["number"] (defScope sPowerWithin) := ⟨rfl, rfl, rfl, by decide +kernel, rfl, by decide +kernel, by decide +kernel⟩
abbrev sFirstFull : Stmt := topS 17
theorem scFirstFull : FnScope ["begin", "end", "room"] ["begin", "end"] (defScope sFirstFull) := ⟨rfl, rfl, rfl, by decide +kernel, rfl, by decide +kernel, by decide +kernel⟩
abbrev sNodesWithin : Stmt := topS 18
theorem scNodesWithin : FnScope ["size", "begin", "end", "found", "node"] ["size", "begin", "end"] (defScope sNodesWithin) := ⟨rfl, rfl, rfl, by decide +kernel, rfl, by decide +kernel, by decide +kernel⟩
abbrev sNodesBeside : Stmt := topS 19
theorem scNodesBeside : FnScope ["size", "stretches", "found", "behind", "begin", "end"] ["size", "stretches"] (defScope sNodesBeside) := ⟨rfl, rfl, rfl, by decide +kernel, rfl, by decide +kernel, by decide +kernel⟩
abbrev sIsNode : Stmt := topS 20
theorem scIsNode : FnScope ["size", "value"] ["size", "value"] (defScope sIsNode) := ⟨rfl, rfl, rfl, by decide +kernel, rfl, by decide +kernel, by decide +kernel⟩
abbrev sParent : Stmt := topS 21
theorem scParent : FnScope ["size", "node", "begin", "end", "first", "last", "room"] ["size", "node"] (defScope sParent) := ⟨rfl, rfl, rfl, by decide +kernel, rfl, by decide +kernel, by decide +kernel⟩
abbrev sJoined : Stmt := topS 23
theorem scJoined : FnScope ["stretches", "found", "begin", "end", "first", "last"] ["stretches"] (defScope sJoined) := ⟨rfl, rfl, rfl, by decide +kernel, rfl, by decide +kernel, by decide +kernel⟩
abbrev sCheck : Stmt := topS 24
theorem scCheck : FnScope ["size", "nodes"] ["size", "nodes"] (defScope sCheck) := ⟨rfl, rfl, rfl, by decide +kernel, rfl, by decide +kernel, by decide +kernel⟩
abbrev sGivesRoot : Stmt := topS 25
theorem scGivesRoot : FnScope ["size", "nodes"] ["size", "nodes"] (defScope sGivesRoot) := ⟨rfl, rfl, rfl, by decide +kernel, rfl, by decide +kernel, by decide +kernel⟩
abbrev sKnownTops : Stmt := topS 26
theorem scKnownTops : FnScope ["size", "nodes", "begin", "end", "top"] ["size", "nodes"] (defScope sKnownTops) := ⟨rfl, rfl, rfl, by decide +kernel, rfl, by decide +kernel, by decide +kernel⟩
abbrev sMissing : Stmt := topS 27
theorem scMissing : FnScope ["size", "nodes"] ["size", "nodes"] (defScope sMissing) := ⟨rfl, rfl, rfl, by decide +kernel, rfl, by decide +kernel, by decide +kernel⟩
abbrev sLiesWithin : Stmt := topS 28
theorem scLiesWithin : FnScope ["node", "stretches", "begin", "end", "first", "last"] ["node", "stretches"] (defScope sLiesWithin) := ⟨rfl, rfl, rfl, by decide +kernel, rfl, by decide +kernel, by decide +kernel⟩
abbrev sNeedless : Stmt := topS 29
theorem scNeedless : FnScope ["size", "nodes", "found", "index", "node", "others"] ["size", "nodes"] (defScope sNeedless) := ⟨rfl, rfl, rfl, by decide +kernel, rfl, by decide +kernel, by decide +kernel⟩
abbrev sLawBag : Stmt := topS 31
theorem scLawBag : FnScope ["cell"] ["cell"] (defScope sLawBag) := ⟨rfl, rfl, rfl, by decide +kernel, rfl, by decide +kernel, by decide +kernel⟩
abbrev sLawPick : Stmt := topS 32
theorem scLawPick : FnScope ["bag", "many", "told", "seed", "turn", "first", "second", "drawn"] ["bag", "many"] (defScope sLawPick) := ⟨rfl, rfl, rfl, by decide +kernel, rfl, by decide +kernel, by decide +kernel⟩
abbrev sLawSize : Stmt := topS 33
theorem scLawSize : FnScope ["bag", "most", "way", "powers", "turn"] ["bag", "most"] (defScope sLawSize) := ⟨rfl, rfl, rfl, by decide +kernel, rfl, by decide +kernel, by decide +kernel⟩
abbrev sLawParted : Stmt := topS 34
theorem scLawParted : FnScope ["node", "wide"] ["node"] (defScope sLawParted) := ⟨rfl, rfl, rfl, by decide +kernel, rfl, by decide +kernel, by decide +kernel⟩
abbrev sLawWalked : Stmt := topS 35
theorem scLawWalked : FnScope ["bag", "size", "most", "node", "turn"] ["bag", "size", "most"] (defScope sLawWalked) := ⟨rfl, rfl, rfl, by decide +kernel, rfl, by decide +kernel, by decide +kernel⟩
abbrev sLawTops : Stmt := topS 36
theorem scLawTops : FnScope ["nodes", "found", "node", "over", "other"] ["nodes"] (defScope sLawTops) := ⟨rfl, rfl, rfl, by decide +kernel, rfl, by decide +kernel, by decide +kernel⟩
abbrev sLawJoins : Stmt := topS 37
theorem scLawJoins : FnScope ["size", "tops", "one", "other"] ["size", "tops"] (defScope sLawJoins) := ⟨rfl, rfl, rfl, by decide +kernel, rfl, by decide +kernel, by decide +kernel⟩
abbrev sLawMissingRight : Stmt := topS 38
theorem scLawMissingRight : FnScope ["size", "nodes", "told", "tops", "pieces", "node", "above", "spot", "one", "other", "first", "end"] ["size", "nodes", "told"] (defScope sLawMissingRight) := ⟨rfl, rfl, rfl, by decide +kernel, rfl, by decide +kernel, by decide +kernel⟩
abbrev sLawRight : Stmt := topS 39
theorem scLawRight : FnScope ["bag", "size", "nodes", "told", "tops", "first", "others", "turn"] ["bag", "size"] (defScope sLawRight) := ⟨rfl, rfl, rfl, by decide +kernel, rfl, by decide +kernel, by decide +kernel⟩
abbrev sLaw : Stmt := topS 40
theorem scLaw : FnScope ["script", "cell", "bag", "most", "side"] ["script"] (defScope sLaw) := ⟨rfl, rfl, rfl, by decide +kernel, rfl, by decide +kernel, by decide +kernel⟩
/-- a def as it stands behind the top -/
structure At (K : PySem.W.Frag) (mg : Str → Option Value) (x : Str) (f : Addr) (fd : FuncData) (ps : List Str) : Prop where
  m : mg x = some (.ref f)
  kp : PySem.W.keepIn K (.ref f) = true
  b : Binds K fd ps []
theorem units1 {k : Nat} {A : Around} (r : Room k A) : A.units + 65 < cLine := by have := r.un; omega
/-- all but b as it was -/
def But (b : Addr) (H H' : Hp) : Prop := ∀ a o, a ≠ b → H a = some o → H' a = some o
theorem But.refl (b : Addr) (H : Hp) : But b H H := fun _ _ _ h => h
theorem But.trans {b : Addr} {H H1 H2 : Hp} (x : But b H H1) (y : But b H1 H2) : But b H H2 := fun a o n h => y a o n (x a o n h)
theorem But.of {b : Addr} {H H1 : Hp} (x : Same H H1) : But b H H1 := fun a o _ h => x a o h
theorem same_upd {H : Hp} {p : Addr} {o : HO} (h : H p = none) : Same H (upd H p o) := fun b x e => by
  rw [upd_ne (ne_of_none e h)]
  exact e
def BagAt (H : Hp) (b : Addr) : Prop := ∃ x y z : Int, H b = some (.lst [.int x, .int y, .int z])
theorem BagAt.same {H H' : Hp} {b : Addr} (h : BagAt H b) (s : Same H H') : BagAt H' b := by
  obtain ⟨x, y, z, e⟩ := h
  exact ⟨x, y, z, s _ _ e⟩
/-- a pair of ints -/
def Nd (H : Hp) (v : V) (x : Nat × Nat) : Prop := ∃ p, v = .ref p ∧ H p = some (.tup [.int x.1, .int x.2])
theorem Nd.same {H H' : Hp} {v : V} {x : Nat × Nat} (h : Nd H v x) (s : Same H H') : Nd H' v x := by
  obtain ⟨p, e, q⟩ := h
  exact ⟨p, e, s _ _ q⟩
theorem Nd.dp {K : PySem.W.Frag} {H : Hp} {v : V} {x : Nat × Nat} (h : Nd H v x) : Dp K H v (.tuple [.int x.1, .int x.2]) := by
  obtain ⟨p, rfl, q⟩ := h
  exact .tup (SqT.of q) (.cons (.int _) (.cons (.int _) .nil))
theorem nd_shaped (a b : Int) : SeqAt.shaped (.tuple [.int a, .int b]) = true := by
  show (PyData.canLay0 _ && decide (PyData.depth _ ≤ 64)) = true
  simp [PyData.canLay0, PyData.canLayAll0, PyData.depth, PyData.depthAll]
theorem nd_eqv (a b c d : Int) : PyData.eqv (.tuple [.int a, .int b]) (.tuple [.int c, .int d]) = (decide (a = c) && decide (b = d)) := by
  have e : PyData.eqv (.tuple [.int a, .int b]) (.tuple [.int c, .int d]) = ((a == c) && ((b == d) && true)) := by simp only [PyData.eqv, PyData.eqvAll]
  rw [e, Bool.and_true]
  by_cases h1 : a = c <;> by_cases h2 : b = d <;> simp [h1, h2]
/-- lists of values and what they stand for -/
inductive All2 {α : Type} (R : V → α → Prop) : List V → List α → Prop
  | nil : All2 R [] []
  | cons {v : V} {x : α} {vs : List V} {xs : List α} : R v x → All2 R vs xs → All2 R (v :: vs) (x :: xs)
section
variable {α : Type} {R R' : V → α → Prop}
theorem All2.mono (f : ∀ v x, R v x → R' v x) : ∀ {vs : List V} {xs : List α}, All2 R vs xs → All2 R' vs xs
  | _, _, .nil => .nil
  | _, _, .cons h t => .cons (f _ _ h) (All2.mono f t)
theorem All2.len : ∀ {vs : List V} {xs : List α}, All2 R vs xs → vs.length = xs.length
  | _, _, .nil => rfl
  | _, _, .cons _ t => by rw [List.length_cons, List.length_cons, All2.len t]
theorem All2.app : ∀ {vs : List V} {xs : List α} {us : List V} {ys : List α}, All2 R vs xs → All2 R us ys → All2 R (vs ++ us) (xs ++ ys)
  | _, _, _, _, .nil, h => h
  | _, _, _, _, .cons h t, k => .cons h (All2.app t k)
theorem All2.rev : ∀ {vs : List V} {xs : List α}, All2 R vs xs → All2 R vs.reverse xs.reverse
  | _, _, .nil => .nil
  | _, _, .cons h t => by
    rw [List.reverse_cons, List.reverse_cons]
    exact All2.app (All2.rev t) (.cons h .nil)
theorem All2.nth : ∀ {vs : List V} {xs : List α} {i : Nat} {v : V}, All2 R vs xs → vs[i]? = some v → ∃ x, xs[i]? = some x ∧ R v x
  | _, _, _, _, .nil, h => by simp at h
  | _, _, 0, _, .cons h t, e => by
    have := Option.some.inj e
    subst this
    exact ⟨_, rfl, h⟩
  | _, _, i + 1, _, .cons h t, e => by
    rw [List.getElem?_cons_succ] at e ⊢
    exact All2.nth t e
theorem All2.nth2 : ∀ {vs : List V} {xs : List α} {i : Nat} {x : α}, All2 R vs xs → xs[i]? = some x → ∃ v, vs[i]? = some v ∧ R v x
  | _, _, _, _, .nil, h => by simp at h
  | _, _, 0, _, .cons h t, e => by
    have := Option.some.inj e
    subst this
    exact ⟨_, rfl, h⟩
  | _, _, i + 1, _, .cons h t, e => by
    rw [List.getElem?_cons_succ] at e ⊢
    exact All2.nth2 t e
end

/-! ### rules within a comprehension: what they say of the written part is said of the def's -/
section
open PySem L2
variable {X : Cx} {s : Shared} {H : Hp} {sc : Scope} {ce : Env} {fp : List Addr}
theorem pg_tupB {es : List Expr} {k : Nat} {pos : Pos} {t : TGs} {n : Nat} (hc : X.calm = true) (h : PGs (X.blk s H sc ce fp) es t)
    (hn : (assignEach es (X.blk s H sc ce fp).env).length = n := by rfl) (hst : (assignEach es (X.blk s H sc ce fp).env).findIdx? (·.1) = none := by rfl) : PG (X.blk s H sc ce fp) (.Tuple es k pos) (gTup X.K n t) := pg_tup hc h hn hst
theorem ix_listB : IxR (X.blk s H sc ce fp) (rIxL X.K) := ix_list
theorem ix_tupB : IxR (X.blk s H sc ce fp) (rIxT X.K) := ix_tup
theorem call_len_seqB : CallR (X.blk s H sc ce fp) (.builtin "len") (fun xs H Q => ∃ p ys, xs = [.ref p] ∧ (SqL X.K H p ys ∨ SqT X.K H p ys) ∧ Q (.int ys.length) H) := call_len_seq
theorem op_eqDB (hu : X.A.units + 64 < cLine) : OpR (X.blk s H sc ce fp) (compareOp .Eq) (rEqD X.K) := op_eqD (X := X.blk s H sc ce fp) hu
theorem op_neDB (hu : X.A.units + 64 < cLine) : OpR (X.blk s H sc ce fp) (compareOp .NotEq) (rNeD X.K) := op_neD (X := X.blk s H sc ce fp) hu
theorem op_inDB (hu : X.A.units + 65 < cLine) : OpR (X.blk s H sc ce fp) (compareOp .In) (rInD X.K) := op_inD (X := X.blk s H sc ce fp) hu
theorem op_notInDB (hu : X.A.units + 65 < cLine) : OpR (X.blk s H sc ce fp) (compareOp .NotIn) (rNotInD X.K) := op_notInD (X := X.blk s H sc ce fp) hu
end
theorem Nd.upd {H : Hp} {v : V} {x : Nat × Nat} {s : Addr} {xs : List V} {o : HO} (h : Nd H v x) (hs : H s = some (.lst xs)) : Nd (upd H s o) v x := by
  obtain ⟨p, e, q⟩ := h
  exact ⟨p, e, by rw [upd_ne (ne_of q hs (by intro z; cases z))]; exact q⟩
def full (x : Nat × Nat) : Nat × Nat := (x.1, x.1 + 2 ^ x.2)
theorem pk_len : ∀ (i n b : Nat), (pk i n b).length ≤ i
  | 0, _, _ => Nat.le_refl _
  | i + 1, n, b => by
    show (if n.testBit i = true then (b, i) :: pk i n (b + 2 ^ i) else pk i n b).length ≤ i + 1
    by_cases t : n.testBit i = true
    · rw [if_pos t, List.length_cons]
      exact Nat.succ_le_succ (pk_len i n _)
    · rw [if_neg t]
      exact Nat.le_succ_of_le (pk_len i n b)
theorem take_more {α : Type} : ∀ {l : List α} {i : Nat} {x : α}, l[i]? = some x → l.take (i + 1) = l.take i ++ [x]
  | [], i, x, h => by simp at h
  | a :: l, 0, x, h => by
    have e : a = x := Option.some.inj h
    subst e
    rfl
  | a :: l, i + 1, x, h => by
    have ih := take_more (l := l) (i := i) (x := x) h
    show a :: l.take (i + 1) = a :: l.take i ++ [x]
    rw [ih]
    rfl
theorem szle {n : Nat} (h : n ≤ 100000) : n ≤ sizeLine := Nat.le_trans h (by decide)
theorem szlt {n : Nat} (h : n < 100000) : n < sizeLine := Nat.lt_of_lt_of_le h (by decide)
end LT

namespace LT
open PySem PySem.Spec PyProof.Rows L2
theorem bools_dp {K : PySem.W.Frag} {H : Hp} : ∀ bs : List Bool, DpAll K H (bs.map V.bl) (bs.map PyData.bool)
  | [] => .nil
  | b :: bs => .cons (.bl b) (bools_dp bs)
theorem bools_plain : ∀ bs : List Bool, PyData.plainAll (bs.map PyData.bool) = true
  | [] => rfl
  | b :: bs => by
    show (PyData.plain (.bool b) && PyData.plainAll (bs.map PyData.bool)) = true
    rw [bools_plain bs]
    rfl
theorem bools_fits (bs : List Bool) : ∀ x ∈ bs.map PyData.bool, x.fits63 := by
  intro x hx
  obtain ⟨b, _, rfl⟩ := List.mem_map.mp hx
  exact trivial
theorem bools_any : ∀ bs : List Bool, (bs.map PyData.bool).any PyData.truthy = bs.any id
  | [] => rfl
  | b :: bs => by
    rw [List.map_cons, List.any_cons, List.any_cons, bools_any bs]
    rfl
theorem bools_all : ∀ bs : List Bool, (bs.map PyData.bool).all PyData.truthy = bs.all id
  | [] => rfl
  | b :: bs => by
    rw [List.map_cons, List.all_cons, List.all_cons, bools_all bs]
    rfl
section
variable {X : Cx}
/-- any(xs), all(xs), a list of truth values -/
def rAny (K : PySem.W.Frag) : List V → Hp → VK → Prop := fun vs H Q => ∃ (a : Addr) (bs : List Bool), vs = [V.ref a] ∧ SqL K H a (bs.map V.bl) ∧ Q (.bl (bs.any id)) H
def rAll (K : PySem.W.Frag) : List V → Hp → VK → Prop := fun vs H Q => ∃ (a : Addr) (bs : List Bool), vs = [V.ref a] ∧ SqL K H a (bs.map V.bl) ∧ Q (.bl (bs.all id)) H
theorem cr_any (hc : X.calm = true) : CallR X (.builtin "any") (rAny X.K) := by
  intro pins s σ H vs us Q I r h
  obtain ⟨a, bs, rfl, hs, q⟩ := h
  obtain ⟨its, rv, hl, _⟩ := I.list hs
  rw [Vals.ref1 r]
  obtain ⟨as, hr⟩ := Dp.readsAll I _ _ _ (bools_dp bs) rv
  refine PySem.W.any_list_data (I.ok.hd hc) hl.isList hr (bools_plain bs) (bools_fits bs) fun h' tk hk => ⟨.bl (bs.any id), H, I.kept hk, ?_, q⟩
  rw [bools_any]
  exact rfl
theorem cr_all (hc : X.calm = true) : CallR X (.builtin "all") (rAll X.K) := by
  intro pins s σ H vs us Q I r h
  obtain ⟨a, bs, rfl, hs, q⟩ := h
  obtain ⟨its, rv, hl, _⟩ := I.list hs
  rw [Vals.ref1 r]
  obtain ⟨as, hr⟩ := Dp.readsAll I _ _ _ (bools_dp bs) rv
  refine PySem.W.all_list_data (I.ok.hd hc) hl.isList hr (bools_plain bs) (bools_fits bs) fun h' tk hk => ⟨.bl (bs.all id), H, I.kept hk, ?_, q⟩
  rw [bools_all]
  exact rfl
end
end LT

namespace LT
open PySem PySem.Spec PyProof.Rows L2
section
variable {P : Program} {w : World} {K : PySem.W.Frag} {mg : Str → Option Value} {base : Heap}
def spWhole : Sp := fun vs H Q _ => ∃ i : Int, vs = [.int i] ∧ Q (.bl true) H
theorem ok_is_whole {f : Addr} {fd : FuncData} (F : Fun K "is_whole" "is_whole" sIsWhole f fd) (z_isinstance : mg "isinstance" = none) (z_int : mg "int" = none) (z_bool : mg "bool" = none) : FnOk P w K mg base CX0 1 f fd ["value"] spWhole := by
  refine F.ok scIsWhole (fun vs H Q E h => ?_) (fun cdv A outer s H vs Q E hr h => ?_)
  · obtain ⟨i, rfl, _⟩ := h
    rfl
  obtain ⟨i, rfl, q⟩ := h
  refine ⟨_, (pss_one (ps_ret (pe_and (pe_callB call_isi (by rfl) z_isinstance (by decide +kernel) (pa_cons (pv 0) (pa_cons (pe_bltn (v := .ty "int") (u := .type "int") (by rfl) z_int (by decide +kernel) rfl) pa_nil))) (pe_one (pe_not (pe_callB call_isi (by rfl) z_isinstance (by decide +kernel) (pa_cons (pv 0) (pa_cons (pe_bltn (v := .ty "bool") (u := .type "bool") (by rfl) z_bool (by decide +kernel) rfl) pa_nil)))))))), ?_⟩
  refine ⟨_, rfl, _, _, _, _, true, rfl, .ty "int", .base (.int i), kit_ty (by decide +kernel), true, rfl, ?_⟩
  refine ⟨_, rfl, _, _, _, _, false, rfl, .ty "bool", .base (.int i), kit_ty (by decide +kernel), false, rfl, ?_⟩
  exact q
def spBetween : Sp := fun vs H Q _ => ∃ v lo hi : Int, vs = [.int v, .int lo, .int hi] ∧ Q (.bl (decide (lo ≤ v) && decide (v ≤ hi))) H
theorem ok_is_between {f g : Addr} {fd gd : FuncData} (F : Fun K "is_between" "is_between" sIsBetween f fd) (GIsWhole : FnOk P w K mg base CX0 1 g gd ["value"] spWhole) (AIsWhole : At K mg "is_whole" g gd ["value"]) : FnOk P w K mg base CX0 2 f fd ["value", "low", "high"] spBetween := by
  refine F.ok scIsBetween (fun vs H Q E h => ?_) (fun cdv A outer s H vs Q E hr h => ?_)
  · obtain ⟨i, _, _, rfl, _⟩ := h
    rfl
  obtain ⟨v, lo, hi, rfl, q⟩ := h
  refine ⟨_, (pss_one (ps_ret (pe_and (pe_call GIsWhole (hr.mono (by decide)) rfl AIsWhole.m AIsWhole.kp AIsWhole.b .nil pass0 (pa_cons (pv 0) pa_nil)) (pe_one (pe_chain op_le op_le (pv 1) (pv 0) (pv 2)))))), ?_⟩
  refine ⟨_, rfl, v, rfl, true, rfl, ?_⟩
  refine ⟨_, rfl, _, rfl, _, _, rfl, rfl, _, rfl, ?_⟩
  by_cases h1 : lo ≤ v
  · rw [decide_eq_true h1] at q ⊢
    exact ⟨_, rfl, _, _, rfl, rfl, q⟩
  · rw [decide_eq_false h1] at q ⊢
    exact q
def spCheckSize : Sp := fun vs H Q _ => ∃ n : Int, vs = [.int n] ∧ 1 ≤ n ∧ n ≤ 10 ^ 30 ∧ Q .non H
theorem ok_check_size {f g : Addr} {fd gd : FuncData} {t : Tok} (F : Fun K "check_size" "check_size" sCheckSize f fd) (GIsBetween : FnOk P w K mg base CX0 2 g gd ["value", "low", "high"] spBetween) (AIsBetween : At K mg "is_between" g gd ["value", "low", "high"]) (g_MOST_ENTRIES : mg "MOST_ENTRIES" = some (.int 1000000000000000000000000000000 t)) : FnOk P w K mg base CX0 3 f fd ["size"] spCheckSize := by
  refine F.ok scCheckSize (fun vs H Q E h => ?_) (fun cdv A outer s H vs Q E hr h => ?_)
  · obtain ⟨i, rfl, _⟩ := h
    rfl
  obtain ⟨n, rfl, h1, h2, q⟩ := h
  refine ⟨_, (pss_one (ps_if (pt_not (pt_val (pe_call GIsBetween (hr.mono (by decide)) rfl AIsBetween.m AIsBetween.kp AIsBetween.b .nil pass0 (pa_cons (pv 0) (pa_cons pe_int (pa_cons (pe_glob (v := .int 1000000000000000000000000000000) rfl g_MOST_ENTRIES ⟨_, rfl⟩) pa_nil))))))
    (pss_one ps_never)
    pss_nil)), ?_⟩
  refine ⟨_, rfl, n, 1, 1000000000000000000000000000000, rfl, _, rfl, ?_⟩
  rw [decide_eq_true h1, decide_eq_true (show n ≤ 1000000000000000000000000000000 from h2)]
  exact q
end
end LT

namespace LT
open PySem PySem.Spec PyProof.Rows L2
/-- values of the plain kinds, with their types -/
inductive Pl (K : PySem.W.Frag) (H : Hp) : V → String → Prop
  | non : Pl K H .non "NoneType"
  | bl (b : Bool) : Pl K H (.bl b) "bool"
  | int (i : Int) : Pl K H (.int i) "int"
  | str (s : Str) : Pl K H (.str s) "str"
  | lst {a : Addr} {xs : List V} : H a = some (.lst xs) → Pl K H (.ref a) "list"
  | tup {a : Addr} {xs : List V} : H a = some (.tup xs) → Pl K H (.ref a) "tuple"
  | dict {a : Addr} {kvs : List (Key × V)} : H a = some (.dK kvs) → Pl K H (.ref a) "dict"
theorem Pl.ty {K : PySem.W.Frag} {H : Hp} {v : V} {t : String} (h : Pl K H v t) : TyX K H v (.type t) := by
  cases h with
  | non => exact .base .non
  | bl b => exact .base (.bl b)
  | int i => exact .base (.int i)
  | str s => exact .base (.str s)
  | lst e => exact .base (.lst e)
  | tup e => exact .base (.tup e)
  | dict e => exact .base (.dK e)
def isInt : V → Bool
  | .int _ => true
  | _ => false
def inRange (lo hi : Int) : V → Bool
  | .int i => decide (lo ≤ i) && decide (i ≤ hi)
  | _ => false
section
variable {P : Program} {w : World} {K : PySem.W.Frag} {mg : Str → Option Value} {base : Heap}
def spWholeV (K : PySem.W.Frag) : Sp := fun vs H Q _ => ∃ (v : V) (t : String), vs = [v] ∧ Pl K H v t ∧ Q (.bl (isInt v)) H
theorem ok_is_wholeV {f : Addr} {fd : FuncData} (F : Fun K "is_whole" "is_whole" sIsWhole f fd) (z_isinstance : mg "isinstance" = none) (z_int : mg "int" = none) (z_bool : mg "bool" = none) : FnOk P w K mg base CX0 1 f fd ["value"] (spWholeV K) := by
  refine F.ok scIsWhole (fun vs H Q E h => ?_) (fun cdv A outer s H vs Q E hr h => ?_)
  · obtain ⟨_, _, rfl, _⟩ := h
    rfl
  obtain ⟨v, t, rfl, hv, q⟩ := h
  refine ⟨_, (pss_one (ps_ret (pe_and (pe_callB call_isi (by rfl) z_isinstance (by decide +kernel) (pa_cons (pv 0) (pa_cons (pe_bltn (v := .ty "int") (u := .type "int") (by rfl) z_int (by decide +kernel) rfl) pa_nil))) (pe_one (pe_not (pe_callB call_isi (by rfl) z_isinstance (by decide +kernel) (pa_cons (pv 0) (pa_cons (pe_bltn (v := .ty "bool") (u := .type "bool") (by rfl) z_bool (by decide +kernel) rfl) pa_nil)))))))), ?_⟩
  cases hv with
  | non => exact ⟨_, rfl, _, _, _, _, false, rfl, .ty "int", (Pl.non (K := K) (H := H)).ty, kit_ty (by decide +kernel), false, rfl, q⟩
  | bl b => exact ⟨_, rfl, _, _, _, _, true, rfl, .ty "int", (Pl.bl (K := K) (H := H) b).ty, kit_ty (by decide +kernel), true, rfl, _, rfl, _, _, _, _, true, rfl, .ty "bool", (Pl.bl (K := K) (H := H) b).ty, kit_ty (by decide +kernel), true, rfl, q⟩
  | int i => exact ⟨_, rfl, _, _, _, _, true, rfl, .ty "int", (Pl.int (K := K) (H := H) i).ty, kit_ty (by decide +kernel), true, rfl, _, rfl, _, _, _, _, false, rfl, .ty "bool", (Pl.int (K := K) (H := H) i).ty, kit_ty (by decide +kernel), false, rfl, q⟩
  | str s => exact ⟨_, rfl, _, _, _, _, false, rfl, .ty "int", (Pl.str (K := K) (H := H) s).ty, kit_ty (by decide +kernel), false, rfl, q⟩
  | lst e => exact ⟨_, rfl, _, _, _, _, false, rfl, .ty "int", (Pl.lst (K := K) e).ty, kit_ty (by decide +kernel), false, rfl, q⟩
  | tup e => exact ⟨_, rfl, _, _, _, _, false, rfl, .ty "int", (Pl.tup (K := K) e).ty, kit_ty (by decide +kernel), false, rfl, q⟩
  | dict e => exact ⟨_, rfl, _, _, _, _, false, rfl, .ty "int", (Pl.dict (K := K) e).ty, kit_ty (by decide +kernel), false, rfl, q⟩
def spBetweenV (K : PySem.W.Frag) : Sp := fun vs H Q _ => ∃ (v : V) (t : String) (lo hi : Int), vs = [v, .int lo, .int hi] ∧ Pl K H v t ∧ Q (.bl (inRange lo hi v)) H
theorem ok_is_betweenV {f g : Addr} {fd gd : FuncData} (F : Fun K "is_between" "is_between" sIsBetween f fd) (GIsWhole : FnOk P w K mg base CX0 1 g gd ["value"] (spWholeV K)) (AIsWhole : At K mg "is_whole" g gd ["value"]) : FnOk P w K mg base CX0 2 f fd ["value", "low", "high"] (spBetweenV K) := by
  refine F.ok scIsBetween (fun vs H Q E h => ?_) (fun cdv A outer s H vs Q E hr h => ?_)
  · obtain ⟨_, _, _, _, rfl, _⟩ := h
    rfl
  obtain ⟨v, t, lo, hi, rfl, hv, q⟩ := h
  refine ⟨_, (pss_one (ps_ret (pe_and (pe_call GIsWhole (hr.mono (by decide)) rfl AIsWhole.m AIsWhole.kp AIsWhole.b .nil pass0 (pa_cons (pv 0) pa_nil)) (pe_one (pe_chain op_le op_le (pv 1) (pv 0) (pv 2)))))), ?_⟩
  refine ⟨_, rfl, v, t, rfl, hv, isInt v, rfl, ?_⟩
  cases v with
  | int i =>
    have q' : Q (.bl (decide (lo ≤ i) && decide (i ≤ hi))) H := q
    refine ⟨_, rfl, _, rfl, _, _, rfl, rfl, _, rfl, ?_⟩
    by_cases h1 : lo ≤ i
    · rw [decide_eq_true h1] at q' ⊢
      exact ⟨_, rfl, _, _, rfl, rfl, q'⟩
    · rw [decide_eq_false h1] at q' ⊢
      exact q'
  | non => exact q
  | bl _ => exact q
  | str _ => exact q
  | byt _ => exact q
  | flt _ => exact q
  | ref _ => exact q
  | ty _ => exact q
theorem whole_of {k : Nat} {f : Addr} {fd : FuncData} (F : FnOk P w K mg base CX0 k f fd ["value"] (spWholeV K)) : FnOk P w K mg base CX0 k f fd ["value"] spWhole :=
  F.imp fun vs H Q E h => by
    obtain ⟨i, rfl, q⟩ := h
    exact ⟨_, _, rfl, .int i, q⟩
theorem between_of {k : Nat} {f : Addr} {fd : FuncData} (F : FnOk P w K mg base CX0 k f fd ["value", "low", "high"] (spBetweenV K)) : FnOk P w K mg base CX0 k f fd ["value", "low", "high"] spBetween :=
  F.imp fun vs H Q E h => by
    obtain ⟨v, lo, hi, rfl, q⟩ := h
    exact ⟨_, _, _, _, rfl, .int v, q⟩
end
end LT

namespace LT
open PySem PySem.Spec PyProof.Rows L2
theorem bits_nat (k : Nat) : Builtin.Int.intBits (k : Int) = if k = 0 then 0 else k.log2 + 1 := by
  unfold Builtin.Int.intBits
  by_cases h : k = 0
  · subst h; rfl
  · rw [if_neg h, if_neg (by simpa using h)]
    rfl
theorem bits_lb {m : Nat} (h : 1 ≤ m) : Builtin.Int.intBits ((m - 1 : Nat) : Int) = lb m := by
  rw [bits_nat]
  unfold lb
  by_cases k : m ≤ 1
  · rw [if_pos k, if_pos (by omega)]
  · rw [if_neg k, if_neg (by omega)]
theorem lb100 {m : Nat} (h : m ≤ 10 ^ 30) : lb m ≤ 100 := lb_le (Nat.le_trans h (by decide))
theorem fmod_of_dvd {a b : Nat} (h : a ∣ b) : Int.fmod (b : Int) (a : Int) = 0 := by
  rw [Int.fmod_eq_emod_of_nonneg _ (Int.natCast_nonneg _)]
  exact Int.emod_eq_zero_of_dvd (Int.natCast_dvd_natCast.mpr h)
end LT

namespace LT
open PySem PySem.Spec PyProof.Rows L2
section
variable {P : Program} {w : World} {K : PySem.W.Frag} {mg : Str → Option Value} {base : Heap}
def spTree : Sp := fun vs H Q _ => ∃ (n b m : Nat) (v : V), vs = [.int n, v] ∧ Nd H v (b, b + m) ∧ 1 ≤ m ∧ b + m ≤ n ∧ n ≤ 10 ^ 30 ∧ tree n b m ∧ Q (.bl true) H
theorem ok_is_tree_node {f g : Addr} {fd gd : FuncData} (F : Fun K "is_tree_node" "is_tree_node" sIsTreeNode f fd) (GIsBetween : FnOk P w K mg base CX0 2 g gd ["value", "low", "high"] spBetween) (AIsBetween : At K mg "is_between" g gd ["value", "low", "high"])
    (z_isinstance : mg "isinstance" = none) (z_tuple : mg "tuple" = none) (z_len : mg "len" = none) : FnOk P w K mg base CX0 3 f fd ["size", "value"] spTree := by
  refine F.ok scIsTreeNode (fun vs H Q E h => ?_) (fun cdv A outer s H vs Q E hr h => ?_)
  · obtain ⟨_, _, _, _, rfl, _⟩ := h
    rfl
  obtain ⟨n, b, m, v, rfl, ⟨p, rfl, hp⟩, hm, hn, h30, ht, q⟩ := h
  refine ⟨_, (pss_cons (ps_if (PW.pt (pw_or (pt_not (pt_val (pe_callB call_isi (by rfl) z_isinstance (by decide +kernel) (pa_cons (pv 1) (pa_cons (pe_bltn (v := .ty "tuple") (u := .type "tuple") (by rfl) z_tuple (by decide +kernel) rfl) pa_nil))))) (pw_or1 (pt_cmpR op_ne (pe_callB call_len_seq (by rfl) z_len PySem.boot_len (pa_cons (pv 1) pa_nil)) pe_int (nomark _)))))
    (pss_one (ps_ret pe_bl))
    pss_nil)
    (pss_cons (ps_asg (pv 1) (pg_tup (by rfl) (pgs_cons (pg_name (i := 2) scIsTreeNode.nd rfl (Or.inl rfl)) (pgs_cons (pg_name (i := 3) scIsTreeNode.nd rfl (Or.inl rfl)) pgs_nil))))
    (pss_cons (ps_if (PW.pt (pw_or (pt_not (pt_val (pe_call GIsBetween (hr.mono (by decide)) rfl AIsBetween.m AIsBetween.kp AIsBetween.b .nil pass0 (pa_cons (pv 2) (pa_cons pe_int (pa_cons (pe_op op_sub (pv 0) pe_int) pa_nil)))))) (pw_or1 (pt_not (pt_val (pe_call GIsBetween (hr.mono (by decide)) rfl AIsBetween.m AIsBetween.kp AIsBetween.b .nil pass0 (pa_cons (pv 3) (pa_cons (pe_op op_add (pv 2) pe_int) (pa_cons (pv 0) pa_nil)))))))))
    (pss_one (ps_ret pe_bl))
    pss_nil)
    (pss_cons (ps_set (i := 4) scIsTreeNode.nd rfl (Or.inl rfl) (pe_op op_shl pe_int (pe_bits (pe_op op_sub (pe_op op_sub (pv 3) (pv 2)) pe_int))))
    (pss_one (ps_ret (pe_and (pe_cmpR op_eq (pe_op op_modN (pv 2) (pv 4)) pe_int (nomark _)) (pe_one (pe_or (pe_cmpR op_eq (pe_op op_sub (pv 3) (pv 2)) (pv 4) (nomark _)) (pe_one (pe_cmpR op_eq (pv 3) (pv 0) (nomark _)))))))))))), ?_⟩
  refine ⟨_, rfl, _, _, _, _, true, rfl, .ty "tuple", .base (.tup hp), kit_ty (by decide +kernel), true, rfl, ?_⟩
  refine ⟨_, rfl, p, _, rfl, .inr (SqT.of hp), rfl, false, rfl, ?_⟩
  refine ⟨_, rfl, p, _, rfl, SqT.of hp, rfl, _, _, rfl, _, _, rfl, rfl, ?_⟩
  refine ⟨_, rfl, _, rfl, _, _, rfl, rfl, _, _, _, rfl, true, ?_, ?_⟩
  · exact congrArg V.bl (by rw [Bool.and_eq_true]; exact ⟨decide_eq_true (by omega), decide_eq_true (by show (b : Int) ≤ n - 1; omega)⟩)
  refine ⟨_, rfl, _, rfl, _, _, rfl, rfl, _, rfl, _, _, _, rfl, true, ?_, ?_⟩
  · exact congrArg V.bl (by rw [Bool.and_eq_true]; exact ⟨decide_eq_true (by show (b : Int) + 1 ≤ ((b + m : Nat) : Int); omega), decide_eq_true (by show ((b + m : Nat) : Int) ≤ n; omega)⟩)
  have e1 : ((b + m : Nat) : Int) - (b : Int) - 1 = ((m - 1 : Nat) : Int) := by omega
  refine ⟨_, rfl, _, rfl, _, _, rfl, rfl, _, _, rfl, rfl, _, rfl, ?_⟩
  dsimp only
  rw [e1, bits_lb hm]
  have l100 := lb100 (show m ≤ 10 ^ 30 by omega)
  refine ⟨_, _, rfl, rfl, ⟨Int.natCast_nonneg _, by omega, by decide⟩, ?_⟩
  have e2 : (1 : Int) * 2 ^ ((lb m : Nat) : Int).toNat = ((2 ^ lb m : Nat) : Int) := by rw [Int.one_mul, Int.toNat_natCast]; exact (Int.natCast_pow 2 (lb m)).symm
  dsimp only
  rw [e2]
  obtain ⟨d, k⟩ := ht
  have pz : 0 < 2 ^ lb m := Nat.pow_pos (by decide)
  generalize 2 ^ lb m = R at d k pz
  refine ⟨_, rfl, _, rfl, _, _, rfl, rfl, by omega, rfl, true, ?_, ?_⟩
  · show V.bl (decide (V.int (Int.fmod (b : Int) (R : Int)) = V.int 0)) = V.bl true
    rw [fmod_of_dvd d, decide_eq_true rfl]
  refine ⟨_, rfl, _, rfl, _, _, rfl, rfl, _, rfl, rfl, _, rfl, ite2 (fun c => q) (fun c => ?_)⟩
  have c1 : ¬ V.int (((b + m : Nat) : Int) - (b : Int)) = V.int (R : Int) := of_decide_eq_false (Bool.eq_false_iff.mpr c)
  refine ⟨_, rfl, _, rfl, rfl, ?_⟩
  have e4 : b + m = n := by
    rcases k with k | k
    · exact absurd (congrArg V.int (by omega)) c1
    · exact k
  show Q (V.bl (decide (V.int ((b + m : Nat) : Int) = V.int (n : Int)))) H
  rw [decide_eq_true (by rw [e4])]
  exact q
def spCheckNode : Sp := fun vs H Q _ => ∃ (n b m : Nat) (v : V), vs = [.int n, v] ∧ Nd H v (b, b + m) ∧ 1 ≤ m ∧ b + m ≤ n ∧ n ≤ 10 ^ 30 ∧ tree n b m ∧ Q .non H
theorem ok_check_node {f g : Addr} {fd gd : FuncData} (F : Fun K "check_node" "check_node" sCheckNode f fd) (GIsTreeNode : FnOk P w K mg base CX0 3 g gd ["size", "value"] spTree) (AIsTreeNode : At K mg "is_tree_node" g gd ["size", "value"]) : FnOk P w K mg base CX0 4 f fd ["size", "node"] spCheckNode := by
  refine F.ok scCheckNode (fun vs H Q E h => ?_) (fun cdv A outer s H vs Q E hr h => ?_)
  · obtain ⟨_, _, _, _, rfl, _⟩ := h
    rfl
  obtain ⟨n, b, m, v, rfl, hv, hm, hn, h30, ht, q⟩ := h
  refine ⟨_, (pss_one (ps_if (pt_not (pt_val (pe_call GIsTreeNode (hr.mono (by decide)) rfl AIsTreeNode.m AIsTreeNode.kp AIsTreeNode.b .nil pass0 (pa_cons (pv 0) (pa_cons (pv 1) pa_nil)))))
    (pss_one ps_never)
    pss_nil)), ?_⟩
  refine ⟨_, rfl, _, rfl, n, b, m, v, rfl, hv, hm, hn, h30, ht, true, rfl, q⟩
end
end LT

namespace LT
open PySem PySem.Spec PyProof.Rows L2
section
variable {P : Program} {w : World} {K : PySem.W.Frag} {mg : Str → Option Value} {base : Heap}
def spPower : Sp := fun vs H Q _ => ∃ (k : Nat), vs = [.int k] ∧ 1 ≤ k ∧ k ≤ 10 ^ 30 ∧ Q (.int ((2 ^ k.log2 : Nat) : Int)) H
theorem ok_power_within {f : Addr} {fd : FuncData} (F : Fun K "power_within" "power_within" sPowerWithin f fd) : FnOk P w K mg base CX0 1 f fd ["number"] spPower := by
  refine F.ok scPowerWithin (fun vs H Q E h => ?_) (fun cdv A outer s H vs Q E hr h => ?_)
  · obtain ⟨_, rfl, _⟩ := h
    rfl
  obtain ⟨k, rfl, h1, h30, q⟩ := h
  refine ⟨_, (pss_one (ps_ret (pe_op op_shl pe_int (pe_op op_sub (pe_bits (pv 0)) pe_int)))), ?_⟩
  refine ⟨_, rfl, _, rfl, _, _, rfl, rfl, ?_⟩
  dsimp only
  have e : ((Builtin.Int.intBits (k : Int) : Nat) : Int) - 1 = ((k.log2 : Nat) : Int) := by
    rw [bits_nat, if_neg (by omega)]
    omega
  rw [e]
  have l100 : k.log2 < 100 := (Nat.log2_lt (by omega)).mpr (Nat.lt_of_le_of_lt h30 (by decide))
  refine ⟨_, _, rfl, rfl, ⟨Int.natCast_nonneg _, by omega, by decide⟩, ?_⟩
  have e2 : (1 : Int) * 2 ^ ((k.log2 : Nat) : Int).toNat = ((2 ^ k.log2 : Nat) : Int) := by rw [Int.one_mul, Int.toNat_natCast]; exact (Int.natCast_pow 2 _).symm
  show Q (.int ((1 : Int) * 2 ^ ((k.log2 : Nat) : Int).toNat)) H
  rw [e2]
  exact q
end
end LT

namespace LT
/-- the nodes from (b, b + m) down, as the law lists them -/
def nodesF : Nat → Nat → Nat → List (Nat × Nat)
  | 0, _, _ => []
  | i + 1, b, m => if m ≤ 1 then [(b, b + m)] else (b, b + m) :: (nodesF i b (gp m) ++ nodesF i (b + gp m) (m - gp m))
theorem nodesF_one {i b m : Nat} (h : m ≤ 1) : nodesF (i + 1) b m = [(b, b + m)] := if_pos h
theorem nodesF_two {i b m : Nat} (h : ¬ m ≤ 1) : nodesF (i + 1) b m = (b, b + m) :: (nodesF i b (gp m) ++ nodesF i (b + gp m) (m - gp m)) := if_neg h
theorem gp_half {i m : Nat} (h : 2 ≤ m) (k : 2 * m ≤ 2 ^ (i + 1)) : 2 * gp m ≤ 2 ^ i ∧ 2 * (m - gp m) ≤ 2 ^ i := by
  have g1 := gp_lt h
  have g2 := gp_ge h
  have p := Nat.pow_succ (n := 2) (m := i)
  have : gp m < 2 ^ i := by omega
  unfold gp at this ⊢
  have e := (Nat.pow_lt_pow_iff_right (by decide : 1 < 2)).mp this
  have e2 : 2 ^ ((m - 1).log2 + 1) ≤ 2 ^ i := Nat.pow_le_pow_right (by decide) (by omega)
  rw [Nat.pow_succ] at e2
  unfold gp at g1 g2
  omega
theorem nodesF_len : ∀ (i b m : Nat), 1 ≤ m → 2 * m ≤ 2 ^ i → (nodesF i b m).length = 2 * m - 1
  | 0, b, m, h1, h2 => by simp at h2; omega
  | i + 1, b, m, h1, h2 => by
    by_cases c : m ≤ 1
    · rw [nodesF_one c]
      simp
      omega
    · rw [nodesF_two c, List.length_cons, List.length_append]
      have g1 := gp_lt (m := m) (by omega)
      have g3 := gp_pos m
      obtain ⟨k1, k2⟩ := gp_half (by omega) h2
      rw [nodesF_len i b (gp m) g3 k1, nodesF_len i (b + gp m) (m - gp m) (by omega) k2]
      omega
/-- a node of tree(n) -/
def isN (n : Nat) (x : Nat × Nat) : Prop := x.1 < x.2 ∧ x.2 ≤ n ∧ tree n x.1 (x.2 - x.1)
theorem mul_le_of_lt {R a b : Nat} (h1 : R ∣ a) (h2 : R ∣ b) (h : a < b) : a + R ≤ b := by
  obtain ⟨x, rfl⟩ := h1
  obtain ⟨y, rfl⟩ := h2
  have : x < y := Nat.lt_of_mul_lt_mul_left h
  calc R * x + R = R * (x + 1) := by rw [Nat.mul_succ]
    _ ≤ R * y := Nat.mul_le_mul_left R this
/-- a node within another one is it, or lies within one of its halves -/
theorem node_in {n b m : Nat} (h : 2 ≤ m) (t : tree n b m) (hn : b + m ≤ n) {x : Nat × Nat} (hx : isN n x) (h1 : b ≤ x.1) (h2 : x.2 ≤ b + m) : x = (b, b + m) ∨ x.2 ≤ b + gp m ∨ b + gp m ≤ x.1 := by
  obtain ⟨x1, x2⟩ := x
  obtain ⟨k1, k2, d, k3⟩ := hx
  simp only at k1 k2 d k3 h1 h2
  by_cases c1 : x2 ≤ b + gp m
  · exact .inr (.inl c1)
  by_cases c2 : b + gp m ≤ x1
  · exact .inr (.inr c2)
  left
  obtain ⟨td, tk⟩ := t
  have e := lb_gp h
  rw [e] at td tk
  have g1 := gp_lt h
  have g2 := gp_ge h
  have gR : gp m = 2 ^ Nat.log2 (m - 1) := rfl
  generalize hr : lb (x2 - x1) = r at d k3
  have ge := lb_ge (x2 - x1)
  rw [hr] at ge
  by_cases c : r ≤ Nat.log2 (m - 1)
  · -- small: a multiple of 2 ^ r below b + gp m ends there at most
    have dg : 2 ^ r ∣ gp m := by rw [gR]; exact Nat.pow_dvd_pow 2 c
    have db : 2 ^ r ∣ b := Nat.dvd_trans dg (Nat.dvd_trans (Nat.dvd_mul_left _ _) td)
    have := mul_le_of_lt d (Nat.dvd_add db dg) (by omega : x1 < b + gp m)
    omega
  · have dd : 2 * gp m ∣ 2 ^ r := by
      rw [gR, Nat.mul_comm, ← Nat.pow_succ]
      exact Nat.pow_dvd_pow 2 (by omega)
    have dx := Nat.dvd_trans dd d
    have ex : x1 = b := by
      by_cases z : b < x1
      · have := mul_le_of_lt td dx z
        omega
      · omega
    subst ex
    have le : 2 * gp m ≤ 2 ^ r := Nat.le_of_dvd (Nat.pow_pos (by decide)) dd
    have rl : r ≤ Nat.log2 (m - 1) + 1 := by
      rw [← hr]
      refine lb_le ?_
      rw [Nat.pow_succ, ← gR]
      omega
    have e2 : 2 ^ r ≤ 2 * gp m := by
      rw [gR, Nat.mul_comm, ← Nat.pow_succ]
      exact Nat.pow_le_pow_right (by decide) rl
    have : x2 = x1 + m := by
      rcases k3 with k3 | k3 <;> omega
    rw [this]
theorem mem_nodesF (n : Nat) (x : Nat × Nat) : ∀ (i b m : Nat), 1 ≤ m → 2 * m ≤ 2 ^ i → tree n b m → b + m ≤ n → (x ∈ nodesF i b m ↔ isN n x ∧ b ≤ x.1 ∧ x.2 ≤ b + m)
  | 0, b, m, h1, h2, _, _ => by simp at h2; omega
  | i + 1, b, m, h1, h2, t, hn => by
    by_cases c : m ≤ 1
    · have em : m = 1 := by omega
      subst em
      rw [nodesF_one (by omega), List.mem_singleton]
      constructor
      · rintro rfl
        exact ⟨⟨by simp, by simpa using hn, by simpa using t⟩, by simp, by simp⟩
      · rintro ⟨⟨k1, _⟩, k2, k3⟩
        have : x.1 = b ∧ x.2 = b + 1 := by omega
        exact Prod.ext this.1 this.2
    · rw [nodesF_two c, List.mem_cons, List.mem_append]
      have g1 := gp_lt (m := m) (by omega)
      have g3 := gp_pos m
      obtain ⟨k1, k2⟩ := gp_half (by omega) h2
      have e : b + gp m + (m - gp m) = b + m := by omega
      have il := mem_nodesF n x i b (gp m) g3 k1 (tree_low (by omega) t) (by omega)
      have ih := mem_nodesF n x i (b + gp m) (m - gp m) (by omega) k2 (tree_high (by omega) t) (by omega)
      rw [il, ih, e]
      constructor
      · rintro (rfl | ⟨p, q, r⟩ | ⟨p, q, r⟩)
        · exact ⟨⟨by simp; omega, by simpa using hn, by simpa using t⟩, by simp, by simp⟩
        · exact ⟨p, q, by omega⟩
        · exact ⟨p, by omega, r⟩
      · rintro ⟨p, q, r⟩
        rcases node_in (by omega) t hn p q r with z | z | z
        · exact .inl z
        · exact .inr (.inl ⟨p, q, z⟩)
        · exact .inr (.inr ⟨p, z, r⟩)
instance (n : Nat) (x : Nat × Nat) : Decidable (tree n x.1 (x.2 - x.1)) := by unfold tree; infer_instance
instance (n : Nat) (x : Nat × Nat) : Decidable (isN n x) := by unfold isN; infer_instance
end LT

namespace LT
open PySem PySem.Spec PyProof.Rows L2
def tnV (n : Nat) : V → V → Bool
  | .int b, .int e => decide (0 ≤ b ∧ isN n (b.toNat, e.toNat))
  | _, _ => false
theorem tn_out {n : Nat} {b e : Int} (h : ¬ (0 ≤ b ∧ b < e ∧ e ≤ n)) : tnV n (.int b) (.int e) = false := by
  refine decide_eq_false (fun ⟨h0, k⟩ => h ⟨h0, ?_, ?_⟩)
  · have := k.1
    simp only at this
    omega
  · have := k.1
    have := k.2.1
    simp only at *
    omega
/-- what may be asked whether it is a node -/
inductive Ask (K : PySem.W.Frag) (H : Hp) (n : Nat) : V → Bool → Prop
  | kind {v : V} {t : String} : Pl K H v t → t ≠ "tuple" → Ask K H n v false
  | long {p : Addr} {xs : List V} : H p = some (.tup xs) → xs.length ≠ 2 → xs.length ≤ 1000 → Ask K H n (.ref p) false
  | pair {p : Addr} {v1 v2 : V} {t1 t2 : String} : H p = some (.tup [v1, v2]) → Pl K H v1 t1 → Pl K H v2 t2 → Ask K H n (.ref p) (tnV n v1 v2)
theorem kit_tup {t : String} {K : PySem.W.Frag} {H : Hp} {v : V} (h : Pl K H v t) (hn : t ≠ "tuple") : PySem.W.kitOne K (.type t) (.type "tuple") = some false := by
  cases h with
  | non => exact kit_ty (by decide +kernel)
  | bl _ => exact kit_ty (by decide +kernel)
  | int _ => exact kit_ty (by decide +kernel)
  | str _ => exact kit_ty (by decide +kernel)
  | lst _ => exact kit_ty (by decide +kernel)
  | tup _ => exact absurd rfl hn
  | dict _ => exact kit_ty (by decide +kernel)
section
variable {P : Program} {w : World} {K : PySem.W.Frag} {mg : Str → Option Value} {base : Heap}
def spTreeV (K : PySem.W.Frag) : Sp := fun vs H Q _ => ∃ (n : Nat) (v : V) (r : Bool), vs = [.int n, v] ∧ 1 ≤ n ∧ n ≤ 2 ^ 100 ∧ Ask K H n v r ∧ Q (.bl r) H
theorem ok_is_tree_nodeV {f g : Addr} {fd gd : FuncData} (F : Fun K "is_tree_node" "is_tree_node" sIsTreeNode f fd) (GIsBetween : FnOk P w K mg base CX0 2 g gd ["value", "low", "high"] (spBetweenV K)) (AIsBetween : At K mg "is_between" g gd ["value", "low", "high"])
    (z_isinstance : mg "isinstance" = none) (z_tuple : mg "tuple" = none) (z_len : mg "len" = none) : FnOk P w K mg base CX0 3 f fd ["size", "value"] (spTreeV K) := by
  refine F.ok scIsTreeNode (fun vs H Q E h => ?_) (fun cdv A outer s H vs Q E hr h => ?_)
  · obtain ⟨_, _, _, rfl, _⟩ := h
    rfl
  obtain ⟨n, v, r, rfl, n1, h30, ask, q⟩ := h
  refine ⟨_, (pss_cons (ps_if (PW.pt (pw_or (pt_not (pt_val (pe_callB call_isi (by rfl) z_isinstance (by decide +kernel) (pa_cons (pv 1) (pa_cons (pe_bltn (v := .ty "tuple") (u := .type "tuple") (by rfl) z_tuple (by decide +kernel) rfl) pa_nil))))) (pw_or1 (pt_cmpR op_ne (pe_callB call_len_seq (by rfl) z_len PySem.boot_len (pa_cons (pv 1) pa_nil)) pe_int (nomark _)))))
    (pss_one (ps_ret pe_bl))
    pss_nil)
    (pss_cons (ps_asg (pv 1) (pg_tup (by rfl) (pgs_cons (pg_name (i := 2) scIsTreeNode.nd rfl (Or.inl rfl)) (pgs_cons (pg_name (i := 3) scIsTreeNode.nd rfl (Or.inl rfl)) pgs_nil))))
    (pss_cons (ps_if (PW.pt (pw_or (pt_not (pt_val (pe_call GIsBetween (hr.mono (by decide)) rfl AIsBetween.m AIsBetween.kp AIsBetween.b .nil pass0 (pa_cons (pv 2) (pa_cons pe_int (pa_cons (pe_op op_sub (pv 0) pe_int) pa_nil)))))) (pw_or1 (pt_not (pt_val (pe_call GIsBetween (hr.mono (by decide)) rfl AIsBetween.m AIsBetween.kp AIsBetween.b .nil pass0 (pa_cons (pv 3) (pa_cons (pe_op op_add (pv 2) pe_int) (pa_cons (pv 0) pa_nil)))))))))
    (pss_one (ps_ret pe_bl))
    pss_nil)
    (pss_cons (ps_set (i := 4) scIsTreeNode.nd rfl (Or.inl rfl) (pe_op op_shl pe_int (pe_bits (pe_op op_sub (pe_op op_sub (pv 3) (pv 2)) pe_int))))
    (pss_one (ps_ret (pe_and (pe_cmpR op_eq (pe_op op_modN (pv 2) (pv 4)) pe_int (nomark _)) (pe_one (pe_or (pe_cmpR op_eq (pe_op op_sub (pv 3) (pv 2)) (pv 4) (nomark _)) (pe_one (pe_cmpR op_eq (pv 3) (pv 0) (nomark _)))))))))))), ?_⟩
  cases ask with
  | @kind _ t hv ht => exact ⟨_, rfl, _, _, _, _, false, rfl, .ty "tuple", hv.ty, kit_tup hv ht, false, rfl, q⟩
  | @long p xs hp hl h1000 =>
    refine ⟨_, rfl, _, _, _, _, true, rfl, .ty "tuple", .base (.tup hp), kit_ty (by decide +kernel), true, rfl, ?_⟩
    refine ⟨_, rfl, p, _, rfl, .inr (SqT.of hp), rfl, true, ?_, q⟩
    refine congrArg V.bl ?_
    rw [Bool.not_eq_true']
    exact decide_eq_false (fun z => hl (by have := V.int.inj z; omega))
  | @pair p v1 v2 ty1 ty2 hp p1 p2 =>
    refine ⟨_, rfl, _, _, _, _, true, rfl, .ty "tuple", .base (.tup hp), kit_ty (by decide +kernel), true, rfl, ?_⟩
    refine ⟨_, rfl, p, _, rfl, .inr (SqT.of hp), rfl, false, rfl, ?_⟩
    refine ⟨_, rfl, p, _, rfl, SqT.of hp, rfl, _, _, rfl, _, _, rfl, rfl, ?_⟩
    refine ⟨_, rfl, _, rfl, _, _, rfl, rfl, v1, ty1, _, _, rfl, p1, inRange 0 ((n : Int) - 1) v1, rfl, ?_⟩
    cases h1 : inRange 0 ((n : Int) - 1) v1 with
    | false =>
      have e : tnV n v1 v2 = false := by
        cases v1 with
        | int b =>
          cases v2 with
          | int e =>
            refine tn_out (fun k => ?_)
            have h1' : (decide (0 ≤ b) && decide (b ≤ (n : Int) - 1)) = false := h1
            rw [decide_eq_true k.1, decide_eq_true (show b ≤ (n : Int) - 1 by omega)] at h1'
            exact absurd h1' (by decide)
          | _ => rfl
        | _ => rfl
      rw [e] at q
      exact q
    | true =>
      cases p1 with
      | int b =>
        have h1' : (decide (0 ≤ b) && decide (b ≤ (n : Int) - 1)) = true := h1
        rw [Bool.and_eq_true] at h1'
        have b0 := of_decide_eq_true h1'.1
        have b1 := of_decide_eq_true h1'.2
        refine ⟨_, rfl, _, rfl, _, _, rfl, rfl, _, rfl, v2, ty2, _, _, rfl, p2, inRange (b + 1) (n : Int) v2, rfl, ?_⟩
        cases h2 : inRange (b + 1) (n : Int) v2 with
        | false =>
          have e : tnV n (.int b) v2 = false := by
            cases v2 with
            | int e =>
              refine tn_out (fun k => ?_)
              have h2' : (decide (b + 1 ≤ e) && decide (e ≤ (n : Int))) = false := h2
              rw [decide_eq_true (show b + 1 ≤ e by omega), decide_eq_true k.2.2] at h2'
              exact absurd h2' (by decide)
            | _ => rfl
          rw [e] at q
          exact q
        | true =>
          cases p2 with
          | int e =>
            have h2' : (decide (b + 1 ≤ e) && decide (e ≤ (n : Int))) = true := h2
            rw [Bool.and_eq_true] at h2'
            have e0 := of_decide_eq_true h2'.1
            have e1 := of_decide_eq_true h2'.2
            obtain ⟨bn, rfl⟩ := Int.eq_ofNat_of_zero_le b0
            obtain ⟨en, rfl⟩ := Int.eq_ofNat_of_zero_le (show 0 ≤ e by omega)
            have hlt : bn < en := by omega
            have ev : tnV n (.int (bn : Int)) (.int (en : Int)) = decide (isN n (bn, en)) := by
              show decide (0 ≤ (bn : Int) ∧ isN n ((bn : Int).toNat, (en : Int).toNat)) = decide (isN n (bn, en))
              rw [Int.toNat_natCast, Int.toNat_natCast]
              by_cases k : isN n (bn, en)
              · rw [decide_eq_true k, decide_eq_true ⟨b0, k⟩]
              · rw [decide_eq_false k, decide_eq_false (fun z => k z.2)]
            rw [ev] at q
            have em : (en : Int) - (bn : Int) - 1 = ((en - bn - 1 : Nat) : Int) := by omega
            refine ⟨_, rfl, _, rfl, _, _, rfl, rfl, _, _, rfl, rfl, _, rfl, ?_⟩
            dsimp only
            rw [em, bits_lb (show 1 ≤ en - bn by omega)]
            have l100 := lb_le (show en - bn ≤ 2 ^ 100 by omega)
            refine ⟨_, _, rfl, rfl, ⟨Int.natCast_nonneg _, by omega, by decide⟩, ?_⟩
            have e2 : (1 : Int) * 2 ^ ((lb (en - bn) : Nat) : Int).toNat = ((2 ^ lb (en - bn) : Nat) : Int) := by rw [Int.one_mul, Int.toNat_natCast]; exact (Int.natCast_pow 2 _).symm
            dsimp only
            rw [e2]
            have pz : 0 < 2 ^ lb (en - bn) := Nat.pow_pos (by decide)
            have isE : isN n (bn, en) ↔ (bn % 2 ^ lb (en - bn) = 0 ∧ (en - bn = 2 ^ lb (en - bn) ∨ en = n)) := by
              unfold isN tree
              simp only
              constructor
              · rintro ⟨_, _, k1, k2⟩
                exact ⟨Nat.mod_eq_zero_of_dvd k1, k2.elim .inl (fun z => .inr (by omega))⟩
              · rintro ⟨k1, k2⟩
                exact ⟨hlt, by omega, Nat.dvd_of_mod_eq_zero k1, k2.elim .inl (fun z => .inr (by omega))⟩
            generalize 2 ^ lb (en - bn) = R at pz isE
            have fm : Int.fmod (bn : Int) (R : Int) = ((bn % R : Nat) : Int) := by
              rw [Int.fmod_eq_emod_of_nonneg _ (Int.natCast_nonneg _)]
              exact (Int.natCast_emod _ _).symm
            refine ⟨_, rfl, _, rfl, _, _, rfl, rfl, by omega, rfl, decide (bn % R = 0), ?_, ?_⟩
            · show V.bl (decide (V.int (Int.fmod (bn : Int) (R : Int)) = V.int 0)) = V.bl (decide (bn % R = 0))
              rw [fm]
              refine congrArg V.bl ?_
              by_cases k : bn % R = 0
              · rw [decide_eq_true k, k]; rfl
              · rw [decide_eq_false k]
                exact decide_eq_false (fun z => k (by have := V.int.inj z; omega))
            by_cases k : bn % R = 0
            · rw [decide_eq_true k]
              refine iteT ?_
              refine ⟨_, rfl, _, rfl, _, _, rfl, rfl, _, rfl, rfl, _, rfl, ite2 (fun c => ?_) (fun c => ?_)⟩
              · have c1 : V.int ((en : Int) - (bn : Int)) = V.int (R : Int) := of_decide_eq_true c
                have c2 := V.int.inj c1
                rw [decide_eq_true (isE.mpr ⟨k, .inl (by omega)⟩)] at q
                exact q
              · have c1 : ¬ V.int ((en : Int) - (bn : Int)) = V.int (R : Int) := of_decide_eq_false (Bool.eq_false_iff.mpr c)
                refine ⟨_, rfl, _, rfl, rfl, ?_⟩
                have ed : decide (V.int (en : Int) = V.int (n : Int)) = decide (isN n (bn, en)) := by
                  by_cases z : en = n
                  · rw [decide_eq_true (isE.mpr ⟨k, .inr z⟩), decide_eq_true (by rw [z])]
                  · rw [decide_eq_false (fun y => z (by have := V.int.inj y; omega)), decide_eq_false (fun y => (isE.mp y).2.elim (fun u => c1 (congrArg V.int (by omega))) z)]
                show Q (.bl (decide (V.int (en : Int) = V.int (n : Int)))) H
                rw [ed]
                exact q
            · rw [decide_eq_false k]
              refine iteF ?_
              rw [decide_eq_false (fun z => k (isE.mp z).1)] at q
              exact q
          | _ => exact absurd h2 (by intro z; cases z)
      | _ => exact absurd h1 (by intro z; cases z)
end
end LT

namespace LT
/-! ### the greatest nodes within a stretch -/
theorem and_pred_odd (c : Nat) : (2 * c + 1) &&& (2 * c) = 2 * c := by
  apply Nat.eq_of_testBit_eq
  intro i
  rw [Nat.testBit_and]
  cases i with
  | zero => simp
  | succ i =>
    rw [Nat.testBit_succ, Nat.testBit_succ, show (2 * c + 1) / 2 = c by omega, show 2 * c / 2 = c by omega, Bool.and_self]
theorem and_pred_even (c : Nat) (h : 0 < c) : (2 * c) &&& (2 * c - 1) = 2 * (c &&& (c - 1)) := by
  apply Nat.eq_of_testBit_eq
  intro i
  rw [Nat.testBit_and]
  cases i with
  | zero => simp
  | succ i =>
    rw [Nat.testBit_succ, Nat.testBit_succ, Nat.testBit_succ, show 2 * c / 2 = c by omega, show (2 * c - 1) / 2 = c - 1 by omega, show 2 * (c &&& (c - 1)) / 2 = c &&& (c - 1) by omega, Nat.testBit_and]
def low (b : Nat) : Nat := b - (b &&& (b - 1))
theorem low_is : ∀ b : Nat, 0 < b → ∃ k, low b = 2 ^ k ∧ 2 ^ k ∣ b ∧ ¬ 2 ^ (k + 1) ∣ b := by
  intro b
  induction b using Nat.strongRecOn with
  | ind b ih =>
    intro hb
    rcases Nat.mod_two_eq_zero_or_one b with h | h
    · obtain ⟨c, rfl⟩ : ∃ c, b = 2 * c := ⟨b / 2, by omega⟩
      obtain ⟨k, e, d1, d2⟩ := ih c (by omega) (by omega)
      refine ⟨k + 1, ?_, ?_, ?_⟩
      · unfold low at e ⊢
        rw [and_pred_even c (by omega), Nat.pow_succ]
        omega
      · rw [Nat.pow_succ, Nat.mul_comm]
        exact Nat.mul_dvd_mul_left 2 d1
      · rw [Nat.pow_succ, Nat.mul_comm (2 ^ (k + 1)) 2]
        exact fun z => d2 (Nat.dvd_of_mul_dvd_mul_left (by decide) z)
    · obtain ⟨c, rfl⟩ : ∃ c, b = 2 * c + 1 := ⟨b / 2, by omega⟩
      refine ⟨0, ?_, Nat.one_dvd _, ?_⟩
      · unfold low
        rw [show 2 * c + 1 - 1 = 2 * c by omega, and_pred_odd]
        omega
      · intro z
        have := Nat.mod_eq_zero_of_dvd z
        omega
/-- the room of the greatest full node that begins at b, up to e -/
def rm (b e : Nat) : Nat := if b = 0 then 2 ^ (e - b).log2 else min (2 ^ (e - b).log2) (low b)
theorem rm_is {b e : Nat} (h : b < e) : ∃ k, rm b e = 2 ^ k ∧ 2 ^ k ∣ b ∧ b + 2 ^ k ≤ e ∧ (2 ^ (k + 1) ∣ b → e < b + 2 ^ (k + 1)) := by
  have l1 := Nat.log2_self_le (n := e - b) (by omega)
  have l2 := Nat.lt_log2_self (n := e - b)
  unfold rm
  by_cases c : b = 0
  · subst c
    rw [if_pos rfl]
    exact ⟨_, rfl, Nat.dvd_zero _, by omega, fun _ => by omega⟩
  · rw [if_neg c]
    obtain ⟨k, e1, d1, d2⟩ := low_is b (by omega)
    rw [e1]
    by_cases c2 : (e - b).log2 ≤ k
    · have := Nat.pow_le_pow_right (n := 2) (by decide) c2
      rw [Nat.min_eq_left this]
      exact ⟨_, rfl, Nat.dvd_trans (Nat.pow_dvd_pow 2 c2) d1, by omega, fun _ => by omega⟩
    · have := Nat.pow_le_pow_right (n := 2) (by decide) (show k ≤ (e - b).log2 by omega)
      rw [Nat.min_eq_right this]
      exact ⟨k, rfl, d1, by omega, fun z => absurd z d2⟩
def rw1 (n b e : Nat) : Nat := if isN n (b, e) then e - b else rm b e
def nwF (n : Nat) : Nat → Nat → Nat → List (Nat × Nat)
  | 0, _, _ => []
  | f + 1, b, e => if b < e then (b, b + rw1 n b e) :: nwF n f (b + rw1 n b e) e else []
def nw (n b e : Nat) : List (Nat × Nat) := nwF n (e - b) b e
theorem rw1_pos {n b e : Nat} (h : b < e) : 0 < rw1 n b e ∧ b + rw1 n b e ≤ e := by
  unfold rw1
  split
  · omega
  · obtain ⟨k, e1, _, e2, _⟩ := rm_is h
    have := Nat.pow_pos (a := 2) (n := k) (by decide)
    omega
theorem nwF_eq (n e : Nat) : ∀ (f g b : Nat), e - b ≤ f → e - b ≤ g → nwF n f b e = nwF n g b e
  | 0, 0, _, _, _ => rfl
  | 0, g + 1, b, h, _ => by
    show [] = if b < e then _ else _
    rw [if_neg (by omega)]
  | f + 1, 0, b, _, h => by
    show (if b < e then _ else _) = []
    rw [if_neg (by omega)]
  | f + 1, g + 1, b, h1, h2 => by
    show (if b < e then _ else _) = if b < e then _ else _
    by_cases c : b < e
    · have := rw1_pos (n := n) c
      rw [if_pos c, if_pos c, nwF_eq n e f g (b + rw1 n b e) (by omega) (by omega)]
    · rw [if_neg c, if_neg c]
theorem nw_nil {n b e : Nat} (h : e ≤ b) : nw n b e = [] := by
  unfold nw
  rw [show e - b = 0 by omega]
  rfl
theorem nw_step {n b e : Nat} (h : b < e) : nw n b e = (b, b + rw1 n b e) :: nw n (b + rw1 n b e) e := by
  have p := rw1_pos (n := n) h
  unfold nw
  rw [show e - b = (e - b - 1) + 1 by omega]
  show (if b < e then _ else _) = _
  rw [if_pos h, nwF_eq n e (e - b - 1) (e - (b + rw1 n b e)) (b + rw1 n b e) (by omega) (by omega)]
/-- induction over the nodes within -/
theorem nw_ind {n e : Nat} {p : Nat → Prop} (h0 : ∀ b, e ≤ b → p b) (h1 : ∀ b, b < e → p (b + rw1 n b e) → p b) (b : Nat) : p b := by
  have : ∀ (f b : Nat), e - b ≤ f → p b := by
    intro f
    induction f with
    | zero => exact fun b h => h0 b (by omega)
    | succ f ih =>
      intro b h
      by_cases c : b < e
      · have := rw1_pos (n := n) c
        exact h1 b c (ih _ (by omega))
      · exact h0 b (by omega)
  exact this _ b (Nat.le_refl _)
theorem nw_len2 {n e : Nat} : ∀ (L b : Nat), 2 ^ L ∣ b → e < b + 2 ^ L → (nw n b e).length ≤ L
  | 0, b, _, h => by rw [nw_nil (by simp at h; omega)]; exact Nat.zero_le _
  | L + 1, b, d, h => by
    have d' : 2 ^ L ∣ b := Nat.dvd_trans (Nat.pow_dvd_pow 2 (Nat.le_succ L)) d
    by_cases c : b < e
    · by_cases c2 : e < b + 2 ^ L
      · have := nw_len2 (n := n) (e := e) L b d' c2
        omega
      · rw [nw_step c, List.length_cons]
        unfold rw1
        split
        · rw [nw_nil (by omega)]
          simp
        · obtain ⟨k, e1, e2, e3, e4⟩ := rm_is c
          rw [e1]
          have kL : k = L := by
            by_cases z : k < L
            · have := e4 (Nat.dvd_trans (Nat.pow_dvd_pow 2 z) d')
              have := Nat.pow_le_pow_right (n := 2) (by decide) (show k + 1 ≤ L from z)
              omega
            · have : 2 ^ k < 2 ^ (L + 1) := by omega
              have := (Nat.pow_lt_pow_iff_right (by decide : 1 < 2)).mp this
              omega
          subst kL
          have := nw_len2 (n := n) (e := e) k (b + 2 ^ k) (Nat.dvd_add e2 (Nat.dvd_refl _)) (by rw [Nat.pow_succ] at h; omega)
          omega
    · rw [nw_nil (by omega)]
      exact Nat.zero_le _
theorem nw_len1 {n e L : Nat} : ∀ (t j b : Nat), j + t = L → 2 ^ j ∣ b → e < b + 2 ^ L → (nw n b e).length ≤ L + t
  | 0, j, b, hj, d, h => by
    have : j = L := by omega
    subst this
    exact nw_len2 j b d h
  | t + 1, j, b, hj, d, h => by
    by_cases c : b < e
    · by_cases d1 : 2 ^ (j + 1) ∣ b
      · have := nw_len1 (n := n) (e := e) (L := L) t (j + 1) b (by omega) d1 h
        omega
      · rw [nw_step c, List.length_cons]
        unfold rw1
        split
        · rw [nw_nil (by omega)]
          simp
          omega
        · obtain ⟨k, e1, e2, e3, e4⟩ := rm_is c
          rw [e1]
          by_cases z : k < j
          · have e5 := e4 (Nat.dvd_trans (Nat.pow_dvd_pow 2 z) d)
            have := nw_len2 (n := n) (e := e) k (b + 2 ^ k) (Nat.dvd_add e2 (Nat.dvd_refl _)) (by rw [Nat.pow_succ] at e5; omega)
            omega
          · have kj : k = j := by
              by_cases y : j < k
              · exact absurd (Nat.dvd_trans (Nat.pow_dvd_pow 2 y) e2) d1
              · omega
            subst kj
            have d2 : 2 ^ (k + 1) ∣ b + 2 ^ k := by
              obtain ⟨x, rfl⟩ := d
              rcases Nat.mod_two_eq_zero_or_one x with y | y
              · exact absurd (by rw [Nat.pow_succ]; exact Nat.mul_dvd_mul_left _ (Nat.dvd_of_mod_eq_zero y)) d1
              · refine ⟨x / 2 + 1, ?_⟩
                have : x = 2 * (x / 2) + 1 := by omega
                rw [Nat.pow_succ]
                generalize x / 2 = u at this
                subst this
                rw [Nat.mul_add, Nat.mul_add, Nat.mul_assoc (2 ^ k) 2 u]
                omega
            have p := Nat.pow_pos (a := 2) (n := k) (by decide)
            have := nw_len1 (n := n) (e := e) (L := L) t (k + 1) (b + 2 ^ k) (by omega) d2 (by omega)
            omega
    · rw [nw_nil (by omega)]
      exact Nat.zero_le _
theorem nw_len {n b e : Nat} (h : e ≤ 2 ^ 100) : (nw n b e).length ≤ 202 := by
  have := nw_len1 (n := n) (e := e) (L := 101) 101 0 b (by decide) (by simp) (by rw [Nat.pow_succ]; omega)
  omega
/-- nodes are nested or apart -/
theorem lam {n b m B M : Nat} (t : tree n b m) (hm : 1 ≤ m) (T : tree n B M) (hn : b + m ≤ n) (HN : B + M ≤ n) (h1 : b < B) (h2 : B < b + m) : B + M ≤ b + m := by
  obtain ⟨d, k⟩ := t
  obtain ⟨D, _⟩ := T
  have ge := lb_ge m
  have gE := lb_ge M
  by_cases c : lb m ≤ lb M
  · have := mul_le_of_lt d (Nat.dvd_trans (Nat.pow_dvd_pow 2 c) D) h1
    omega
  · have c1 : lb M ≤ lb m := by omega
    have := mul_le_of_lt D (Nat.dvd_add (Nat.dvd_trans (Nat.pow_dvd_pow 2 c1) d) (Nat.pow_dvd_pow 2 c1)) (show B < b + 2 ^ lb m by omega)
    rcases k with k | k
    · omega
    · omega
theorem isN_tree {n b e : Nat} (h : isN n (b, e)) : b < e ∧ e ≤ n ∧ tree n b (e - b) := h
theorem isN_of {n b m : Nat} (h1 : 1 ≤ m) (h2 : b + m ≤ n) (t : tree n b m) : isN n (b, b + m) := ⟨by show b < b + m; omega, h2, by show tree n b (b + m - b); rw [Nat.add_sub_cancel_left]; exact t⟩
theorem full_isN {n b k : Nat} (h2 : b + 2 ^ k ≤ n) (d : 2 ^ k ∣ b) : isN n (b, b + 2 ^ k) := isN_of (Nat.pow_pos (by decide)) h2 ⟨by rw [lb_pow]; exact d, .inl (by rw [lb_pow])⟩
theorem rw1_isN {n b e : Nat} (h : b < e) (hn : e ≤ n) : isN n (b, b + rw1 n b e) := by
  unfold rw1
  split
  · rename_i c
    rw [show b + (e - b) = e by omega]
    exact c
  · obtain ⟨k, e1, e2, e3, _⟩ := rm_is h
    rw [e1]
    exact full_isN (by omega) e2
/-- the first node is the greatest one that begins there -/
theorem rw1_max {n b e y : Nat} (hn : e ≤ n) (hy : isN n (b, y)) (h : y ≤ e) : y ≤ b + rw1 n b e := by
  have hb : b < y := hy.1
  unfold rw1
  split
  · omega
  · rename_i c
    obtain ⟨k, e1, e2, e3, e4⟩ := rm_is (show b < e by omega)
    rw [e1]
    obtain ⟨_, y1, d, t⟩ := isN_tree hy
    rcases t with t | t
    · by_cases z : k < lb (y - b)
      · have := e4 (Nat.dvd_trans (Nat.pow_dvd_pow 2 z) d)
        have := Nat.pow_le_pow_right (n := 2) (by decide) (show k + 1 ≤ lb (y - b) from z)
        omega
      · have := Nat.pow_le_pow_right (n := 2) (by decide) (show lb (y - b) ≤ k by omega)
        omega
    · have : y = e := by omega
      subst this
      exact absurd hy c
/-- a list of nodes one behind the other -/
def Ch (n : Nat) : Nat → Nat → List (Nat × Nat) → Prop
  | lo, hi, [] => lo = hi
  | lo, hi, x :: l => x.1 = lo ∧ isN n x ∧ x.2 ≤ hi ∧ Ch n x.2 hi l
theorem nw_ch {n e : Nat} (hn : e ≤ n) (b : Nat) : b ≤ e → Ch n b e (nw n b e) := by
  refine nw_ind (n := n) (e := e) (p := fun b => b ≤ e → Ch n b e (nw n b e)) (fun b h h2 => ?_) (fun b h ih _ => ?_) b
  · rw [nw_nil h]
    exact Nat.le_antisymm h2 h
  · rw [nw_step h]
    have := rw1_pos (n := n) h
    exact ⟨rfl, rw1_isN h hn, this.2, ih this.2⟩
/-- nothing greater in the stretch has one of them -/
def Mx (n lo hi : Nat) (l : List (Nat × Nat)) : Prop := ∀ x ∈ l, ∀ p, isN n p → lo ≤ p.1 → p.2 ≤ hi → p.1 ≤ x.1 → x.2 ≤ p.2 → p = x
theorem nw_mx {n lo e : Nat} (hn : e ≤ n) (b : Nat) : b ≤ e → lo ≤ b → (∀ p, isN n p → lo ≤ p.1 → p.2 ≤ e → p.1 < b → p.2 ≤ b) → Mx n lo e (nw n b e) := by
  refine nw_ind (n := n) (e := e) (p := fun b => b ≤ e → lo ≤ b → (∀ p, isN n p → lo ≤ p.1 → p.2 ≤ e → p.1 < b → p.2 ≤ b) → Mx n lo e (nw n b e)) (fun b h h2 _ _ => ?_) (fun b h ih h1 h2 h3 => ?_) b
  · rw [nw_nil h]
    exact fun x hx => by cases hx
  · have w := rw1_pos (n := n) h
    have wN := rw1_isN h hn
    have wM : ∀ p, isN n p → lo ≤ p.1 → p.2 ≤ e → p.1 = b → p.2 ≤ b + rw1 n b e := by
      rintro ⟨p1, p2⟩ k1 k2 k3 rfl
      exact rw1_max hn k1 k3
    rw [nw_step h]
    intro x hx
    rcases List.mem_cons.mp hx with rfl | hx
    · rintro ⟨p1, p2⟩ k1 k2 k3 k4 k5
      simp only at k2 k3 k4 k5
      by_cases c : p1 < b
      · have := h3 _ k1 k2 k3 c
        simp only at this
        omega
      · have : p1 = b := by omega
        subst this
        have := wM _ k1 k2 k3 rfl
        simp only at this
        exact Prod.ext rfl (by show p2 = _; omega)
    · refine ih w.2 (by omega) ?_ x hx
      rintro ⟨p1, p2⟩ k1 k2 k3 k4
      simp only at k2 k3 k4 ⊢
      by_cases c : p1 < b
      · have := h3 _ k1 k2 k3 c
        simp only at this
        omega
      · by_cases c2 : p1 = b
        · subst c2
          exact wM _ k1 k2 k3 rfl
        · obtain ⟨q1, q2, q3⟩ := isN_tree k1
          obtain ⟨u1, u2, u3⟩ := isN_tree wN
          have := lam (n := n) (b := b) (m := b + rw1 n b e - b) (B := p1) (M := p2 - p1) u3 (by omega) q3 (by omega) (by omega) (by omega) (by omega)
          omega
theorem nw_max {n b e : Nat} (hn : e ≤ n) (h : b ≤ e) : Mx n b e (nw n b e) := nw_mx hn b h (Nat.le_refl _) (fun p _ k1 _ k3 => by omega)
theorem Ch.mem {n : Nat} : ∀ {lo hi : Nat} {l : List (Nat × Nat)}, Ch n lo hi l → ∀ x ∈ l, isN n x ∧ lo ≤ x.1 ∧ x.2 ≤ hi
  | lo, hi, y :: l, ⟨h1, h2, h3, h4⟩, x, hx => by
    have k := h2.1
    rcases List.mem_cons.mp hx with rfl | hx
    · exact ⟨h2, by omega, h3⟩
    · obtain ⟨k1, k2, k3⟩ := Ch.mem h4 x hx
      exact ⟨k1, by omega, k3⟩
theorem Ch.le {n : Nat} : ∀ {lo hi : Nat} {l : List (Nat × Nat)}, Ch n lo hi l → lo ≤ hi
  | _, _, [], h => Nat.le_of_eq h
  | lo, hi, y :: l, ⟨h1, h2, h3, h4⟩ => by
    have k := h2.1
    omega
theorem Ch.app {n : Nat} : ∀ {lo mid hi : Nat} {l r : List (Nat × Nat)}, Ch n lo mid l → Ch n mid hi r → Ch n lo hi (l ++ r)
  | _, _, _, [], _, h, k => by
    have h : _ = _ := h
    subst h
    exact k
  | _, _, _, x :: l, r, ⟨h1, h2, h3, h4⟩, k => ⟨h1, h2, Nat.le_trans h3 k.le, Ch.app h4 k⟩
/-- each entry between is in one of them -/
theorem Ch.at {n : Nat} : ∀ {lo hi : Nat} {l : List (Nat × Nat)}, Ch n lo hi l → ∀ i, lo ≤ i → i < hi → ∃ x ∈ l, x.1 ≤ i ∧ i < x.2
  | lo, hi, [], h, i, h1, h2 => by
    have h : lo = hi := h
    omega
  | lo, hi, y :: l, ⟨h1, h2, h3, h4⟩, i, k1, k2 => by
    by_cases c : i < y.2
    · exact ⟨y, List.mem_cons_self, by omega, c⟩
    · obtain ⟨x, hx, r⟩ := Ch.at h4 i (by omega) k2
      exact ⟨x, List.mem_cons_of_mem _ hx, r⟩
theorem Ch.sum {n : Nat} : ∀ {lo hi : Nat} {l : List (Nat × Nat)}, Ch n lo hi l → (l.map fun x => x.2 - x.1).sum = hi - lo
  | lo, hi, [], h => by
    have h : lo = hi := h
    simp; omega
  | lo, hi, y :: l, ⟨h1, h2, h3, h4⟩ => by
    have := Ch.sum h4
    have k := h2.1
    have := h4.le
    rw [List.map_cons, List.sum_cons]
    omega
/-- any node within the stretch lies in one of them -/
theorem nw_in {n b e : Nat} (hn : e ≤ n) (h : b ≤ e) {p : Nat × Nat} (hp : isN n p) (h1 : b ≤ p.1) (h2 : p.2 ≤ e) : ∃ x ∈ nw n b e, x.1 ≤ p.1 ∧ p.2 ≤ x.2 := by
  have k := hp.1
  obtain ⟨x, hx, a1, a2⟩ := (nw_ch hn b h).at p.1 h1 (by omega)
  refine ⟨x, hx, a1, ?_⟩
  obtain ⟨x1, x2, x3⟩ := (nw_ch hn b h).mem x hx
  have kx := x1.1
  have kn := x1.2.1
  have pn := hp.2.1
  by_cases c : x.1 < p.1
  · have := lam (n := n) (b := x.1) (m := x.2 - x.1) (B := p.1) (M := p.2 - p.1) x1.2.2 (by omega) hp.2.2 (by omega) (by omega) c (by omega)
    omega
  · by_cases c2 : p.2 ≤ x.2
    · exact c2
    · have := nw_max hn h x hx p hp h1 h2 (by omega) (by omega)
      rw [this]
      exact Nat.le_refl _
/-- a list of nodes one behind the other, none within a greater one of the stretch, is that of the greatest ones -/
theorem nw_unique {n hi lo0 : Nat} (hn : hi ≤ n) : ∀ (l r : List (Nat × Nat)) (lo : Nat), lo0 ≤ lo → Ch n lo hi l → Ch n lo hi r → Mx n lo0 hi l → Mx n lo0 hi r → l = r
  | [], [], _, _, _, _, _, _ => rfl
  | [], y :: r, lo, _, h1, ⟨k1, k2, k3, k4⟩, _, _ => by
    have h1 : lo = hi := h1
    have := k2.1
    omega
  | x :: l, [], lo, _, ⟨k1, k2, k3, k4⟩, h1, _, _ => by
    have h1 : lo = hi := h1
    have := k2.1
    omega
  | x :: l, y :: r, lo, h0, ⟨k1, k2, k3, k4⟩, ⟨j1, j2, j3, j4⟩, m1, m2 => by
    have e : x = y := by
      by_cases c : x.2 ≤ y.2
      · exact (m1 x List.mem_cons_self y j2 (by omega) j3 (by omega) c).symm
      · exact m2 y List.mem_cons_self x k2 (by omega) k3 (by omega) (by omega)
    subst e
    have := k2.1
    rw [nw_unique hn l r x.2 (by omega) k4 j4 (fun z hz => m1 z (List.mem_cons_of_mem _ hz)) (fun z hz => m2 z (List.mem_cons_of_mem _ hz))]
end LT

namespace LT
open PySem PySem.Spec PyProof.Rows L2
theorem bitAnd_low (b : Nat) (h : 0 < b) : Builtin.bitAnd (b : Int) (-(b : Int)) = ((low b : Nat) : Int) := by
  rw [bitAnd_pn (Int.natCast_nonneg b) (by omega)]
  have e : (Builtin.bitNot (-(b : Int))).toNat = b - 1 := by
    show (-(-(b : Int)) - 1).toNat = b - 1
    omega
  rw [e, Int.toNat_natCast]
  have : b &&& (b - 1) ≤ b := Nat.and_le_left
  unfold low
  omega
section
variable {P : Program} {w : World} {K : PySem.W.Frag} {mg : Str → Option Value} {base : Heap}
def spFirstFull : Sp := fun vs H Q _ => ∃ (b e : Nat), vs = [.int b, .int e] ∧ b < e ∧ e ≤ 10 ^ 30 ∧ ∀ (H' : Hp) (p : Addr), Same H H' → H p = none → H' p = some (.tup [.int b, .int ((b + rm b e : Nat) : Int)]) → Q (.ref p) H'
theorem ok_first_full {f g1 : Addr} {fd d1 : FuncData} (F : Fun K "_first_full" "_first_full" sFirstFull f fd) (GPowerWithin : FnOk P w K mg base CX0 1 g1 d1 ["number"] spPower) (APowerWithin : At K mg "power_within" g1 d1 ["number"]) (z_min : mg "min" = none) :
    FnOk P w K mg base CX0 2 f fd ["begin", "end"] spFirstFull := by
  refine F.ok scFirstFull (fun vs H Q E h => ?_) (fun cdv A outer s H vs Q E hr h => ?_)
  · obtain ⟨_, _, rfl, _⟩ := h
    rfl
  obtain ⟨b, e, rfl, hb, h30, q⟩ := h
  refine ⟨_, (pss_cons (ps_set (i := 2) scFirstFull.nd rfl (Or.inl rfl) (pe_call GPowerWithin (hr.mono (by decide)) rfl APowerWithin.m APowerWithin.kp APowerWithin.b .nil pass0 (pa_cons (pe_op op_sub (pv 1) (pv 0)) pa_nil)))
    (pss_cons (ps_if (pt_cmpR op_gt (pv 0) pe_int (nomark _))
    (pss_one (ps_set (i := 2) scFirstFull.nd rfl (Or.inl rfl) (pe_callB (call_min2 rfl) (by rfl) z_min (by decide +kernel) (pa_cons (pv 2) (pa_cons (pe_op op_and (pv 0) (pe_un un_neg (pv 0))) pa_nil)))))
    pss_nil)
    (pss_one (ps_ret (pe_tup (pa_cons (pv 0) (pa_cons (pe_op op_add (pv 0) (pv 2)) pa_nil))))))), ?_⟩
  have two : 2 ≤ sizeLine := by decide
  refine ⟨_, rfl, _, rfl, _, _, rfl, rfl, e - b, congrArg (fun z => [V.int z]) (by omega), by omega, by omega, ?_⟩
  refine ⟨_, rfl, _, _, rfl, rfl, _, rfl, ite2 (fun c => ?_) (fun c => ?_)⟩
  · have c1 : (b : Int) > 0 := of_decide_eq_true c
    refine ⟨_, rfl, _, rfl, _, rfl, _, rfl, _, _, rfl, rfl, _, _, rfl, ?_⟩
    rw [bitAnd_low b (by omega)]
    have em : (if ((low b : Nat) : Int) < ((2 ^ (e - b).log2 : Nat) : Int) then ((low b : Nat) : Int) else ((2 ^ (e - b).log2 : Nat) : Int)) = ((rm b e : Nat) : Int) := by
      unfold rm
      rw [if_neg (show ¬ b = 0 by omega)]
      split <;> omega
    refine ⟨_, rfl, _, rfl, _, rfl, _, _, rfl, rfl, two, fun t nt => ?_⟩
    dsimp only
    rw [em]
    refine q _ t (same_upd nt) nt ?_
    rw [upd_same, show (b : Int) + ((rm b e : Nat) : Int) = ((b + rm b e : Nat) : Int) by omega]
  · have c1 : ¬ (b : Int) > 0 := of_decide_eq_false (Bool.eq_false_iff.mpr c)
    have b0 : b = 0 := by omega
    have em : rm b e = 2 ^ (e - b).log2 := by unfold rm; rw [if_pos b0]
    refine ⟨_, rfl, _, rfl, _, rfl, _, _, rfl, rfl, two, fun t nt => ?_⟩
    refine q _ t (same_upd nt) nt ?_
    rw [upd_same, em]
    rfl
def spWithinX : Sp := fun vs H Q _ => ∃ (n b e : Nat), vs = [.int n, .int b, .int e] ∧ 1 ≤ n ∧ n ≤ 2 ^ 100 ∧ e ≤ n ∧ e ≤ 10 ^ 30 ∧
  ∀ (H' : Hp) (p : Addr) (xs : List V), Same H H' → H p = none → H' p = some (.lst xs) → All2 (Nd H') xs (nw n b e) → Q (.ref p) H'
theorem tn_nat (n b e : Nat) : tnV n (.int (b : Int)) (.int (e : Int)) = decide (isN n (b, e)) := by
  show decide (0 ≤ (b : Int) ∧ isN n ((b : Int).toNat, (e : Int).toNat)) = decide (isN n (b, e))
  rw [Int.toNat_natCast, Int.toNat_natCast]
  by_cases k : isN n (b, e)
  · rw [decide_eq_true k, decide_eq_true ⟨Int.natCast_nonneg _, k⟩]
  · rw [decide_eq_false k, decide_eq_false (fun z => k z.2)]
theorem ok_nodes_withinX {f g1 g2 : Addr} {fd d1 d2 : FuncData} (F : Fun K "nodes_within" "nodes_within" sNodesWithin f fd) (GIsTreeNode : FnOk P w K mg base CX0 3 g1 d1 ["size", "value"] (spTreeV K)) (AIsTreeNode : At K mg "is_tree_node" g1 d1 ["size", "value"])
    (GFirstFull : FnOk P w K mg base CX0 2 g2 d2 ["begin", "end"] spFirstFull) (AFirstFull : At K mg "_first_full" g2 d2 ["begin", "end"]) : FnOk P w K mg base CX0 4 f fd ["size", "begin", "end"] spWithinX := by
  refine F.ok scNodesWithin (fun vs H Q E h => ?_) (fun cdv A outer s H vs Q E hr h => ?_)
  · obtain ⟨_, _, _, rfl, _⟩ := h
    rfl
  obtain ⟨n, b0, e, rfl, n1, n100, he, h30, q⟩ := h
  refine ⟨_, (pss_cons (ps_set (i := 3) scNodesWithin.nd rfl (Or.inl rfl) (pe_lst pa_nil))
    (pss_cons (ps_while PassesOwn.never (pt_cmpR op_lt (pv 1) (pv 2) (nomark _))
    (pss_cons (ps_if (pt_val (pe_call GIsTreeNode (hr.mono (by decide)) rfl AIsTreeNode.m AIsTreeNode.kp AIsTreeNode.b .nil pass0 (pa_cons (pv 0) (pa_cons (pe_tup (pa_cons (pv 1) (pa_cons (pv 2) pa_nil))) pa_nil))))
    (pss_one (ps_set (i := 4) scNodesWithin.nd rfl (Or.inl rfl) (pe_tup (pa_cons (pv 1) (pa_cons (pv 2) pa_nil)))))
    (pss_one (ps_set (i := 4) scNodesWithin.nd rfl (Or.inl rfl) (pe_call GFirstFull (hr.mono (by decide)) rfl AFirstFull.m AFirstFull.kp AFirstFull.b .nil pass0 (pa_cons (pv 1) (pa_cons (pv 2) pa_nil))))))
    (pss_cons (ps_expr (pe_bm PySem.F.plainAttrs_list PySem.F.slot_list_append PySem.F.type_list_append mt_append (pv 3) (pa_cons (pv 4) pa_nil)))
    (pss_one (ps_set (i := 1) scNodesWithin.nd rfl (Or.inl rfl) (pe_ix ix_tup (pv 4) pe_int (fun _ _ => rfl)))))))
    (pss_one (ps_ret (pv 3))))), ?_⟩
  have two : 2 ≤ sizeLine := by decide
  refine ⟨Nat.zero_le _, fun fa nf => ?_⟩
  refine ⟨fun mu σ H' => ∃ (b : Nat) (v4 : Option V) (xs : List V) (done : List (Nat × Nat)), σ = [some (.int n), some (.int (b : Int)), some (.int (e : Int)), some (.ref fa), v4] ∧ Same H H' ∧ H' fa = some (.lst xs) ∧ All2 (Nd H') xs done ∧ done ++ nw n b e = nw n b0 e ∧ mu = e - b,
    ⟨e - b0, b0, none, [], [], rfl, same_upd nf, upd_same, .nil, rfl, rfl⟩, ?_⟩
  rintro m σ H1 ⟨b, v4, xs, done, rfl, sm, hf, hx, hd, rfl⟩
  refine ⟨_, rfl, _, rfl, _, _, rfl, rfl, _, rfl, ite2 (fun c => ?_) (fun c => ?_)⟩
  · have c1 : (b : Int) < (e : Int) := of_decide_eq_true c
    have dl : done.length ≤ 202 := by
      have k1 := congrArg List.length hd
      rw [List.length_append] at k1
      have k2 := nw_len (n := n) (b := b0) (e := e) (by omega)
      omega
    have w1 := rw1_pos (n := n) (show b < e by omega)
    have st := nw_step (n := n) (show b < e by omega)
    refine ⟨fun σ' H' => ∃ mu, mu < e - b ∧ ∃ (b : Nat) (v4 : Option V) (xs : List V) (done : List (Nat × Nat)), σ' = [some (.int n), some (.int (b : Int)), some (.int (e : Int)), some (.ref fa), v4] ∧ Same H H' ∧ H' fa = some (.lst xs) ∧ All2 (Nd H') xs done ∧ done ++ nw n b e = nw n b0 e ∧ mu = e - b, fun σ' H' h => h, ?_⟩
    -- behind the choice
    have fin : ∀ (H2 : Hp) (p : Addr), Same H1 H2 → H2 p = some (.tup [.int (b : Int), .int ((b + rw1 n b e : Nat) : Int)]) →
        (pss_term_fin : True) → ∃ (b' : Nat) (xs' : List V) (done' : List (Nat × Nat)), b' = b + rw1 n b e ∧ xs' = xs ++ [.ref p] ∧ Same H (upd H2 fa (.lst xs')) ∧ All2 (Nd (upd H2 fa (.lst xs'))) xs' done' ∧ done' ++ nw n b' e = nw n b0 e := fun H2 p s2 hp _ => by
      have hf2 := s2 _ _ hf
      refine ⟨_, _, done ++ [(b, b + rw1 n b e)], rfl, rfl, ?_, ?_, ?_⟩
      · exact fun a o k => by rw [upd_ne (ne_of_none k nf)]; exact s2 _ _ (sm _ _ k)
      · refine (hx.mono (fun v x (k : Nd H1 v x) => (k.same s2).upd hf2)).app (.cons ?_ .nil)
        exact Nd.upd (x := (b, b + rw1 n b e)) ⟨p, rfl, hp⟩ hf2
      · rw [← hd, st, List.append_assoc]
        rfl
    refine ⟨_, rfl, _, rfl, _, rfl, two, fun t nt => ?_⟩
    have s1 := same_upd (o := .tup [.int (b : Int), .int (e : Int)]) nt
    have ht : (upd H1 t (.tup [.int (b : Int), .int (e : Int)])) t = some (.tup [.int (b : Int), .int (e : Int)]) := upd_same
    generalize upd H1 t (.tup [.int (b : Int), .int (e : Int)]) = H2 at s1 ht
    refine ⟨n, .ref t, _, rfl, n1, n100, .pair ht (.int _) (.int _), ?_⟩
    rw [tn_nat]
    by_cases c2 : isN n (b, e)
    · rw [decide_eq_true c2]
      refine ⟨true, rfl, ?_⟩
      have rw_e : rw1 n b e = e - b := by unfold rw1; rw [if_pos c2]
      refine ⟨_, rfl, _, rfl, two, fun t2 nt2 => ?_⟩
      have s2 := same_upd (o := .tup [.int (b : Int), .int (e : Int)]) nt2
      obtain ⟨b', xs', done', eb, ex, f1, f2, f3⟩ := fin _ t2 (s1.trans s2) (by rw [upd_same, rw_e, show b + (e - b) = e by omega]) trivial
      subst ex
      have hf3 := s2 _ _ (s1 _ _ hf)
      have ht3 : (upd H2 t2 (.tup [.int (b : Int), .int (e : Int)])) t2 = some (.tup [.int (b : Int), .int (e : Int)]) := upd_same
      refine ⟨_, rfl, .inl ⟨rfl, _, SqL.of hf3⟩, _, rfl, fa, _, _, rfl, rfl, hf3, szlt (by rw [hx.len]; omega), ?_⟩
      refine ⟨_, rfl, t2, _, _, _, rfl, rfl, SqT.of ((upd_ne (ne_of ht3 hf3 (by intro z; cases z))).trans ht3), atI_nat (j := 1) rfl, ?_⟩
      refine ⟨e - b', by omega, b', some (.ref t2), xs ++ [.ref t2], done', ?_, f1, ?_, f2, f3, rfl⟩
      · rw [eb, rw_e, show b + (e - b) = e by omega]
        rfl
      · exact upd_same
    · rw [decide_eq_false c2]
      refine ⟨false, rfl, ?_⟩
      have rw_e : rw1 n b e = rm b e := by unfold rw1; rw [if_neg c2]
      refine ⟨_, rfl, _, rfl, b, e, rfl, by omega, by omega, fun H3 t2 s2 nt2 ht2 => ?_⟩
      obtain ⟨b', xs', done', eb, ex, f1, f2, f3⟩ := fin _ t2 (s1.trans s2) (by rw [ht2, rw_e]) trivial
      subst ex
      have hf3 := s2 _ _ (s1 _ _ hf)
      refine ⟨_, rfl, .inl ⟨rfl, _, SqL.of hf3⟩, _, rfl, fa, _, _, rfl, rfl, hf3, szlt (by rw [hx.len]; omega), ?_⟩
      refine ⟨_, rfl, t2, _, _, _, rfl, rfl, SqT.of ((upd_ne (ne_of ht2 hf3 (by intro z; cases z))).trans ht2), atI_nat (j := 1) rfl, ?_⟩
      refine ⟨e - b', by omega, b', some (.ref t2), xs ++ [.ref t2], done', ?_, f1, ?_, f2, f3, rfl⟩
      · rw [eb, rw_e]
        rfl
      · exact upd_same
  · have c1 : ¬ (b : Int) < (e : Int) := of_decide_eq_false (Bool.eq_false_iff.mpr c)
    rw [nw_nil (show e ≤ b by omega), List.append_nil] at hd
    rw [hd] at hx
    exact ⟨_, rfl, q H1 fa xs sm nf hf hx⟩
def spWithin : Sp := fun vs H Q _ => ∃ (n b e : Nat), vs = [.int n, .int b, .int e] ∧ 1 ≤ n ∧ n ≤ 2 ^ 100 ∧ b ≤ e ∧ e ≤ n ∧ e ≤ 10 ^ 30 ∧
  ∀ (H' : Hp) (p : Addr) (xs : List V), Same H H' → H p = none → H' p = some (.lst xs) → All2 (Nd H') xs (nw n b e) → Q (.ref p) H'
theorem within_of {k : Nat} {f : Addr} {fd : FuncData} (F : FnOk P w K mg base CX0 k f fd ["size", "begin", "end"] spWithinX) : FnOk P w K mg base CX0 k f fd ["size", "begin", "end"] spWithin :=
  F.imp fun vs H Q E h => by
    obtain ⟨n, b, e, rfl, n1, n100, hb, he, h30, q⟩ := h
    exact ⟨n, b, e, rfl, n1, n100, he, h30, q⟩
end
end LT

namespace LT
/-! ### an entry's siblings, by side -/
def lft (b m e : Nat) : List (Nat × Nat) :=
  if h : m ≤ 1 then [] else
    if e < b + gp m then lft b (gp m) e
    else (b, b + gp m) :: lft (b + gp m) (m - gp m) e
termination_by m
decreasing_by
  · exact gp_lt (by omega)
  · have := gp_pos m; omega
theorem lft_one {b m e : Nat} (h : m ≤ 1) : lft b m e = [] := by rw [lft]; simp [h]
theorem lft_low {b m e : Nat} (h : 2 ≤ m) (k : e < b + gp m) : lft b m e = lft b (gp m) e := by
  rw [lft, dif_neg (by omega), if_pos k]
theorem lft_high {b m e : Nat} (h : 2 ≤ m) (k : ¬ e < b + gp m) : lft b m e = (b, b + gp m) :: lft (b + gp m) (m - gp m) e := by
  rw [lft, dif_neg (by omega), if_neg k]
def rgt (b m e : Nat) : List (Nat × Nat) :=
  if h : m ≤ 1 then [] else
    if e < b + gp m then rgt b (gp m) e ++ [(b + gp m, b + m)]
    else rgt (b + gp m) (m - gp m) e
termination_by m
decreasing_by
  · exact gp_lt (by omega)
  · have := gp_pos m; omega
theorem rgt_one {b m e : Nat} (h : m ≤ 1) : rgt b m e = [] := by rw [rgt]; simp [h]
theorem rgt_low {b m e : Nat} (h : 2 ≤ m) (k : e < b + gp m) : rgt b m e = rgt b (gp m) e ++ [(b + gp m, b + m)] := by
  rw [rgt, dif_neg (by omega), if_pos k]
theorem rgt_high {b m e : Nat} (h : 2 ≤ m) (k : ¬ e < b + gp m) : rgt b m e = rgt (b + gp m) (m - gp m) e := by
  rw [rgt, dif_neg (by omega), if_neg k]
/-- induction down the way to an entry -/
theorem way_ind {n e : Nat} {p : Nat → Nat → Prop} (h1 : ∀ b m, m ≤ 1 → b ≤ e → e < b + m → b + m ≤ n → p b m)
    (h2 : ∀ b m, 2 ≤ m → tree n b m → b ≤ e → e < b + gp m → b + m ≤ n → p b (gp m) → p b m)
    (h3 : ∀ b m, 2 ≤ m → tree n b m → b ≤ e → ¬ e < b + gp m → e < b + m → b + m ≤ n → p (b + gp m) (m - gp m) → p b m) :
    ∀ (m b : Nat), tree n b m → b ≤ e → e < b + m → b + m ≤ n → p b m := by
  intro m
  induction m using Nat.strongRecOn with
  | ind m ih =>
    intro b t k1 k2 k3
    by_cases c : m ≤ 1
    · exact h1 b m c k1 k2 k3
    · have m2 : 2 ≤ m := by omega
      have g1 := gp_lt m2
      have g3 := gp_pos m
      by_cases k : e < b + gp m
      · exact h2 b m m2 t k1 k k3 (ih _ g1 b (tree_low m2 t) k1 k (by omega))
      · exact h3 b m m2 t k1 k k2 k3 (ih _ (by omega) _ (tree_high m2 t) (by omega) (by omega) (by omega))
theorem sides_len {n e : Nat} : ∀ (m b : Nat), tree n b m → b ≤ e → e < b + m → b + m ≤ n → (lft b m e).length + (rgt b m e).length = (sib b m e).length := by
  refine way_ind (fun b m h _ _ _ => ?_) (fun b m h _ _ k _ ih => ?_) (fun b m h _ _ k _ _ ih => ?_)
  · rw [lft_one h, rgt_one h, sib_one h]; rfl
  · rw [lft_low h k, rgt_low h k, sib_low h k]; simp only [List.length_append, List.length_cons, List.length_nil]; omega
  · rw [lft_high h k, rgt_high h k, sib_high h k, List.length_cons, List.length_cons]; omega
theorem half_low_isN {n b m : Nat} (h : 2 ≤ m) (t : tree n b m) (hn : b + m ≤ n) : isN n (b, b + gp m) := isN_of (gp_pos m) (by have := gp_lt h; omega) (tree_low h t)
theorem half_high_isN {n b m : Nat} (h : 2 ≤ m) (t : tree n b m) (hn : b + m ≤ n) : isN n (b + gp m, b + m) := by
  have g := gp_lt h
  have := isN_of (n := n) (b := b + gp m) (m := m - gp m) (by omega) (by omega) (tree_high h t)
  rw [show b + gp m + (m - gp m) = b + m by omega] at this
  exact this
theorem lft_ch {n e : Nat} : ∀ (m b : Nat), tree n b m → b ≤ e → e < b + m → b + m ≤ n → Ch n b e (lft b m e) := by
  refine way_ind (fun b m h _ _ _ => ?_) (fun b m h _ _ k _ ih => ?_) (fun b m h t _ k k2 hn ih => ?_)
  · rw [lft_one h]; show b = e; omega
  · rw [lft_low h k]; exact ih
  · rw [lft_high h k]
    exact ⟨rfl, half_low_isN h t hn, by show b + gp m ≤ e; omega, ih⟩
theorem rgt_ch {n e : Nat} : ∀ (m b : Nat), tree n b m → b ≤ e → e < b + m → b + m ≤ n → Ch n (e + 1) (b + m) (rgt b m e) := by
  refine way_ind (fun b m h _ _ _ => ?_) (fun b m h t _ k hn ih => ?_) (fun b m h _ _ k _ _ ih => ?_)
  · rw [rgt_one h]; show e + 1 = b + m; omega
  · rw [rgt_low h k]
    refine ih.app ⟨rfl, half_high_isN h t hn, Nat.le_refl _, rfl⟩
  · rw [rgt_high h k]
    have := gp_lt h
    rw [show b + gp m + (m - gp m) = b + m by omega] at ih
    exact ih
theorem lft_mx {n e : Nat} (he : e < n) : ∀ (m b : Nat), tree n b m → b ≤ e → e < b + m → b + m ≤ n → Mx n 0 e (lft b m e) := by
  refine way_ind (fun b m h _ _ _ => ?_) (fun b m h _ _ k _ ih => ?_) (fun b m h t _ k k2 hn ih => ?_)
  · rw [lft_one h]; exact fun x hx => by cases hx
  · rw [lft_low h k]; exact ih
  · rw [lft_high h k]
    intro x hx
    rcases List.mem_cons.mp hx with rfl | hx
    · rintro ⟨p1, p2⟩ hp _ q2 q3 q4
      simp only at q2 q3 q4
      have g := gp_pos m
      obtain ⟨a1, a2, a3⟩ := isN_tree hp
      by_cases c : p1 < b
      · have := lam (n := n) (b := p1) (m := p2 - p1) (B := b) (M := m) a3 (by omega) t (by omega) hn c (by omega)
        omega
      · have e1 : p1 = b := by omega
        subst e1
        rcases node_in h t hn hp (Nat.le_refl _) (by show p2 ≤ p1 + m; omega) with z | z | z
        · have : p2 = p1 + m := congrArg Prod.snd z
          omega
        · simp only at z
          exact Prod.ext rfl (by show p2 = _; omega)
        · simp only at z
          omega
    · exact ih x hx
theorem rgt_mx {n e : Nat} : ∀ (m b : Nat), tree n b m → b ≤ e → e < b + m → b + m ≤ n → Mx n (e + 1) n (rgt b m e) := by
  refine way_ind (fun b m h _ _ _ => ?_) (fun b m h t hb k hn ih => ?_) (fun b m h _ _ k _ _ ih => ?_)
  · rw [rgt_one h]; exact fun x hx => by cases hx
  · rw [rgt_low h k]
    intro x hx
    rcases List.mem_append.mp hx with hx | hx
    · exact ih x hx
    · rw [List.mem_singleton] at hx
      subst hx
      rintro ⟨p1, p2⟩ hp q1 q2 q3 q4
      simp only at q1 q2 q3 q4
      have g := gp_lt h
      obtain ⟨a1, a2, a3⟩ := isN_tree hp
      have := lam (n := n) (b := b) (m := m) (B := p1) (M := p2 - p1) t (by omega) a3 hn (by omega) (by omega) (by omega)
      have e2 : p2 = b + m := by omega
      rcases node_in h t hn hp (by show b ≤ p1; omega) (by show p2 ≤ b + m; omega) with z | z | z
      · have : p1 = b := congrArg Prod.fst z
        omega
      · simp only at z
        omega
      · simp only at z
        exact Prod.ext (by show p1 = _; omega) (by show p2 = _; omega)
  · rw [rgt_high h k]; exact ih
/-- what lies ahead of an entry, and behind it -/
theorem nw_lft {n e : Nat} (h : e < n) : nw n 0 e = lft 0 n e := by
  have r := tree_root n
  exact nw_unique (n := n) (hi := e) (lo0 := 0) (by omega) _ _ 0 (Nat.le_refl _) (nw_ch (by omega) 0 (by omega)) (lft_ch n 0 r (by omega) (by omega) (by omega)) (nw_max (by omega) (by omega)) (lft_mx h n 0 r (by omega) (by omega) (by omega))
theorem nw_rgt {n e : Nat} (h : e < n) : nw n (e + 1) n = rgt 0 n e := by
  have r := tree_root n
  have c := rgt_ch (e := e) n 0 r (by omega) (by omega) (by omega)
  rw [Nat.zero_add] at c
  exact nw_unique (n := n) (hi := n) (lo0 := e + 1) (Nat.le_refl _) _ _ (e + 1) (Nat.le_refl _) (nw_ch (Nat.le_refl _) (e + 1) (by omega)) c (nw_max (Nat.le_refl _) (by omega)) (rgt_mx n 0 r (by omega) (by omega) (by omega))
theorem nw_single {n e : Nat} (h : e < n) : (nw n 0 e).length + (nw n (e + 1) n).length = (sib 0 n e).length := by
  rw [nw_lft h, nw_rgt h]
  exact sides_len n 0 (tree_root n) (by omega) (by omega) (by omega)
/-! ### peaks -/
theorem pk_ch {n e : Nat} (he : e ≤ n) : ∀ (i b : Nat), 2 ^ i ∣ b → b + e % 2 ^ i = e → Ch n b e ((pk i e b).map full)
  | 0, b, _, h => by rw [Nat.pow_zero, Nat.mod_one] at h; exact h
  | i + 1, b, d, h => by
    rw [mod_succ] at h
    have d' : 2 ^ i ∣ b := Nat.dvd_trans (Nat.pow_dvd_pow 2 (Nat.le_succ i)) d
    show Ch n b e ((if e.testBit i = true then (b, i) :: pk i e (b + 2 ^ i) else pk i e b).map full)
    by_cases t : e.testBit i = true
    · rw [if_pos t] at h ⊢
      refine ⟨rfl, (show isN n (b, b + 2 ^ i) from full_isN (by omega) d'), ?_, pk_ch he i (b + 2 ^ i) (Nat.dvd_add d' (Nat.dvd_refl _)) (by omega)⟩
      show b + 2 ^ i ≤ e
      omega
    · rw [if_neg t] at h ⊢
      exact pk_ch he i b d' (by omega)
theorem pk_mx {n e : Nat} (he : e < n) : ∀ (i b : Nat), 2 ^ i ∣ b → b + e % 2 ^ i = e → Mx n 0 e ((pk i e b).map full)
  | 0, b, _, h => fun x hx => by cases hx
  | i + 1, b, d, h => by
    have ml := Nat.mod_lt e (Nat.pow_pos (a := 2) (n := i + 1) (by decide))
    have hh := h
    rw [mod_succ] at h
    have d' : 2 ^ i ∣ b := Nat.dvd_trans (Nat.pow_dvd_pow 2 (Nat.le_succ i)) d
    show Mx n 0 e ((if e.testBit i = true then (b, i) :: pk i e (b + 2 ^ i) else pk i e b).map full)
    by_cases t : e.testBit i = true
    · rw [if_pos t] at h ⊢
      intro x hx
      rw [List.map_cons] at hx
      rcases List.mem_cons.mp hx with rfl | hx
      · rintro ⟨p1, p2⟩ hp _ q2 q3 q4
        have q3 : p1 ≤ b := q3
        have q4 : b + 2 ^ i ≤ p2 := q4
        simp only at q2
        have pz := Nat.pow_pos (a := 2) (n := i) (by decide)
        obtain ⟨a1, a2, a3, a4⟩ := isN_tree hp
        have a5 : p2 - p1 = 2 ^ lb (p2 - p1) := by
          rcases a4 with a4 | a4
          · exact a4
          · omega
        by_cases c : i < lb (p2 - p1)
        · have m1 := Nat.pow_le_pow_right (n := 2) (by decide) (show i + 1 ≤ lb (p2 - p1) from c)
          have m2 := mul_le_of_lt (R := 2 ^ (i + 1)) d (Nat.dvd_add (Nat.dvd_trans (Nat.pow_dvd_pow 2 (show i + 1 ≤ lb (p2 - p1) from c)) a3) (Nat.pow_dvd_pow 2 (show i + 1 ≤ lb (p2 - p1) from c))) (show b < p1 + 2 ^ lb (p2 - p1) by omega)
          omega
        · have m1 := Nat.pow_le_pow_right (n := 2) (by decide) (show lb (p2 - p1) ≤ i by omega)
          exact Prod.ext (by show p1 = b; omega) (by show p2 = b + 2 ^ i; omega)
      · exact pk_mx he i (b + 2 ^ i) (Nat.dvd_add d' (Nat.dvd_refl _)) (by omega) x hx
    · rw [if_neg t] at h ⊢
      exact pk_mx he i b d' (by omega)
theorem nw_pk {n e : Nat} (h : e < n) (h100 : e < 2 ^ 101) : nw n 0 e = (pk 101 e 0).map full := by
  have em : 0 + e % 2 ^ 101 = e := by rw [Nat.mod_eq_of_lt h100, Nat.zero_add]
  exact nw_unique (n := n) (hi := e) (lo0 := 0) (by omega) _ _ 0 (Nat.le_refl _) (nw_ch (by omega) 0 (by omega)) (pk_ch (by omega) 101 0 (Nat.dvd_zero _) em) (nw_max (by omega) (by omega)) (pk_mx h 101 0 (Nat.dvd_zero _) em)
theorem pk_even : ∀ (i c b b' : Nat), (pk (i + 1) (2 * c) b).length = (pk i c b').length
  | 0, c, b, b' => by
    show (if (2 * c).testBit 0 = true then _ else _ : List (Nat × Nat)).length = 0
    have : (2 * c).testBit 0 = false := by simp
    rw [this]
    rfl
  | i + 1, c, b, b' => by
    show (if (2 * c).testBit (i + 1) = true then (b, i + 1) :: pk (i + 1) (2 * c) (b + 2 ^ (i + 1)) else pk (i + 1) (2 * c) b).length = (if c.testBit i = true then (b', i) :: pk i c (b' + 2 ^ i) else pk i c b').length
    rw [Nat.testBit_succ, show 2 * c / 2 = c by omega]
    by_cases t : c.testBit i = true
    · rw [if_pos t, if_pos t, List.length_cons, List.length_cons, pk_even i c _ (b' + 2 ^ i)]
    · rw [if_neg t, if_neg t, pk_even i c b b']
theorem pk_odd : ∀ (i c b b' : Nat), (pk (i + 1) (2 * c + 1) b).length = (pk i c b').length + 1
  | 0, c, b, b' => by
    show (if (2 * c + 1).testBit 0 = true then (b, 0) :: ([] : List (Nat × Nat)) else []).length = 0 + 1
    have : (2 * c + 1).testBit 0 = true := by simp
    rw [this]
    rfl
  | i + 1, c, b, b' => by
    show (if (2 * c + 1).testBit (i + 1) = true then (b, i + 1) :: pk (i + 1) (2 * c + 1) (b + 2 ^ (i + 1)) else pk (i + 1) (2 * c + 1) b).length = (if c.testBit i = true then (b', i) :: pk i c (b' + 2 ^ i) else pk i c b').length + 1
    rw [Nat.testBit_succ, show (2 * c + 1) / 2 = c by omega]
    by_cases t : c.testBit i = true
    · rw [if_pos t, if_pos t, List.length_cons, List.length_cons, pk_odd i c _ (b' + 2 ^ i)]
    · rw [if_neg t, if_neg t, pk_odd i c b b']
theorem pow_dvd_odd {k c : Nat} (h : 2 ^ k ∣ 2 * c + 1) : k = 0 := by
  cases k with
  | zero => rfl
  | succ k =>
    have := Nat.dvd_trans (⟨2 ^ k, by rw [Nat.pow_succ, Nat.mul_comm]⟩ : 2 ∣ 2 ^ (k + 1)) h
    omega
theorem pk_pred : ∀ (i e k b b' : Nat), 0 < e → e < 2 ^ i → 2 ^ k ∣ e → ¬ 2 ^ (k + 1) ∣ e → (pk i e b).length + k = (pk i (e - 1) b').length + 1
  | 0, e, k, _, _, h, h2, _, _ => by simp at h2; omega
  | i + 1, e, k, b, b', h, h2, d1, d2 => by
    rcases Nat.mod_two_eq_zero_or_one e with z | z
    · obtain ⟨c, rfl⟩ : ∃ c, e = 2 * c := ⟨e / 2, by omega⟩
      have kp : k ≠ 0 := fun y => d2 (by rw [y]; exact ⟨c, by simp⟩)
      obtain ⟨j, rfl⟩ : ∃ j, k = j + 1 := ⟨k - 1, by omega⟩
      rw [Nat.pow_succ] at h2
      have ih := pk_pred i c j 0 0 (by omega) (by omega) (by rw [Nat.pow_succ, Nat.mul_comm] at d1; exact Nat.dvd_of_mul_dvd_mul_left (by decide) d1) (fun y => d2 (by rw [Nat.pow_succ, Nat.mul_comm]; exact Nat.mul_dvd_mul_left 2 y))
      rw [show 2 * c - 1 = 2 * (c - 1) + 1 by omega, pk_even i c b 0, pk_odd i (c - 1) b' 0]
      omega
    · obtain ⟨c, rfl⟩ : ∃ c, e = 2 * c + 1 := ⟨e / 2, by omega⟩
      have := pow_dvd_odd d1
      subst this
      rw [show 2 * c + 1 - 1 = 2 * c by omega, pk_odd i c b 0, pk_even i c b' 0]
theorem lb_big {n : Nat} (h : 2 ≤ n) : lb n = Nat.log2 (n - 1) + 1 := by unfold lb; rw [if_neg (by omega)]
end LT

namespace LT
open PySem PySem.Spec PyProof.Rows L2
/-! ### lists of ints as data -/
theorem ints_lay : ∀ ns : List Int, PyData.canLayAll0 (ns.map PyData.int) = true
  | [] => by simp [PyData.canLayAll0]
  | n :: ns => by simp [PyData.canLayAll0, PyData.canLay0, ints_lay ns]
theorem ints_depth : ∀ ns : List Int, PyData.depthAll (ns.map PyData.int) ≤ 1
  | [] => by simp [PyData.depthAll]
  | n :: ns => by
    have := ints_depth ns
    simp only [List.map_cons, PyData.depthAll, PyData.depth]
    omega
theorem ints_shaped (ns : List Int) : SeqAt.shaped (.list (ns.map PyData.int)) = true := by
  have h := ints_depth ns
  have h2 : PyData.depth (.list (ns.map PyData.int)) ≤ 64 := by
    simp only [PyData.depth]
    omega
  show (PyData.canLay0 (.list (ns.map PyData.int)) && decide (PyData.depth (.list (ns.map PyData.int)) ≤ 64)) = true
  rw [Bool.and_eq_true]
  exact ⟨by simp only [PyData.canLay0]; exact ints_lay ns, decide_eq_true h2⟩
theorem ints_dp {K : PySem.W.Frag} {H : Hp} : ∀ ns : List Int, DpAll K H (ns.map V.int) (ns.map PyData.int)
  | [] => .nil
  | n :: ns => .cons (.int n) (ints_dp ns)
theorem ints_nil : ∀ ns : List Int, PyData.eqv (.list (ns.map PyData.int)) (.list []) = ns.isEmpty
  | [] => by simp only [List.map_nil, PyData.eqv, PyData.eqvAll, List.isEmpty_nil]
  | n :: ns => by simp only [List.map_cons, PyData.eqv, PyData.eqvAll, List.isEmpty_cons]
theorem nil_shaped : SeqAt.shaped (.list []) = true := ints_shaped []
end LT

namespace LT
open PySem PySem.Spec PyProof.Rows L2
def nd (x : Nat × Nat) : PyData := .tuple [.int x.1, .int x.2]
theorem nds_lay : ∀ l : List (Nat × Nat), PyData.canLayAll0 (l.map nd) = true
  | [] => by simp [PyData.canLayAll0]
  | x :: l => by simp [PyData.canLayAll0, nd, PyData.canLay0, nds_lay l]
theorem nds_depth : ∀ l : List (Nat × Nat), PyData.depthAll (l.map nd) ≤ 2
  | [] => by simp [PyData.depthAll]
  | x :: l => by
    have := nds_depth l
    simp only [List.map_cons, PyData.depthAll, nd, PyData.depth]
    omega
theorem nds_shaped (l : List (Nat × Nat)) : SeqAt.shaped (.list (l.map nd)) = true := by
  have h := nds_depth l
  have h2 : PyData.depth (.list (l.map nd)) ≤ 64 := by
    simp only [PyData.depth]
    omega
  show (PyData.canLay0 (.list (l.map nd)) && decide (PyData.depth (.list (l.map nd)) ≤ 64)) = true
  rw [Bool.and_eq_true]
  exact ⟨by simp only [PyData.canLay0]; exact nds_lay l, decide_eq_true h2⟩
theorem nds_dp {K : PySem.W.Frag} {H : Hp} : ∀ {vs : List V} {l : List (Nat × Nat)}, All2 (Nd H) vs l → DpAll K H vs (l.map nd)
  | _, _, .nil => .nil
  | _, _, .cons h t => .cons h.dp (nds_dp t)
theorem nds_any (l : List (Nat × Nat)) (x : Nat × Nat) : (l.map nd).any (fun z => PyData.eqv z (.tuple [.int x.1, .int x.2])) = decide (x ∈ l) := by
  induction l with
  | nil => simp
  | cons y l ih =>
    rw [List.map_cons, List.any_cons, ih]
    show (PyData.eqv (.tuple [.int y.1, .int y.2]) _ || _) = _
    rw [nd_eqv]
    by_cases c : x = y
    · subst c
      simp
    · have e : (decide ((y.1 : Int) = (x.1 : Int)) && decide ((y.2 : Int) = (x.2 : Int))) = false := by
        rw [Bool.and_eq_false_iff]
        by_cases c1 : y.1 = x.1
        · right
          refine decide_eq_false (fun z => c (Prod.ext c1.symm ?_))
          omega
        · left
          exact decide_eq_false (fun z => c1 (by omega))
      rw [e, Bool.false_or]
      simp [c]
end LT

namespace LT
open PySem PySem.Spec PyProof.Rows L2
theorem ndt_shaped (l : List (Nat × Nat)) : SeqAt.shaped (.tuple (l.map nd)) = true := by
  have h := nds_depth l
  have h2 : PyData.depth (.tuple (l.map nd)) ≤ 64 := by
    simp only [PyData.depth]
    omega
  show (PyData.canLay0 (.tuple (l.map nd)) && decide (PyData.depth (.tuple (l.map nd)) ≤ 64)) = true
  rw [Bool.and_eq_true]
  exact ⟨by simp only [PyData.canLay0]; exact nds_lay l, decide_eq_true h2⟩
theorem tup_dp {K : PySem.W.Frag} {H : Hp} {p : Addr} {vs : List V} {l : List (Nat × Nat)} (h : H p = some (.tup vs)) (k : All2 (Nd H) vs l) : Dp K H (.ref p) (.tuple (l.map nd)) := .tup (SqT.of h) (nds_dp k)
theorem lst_dp {K : PySem.W.Frag} {H : Hp} {p : Addr} {vs : List V} {l : List (Nat × Nat)} (h : H p = some (.lst vs)) (k : All2 (Nd H) vs l) : Dp K H (.ref p) (.list (l.map nd)) := .lst (SqL.of h) (nds_dp k)
end LT

namespace LT
open PySem PySem.Spec PyProof.Rows L2
section
variable {P : Program} {w : World} {K : PySem.W.Frag} {mg : Str → Option Value} {base : Heap}
/-! ### walking an enumerate -/
theorem for_enum {a : Addr} {xs : List V} {g : TG} {tb : TS} {D : Ends} {σ : L2.St} {H : Hp} (Pv : Nat → L2.St → Hp → Prop) (h0 : Pv 0 σ H) (hl : ∀ i σ H, i ≤ xs.length → Pv i σ H → SqL K H a xs)
    (hs : ∀ i x σ H T, xs[i]? = some x → Pv i σ H → H T = none → g (.ref T) σ (upd H T (.tup [.int (i : Nat), x])) fun σ2 H2 => tb { D with nx := Pv (i + 1), ct := Pv (i + 1), bk := D.nx } σ2 H2) (hd : ∀ σ H, Pv xs.length σ H → D.nx σ H) :
    ∃ W : Nat → Nat → L2.St → Hp → Prop, (∃ m, W 0 m σ H) ∧ ∀ i m σ H, W i m σ H →
      ((Ite K a).stop i H ∧ D.nx σ H) ∨ ((Ite K a).go i H ∧ ∃ N : L2.St → Hp → Prop, (∀ σ' H', N σ' H' → ∃ m', m' < m ∧ W (i + 1) m' σ' H') ∧ ∀ x H', (Ite K a).yld i H x H' → g x σ H' fun σ2 H2 => tb { D with nx := N, ct := N, bk := D.nx } σ2 H2) := by
  refine ⟨fun i m σ H => m = xs.length - i ∧ i ≤ xs.length ∧ Pv i σ H, ⟨xs.length, by simp, Nat.zero_le _, h0⟩, ?_⟩
  rintro i m σ H ⟨rfl, hi, p⟩
  have q := hl i σ H hi p
  by_cases hlt : i < xs.length
  · refine .inr ⟨⟨xs, xs[i], q, by simp [hlt]⟩, Pv (i + 1), fun σ' H' p' => ⟨xs.length - (i + 1), by omega, rfl, hlt, p'⟩, fun x H' y => ?_⟩
    obtain ⟨T, x1, rfl, nT, rfl, f⟩ := y
    exact hs i x1 σ H T (f xs q) p nT
  · have e : i = xs.length := by omega
    subst e
    exact .inl ⟨⟨xs, q, Nat.le_refl _⟩, hd σ H p⟩
end
end LT

namespace LT
open PySem PySem.Spec PyProof.Rows L2
/-- spans, each one at or behind the end of the one ahead -/
def So (n : Nat) : Nat → List (Nat × Nat) → Prop
  | lo, [] => lo ≤ n
  | lo, x :: l => lo ≤ x.1 ∧ x.1 < x.2 ∧ x.2 ≤ n ∧ So n x.2 l
theorem So.le {n : Nat} : ∀ {lo : Nat} {l : List (Nat × Nat)}, So n lo l → lo ≤ n
  | _, [], h => h
  | _, _ :: _, ⟨h1, h2, h3, _⟩ => by omega
theorem So.mem {n : Nat} : ∀ {lo : Nat} {l : List (Nat × Nat)}, So n lo l → ∀ x ∈ l, lo ≤ x.1 ∧ x.1 < x.2 ∧ x.2 ≤ n
  | lo, y :: l, ⟨h1, h2, h3, h4⟩, x, hx => by
    rcases List.mem_cons.mp hx with rfl | hx
    · exact ⟨h1, h2, h3⟩
    · obtain ⟨k1, k2, k3⟩ := So.mem h4 x hx
      exact ⟨by omega, k2, k3⟩
/-- the needed nodes -/
def nl (n : Nat) : Nat → List (Nat × Nat) → List (Nat × Nat)
  | lo, [] => nw n lo n
  | lo, x :: l => nw n lo x.1 ++ nl n x.2 l
section
variable {P : Program} {w : World} {K : PySem.W.Frag} {mg : Str → Option Value} {base : Heap}
def spListOf : Sp := fun vs H Q _ => ∃ (p : Addr) (xs : List V) (lo hi : Nat), vs = [.ref p, .int lo, .int hi] ∧ H p = some (.lst xs) ∧ lo ≤ xs.length ∧ xs.length ≤ hi ∧ Q (.bl true) H
theorem ok_is_list_of {f : Addr} {fd : FuncData} (F : Fun K "is_list_of" "is_list_of" sIsListOf f fd) (z_isinstance : mg "isinstance" = none) (z_list : mg "list" = none) (z_len : mg "len" = none) : FnOk P w K mg base CX0 1 f fd ["value", "least", "most"] spListOf := by
  refine F.ok scIsListOf (fun vs H Q E h => ?_) (fun cdv A outer s H vs Q E hr h => ?_)
  · obtain ⟨_, _, _, _, rfl, _⟩ := h
    rfl
  obtain ⟨p, xs, lo, hi, rfl, hp, h1, h2, q⟩ := h
  refine ⟨_, (pss_one (ps_ret (pe_and (pe_callB call_isi (by rfl) z_isinstance (by decide +kernel) (pa_cons (pv 0) (pa_cons (pe_bltn (v := .ty "list") (u := .type "list") (by rfl) z_list (by decide +kernel) rfl) pa_nil))) (pe_one (pe_chain op_le op_le (pv 1) (pe_callB call_len_seq (by rfl) z_len PySem.boot_len (pa_cons (pv 0) pa_nil)) (pv 2)))))), ?_⟩
  refine ⟨_, rfl, _, _, _, _, true, rfl, .ty "list", .base (.lst hp), kit_ty (by decide +kernel), true, rfl, ?_⟩
  refine ⟨_, rfl, _, rfl, p, xs, rfl, .inl (SqL.of hp), _, _, rfl, rfl, true, congrArg V.bl (decide_eq_true (by omega)), _, rfl, _, _, rfl, rfl, ?_⟩
  show Q (.bl (decide (((xs.length : Nat) : Int) ≤ (hi : Int)))) H
  rw [decide_eq_true (show ((xs.length : Nat) : Int) ≤ (hi : Int) by omega)]
  exact q
end
end LT

namespace LT
open PySem PySem.Spec PyProof.Rows L2
def cst (x : Nat × Nat) : Int × Int := (x.1, x.2)
theorem lex_anti (x y : Int × Int) (h1 : SrtO.lexB y x = false) (h2 : SrtO.lexB x y = false) : x = y := by
  unfold SrtO.lexB at h1 h2
  by_cases c : x.1 = y.1
  · rw [if_pos c.symm] at h1
    rw [if_pos c] at h2
    have := of_decide_eq_false h1
    have := of_decide_eq_false h2
    exact Prod.ext c (by omega)
  · rw [if_neg (fun z => c z.symm)] at h1
    rw [if_neg c] at h2
    have := of_decide_eq_false h1
    have := of_decide_eq_false h2
    omega
/-- the key of a pair in the heap -/
def kOf (H : Hp) : V → Int × Int
  | .ref a => match H a with
    | some (.tup [.int i, .int j]) => (i, j)
    | _ => (0, 0)
  | _ => (0, 0)
theorem kOf_nd {H : Hp} {v : V} {x : Nat × Nat} (h : Nd H v x) : kOf H v = cst x := by
  obtain ⟨p, rfl, q⟩ := h
  unfold kOf
  simp only [q]
  rfl
theorem keys_of {H : Hp} : ∀ {vs : List V} {l : List (Nat × Nat)}, All2 (Nd H) vs l → vs.map (kOf H) = l.map cst
  | _, _, .nil => rfl
  | _, _, .cons h t => by rw [List.map_cons, List.map_cons, kOf_nd h, keys_of t]
theorem cst_inj {x y : Nat × Nat} (h : cst x = cst y) : x = y := by
  have h1 := congrArg Prod.fst h
  have h2 := congrArg Prod.snd h
  unfold cst at h1 h2
  simp only at h1 h2
  exact Prod.ext (by omega) (by omega)
theorem of_keys {H : Hp} : ∀ (vs : List V) (l : List (Nat × Nat)), vs.map (kOf H) = l.map cst → (∀ v ∈ vs, ∃ x, Nd H v x) → All2 (Nd H) vs l
  | [], [], _, _ => .nil
  | [], y :: l, h, _ => by cases h
  | v :: vs, [], h, _ => by cases h
  | v :: vs, y :: l, h, k => by
    rw [List.map_cons, List.map_cons, List.cons.injEq] at h
    obtain ⟨x, hx⟩ := k v List.mem_cons_self
    have e : x = y := cst_inj (by rw [← kOf_nd hx]; exact h.1)
    subst e
    exact .cons hx (of_keys vs l h.2 fun u hu => k u (List.mem_cons_of_mem _ hu))
theorem All2.mem {α : Type} {R : V → α → Prop} : ∀ {vs : List V} {xs : List α} {v : V}, All2 R vs xs → v ∈ vs → ∃ x, x ∈ xs ∧ R v x
  | _, _, _, .cons h t, m => by
    rcases List.mem_cons.mp m with rfl | m
    · exact ⟨_, List.mem_cons_self, h⟩
    · obtain ⟨x, k1, k2⟩ := All2.mem t m
      exact ⟨x, List.mem_cons_of_mem _ k1, k2⟩
def leN (x y : Nat × Nat) : Bool := decide (x.1 < y.1) || (decide (x.1 = y.1) && decide (x.2 ≤ y.2))
theorem leN_iff {x y : Nat × Nat} : leN x y = true ↔ x.1 < y.1 ∨ (x.1 = y.1 ∧ x.2 ≤ y.2) := by
  unfold leN
  simp only [Bool.or_eq_true, Bool.and_eq_true, decide_eq_true_eq]
theorem leN_trans (a b c : Nat × Nat) (h1 : leN a b = true) (h2 : leN b c = true) : leN a c = true := by
  rw [leN_iff] at *
  omega
theorem leN_total (a b : Nat × Nat) : (leN a b || leN b a) = true := by
  rw [Bool.or_eq_true, leN_iff, leN_iff]
  omega
/-- the pairs in their order -/
def srt (l : List (Nat × Nat)) : List (Nat × Nat) := l.mergeSort leN
theorem srt_perm (l : List (Nat × Nat)) : (srt l).Perm l := List.mergeSort_perm l leN
theorem srt_pair (l : List (Nat × Nat)) : (srt l).Pairwise (fun x y => leN x y = true) := List.pairwise_mergeSort leN_trans leN_total l
theorem srt_len (l : List (Nat × Nat)) : (srt l).length = l.length := (srt_perm l).length_eq
theorem srt_mem {l : List (Nat × Nat)} {x : Nat × Nat} : x ∈ srt l ↔ x ∈ l := (srt_perm l).mem_iff
theorem leN_anti {x y : Nat × Nat} (h1 : leN x y = true) (h2 : leN y x = true) : x = y := by
  rw [leN_iff] at *
  exact Prod.ext (by omega) (by omega)
theorem srt_id {l : List (Nat × Nat)} (h : l.Pairwise (fun x y => leN x y = true)) : srt l = l :=
  List.Perm.eq_of_pairwise (le := fun x y => leN x y = true) (fun _ _ _ _ h1 h2 => leN_anti h1 h2) (srt_pair l) h (srt_perm l)
theorem srt_eq {l k : List (Nat × Nat)} (h : l.Perm k) : srt l = srt k :=
  List.Perm.eq_of_pairwise (le := fun x y => leN x y = true) (fun _ _ _ _ h1 h2 => leN_anti h1 h2) (srt_pair l) (srt_pair k) ((srt_perm l).trans (h.trans (srt_perm k).symm))
theorem lexB_of {x y : Nat × Nat} (h : leN x y = true) : SrtO.lexB (cst y) (cst x) = false := by
  rw [leN_iff] at h
  show (if ((y.1 : Nat) : Int) = ((x.1 : Nat) : Int) then decide (((y.2 : Nat) : Int) < ((x.2 : Nat) : Int)) else decide (((y.1 : Nat) : Int) < ((x.1 : Nat) : Int))) = false
  by_cases c : y.1 = x.1
  · rw [if_pos (by omega)]; exact decide_eq_false (by omega)
  · rw [if_neg (by omega)]; exact decide_eq_false (by omega)
theorem sorted_srt {H : Hp} {xs ys : List V} {l : List (Nat × Nat)} (hx : All2 (Nd H) xs l) (h : SrtO.Srtd (ltP (kOf H)) ys) (p : ys.Perm xs) : All2 (Nd H) ys (srt l) := by
  refine of_keys ys (srt l) ?_ (fun v hv => ?_)
  · have p1 := (p.map (kOf H))
    rw [keys_of hx] at p1
    refine List.Perm.eq_of_pairwise (le := fun x y => SrtO.lexB y x = false) (fun a b _ _ h1 h2 => lex_anti a b h1 h2) ?_ ?_ (p1.trans ((srt_perm l).map cst).symm)
    · exact List.pairwise_map.mpr h
    · exact List.pairwise_map.mpr ((srt_pair l).imp fun h => lexB_of h)
  · obtain ⟨x, _, k⟩ := hx.mem (p.mem_iff.mp hv)
    exact ⟨x, k⟩
end LT

namespace LT
open PySem PySem.Spec PyProof.Rows L2
/-- the greatest nodes beside stretches that ascend by their begins -/
def nb (n : Nat) : Nat → List (Nat × Nat) → List (Nat × Nat)
  | lo, [] => nw n lo n
  | lo, x :: l => nw n lo x.1 ++ nb n (max lo x.2) l
theorem nb_len {n : Nat} (h : n ≤ 2 ^ 100) : ∀ (l : List (Nat × Nat)) (lo : Nat), (∀ x ∈ l, x.1 ≤ n) → (nb n lo l).length ≤ 202 * (l.length + 1)
  | [], lo, _ => nw_len h
  | x :: l, lo, k => by
    have k1 := k x List.mem_cons_self
    have a := nw_len (n := n) (b := lo) (e := x.1) (by omega)
    have b := nb_len h l (max lo x.2) (fun y hy => k y (List.mem_cons_of_mem _ hy))
    show (nw n lo x.1 ++ nb n (max lo x.2) l).length ≤ 202 * (l.length + 1 + 1)
    rw [List.length_append]
    omega
theorem max_castB (a c : Nat) : (if ((c : Nat) : Int) > (a : Int) then (c : Int) else (a : Int)) = ((max a c : Nat) : Int) := by split <;> omega
section
variable {P : Program} {w : World} {K : PySem.W.Frag} {mg : Str → Option Value} {base : Heap}
def spBeside : Sp := fun vs H Q _ => ∃ (n : Nat) (p : Addr) (xs : List V) (S : List (Nat × Nat)), vs = [.int n, .ref p] ∧ 1 ≤ n ∧ n ≤ 10 ^ 30 ∧ H p = some (.lst xs) ∧ All2 (Nd H) xs S ∧ S.length ≤ 400 ∧ (∀ x ∈ S, x.1 ≤ n) ∧
  ∀ (H' : Hp) (r : Addr) (ys : List V), Same H H' → H r = none → H' r = some (.lst ys) → All2 (Nd H') ys (nb n 0 (srt S)) → Q (.ref r) H'
theorem ok_nodes_beside {f g3 : Addr} {fd d3 : FuncData} (F : Fun K "nodes_beside" "nodes_beside" sNodesBeside f fd)
    (GNodesWithin : FnOk P w K mg base CX0 4 g3 d3 ["size", "begin", "end"] spWithinX) (ANodesWithin : At K mg "nodes_within" g3 d3 ["size", "begin", "end"]) (z_sorted : mg "sorted" = none) (z_max : mg "max" = none) : FnOk P w K mg base CX0 5 f fd ["size", "stretches"] spBeside := by
  refine F.ok scNodesBeside (fun vs H Q E h => ?_) (fun cdv A outer s H vs Q E hr h => ?_)
  · obtain ⟨_, _, _, _, rfl, _⟩ := h
    rfl
  obtain ⟨n, p, xs, S, rfl, n1, h30, hp, hx, l400, hS, q⟩ := h
  refine ⟨_, (pss_cons (ps_set (i := 2) scNodesBeside.nd rfl (Or.inl rfl) (pe_lst pa_nil))
    (pss_cons (ps_set (i := 3) scNodesBeside.nd rfl (Or.inl rfl) pe_int)
    (pss_cons (ps_for PassesOwn.never rfl (pi_list (pe_callB cr_sortedPO (by rfl) z_sorted (by decide +kernel) (pa_cons (pv 1) pa_nil))) (pg_tup (by rfl) (pgs_cons (pg_name (i := 4) scNodesBeside.nd rfl (Or.inl rfl)) (pgs_cons (pg_name (i := 5) scNodesBeside.nd rfl (Or.inl rfl)) pgs_nil)))
    (pss_cons (ps_expr (pe_bm PySem.F.plainAttrs_list PySem.F.slot_list_extend PySem.F.type_list_extend mt_extend (pv 2) (pa_cons (pe_call GNodesWithin (hr.mono (by decide)) rfl ANodesWithin.m ANodesWithin.kp ANodesWithin.b .nil pass0 (pa_cons (pv 0) (pa_cons (pv 3) (pa_cons (pv 4) pa_nil)))) pa_nil)))
    (pss_one (ps_set (i := 3) scNodesBeside.nd rfl (Or.inl rfl) (pe_callB (call_max2 rfl) (by rfl) z_max (by decide +kernel) (pa_cons (pv 3) (pa_cons (pv 5) pa_nil)))))))
    (pss_cons (ps_expr (pe_bm PySem.F.plainAttrs_list PySem.F.slot_list_extend PySem.F.type_list_extend mt_extend (pv 2) (pa_cons (pe_call GNodesWithin (hr.mono (by decide)) rfl ANodesWithin.m ANodesWithin.kp ANodesWithin.b .nil pass0 (pa_cons (pv 0) (pa_cons (pv 3) (pa_cons (pv 0) pa_nil)))) pa_nil)))
    (pss_one (ps_ret (pv 2))))))), ?_⟩
  refine ⟨Nat.zero_le _, fun fa nf => ?_⟩
  have s2 := same_upd (o := .lst []) nf
  have hx2 := hx.mono (fun v x (k : Nd H v x) => k.same s2)
  have hp2 := s2 _ _ hp
  have hf2 : (upd H fa (.lst [])) fa = some (.lst []) := upd_same
  generalize upd H fa (.lst []) = H2 at s2 hx2 hp2 hf2
  refine ⟨_, rfl, p, xs, kOf H2, rfl, SqL.of hp2, fun x hm => ?_, fun ys so hs1 hs2 nso => ?_⟩
  · obtain ⟨y, _, pa, rfl, hpa⟩ := hx2.mem hm
    exact ⟨pa, rfl, by rw [hpa]; simp only [kOf, hpa]⟩
  have s3 := same_upd (o := .lst ys) nso
  have hy0 := (sorted_srt hx2 hs1 hs2.perm).mono (fun v x (k : Nd H2 v x) => k.same s3)
  have hso : (upd H2 so (.lst ys)) so = some (.lst ys) := upd_same
  have hf3 := s3 _ _ hf2
  have sof : so ≠ fa := fun z => by rw [z, hf2] at nso; cases nso
  have s03 := s2.trans s3
  have tot := nb_len (n := n) (by omega) (srt S) 0 (fun x hx => hS x (srt_mem.mp hx))
  have hT : ∀ x ∈ srt S, x.1 ≤ n := fun x hx => hS x (srt_mem.mp hx)
  have tl : (srt S).length ≤ 400 := by rw [srt_len]; exact l400
  generalize srt S = T at q hy0 tot hT tl
  generalize upd H2 so (.lst ys) = H3 at s3 hso hf3 hy0 s03
  have yl := hy0.len
  refine ⟨so, rfl, ⟨_, SqL.of hso⟩, for_list (K := K) (a := so) (xs := ys) (fun i σ H' => ∃ (lo : Nat) (v4 v5 : Option V) (zs : List V) (done : List (Nat × Nat)), σ = [some (.int (n : Int)), some (.ref p), some (.ref fa), some (.int (lo : Int)), v4, v5] ∧ Same H H' ∧ But fa H3 H' ∧ H' fa = some (.lst zs) ∧ All2 (Nd H') zs done ∧ done ++ nb n lo (T.drop i) = nb n 0 T)
    ⟨0, none, none, [], [], rfl, s03, But.refl _ _, hf3, .nil, rfl⟩ (fun i σ H' _ ⟨_, _, _, _, _, _, _, k, _⟩ => SqL.of (k _ _ sof hso)) ?_ ?_⟩
  · rintro i v σ H4 hi ⟨lo, v4, v5, zs, done, rfl, sm, B4, hf, hz, hd⟩
    obtain ⟨x, hxi, pv, rfl, hpv⟩ := hy0.nth hi
    have hdr : T.drop i = x :: T.drop (i + 1) := by
      obtain ⟨hl, hxe⟩ := List.getElem?_eq_some_iff.mp hxi
      rw [List.drop_eq_getElem_cons hl, hxe]
    rw [hdr] at hd
    have xn := hT x (List.mem_of_getElem? hxi)
    have pvf : pv ≠ fa := fun z => by rw [z, hf3] at hpv; cases hpv
    have hpv4 := B4 _ _ pvf hpv
    refine ⟨pv, _, rfl, SqT.of hpv4, rfl, _, _, rfl, _, _, rfl, rfl, ?_⟩
    refine ⟨_, rfl, .inl ⟨rfl, _, SqL.of hf⟩, _, rfl, _, rfl, _, rfl, n, lo, x.1, rfl, n1, by omega, xn, by omega, fun H5 r us s5 nr hr5 hu => ?_⟩
    have hf5 := s5 _ _ hf
    have lz : zs.length + us.length ≤ 100000 := by
      have k := congrArg List.length hd
      rw [List.length_append] at k
      have k2 : (nb n lo (x :: T.drop (i + 1))).length = (nw n lo x.1).length + (nb n (max lo x.2) (T.drop (i + 1))).length := by
        show (nw n lo x.1 ++ _).length = _
        rw [List.length_append]
      rw [hz.len, hu.len]
      omega
    refine ⟨fa, r, zs, us, rfl, rfl, hf5, hr5, szle (by omega), ?_⟩
    refine ⟨_, rfl, _, rfl, _, _, rfl, ?_⟩
    rw [max_castB]
    refine ⟨max lo x.2, _, _, zs ++ us, done ++ nw n lo x.1, rfl, ?_, ?_, upd_same, ?_, ?_⟩
    · exact fun a o k => by rw [upd_ne (ne_of_none k nf)]; exact s5 _ _ (sm _ _ k)
    · exact fun a o n k => by rw [upd_ne n]; exact s5 _ _ (B4 a o n k)
    · exact (hz.mono (fun v x (k : Nd H4 v x) => (k.same s5).upd hf5)).app (hu.mono (fun v x (k : Nd H5 v x) => k.upd hf5))
    · rw [← hd, List.append_assoc]
      rfl
  · rintro σ H4 ⟨lo, v4, v5, zs, done, rfl, sm, B4, hf, hz, hd⟩
    rw [yl, List.drop_length] at hd
    refine ⟨_, rfl, .inl ⟨rfl, _, SqL.of hf⟩, _, rfl, _, rfl, _, rfl, n, lo, n, rfl, n1, by omega, by omega, by omega, fun H5 r us s5 nr hr5 hu => ?_⟩
    have hf5 := s5 _ _ hf
    have lz : zs.length + us.length ≤ 100000 := by
      have k := congrArg List.length hd
      rw [List.length_append] at k
      have k2 : (nb n lo []).length = (nw n lo n).length := rfl
      rw [hz.len, hu.len]
      omega
    refine ⟨fa, r, zs, us, rfl, rfl, hf5, hr5, szle (by omega), ?_⟩
    refine ⟨_, rfl, q _ fa (zs ++ us) ?_ nf upd_same ?_⟩
    · exact fun a o k => by rw [upd_ne (ne_of_none k nf)]; exact s5 _ _ (sm _ _ k)
    · rw [← hd]
      exact (hz.mono (fun v x (k : Nd H4 v x) => (k.same s5).upd hf5)).app (hu.mono (fun v x (k : Nd H5 v x) => k.upd hf5))
end
end LT

namespace LT
open PySem PySem.Spec PyProof.Rows L2
section
variable {P : Program} {w : World} {K : PySem.W.Frag} {mg : Str → Option Value} {base : Heap}
def spBag : Sp := fun vs H Q _ => ∃ c : Int, vs = [.int c] ∧ ∀ (H' : Hp) (p : Addr), Same H H' → H p = none → BagAt H' p → Q (.ref p) H'
theorem ok_law_bag {f : Addr} {fd : FuncData} (F : Fun K "_law_bag" "_law_bag" sLawBag f fd) (z_max : mg "max" = none) : FnOk P w K mg base CX0 1 f fd ["cell"] spBag := by
  refine F.ok scLawBag (fun vs H Q E h => ?_) (fun cdv A outer s H vs Q E hr h => ?_)
  · obtain ⟨_, rfl, _⟩ := h
    rfl
  obtain ⟨c, rfl, q⟩ := h
  refine ⟨_, (pss_one (ps_ret (pe_lst (pa_cons (pe_callB (call_max2 rfl) (by rfl) z_max (by decide +kernel) (pa_cons pe_int (pa_cons (pe_op op_sub (pv 0) (pe_op op_pow pe_int pe_int)) pa_nil))) (pa_cons (pv 0) (pa_cons pe_int pa_nil)))))), ?_⟩
  refine ⟨_, rfl, _, _, rfl, rfl, ⟨by decide, by decide, by decide⟩, _, _, rfl, rfl, _, _, rfl, _, rfl, (by show 3 ≤ sizeLine; decide), fun p np => ?_⟩
  exact q _ p (same_upd np) np ⟨_, _, _, upd_same⟩
theorem fm0 (x : Int) {m : Int} (h : 0 < m) : 0 ≤ x.fmod m := by
  rw [Int.fmod_eq_emod_of_nonneg _ (by omega)]
  exact Int.emod_nonneg _ (by omega)
theorem fm1 (x : Int) {m : Int} (h : 0 < m) : x.fmod m < m := by
  rw [Int.fmod_eq_emod_of_nonneg _ (by omega)]
  exact Int.emod_lt_of_pos _ h
def spPick : Sp := fun vs H Q _ => ∃ (b : Addr) (many : Int), vs = [.ref b, .int many] ∧ 0 < many ∧ many.natAbs < 2 ^ 250 ∧ BagAt H b ∧
  ∀ (r : Int) (H' : Hp), 0 ≤ r → r < many → (∀ a, a ≠ b → H' a = H a) → BagAt H' b → Q (.int r) H'
theorem ok_law_pick {f : Addr} {fd : FuncData} (F : Fun K "_law_pick" "_law_pick" sLawPick f fd) (z_int : mg "int" = none) : FnOk P w K mg base CX0 1 f fd ["bag", "many"] spPick := by
  refine F.ok scLawPick (fun vs H Q E h => ?_) (fun cdv A outer s H vs Q E hr h => ?_)
  · obtain ⟨_, _, rfl, _⟩ := h
    rfl
  obtain ⟨b, many, rfl, hm, hm2, ⟨x, y, z, h0⟩, q⟩ := h
  refine ⟨_, (pss_cons (ps_asg (pe_op op_add (pe_ix ix_list (pv 0) pe_int (fun _ _ => rfl)) pe_int) (pg_sub (pv 0) pe_int set_list))
    (pss_cons (ps_if (pt_cmpR op_gt (pe_ix ix_list (pv 0) pe_int (fun _ _ => rfl)) pe_int (nomark _))
    (pss_cons (ps_set (i := 2) scLawPick.nd rfl (Or.inl rfl) (pe_op op_modN (pe_callTy call_int1 (by rfl) z_int (by decide +kernel) (pa_cons (pe_ix ix_list (pv 0) pe_int (fun _ _ => rfl)) pa_nil)) (pv 1)))
    (pss_cons (ps_asg (pe_op op_fdivW (pe_callTy call_int1 (by rfl) z_int (by decide +kernel) (pa_cons (pe_ix ix_list (pv 0) pe_int (fun _ _ => rfl)) pa_nil)) (pv 1)) (pg_sub (pv 0) pe_int set_list))
    (pss_one (ps_ret (pv 2)))))
    pss_nil)
    (pss_cons (ps_par (i := 3) (j := 4) (by rfl) scLawPick.nd rfl rfl (by decide) rfl rfl (pa_cons (pe_callTy call_int1 (by rfl) z_int (by decide +kernel) (pa_cons (pe_ix ix_list (pv 0) pe_int (fun _ _ => rfl)) pa_nil)) (pa_cons (pe_callTy call_int1 (by rfl) z_int (by decide +kernel) (pa_cons (pe_ix ix_list (pv 0) pe_int (fun _ _ => rfl)) pa_nil)) pa_nil)) (by rfl))
    (pss_cons (ps_set (i := 5) scLawPick.nd rfl (Or.inl rfl) (pe_op op_modN (pe_callTy call_int1 (by rfl) z_int (by decide +kernel) (pa_cons (pe_op op_add (pe_op op_add (pe_op op_mul (pe_op op_modN (pv 3) pe_int) pe_int) (pe_op op_mul (pv 4) pe_int)) pe_int) pa_nil)) pe_int))
    (pss_cons (ps_set (i := 6) scLawPick.nd rfl (Or.inl rfl) (pe_op op_modN (pe_callTy call_int1 (by rfl) z_int (by decide +kernel) (pa_cons (pe_op op_add (pe_op op_mul (pv 5) (pv 5)) (pe_op op_mul (pv 4) pe_int)) pa_nil)) pe_int))
    (pss_cons (ps_set (i := 7) scLawPick.nd rfl (Or.inl rfl) (pe_op op_fdivW (pe_callTy call_int1 (by rfl) z_int (by decide +kernel) (pa_cons (pe_op op_add (pe_op op_mul (pv 5) pe_int) (pv 6)) pa_nil)) pe_int))
    (pss_cons (ps_if (pt_cmpR op_gt (pv 1) (pe_op op_pow pe_int pe_int) (nomark _))
    (pss_one (ps_set (i := 7) scLawPick.nd rfl (Or.inl rfl) (pe_op op_add (pe_op op_pow (pv 7) pe_int) (pv 6))))
    pss_nil)
    (pss_one (ps_ret (pe_op op_modN (pe_callTy call_int1 (by rfl) z_int (by decide +kernel) (pa_cons (pv 7) pa_nil)) (pv 1))))))))))), ?_⟩
  refine ⟨_, rfl, b, _, _, _, rfl, rfl, SqL.of h0, atI_nat (j := 2) rfl, _, _, rfl, rfl, _, rfl, b, _, _, 2, rfl, rfl, h0, rfl, ?_⟩
  dsimp only
  have h1 : (upd H b (.lst ([.int x, .int y, .int z].set 2 (.int (z + 1))))) b = some (.lst [.int x, .int y, .int (z + 1)]) := upd_same
  have k1 : ∀ a, a ≠ b → (upd H b (.lst ([.int x, .int y, .int z].set 2 (.int (z + 1))))) a = H a := fun a ha => upd_ne ha
  generalize upd H b (.lst ([.int x, .int y, .int z].set 2 (.int (z + 1)))) = H1 at h1 k1
  refine ⟨_, rfl, b, _, _, _, rfl, rfl, SqL.of h1, atI_nat (j := 0) rfl, _, _, rfl, rfl, _, rfl, ite2 (fun c => ?_) (fun c => ?_)⟩
  · refine ⟨_, rfl, b, _, _, _, rfl, rfl, SqL.of h1, atI_nat (j := 0) rfl, .inl ⟨_, rfl, _, rfl, _, _, rfl, rfl, by omega, ?_⟩⟩
    refine ⟨_, rfl, b, _, _, _, rfl, rfl, SqL.of h1, atI_nat (j := 0) rfl, .inl ⟨_, rfl, _, rfl, _, _, rfl, rfl, wide_div hm hm2 (by decide) (by decide), _, rfl, b, _, _, 0, rfl, rfl, h1, rfl, ?_⟩⟩
    refine ⟨_, rfl, ?_⟩
    exact q _ _ (fm0 x hm) (fm1 x hm) (fun a ha => by rw [upd_ne ha]; exact k1 a ha) ⟨_, _, _, upd_same⟩
  · refine ⟨_, rfl, b, _, _, _, rfl, rfl, SqL.of h1, atI_nat (j := 1) rfl, .inl ⟨_, rfl, _, rfl, b, _, _, _, rfl, rfl, SqL.of h1, atI_nat (j := 2) rfl, .inl ⟨_, rfl, _, _, rfl, ?_⟩⟩⟩
    refine ⟨_, rfl, _, _, rfl, rfl, (by show (2147483629 : Int) ≠ 0; decide), _, _, rfl, rfl, .inr ⟨by decide, by decide⟩, _, rfl, _, _, rfl, rfl, .inr ⟨by decide, by decide⟩, _, _, rfl, rfl, _, _, rfl, rfl, .inl ⟨_, rfl, _, _, rfl, rfl, (by show (2147483647 : Int) ≠ 0; decide), ?_⟩⟩
    dsimp only
    have a0 := fm0 (y.fmod 2147483629 * 48271 + (z + 1) * 69621 + 12345) (m := 2147483647) (by decide)
    have a1 := fm1 (y.fmod 2147483629 * 48271 + (z + 1) * 69621 + 12345) (m := 2147483647) (by decide)
    generalize (y.fmod 2147483629 * 48271 + (z + 1) * 69621 + 12345).fmod 2147483647 = fi at a0 a1
    refine ⟨_, rfl, _, rfl, _, _, rfl, rfl, .inl ⟨by omega, by omega⟩, _, rfl, _, _, rfl, rfl, .inr ⟨by decide, by decide⟩, _, _, rfl, rfl, .inl ⟨_, rfl, _, _, rfl, rfl, (by show (2147483587 : Int) ≠ 0; decide), ?_⟩⟩
    dsimp only
    have b0 := fm0 (fi * fi + (z + 1) * 40692) (m := 2147483587) (by decide)
    have b1 := fm1 (fi * fi + (z + 1) * 40692) (m := 2147483587) (by decide)
    generalize (fi * fi + (z + 1) * 40692).fmod 2147483587 = se at b0 b1
    refine ⟨_, rfl, _, _, rfl, rfl, .inl ⟨by omega, by omega⟩, _, rfl, _, _, rfl, rfl, .inl ⟨_, rfl, _, _, rfl, rfl, wide_div (b := 6) (by decide) (by decide) (by decide) (by decide), ?_⟩⟩
    dsimp only
    have c0 : 0 ≤ (fi * 2147483587 + se) / 32 := by omega
    have c1 : (fi * 2147483587 + se) / 32 < 2 ^ 62 := by omega
    generalize (fi * 2147483587 + se) / 32 = dr at c0 c1
    refine ⟨_, rfl, _, _, rfl, rfl, ⟨by decide, by decide, by decide⟩, _, _, rfl, rfl, _, rfl, ite2 (fun c => ?_) (fun c => ?_)⟩
    · refine ⟨_, rfl, _, _, rfl, rfl, ⟨by decide, by decide, by omega⟩, _, rfl, _, _, rfl, rfl, ?_⟩
      refine ⟨_, rfl, .inl ⟨_, rfl, _, rfl, _, _, rfl, rfl, by omega, ?_⟩⟩
      exact q _ _ (fm0 _ hm) (fm1 _ hm) k1 ⟨_, _, _, h1⟩
    · refine ⟨_, rfl, .inl ⟨_, rfl, _, rfl, _, _, rfl, rfl, by omega, ?_⟩⟩
      exact q _ _ (fm0 _ hm) (fm1 _ hm) k1 ⟨_, _, _, h1⟩
end
end LT

namespace LT
open PySem PySem.Spec PyProof.Rows L2
section
variable {P : Program} {w : World} {K : PySem.W.Frag} {mg : Str → Option Value} {base : Heap}
theorem But.same {b : Addr} {H H1 H2 : Hp} (x : But b H H1) (y : Same H1 H2) : But b H H2 := fun a o n h => y a o (x a o n h)
theorem But.pick {b : Addr} {H H1 H2 : Hp} (x : But b H H1) (k : ∀ a, a ≠ b → H2 a = H1 a) : But b H H2 := fun a o n h => by rw [k a n]; exact x a o n h
theorem BagAt.ne {H : Hp} {b p : Addr} (h : BagAt H b) (n : H p = none) : p ≠ b := fun z => by
  obtain ⟨_, _, _, e⟩ := h
  rw [← z, n] at e
  cases e
theorem BagAt.upd {H : Hp} {b p : Addr} {o : HO} (h : BagAt H b) (n : p ≠ b) : BagAt (upd H p o) b := by
  obtain ⟨x, y, z, e⟩ := h
  exact ⟨x, y, z, by rw [upd_ne (fun z => n z.symm)]; exact e⟩
def spSizeM : Sp := fun vs H Q _ => ∃ (b : Addr) (most : Nat), vs = [.ref b, .int most] ∧ 1 ≤ most ∧ most ≤ 10 ^ 30 ∧ BagAt H b ∧ ∀ (n : Nat) (H' : Hp), 1 ≤ n → n ≤ most → But b H H' → BagAt H' b → Q (.int n) H'
theorem ok_law_sizeM {f g1 : Addr} {fd d1 : FuncData} (F : Fun K "_law_size" "_law_size" sLawSize f fd) (GLawPick : FnOk P w K mg base CX0 1 g1 d1 ["bag", "many"] spPick) (ALawPick : At K mg "_law_pick" g1 d1 ["bag", "many"]) (z_max : mg "max" = none) (z_min : mg "min" = none) (z_sum : mg "sum" = none) (z_range : mg "range" = none) :
    FnOk P w K mg base CX0 2 f fd ["bag", "most"] spSizeM := by
  refine F.ok scLawSize (fun vs H Q E h => ?_) (fun cdv A outer s H vs Q E hr h => ?_)
  · obtain ⟨_, _, rfl, _⟩ := h
    rfl
  obtain ⟨b, most, rfl, m1, m30, hb, q⟩ := h
  refine' ⟨_, (pss_cons (ps_set (i := 2) scLawSize.nd rfl (Or.inl rfl) (pe_call GLawPick (hr.mono (by decide)) rfl ALawPick.m ALawPick.kp ALawPick.b .nil pass0 (pa_cons (pv 0) (pa_cons pe_int pa_nil))))
    (pss_cons (ps_if (pt_cmpR op_eq (pv 2) pe_int (nomark _))
    (pss_one (ps_ret (pe_op op_add pe_int (pe_call GLawPick (hr.mono (by decide)) rfl ALawPick.m ALawPick.kp ALawPick.b .nil pass0 (pa_cons (pv 0) (pa_cons (pv 1) pa_nil))))))
    pss_nil)
    (pss_cons ?cc1
    (pss_one (ps_ret (pe_callB (call_min2 rfl) (by rfl) z_min (by decide +kernel) (pa_cons (pv 1) (pa_cons (pe_callB (call_max2 rfl) (by rfl) z_max (by decide +kernel) (pa_cons pe_int (pa_cons (pe_op op_sub (pe_op op_add (pe_callB (cr_sum rfl) (by rfl) z_sum (by decide +kernel) (pa_cons (pv 3) pa_nil)) (pe_call GLawPick (hr.mono (by decide)) rfl ALawPick.m ALawPick.kp ALawPick.b .nil pass0 (pa_cons (pv 0) (pa_cons pe_int pa_nil)))) pe_int) pa_nil))) pa_nil)))))))), ?_⟩
  case cc1 => exact (ps_setLc (i := 3) (own := [("turn", 4)]) rfl scLawSize.nd rfl rfl (sw_true rfl rfl rfl (by decide +kernel)) (pi_range1 (by rfl) z_range (pa_cons (pe_ix ix_list (pe_lst (pa_cons pe_int (pa_cons pe_int (pa_cons pe_int (pa_cons pe_int pa_nil))))) (pv 2) (fun _ _ => rfl)) pa_nil)) (blkOk_by (N := ["bag", "most", "way", "powers", "turn"]) (sc := defScope sLawSize) (by decide +kernel)) (fun _ _ _ _ _ => (pg_name (i := 4) scLawSize.nd rfl (Or.inl rfl))) (fun _ _ _ _ _ => pts_nil) (fun _ _ _ _ _ => (pe_op op_shl pe_int (pe_call GLawPick (hr.mono (by decide)) rfl ALawPick.m ALawPick.kp ALawPick.b .nil pass0 (pa_cons (pv 0) (pa_cons (pe_bits (pv 1)) pa_nil))))))
  have fin : ∀ (z : Int) (H5 : Hp), But b H H5 → BagAt H5 b → Q (.int (if (if z > 1 then z else 1) < (most : Int) then (if z > 1 then z else 1) else (most : Int))) H5 := fun z H5 B5 b5 => by
    have z1 : 1 ≤ (if z > 1 then z else 1) := by split <;> omega
    generalize (if z > 1 then z else 1) = y at z1
    have y1 : 1 ≤ (if y < (most : Int) then y else (most : Int)) ∧ (if y < (most : Int) then y else (most : Int)) ≤ most := by split <;> omega
    generalize (if y < (most : Int) then y else (most : Int)) = u at y1
    obtain ⟨un, rfl⟩ := Int.eq_ofNat_of_zero_le (show 0 ≤ u by omega)
    exact q un H5 (by omega) (by omega) B5 b5
  refine ⟨_, rfl, b, 4, rfl, by decide, by decide, hb, fun r H1 r0 r1 k1 b1 => ?_⟩
  have B1 : But b H H1 := (But.refl b H).pick k1
  refine ⟨_, rfl, rfl, _, rfl, ite2 (fun c => ?_) (fun c => ?_)⟩
  · refine ⟨_, rfl, _, rfl, b, most, rfl, by omega, by omega, b1, fun r2 H2 r20 r21 k2 b2 => ⟨_, _, rfl, rfl, ?_⟩⟩
    have B2 := B1.pick k2
    obtain ⟨rn, rfl⟩ := Int.eq_ofNat_of_zero_le r20
    have e : (1 : Int) + (rn : Int) = ((1 + rn : Nat) : Int) := by omega
    have q2 := q (1 + rn) H2 (by omega) (by omega) B2 b2
    rw [← e] at q2
    exact q2
  · have rne : r ≠ 0 := fun z => by
      subst z
      exact c (decide_eq_true rfl)
    have hv : ∃ m : Nat, atI [V.int 1, V.int 1, V.int 3, V.int 6] r = some (.int (m : Int)) ∧ m ≤ 6 := by
      have : r = 1 ∨ r = 2 ∨ r = 3 := by omega
      rcases this with rfl | rfl | rfl
      · exact ⟨1, atI_nat (j := 1) rfl, by decide⟩
      · exact ⟨3, atI_nat (j := 2) rfl, by decide⟩
      · exact ⟨6, atI_nat (j := 3) rfl, by decide⟩
    obtain ⟨m, hm, m6⟩ := hv
    refine ⟨(by show 4 ≤ sizeLine; decide), fun l nl => ?_⟩
    have s2 := same_upd (o := .lst [.int 1, .int 1, .int 3, .int 6]) nl
    have h2 : (upd H1 l (.lst [.int 1, .int 1, .int 3, .int 6])) l = some (.lst [.int 1, .int 1, .int 3, .int 6]) := upd_same
    have B2 := B1.same s2
    have b2 := b1.same s2
    generalize upd H1 l (.lst [.int 1, .int 1, .int 3, .int 6]) = H2 at h2 B2 b2
    refine ⟨_, rfl, l, _, _, _, rfl, rfl, SqL.of h2, hm, ?_⟩
    have bl : ((Builtin.Int.intBits (most : Int) : Nat) : Int) = ((most.log2 + 1 : Nat) : Int) := by rw [bits_nat, if_neg (by omega)]
    have l100 : most.log2 < 100 := (Nat.log2_lt (by omega)).mpr (Nat.lt_of_le_of_lt m30 (by decide))
    refine ⟨(m : Int), rfl, by omega, by omega, fun D nD => ?_⟩
    have Db := b2.ne nD
    refine lc_range (lo := 0) (n := m) (fun i H' => ∃ L : List Int, But b H2 H' ∧ BagAt H' b ∧ H' D = some (.lst (L.map V.int)) ∧ L.length = i) ⟨[], But.of (same_upd nD), b2.upd Db, upd_same, rfl⟩ ?_ ?_
    · rintro j H3 hj ⟨L, B3, b3, hD, hl⟩
      refine ⟨rfl, ?_⟩
      refine ⟨_, rfl, _, rfl, _, rfl, b, _, congrArg (fun z => [V.ref b, V.int z]) bl, by omega, by omega, b3, fun r4 H4 r40 r41 k4 b4 => ?_⟩
      refine ⟨_, _, rfl, rfl, ⟨r40, by omega, by decide⟩, ?_⟩
      have hD4 : H4 D = some (.lst (L.map V.int)) := (k4 D Db).trans hD
      refine ⟨_, hD4, szlt (by rw [List.length_map]; omega), L ++ [(1 : Int) * 2 ^ r4.toNat], ?_, b4.upd Db, ?_, by rw [List.length_append, List.length_singleton, hl]⟩
      · exact fun a o n k => by
          by_cases z : a = D
          · subst z; rw [nD] at k; cases k
          · rw [upd_ne z, k4 a n]; exact B3 a o n k
      · rw [List.map_append]; exact upd_same
    rintro H3 ⟨L, B3, b3, hD, hl⟩
    refine ⟨_, rfl, _, rfl, D, L, rfl, SqL.of hD, _, rfl, b, 3, rfl, by decide, by decide, b3, fun r4 H4 r40 r41 k4 b4 => ?_⟩
    exact ⟨_, _, rfl, rfl, _, _, rfl, rfl, _, _, rfl, _, _, rfl, fin _ H4 ((B2.trans B3).pick k4) b4⟩
end
end LT

namespace LT
open PySem PySem.Spec PyProof.Rows L2
/-- a def with defaults dvs, as it stands behind the top -/
structure FunT (K : PySem.W.Frag) (x qual : Str) (st : Stmt) (its : List Value) (dvs : List V) (f : Addr) (fd : FuncData) : Prop where
  ex : ∃ (oc : Value) (od : Option Addr) (T : Addr) (kV doc pm : Value) (an : Option Addr) (cdv ct : Value) (osl : Array (Option Value)) (o : Obj) (n : Nat),
    fd = PySem.W.fnOf x qual (defArgs st) (defBody st) (defScope st) (.ref T) kV doc pm an cdv ct ∧ K.lookup f = some ⟨oc, od, .func fd, osl⟩ ∧ PySem.W.codeIn K cdv qual = true ∧ K.lookup T = some o ∧ o.data = .seq its.toArray n
  kp : PySem.W.keepIn K (.ref f) = true
  v : Vals dvs its
/-- how it is called with its defaults -/
structure AtT (K : PySem.W.Frag) (mg : Str → Option Value) (x : Str) (f : Addr) (fd : FuncData) (ps : List Str) (ds : List Value) (dvs : List V) : Prop where
  m : mg x = some (.ref f)
  kp : PySem.W.keepIn K (.ref f) = true
  b : Binds K fd ps ds
  v : Vals dvs ds
section
variable {P : Program} {w : World} {K : PySem.W.Frag} {mg : Str → Option Value} {base : Heap}
theorem FunT.ok {x qual : Str} {st : Stmt} {its : List Value} {dvs : List V} {f : Addr} {fd : FuncData} {N ps : List Str} {k : Nat} {sp : Sp} (F : FunT K x qual st its dvs f fd) (S : FnScope N ps (defScope st)) (len : ∀ vs H Q E, sp vs H Q E → vs.length = ps.length)
    (hbody : ∀ (cdv : Value) (A : Around) (outer : List Env) (s : Shared) (H : Hp) (vs : List V) (Q : VK) (E : XK), Room k (A.deeper (envOfC qual (defScope st) s.heap.objs.size f cdv)) → sp vs H Q E →
      ∃ t, PSs (cxOf CX0 P w K mg base N qual (defScope st) f cdv A outer s H E).nox (defBody st) t ∧ t { nx := fun _ H' => Q .non H', rt := Q } (start N vs) H) : FnOk P w K mg base CX0 (k + 1) f fd ps sp := by
  obtain ⟨oc, od, T, kV, doc, pm, an, cdv, ct, osl, o, n, rfl, lk, hcd, lT, oT⟩ := F.ex
  refine fn_of lk hcd S len fun A outer s H vs Q E hr hsp => ?_
  obtain ⟨t, h, q⟩ := hbody cdv A outer s H vs Q E hr hsp
  exact ⟨t, h.nox, q⟩
theorem funT_mk {x qual : Str} {st : Stmt} {f T : Addr} {oc tc : Value} {od an td : Option Addr} {osl tsl : Array (Option Value)} {tits : Array Value} {tn : Nat} {dvs : List V} {kV doc pm cdv ct : Value} (l : K.lookup f = some ⟨oc, od, .func (PySem.W.fnOf x qual (defArgs st) (defBody st) (defScope st) (.ref T) kV doc pm an cdv ct), osl⟩)
    (c : PySem.W.codeIn K cdv qual = true) (k : PySem.W.keepIn K (.ref f) = true) (lT : K.lookup T = some ⟨tc, td, .seq tits tn, tsl⟩) (v : Vals dvs tits.toList) : FunT K x qual st tits.toList dvs f (PySem.W.fnOf x qual (defArgs st) (defBody st) (defScope st) (.ref T) kV doc pm an cdv ct) :=
  ⟨⟨oc, od, T, kV, doc, pm, an, cdv, ct, osl, _, tn, rfl, l, c, lT, by simp⟩, k, v⟩
theorem FunT.binds {x qual : Str} {st : Stmt} {its : List Value} {dvs : List V} {f : Addr} {fd : FuncData} {ps : List Str} {n m : Nat} (F : FunT K x qual st its dvs f fd) (hm : dvs.length = m)
    (h : ∀ (T : Addr) (kV doc pm : Value) (an : Option Addr) (cdv ct : Value) (us its : List Value), us.length = n → its.length = m →
      ∃ k, bindArgs (PySem.W.fnOf x qual (defArgs st) (defBody st) (defScope st) (.ref T) kV doc pm an cdv ct) ⟨us, []⟩ = seqItems? (.ref T) >>= k ∧ k (some its.toArray) = pure (ps.zip (us ++ its))) (hn : n + m = ps.length := by rfl) : Binds K fd ps its := by
  obtain ⟨oc, od, T, kV, doc, pm, an, cdv, ct, osl, o, nn, rfl, lk, hcd, lT, oT⟩ := F.ex
  intro s us X hl
  have e := F.v.length
  rw [List.length_append] at hl
  obtain ⟨k, e1, e2⟩ := h T kV doc pm an cdv ct us its (by omega) (by omega)
  refine BindsTo.of_looks fun M => ?_
  rw [e1]
  exact looks_items X lT oT (.of_pure e2)
end
section
variable {X : Cx} {s : Shared} {H : Hp} {sc : Scope} {ce : Env} {fp : List Addr}
theorem pi_listB {tg l : Expr} {tl : TE} (hl : PE (X.blk s H sc ce fp) l tl) : PI (X.blk s H sc ce fp) tg l (iList X.K tl) := pi_list hl
end
section
variable {K : PySem.W.Frag} {a D : Addr} {xs : List V} {g g1 : TG} {tt tt1 : TT} {te : TE} {wi1 : TI} {vs vs1 : List Nat} {σ : L2.St} {H1 : Hp} {Qd : Hp → Prop}
/-- the inner walk of a comprehension with two for -/
abbrev InT (D : Addr) (wi1 : TI) (g1 : TG) (tt1 : TT) (te : TE) (vs1 : List Nat) (Nx : Hp → Prop) (σ2 : L2.St) (H3 : Hp) : Prop := wi1 σ2 H3 fun J1 H4 => ∃ W1 : Nat → Nat → Hp → Prop, (∃ m, W1 0 m H4) ∧ ∀ j k H, W1 j k H →
  (J1.stop j H ∧ Nx H) ∨ (J1.go j H ∧ ∃ Nx1 : Hp → Prop, (∀ H', Nx1 H' → ∃ k', k' < k ∧ W1 (j + 1) k' H') ∧ ∀ x H', J1.yld j H x H' → g1 x (wipe σ2 vs1) H' fun σ3 H5 => wipe σ3 vs1 = wipe σ2 vs1 ∧ tt1 σ3 H5 fun b H6 =>
    if b = true then te σ3 H6 fun y H7 => ∃ acc, H7 D = some (.lst acc) ∧ acc.length < sizeLine ∧ Nx1 (upd H7 D (.lst (acc ++ [y]))) else Nx1 H6)
theorem lc2_list (Pv : Nat → Hp → Prop) (h0 : Pv 0 (upd H1 D (.lst []))) (hl : ∀ i H, i ≤ xs.length → Pv i H → SqL K H a xs)
    (hs : ∀ i x H, xs[i]? = some x → Pv i H → g x (wipe σ vs) H fun σ2 H2 => wipe σ2 vs = wipe σ vs ∧ tt σ2 H2 fun b H3 => if b = true then InT D wi1 g1 tt1 te vs1 (Pv (i + 1)) σ2 H3 else Pv (i + 1) H3) (hd : ∀ H, Pv xs.length H → Qd H) :
    ∃ W : Nat → Nat → Hp → Prop, (∃ m, W 0 m (upd H1 D (.lst []))) ∧ ∀ i m H, W i m H →
      ((Itl K a).stop i H ∧ Qd H) ∨ ((Itl K a).go i H ∧ ∃ Nx : Hp → Prop, (∀ H', Nx H' → ∃ m', m' < m ∧ W (i + 1) m' H') ∧ ∀ x H', (Itl K a).yld i H x H' → g x (wipe σ vs) H' fun σ2 H2 => wipe σ2 vs = wipe σ vs ∧ tt σ2 H2 fun b H3 =>
        if b = true then InT D wi1 g1 tt1 te vs1 Nx σ2 H3 else Nx H3) := by
  refine ⟨fun i m H => m + i = xs.length ∧ Pv i H, ⟨xs.length, rfl, h0⟩, ?_⟩
  rintro i m H ⟨im, p⟩
  have q := hl i H (by omega) p
  by_cases hlt : i < xs.length
  · refine .inr ⟨⟨xs, xs[i], q, by simp [hlt]⟩, Pv (i + 1), fun H' p' => ⟨m - 1, by omega, by omega, p'⟩, fun x H' y => ?_⟩
    obtain ⟨e, y⟩ := y
    subst e
    exact hs i x _ (y xs q) p
  · have e : i = xs.length := by omega
    subst e
    exact .inl ⟨⟨xs, q, Nat.le_refl _⟩, hd H p⟩
theorem lc_in {σ2 : L2.St} {H4 : Hp} {Nx : Hp → Prop} (Pv : Nat → Hp → Prop) (h0 : Pv 0 H4) (hl : ∀ i H, i ≤ xs.length → Pv i H → SqL K H a xs)
    (hs : ∀ i x H, xs[i]? = some x → Pv i H → g1 x (wipe σ2 vs1) H fun σ3 H5 => wipe σ3 vs1 = wipe σ2 vs1 ∧ tt1 σ3 H5 fun b H6 =>
      if b = true then te σ3 H6 fun y H7 => ∃ acc, H7 D = some (.lst acc) ∧ acc.length < sizeLine ∧ Pv (i + 1) (upd H7 D (.lst (acc ++ [y]))) else Pv (i + 1) H6) (hd : ∀ H, Pv xs.length H → Nx H) :
    ∃ W1 : Nat → Nat → Hp → Prop, (∃ m, W1 0 m H4) ∧ ∀ j k H, W1 j k H →
      ((Itl K a).stop j H ∧ Nx H) ∨ ((Itl K a).go j H ∧ ∃ Nx1 : Hp → Prop, (∀ H', Nx1 H' → ∃ k', k' < k ∧ W1 (j + 1) k' H') ∧ ∀ x H', (Itl K a).yld j H x H' → g1 x (wipe σ2 vs1) H' fun σ3 H5 => wipe σ3 vs1 = wipe σ2 vs1 ∧ tt1 σ3 H5 fun b H6 =>
        if b = true then te σ3 H6 fun y H7 => ∃ acc, H7 D = some (.lst acc) ∧ acc.length < sizeLine ∧ Nx1 (upd H7 D (.lst (acc ++ [y]))) else Nx1 H6) := by
  refine ⟨fun i m H => m + i = xs.length ∧ Pv i H, ⟨xs.length, rfl, h0⟩, ?_⟩
  rintro i m H ⟨im, p⟩
  have q := hl i H (by omega) p
  by_cases hlt : i < xs.length
  · refine .inr ⟨⟨xs, xs[i], q, by simp [hlt]⟩, Pv (i + 1), fun H' p' => ⟨m - 1, by omega, by omega, p'⟩, fun x H' y => ?_⟩
    obtain ⟨e, y⟩ := y
    subst e
    exact hs i x _ (y xs q) p
  · have e : i = xs.length := by omega
    subst e
    exact .inl ⟨⟨xs, q, Nat.le_refl _⟩, hd H p⟩
end
end LT

namespace LT
open PySem PySem.Spec PyProof.Rows L2
/-- the fewest stretches with the same entries as some that ascend -/
def jgo : Nat × Nat → List (Nat × Nat) → List (Nat × Nat)
  | cur, [] => [cur]
  | cur, x :: l => if x.1 ≤ cur.2 then jgo (cur.1, max cur.2 x.2) l else cur :: jgo x l
def jn : List (Nat × Nat) → List (Nat × Nat)
  | [] => []
  | x :: l => jgo x l
theorem jgo_len : ∀ (l : List (Nat × Nat)) (c : Nat × Nat), (jgo c l).length ≤ l.length + 1
  | [], c => Nat.le_refl _
  | x :: l, c => by
    unfold jgo
    split
    · have := jgo_len l (c.1, max c.2 x.2)
      show _ ≤ l.length + 1 + 1
      omega
    · have := jgo_len l x
      show (jgo x l).length + 1 ≤ l.length + 1 + 1
      omega
theorem jn_len (l : List (Nat × Nat)) : (jn l).length ≤ l.length := by
  cases l with
  | nil => exact Nat.le_refl _
  | cons x l => exact jgo_len l x
theorem jgo_mem : ∀ (l : List (Nat × Nat)) (c : Nat × Nat) (n : Nat), c.1 < c.2 → c.2 ≤ n → (∀ x ∈ l, x.1 < x.2 ∧ x.2 ≤ n) → ∀ y ∈ jgo c l, y.1 < y.2 ∧ y.2 ≤ n
  | [], c, n, h1, h2, _, y, hy => by
    rw [List.mem_singleton.mp hy]
    exact ⟨h1, h2⟩
  | x :: l, c, n, h1, h2, h, y, hy => by
    have hx := h x List.mem_cons_self
    unfold jgo at hy
    split at hy
    · exact jgo_mem l (c.1, max c.2 x.2) n (by show c.1 < max c.2 x.2; omega) (by show max c.2 x.2 ≤ n; omega) (fun z hz => h z (List.mem_cons_of_mem _ hz)) y hy
    · rcases List.mem_cons.mp hy with rfl | hy
      · exact ⟨h1, h2⟩
      · exact jgo_mem l x n hx.1 hx.2 (fun z hz => h z (List.mem_cons_of_mem _ hz)) y hy
theorem jn_mem {l : List (Nat × Nat)} {n : Nat} (h : ∀ x ∈ l, x.1 < x.2 ∧ x.2 ≤ n) : ∀ y ∈ jn l, y.1 < y.2 ∧ y.2 ≤ n := by
  cases l with
  | nil => exact fun y hy => absurd hy (by simp [jn])
  | cons x l =>
    have hx := h x List.mem_cons_self
    exact jgo_mem l x n hx.1 hx.2 fun z hz => h z (List.mem_cons_of_mem _ hz)
theorem nds_eqvAll : ∀ l k : List (Nat × Nat), PyData.eqvAll (l.map nd) (k.map nd) = decide (l = k)
  | [], [] => by simp [PyData.eqvAll]
  | [], y :: k => by simp [PyData.eqvAll]
  | x :: l, [] => by simp [PyData.eqvAll]
  | x :: l, y :: k => by
    have e : PyData.eqvAll ((x :: l).map nd) ((y :: k).map nd) = (PyData.eqv (nd x) (nd y) && PyData.eqvAll (l.map nd) (k.map nd)) := by simp only [List.map_cons, PyData.eqvAll]
    rw [e, nds_eqvAll l k]
    unfold nd
    rw [nd_eqv]
    by_cases h : x = y
    · subst h
      simp
    · have : ¬ ((x.1 : Int) = (y.1 : Int) ∧ (x.2 : Int) = (y.2 : Int)) := fun z => h (Prod.ext (by omega) (by omega))
      have e2 : (decide ((x.1 : Int) = (y.1 : Int)) && decide ((x.2 : Int) = (y.2 : Int))) = false := by
        rw [Bool.and_eq_false_iff]
        by_cases h1 : (x.1 : Int) = (y.1 : Int)
        · exact .inr (decide_eq_false fun z => this ⟨h1, z⟩)
        · exact .inl (decide_eq_false h1)
      rw [e2]
      simp [h]
theorem nds_eqv (l k : List (Nat × Nat)) : PyData.eqv (.list (l.map nd)) (.list (k.map nd)) = decide (l = k) := by
  have e : PyData.eqv (.list (l.map nd)) (.list (k.map nd)) = PyData.eqvAll (l.map nd) (k.map nd) := by simp only [PyData.eqv]
  rw [e, nds_eqvAll]
section
variable {P : Program} {w : World} {K : PySem.W.Frag} {mg : Str → Option Value} {base : Heap}
def spCheckNodes : Sp := fun vs H Q _ => ∃ (n : Nat) (p : Addr) (xs : List V) (S : List (Nat × Nat)), vs = [.int n, .ref p, .int 1, .int 60] ∧ 1 ≤ n ∧ n ≤ 10 ^ 30 ∧ H p = some (.lst xs) ∧ All2 (Nd H) xs S ∧ 1 ≤ S.length ∧ S.length ≤ 60 ∧ (∀ x ∈ S, isN n x) ∧ ∀ H', Same H H' → Q .non H'
theorem ok_check_nodes {f g1 g2 : Addr} {fd d1 d2 : FuncData} {its : List Value} {dvs : List V} (F : FunT K "check_nodes" "check_nodes" sCheckNodes its dvs f fd) (GIsListOf : FnOk P w K mg base CX0 1 g1 d1 ["value", "least", "most"] spListOf) (AIsListOf : At K mg "is_list_of" g1 d1 ["value", "least", "most"])
    (GIsTreeNode : FnOk P w K mg base CX0 3 g2 d2 ["size", "value"] (spTreeV K)) (AIsTreeNode : At K mg "is_tree_node" g2 d2 ["size", "value"]) (z_enumerate : mg "enumerate" = none) : FnOk P w K mg base CX0 4 f fd ["size", "nodes", "least", "most"] spCheckNodes := by
  refine F.ok scCheckNodes (fun vs H Q E h => ?_) (fun cdv A outer s H vs Q E hr h => ?_)
  · obtain ⟨_, _, _, _, rfl, _⟩ := h
    rfl
  obtain ⟨n, p, xs, S, rfl, n1, h30, hp, hx, l1, l60, hS, q⟩ := h
  refine ⟨_, (pss_cons (ps_if (pt_not (pt_val (pe_call GIsListOf (hr.mono (by decide)) rfl AIsListOf.m AIsListOf.kp AIsListOf.b .nil pass0 (pa_cons (pv 1) (pa_cons (pv 2) (pa_cons (pv 3) pa_nil))))))
    (pss_one ps_never)
    pss_nil)
    (pss_one (ps_for PassesOwn.never rfl (pi_enum (by rfl) z_enumerate (pa_cons (pv 1) pa_nil)) (pg_tup (by rfl) (pgs_cons (pg_name (i := 4) scCheckNodes.nd rfl (Or.inl rfl)) (pgs_cons (pg_name (i := 5) scCheckNodes.nd rfl (Or.inl rfl)) pgs_nil)))
    (pss_one (ps_if (pt_not (pt_val (pe_call GIsTreeNode (hr.mono (by decide)) rfl AIsTreeNode.m AIsTreeNode.kp AIsTreeNode.b .nil pass0 (pa_cons (pv 0) (pa_cons (pv 5) pa_nil)))))
    (pss_one ps_never)
    pss_nil))))), ?_⟩
  have xl := hx.len
  refine ⟨_, rfl, _, rfl, _, rfl, p, xs, 1, 60, rfl, hp, by omega, by omega, true, rfl, ?_⟩
  refine ⟨_, rfl, p, xs, rfl, SqL.of hp, ?_⟩
  refine for_enum (a := p) (xs := xs) (fun i σ H' => ∃ (v4 v5 : Option V), σ = [some (.int (n : Int)), some (.ref p), some (.int 1), some (.int 60), v4, v5] ∧ Same H H')
    ⟨none, none, rfl, Same.refl _⟩ (fun i σ H' _ ⟨_, _, _, sm⟩ => SqL.of (sm _ _ hp)) ?_ ?_
  · rintro i x σ H2 T hi ⟨v4, v5, rfl, sm⟩ nT
    obtain ⟨y, hyi, hy⟩ := hx.nth hi
    have sT := same_upd (o := .tup [.int ((i : Nat) : Int), x]) nT
    have hy2 := (hy.same sm).same sT
    obtain ⟨yp, rfl, hyp⟩ := id hy2
    refine ⟨T, _, rfl, SqT.of upd_same, rfl, _, _, rfl, _, _, rfl, rfl, ?_⟩
    refine ⟨_, rfl, _, rfl, n, _, true, rfl, n1, by omega, ?_, true, rfl, ?_⟩
    · have e : tnV n (.int (y.1 : Int)) (.int (y.2 : Int)) = true := by
        rw [tn_nat]
        exact decide_eq_true (hS y (List.mem_of_getElem? hyi))
      exact e ▸ Ask.pair (n := n) hyp (.int _) (.int _)
    · exact ⟨_, _, rfl, sm.trans sT⟩
  · rintro σ H2 ⟨v4, v5, rfl, sm⟩
    exact q H2 sm
def spJoined : Sp := fun vs H Q _ => ∃ (p : Addr) (xs : List V) (S : List (Nat × Nat)), vs = [.ref p] ∧ H p = some (.lst xs) ∧ All2 (Nd H) xs S ∧ S.length ≤ 400 ∧
  ∀ (H' : Hp) (r : Addr) (ys : List V), Same H H' → H r = none → H' r = some (.lst ys) → All2 (Nd H') ys (jn (srt S)) → Q (.ref r) H'
theorem ok_joined {f : Addr} {fd : FuncData} (F : Fun K "joined" "joined" sJoined f fd) (z_sorted : mg "sorted" = none) (z_max : mg "max" = none) : FnOk P w K mg base CX0 1 f fd ["stretches"] spJoined := by
  refine F.ok scJoined (fun vs H Q E h => ?_) (fun cdv A outer s H vs Q E hr h => ?_)
  · obtain ⟨_, _, _, rfl, _⟩ := h
    rfl
  obtain ⟨p, xs, S, rfl, hp, hx, l400, q⟩ := h
  refine ⟨_, (pss_cons (ps_set (i := 1) scJoined.nd rfl (Or.inl rfl) (pe_lst pa_nil))
    (pss_cons (ps_for PassesOwn.never rfl (pi_list (pe_callB cr_sortedPO (by rfl) z_sorted (by decide +kernel) (pa_cons (pv 0) pa_nil))) (pg_tup (by rfl) (pgs_cons (pg_name (i := 2) scJoined.nd rfl (Or.inl rfl)) (pgs_cons (pg_name (i := 3) scJoined.nd rfl (Or.inl rfl)) pgs_nil)))
    (pss_one (ps_if (PW.pt (pw_and (pt_truth (pv 1) (fun _ => rfl)) (pw_and1 (pt_cmpR op_le (pv 2) (pe_ix ix_tup (pe_ix ix_list (pv 1) (pe_un un_neg pe_int) (fun _ _ => rfl)) pe_int (fun _ _ => rfl)) (nomark _)))))
    (pss_cons (ps_asg (pe_bm0 PySem.F.plainAttrs_list PySem.F.slot_list_pop PySem.F.type_list_pop mt_pop (pv 1)) (pg_tup (by rfl) (pgs_cons (pg_name (i := 4) scJoined.nd rfl (Or.inl rfl)) (pgs_cons (pg_name (i := 5) scJoined.nd rfl (Or.inl rfl)) pgs_nil))))
    (pss_one (ps_expr (pe_bm PySem.F.plainAttrs_list PySem.F.slot_list_append PySem.F.type_list_append mt_append (pv 1) (pa_cons (pe_tup (pa_cons (pv 4) (pa_cons (pe_callB (call_max2 rfl) (by rfl) z_max (by decide +kernel) (pa_cons (pv 5) (pa_cons (pv 3) pa_nil))) pa_nil))) pa_nil)))))
    (pss_one (ps_expr (pe_bm PySem.F.plainAttrs_list PySem.F.slot_list_append PySem.F.type_list_append mt_append (pv 1) (pa_cons (pe_tup (pa_cons (pv 2) (pa_cons (pv 3) pa_nil))) pa_nil)))))))
    (pss_one (ps_ret (pv 1))))), ?_⟩
  refine ⟨Nat.zero_le _, fun fa nf => ?_⟩
  have s2 := same_upd (o := .lst []) nf
  have hx2 := hx.mono (fun v x (k : Nd H v x) => k.same s2)
  have hp2 := s2 _ _ hp
  have hf2 : (upd H fa (.lst [])) fa = some (.lst []) := upd_same
  generalize upd H fa (.lst []) = H2 at s2 hx2 hp2 hf2
  refine ⟨_, rfl, p, xs, kOf H2, rfl, SqL.of hp2, fun x hm => ?_, fun ys so hs1 hs2 nso => ?_⟩
  · obtain ⟨y, _, pa, rfl, hpa⟩ := hx2.mem hm
    exact ⟨pa, rfl, by rw [hpa]; simp only [kOf, hpa]⟩
  have s3 := same_upd (o := .lst ys) nso
  have hy0 := (sorted_srt hx2 hs1 hs2.perm).mono (fun v x (k : Nd H2 v x) => k.same s3)
  have hso : (upd H2 so (.lst ys)) so = some (.lst ys) := upd_same
  have hf3 := s3 _ _ hf2
  have sof : so ≠ fa := fun z => by rw [z, hf2] at nso; cases nso
  have s03 := s2.trans s3
  have tl : (srt S).length ≤ 400 := by rw [srt_len]; exact l400
  generalize srt S = T at q hy0 tl
  generalize upd H2 so (.lst ys) = H3 at s3 hso hf3 hy0 s03
  have yl := hy0.len
  refine ⟨so, rfl, ⟨_, SqL.of hso⟩, for_list (K := K) (a := so) (xs := ys) (fun i σ H' => ∃ (v2 v3 v4 v5 : Option V) (zs : List V) (D : List (Nat × Nat)), σ = [some (.ref p), some (.ref fa), v2, v3, v4, v5] ∧ Same H H' ∧ But fa H3 H' ∧ H' fa = some (.lst zs) ∧ All2 (Nd H') zs D ∧ D.length ≤ i ∧
      ((i = 0 ∧ D = []) ∨ ∃ (done : List (Nat × Nat)) (c : Nat × Nat), D = done ++ [c] ∧ jn T = done ++ jgo c (T.drop i)))
    ⟨none, none, none, none, [], [], rfl, s03, But.refl _ _, hf3, .nil, Nat.le_refl _, .inl ⟨rfl, rfl⟩⟩ (fun i σ H' _ ⟨_, _, _, _, _, _, _, _, k, _⟩ => SqL.of (k _ _ sof hso)) ?_ ?_⟩
  · rintro i v σ H4 hi ⟨v2, v3, v4, v5, zs, D, rfl, sm, B4, hf, hz, dl, hd⟩
    obtain ⟨x, hxi, pv, rfl, hpv⟩ := hy0.nth hi
    have hdr : T.drop i = x :: T.drop (i + 1) := by
      obtain ⟨hl, hxe⟩ := List.getElem?_eq_some_iff.mp hxi
      rw [List.drop_eq_getElem_cons hl, hxe]
    have il : i < 400 := by
      have := (List.getElem?_eq_some_iff.mp hxi).1
      omega
    have pvf : pv ≠ fa := fun z => by rw [z, hf3] at hpv; cases hpv
    have hpv4 := B4 _ _ pvf hpv
    refine ⟨pv, _, rfl, SqT.of hpv4, rfl, _, _, rfl, _, _, rfl, rfl, ?_⟩
    have two : 2 ≤ sizeLine := by decide
    have step : ∀ (D2 : List (Nat × Nat)) (zs2 : List V) (H5 : Hp) (y : Nat × Nat) (t : Addr), Same H H5 → But fa H3 H5 → H5 fa = some (.lst zs2) → All2 (Nd H5) zs2 D2 → H5 t = none →
        let H6 := upd (upd H5 t (.tup [.int (y.1 : Int), .int (y.2 : Int)])) fa (.lst (zs2 ++ [.ref t]))
        Same H H6 ∧ But fa H3 H6 ∧ H6 fa = some (.lst (zs2 ++ [.ref t])) ∧ All2 (Nd H6) (zs2 ++ [.ref t]) (D2 ++ [y]) := by
      intro D2 zs2 H5 y t a1 a2 a3 a4 a5
      have w1 := same_upd (o := .tup [.int (y.1 : Int), .int (y.2 : Int)]) a5
      have f1 := w1 _ _ a3
      have tf : t ≠ fa := fun z => by rw [z, a3] at a5; cases a5
      refine ⟨fun u o k => by rw [upd_ne (ne_of_none k nf)]; exact w1 _ _ (a1 _ _ k), fun u o n k => by rw [upd_ne n]; exact w1 _ _ (a2 u o n k), upd_same, ?_⟩
      exact (a4.mono (fun v x (k : Nd H5 v x) => (k.same w1).upd f1)).app (.cons ⟨t, rfl, by rw [upd_ne tf, upd_same]⟩ .nil)
    rcases hd with ⟨i0, rfl⟩ | ⟨done, c, rfl, hj⟩
    · cases hz
      refine ⟨_, rfl, false, .inl ⟨[], SqL.of hf, rfl⟩, ?_⟩
      refine ⟨_, rfl, .inl ⟨rfl, _, SqL.of hf⟩, _, rfl, _, rfl, two, fun t nt => ?_⟩
      obtain ⟨b1, b2, b3, b4⟩ := step [] [] H4 x t sm B4 hf .nil nt
      refine ⟨fa, [], _, rfl, rfl, same_upd nt _ _ hf, szlt (by decide), ?_⟩
      refine ⟨_, _, _, _, [] ++ [.ref t], [x], rfl, b1, b2, b3, b4, by show 1 ≤ i + 1; omega, .inr ⟨[], x, rfl, ?_⟩⟩
      subst i0
      rw [List.drop_zero] at hdr
      rw [hdr]
      rfl
    · obtain ⟨zs0, zc, rfl, hz0, hzc⟩ : ∃ (zs0 : List V) (zc : V), zs = zs0 ++ [zc] ∧ All2 (Nd H4) zs0 done ∧ Nd H4 zc c := by
        have := hz.rev
        rw [List.reverse_append] at this
        generalize hzr : zs.reverse = zr at this
        cases this with
        | @cons v _ vs _ h r =>
          refine ⟨vs.reverse, v, ?_, ?_, h⟩
          · rw [← List.reverse_reverse zs, hzr, List.reverse_cons]
          · have r2 : All2 (Nd H4) vs.reverse (done.reverse).reverse := r.rev
            rwa [List.reverse_reverse] at r2
      obtain ⟨cp, rfl, hcp⟩ := hzc
      rw [hdr] at hj
      have hz9 : done.length + 1 ≤ 400 := by
        rw [List.length_append] at dl
        have : ([c] : List (Nat × Nat)).length = 1 := rfl
        omega
      refine ⟨_, rfl, true, .inl ⟨_, SqL.of hf, by cases zs0 <;> rfl⟩, ?_⟩
      refine ⟨_, rfl, _, rfl, _, rfl, fa, _, _, _, rfl, rfl, SqL.of hf, atI_last _ _, cp, _, _, _, rfl, rfl, SqT.of hcp, atI_nat (j := 1) rfl, _, _, rfl, rfl, ?_⟩
      by_cases le : x.1 ≤ c.2
      · refine ⟨true, congrArg V.bl (decide_eq_true (by omega)), ?_⟩
        refine ⟨_, rfl, .inl ⟨rfl, _, SqL.of hf⟩, fa, _, .ref cp, rfl, rfl, hf, by simp, ?_⟩
        have e1 : jn T = done ++ jgo (c.1, max c.2 x.2) (T.drop (i + 1)) := by
          rw [hj]
          show done ++ jgo c (x :: T.drop (i + 1)) = _
          rw [jgo, if_pos le]
        rw [List.dropLast_concat]
        have p1 : Same H (upd H4 fa (.lst zs0)) := fun u o k => by rw [upd_ne (ne_of_none k nf)]; exact sm _ _ k
        have p2 : But fa H3 (upd H4 fa (.lst zs0)) := fun u o n k => by rw [upd_ne n]; exact B4 u o n k
        have p3 : (upd H4 fa (.lst zs0)) fa = some (.lst zs0) := upd_same
        have p4 : All2 (Nd (upd H4 fa (.lst zs0))) zs0 done := hz0.mono (fun v x (k : Nd H4 v x) => k.upd hf)
        have p5 : (upd H4 fa (.lst zs0)) cp = some (.tup [.int (c.1 : Int), .int (c.2 : Int)]) := by
          rw [upd_ne (ne_of hcp hf (by intro z; cases z))]
          exact hcp
        generalize upd H4 fa (.lst zs0) = H5 at p1 p2 p3 p4 p5 ⊢
        refine ⟨cp, _, rfl, SqT.of p5, rfl, _, _, rfl, _, _, rfl, rfl, ?_⟩
        refine ⟨_, rfl, .inl ⟨rfl, _, SqL.of p3⟩, _, rfl, _, rfl, _, rfl, _, _, rfl, two, fun t nt => ?_⟩
        rw [max_castB]
        obtain ⟨b1, b2, b3, b4⟩ := step done zs0 H5 (c.1, max c.2 x.2) t p1 p2 p3 p4 nt
        refine ⟨fa, zs0, _, rfl, rfl, same_upd nt _ _ p3, szlt (by rw [p4.len]; omega), ?_⟩
        refine ⟨_, _, _, _, zs0 ++ [.ref t], done ++ [(c.1, max c.2 x.2)], rfl, b1, b2, b3, b4, ?_, .inr ⟨done, _, rfl, e1⟩⟩
        rw [List.length_append] at dl ⊢
        exact Nat.le_succ_of_le dl
      · refine ⟨false, congrArg V.bl (decide_eq_false (by omega)), ?_⟩
        have e1 : jn T = (done ++ [c]) ++ jgo x (T.drop (i + 1)) := by
          rw [hj, List.append_assoc]
          show done ++ jgo c (x :: T.drop (i + 1)) = _
          rw [jgo, if_neg le]
          rfl
        refine ⟨_, rfl, .inl ⟨rfl, _, SqL.of hf⟩, _, rfl, _, rfl, two, fun t nt => ?_⟩
        obtain ⟨b1, b2, b3, b4⟩ := step _ _ H4 x t sm B4 hf hz nt
        refine ⟨fa, _, _, rfl, rfl, same_upd nt _ _ hf, szlt (by rw [hz.len, List.length_append]; show done.length + 1 < 100000; omega), ?_⟩
        refine ⟨_, _, _, _, _, done ++ [c] ++ [x], rfl, b1, b2, b3, b4, ?_, .inr ⟨done ++ [c], _, rfl, e1⟩⟩
        rw [List.length_append]
        exact Nat.succ_le_succ dl
  · rintro σ H4 ⟨v2, v3, v4, v5, zs, D, rfl, sm, B4, hf, hz, dl, hd⟩
    refine ⟨_, rfl, q H4 fa zs sm nf hf ?_⟩
    rw [yl, List.drop_length] at hd
    rcases hd with ⟨e, rfl⟩ | ⟨done, c, rfl, e⟩
    · have : T = [] := List.eq_nil_of_length_eq_zero (by omega)
      subst this
      exact hz
    · rw [e]
      exact hz
def spCheckK : Sp := fun vs H Q _ => ∃ (n : Nat) (p : Addr) (xs : List V) (S : List (Nat × Nat)), vs = [.int n, .ref p] ∧ 1 ≤ n ∧ n ≤ 10 ^ 30 ∧ H p = some (.lst xs) ∧ All2 (Nd H) xs S ∧ 1 ≤ S.length ∧ S.length ≤ 60 ∧ (∀ x ∈ S, isN n x) ∧ ∀ H', Same H H' → Q .non H'
theorem ok_check {f g1 g2 : Addr} {fd d1 d2 : FuncData} {ds : List Value} (F : Fun K "_check" "_check" sCheck f fd) (GCheckSize : FnOk P w K mg base CX0 3 g1 d1 ["size"] spCheckSize) (ACheckSize : At K mg "check_size" g1 d1 ["size"])
    (GCheckNodes : FnOk P w K mg base CX0 4 g2 d2 ["size", "nodes", "least", "most"] spCheckNodes) (ACheckNodes : AtT K mg "check_nodes" g2 d2 ["size", "nodes", "least", "most"] ds [.int 1, .int 60]) : FnOk P w K mg base CX0 5 f fd ["size", "nodes"] spCheckK := by
  refine F.ok scCheck (fun vs H Q E h => ?_) (fun cdv A outer s H vs Q E hr h => ?_)
  · obtain ⟨_, _, _, _, rfl, _⟩ := h
    rfl
  obtain ⟨n, p, xs, S, rfl, n1, h30, hp, hx, l1, l60, hS, q⟩ := h
  refine ⟨_, (pss_cons (ps_expr (pe_call GCheckSize (hr.mono (by decide)) rfl ACheckSize.m ACheckSize.kp ACheckSize.b .nil pass0 (pa_cons (pv 0) pa_nil)))
    (pss_one (ps_expr (pe_call GCheckNodes (hr.mono (by decide)) rfl ACheckNodes.m ACheckNodes.kp ACheckNodes.b ACheckNodes.v pass0 (pa_cons (pv 0) (pa_cons (pv 1) pa_nil)))))), ?_⟩
  refine ⟨_, rfl, _, rfl, by omega, by omega, _, rfl, _, rfl, n, p, xs, S, rfl, n1, h30, hp, hx, l1, l60, hS, q⟩
def spGives : Sp := fun vs H Q _ => ∃ (n : Nat) (p : Addr) (xs : List V) (S : List (Nat × Nat)), vs = [.int n, .ref p] ∧ 1 ≤ n ∧ n ≤ 10 ^ 30 ∧ H p = some (.lst xs) ∧ All2 (Nd H) xs S ∧ 1 ≤ S.length ∧ S.length ≤ 60 ∧ (∀ x ∈ S, isN n x) ∧ ∀ H', Same H H' → Q (.bl (decide (jn (srt S) = [(0, n)]))) H'
theorem ok_gives_root {f g1 g2 : Addr} {fd d1 d2 : FuncData} (F : Fun K "gives_root" "gives_root" sGivesRoot f fd) (GCheck : FnOk P w K mg base CX0 5 g1 d1 ["size", "nodes"] spCheckK) (ACheck : At K mg "_check" g1 d1 ["size", "nodes"])
    (GJoined : FnOk P w K mg base CX0 1 g2 d2 ["stretches"] spJoined) (AJoined : At K mg "joined" g2 d2 ["stretches"]) : FnOk P w K mg base CX0 6 f fd ["size", "nodes"] spGives := by
  refine F.ok scGivesRoot (fun vs H Q E h => ?_) (fun cdv A outer s H vs Q E hr h => ?_)
  · obtain ⟨_, _, _, _, rfl, _⟩ := h
    rfl
  obtain ⟨n, p, xs, S, rfl, n1, h30, hp, hx, l1, l60, hS, q⟩ := h
  refine ⟨_, (pss_cons (ps_expr (pe_call GCheck (hr.mono (by decide)) rfl ACheck.m ACheck.kp ACheck.b .nil pass0 (pa_cons (pv 0) (pa_cons (pv 1) pa_nil))))
    (pss_one (ps_ret (pe_cmpR (op_eqD hr.units) (pe_call GJoined (hr.mono (by decide)) rfl AJoined.m AJoined.kp AJoined.b .nil pass0 (pa_cons (pv 1) pa_nil)) (pe_lst (pa_cons (pe_tup (pa_cons pe_int (pa_cons (pv 0) pa_nil))) pa_nil)) (nomark _))))), ?_⟩
  refine ⟨_, rfl, _, rfl, n, p, xs, S, rfl, n1, h30, hp, hx, l1, l60, hS, fun H1 s1 => ?_⟩
  refine ⟨_, rfl, p, xs, S, rfl, s1 _ _ hp, hx.mono (fun v x (k : Nd H v x) => k.same s1), by omega, fun H2 r ys s2 nr hr2 hy => ?_⟩
  refine ⟨_, rfl, (by show 2 ≤ sizeLine; decide), fun t nt => ⟨(by show 1 ≤ sizeLine; decide), fun l nl => ?_⟩⟩
  have w1 := same_upd (o := .tup [.int 0, .int (n : Int)]) nt
  have w2 := same_upd (o := .lst [.ref t]) nl
  have len : (jn (srt S)).length ≤ 400 := by
    have := jn_len (srt S)
    rw [srt_len] at this
    omega
  refine ⟨.list ((jn (srt S)).map nd), .list ([(0, n)].map nd), lst_dp (w2 _ _ (w1 _ _ hr2)) (hy.mono fun v x (k : Nd H2 v x) => (k.same w1).same w2), lst_dp (l := [(0, n)]) upd_same (.cons ⟨t, rfl, w2 _ _ upd_same⟩ .nil), nds_shaped _, nds_shaped _, ?_⟩
  rw [nds_eqv]
  exact q _ ((s1.trans s2).trans (w1.trans w2))
/-- the greatest nodes within stretches -/
def tps (n : Nat) (l : List (Nat × Nat)) : List (Nat × Nat) := l.flatMap fun x => nw n x.1 x.2
theorem tps_len {n : Nat} : ∀ (l : List (Nat × Nat)), (∀ x ∈ l, x.2 ≤ 2 ^ 100) → (tps n l).length ≤ 202 * l.length
  | [], _ => Nat.le_refl _
  | x :: l, h => by
    have a := nw_len (n := n) (b := x.1) (h x List.mem_cons_self)
    have b := tps_len (n := n) l fun y hy => h y (List.mem_cons_of_mem _ hy)
    show (nw n x.1 x.2 ++ tps n l).length ≤ 202 * (l.length + 1)
    rw [List.length_append]
    omega
def spTopsK : Sp := fun vs H Q _ => ∃ (n : Nat) (p : Addr) (xs : List V) (S : List (Nat × Nat)), vs = [.int n, .ref p] ∧ 1 ≤ n ∧ n ≤ 10 ^ 30 ∧ H p = some (.lst xs) ∧ All2 (Nd H) xs S ∧ 1 ≤ S.length ∧ S.length ≤ 60 ∧ (∀ x ∈ S, isN n x) ∧
  ∀ (H' : Hp) (r : Addr) (ys : List V), Same H H' → H r = none → H' r = some (.lst ys) → All2 (Nd H') ys (tps n (jn (srt S))) → Q (.ref r) H'
theorem ok_known_tops {f g1 g2 g3 : Addr} {fd d1 d2 d3 : FuncData} (F : Fun K "known_tops" "known_tops" sKnownTops f fd) (GCheck : FnOk P w K mg base CX0 5 g1 d1 ["size", "nodes"] spCheckK) (ACheck : At K mg "_check" g1 d1 ["size", "nodes"])
    (GJoined : FnOk P w K mg base CX0 1 g2 d2 ["stretches"] spJoined) (AJoined : At K mg "joined" g2 d2 ["stretches"])
    (GNodesWithin : FnOk P w K mg base CX0 4 g3 d3 ["size", "begin", "end"] spWithinX) (ANodesWithin : At K mg "nodes_within" g3 d3 ["size", "begin", "end"]) : FnOk P w K mg base CX0 6 f fd ["size", "nodes"] spTopsK := by
  refine F.ok scKnownTops (fun vs H Q E h => ?_) (fun cdv A outer s H vs Q E hr h => ?_)
  · obtain ⟨_, _, _, _, rfl, _⟩ := h
    rfl
  obtain ⟨n, p, xs, S, rfl, n1, h30, hp, hx, l1, l60, hS, q⟩ := h
  refine' ⟨_, (pss_cons (ps_expr (pe_call GCheck (hr.mono (by decide)) rfl ACheck.m ACheck.kp ACheck.b .nil pass0 (pa_cons (pv 0) (pa_cons (pv 1) pa_nil))))
    (pss_one (ps_ret (pe_lc2 (own := [("begin", 2), ("end", 3), ("top", 4)]) (vs1 := [4]) rfl scKnownTops.nd (pi_list (pe_call GJoined (hr.mono (by decide)) rfl AJoined.m AJoined.kp AJoined.b .nil pass0 (pa_cons (pv 1) pa_nil))) (blkOk_by (N := ["size", "nodes", "begin", "end", "top"]) (sc := defScope sKnownTops) (by decide +kernel)) (by decide) (fun _ _ _ _ _ => (pg_tupB (n := 2) rfl (pgs_cons (pg_name (i := 2) scKnownTops.nd rfl (Or.inl rfl)) (pgs_cons (pg_name (i := 3) scKnownTops.nd rfl (Or.inl rfl)) pgs_nil)))) (fun _ _ _ _ _ => pts_nil) (fun _ _ _ _ _ => (pi_listB (pe_call GNodesWithin (hr.mono (by decide)) rfl ANodesWithin.m ANodesWithin.kp ANodesWithin.b .nil pass0 (pa_cons (pv 0) (pa_cons (pv 2) (pa_cons (pv 3) pa_nil)))))) (fun _ _ _ _ _ => (pg_name (i := 4) scKnownTops.nd rfl (Or.inl rfl))) (fun _ _ _ _ _ => pts_nil) (fun _ _ _ _ _ => (pv 4)))))), ?_⟩
  refine ⟨_, rfl, _, rfl, n, p, xs, S, rfl, n1, h30, hp, hx, l1, l60, hS, fun H1 s1 => ?_⟩
  refine ⟨_, rfl, p, xs, S, rfl, s1 _ _ hp, hx.mono (fun v x (k : Nd H v x) => k.same s1), by omega, fun H2 r ys s2 nr hr2 hy => ?_⟩
  have hb : ∀ x ∈ jn (srt S), x.1 < x.2 ∧ x.2 ≤ n := jn_mem fun x hx => by
    obtain ⟨a, b, _⟩ := isN_tree (hS x (srt_mem.mp hx))
    exact ⟨a, b⟩
  have len : (jn (srt S)).length ≤ 60 := by
    have := jn_len (srt S)
    rw [srt_len] at this
    omega
  have tot := tps_len (n := n) (jn (srt S)) fun x hx => by have := (hb x hx).2; omega
  generalize jn (srt S) = T at hb len tot hy q
  have s02 := s1.trans s2
  refine ⟨r, rfl, ⟨_, SqL.of hr2⟩, fun D nD => ?_⟩
  have yl := hy.len
  refine lc2_list (K := K) (a := r) (xs := ys) (fun i H' => ∃ (zs : List V), Same H2 H' ∧ H' D = some (.lst zs) ∧ All2 (Nd H') zs (tps n (T.take i))) ⟨[], same_upd nD, upd_same, .nil⟩ (fun i H' _ ⟨_, sm, _⟩ => SqL.of (sm _ _ hr2)) ?_ ?_
  · rintro i v H4 hi ⟨zs, sm, hD, hz⟩
    obtain ⟨x, hxi, pv, rfl, hpv⟩ := hy.nth hi
    have hpv4 := sm _ _ hpv
    obtain ⟨x1, x2⟩ := hb x (List.mem_of_getElem? hxi)
    refine ⟨pv, _, rfl, SqT.of hpv4, rfl, _, _, rfl, _, _, rfl, rfl, rfl, ?_⟩
    refine ⟨_, rfl, _, rfl, _, rfl, n, x.1, x.2, rfl, n1, by omega, x2, by omega, fun H5 r2 us s5 nr5 hr5 hu => ⟨r2, rfl, ⟨_, SqL.of hr5⟩, ?_⟩⟩
    have hD5 := s5 _ _ hD
    have rD : r2 ≠ D := fun z => by rw [z, hD] at nr5; cases nr5
    have etake : tps n (T.take (i + 1)) = tps n (T.take i) ++ nw n x.1 x.2 := by
      rw [take_more hxi]
      unfold tps
      rw [List.flatMap_append]
      simp
    have lenU : (tps n (T.take i)).length + (nw n x.1 x.2).length ≤ 202 * 60 := by
      have := tps_len (n := n) (T.take (i + 1)) fun x hx => by have := (hb x (List.mem_of_mem_take hx)).2; omega
      rw [etake, List.length_append, List.length_take] at this
      omega
    generalize tps n (T.take i) = A0 at hz etake lenU
    generalize nw n x.1 x.2 = L at hu etake lenU
    refine lc_in (K := K) (a := r2) (xs := us) (fun j H' => ∃ (ws : List V), Same H2 H' ∧ H' r2 = some (.lst us) ∧ All2 (Nd H') us L ∧ H' D = some (.lst ws) ∧ All2 (Nd H') ws (A0 ++ L.take j))
      ⟨zs, sm.trans s5, hr5, hu, hD5, by rw [List.take_zero, List.append_nil]; exact hz.mono fun v x (k : Nd H4 v x) => k.same s5⟩ (fun j H' _ ⟨_, _, hr, _⟩ => SqL.of hr) ?_ ?_
    · rintro j u H6 hj ⟨ws, sm6, hr6, hu6, hD6, hw6⟩
      obtain ⟨y, hyj, hy6⟩ := hu6.nth hj
      have jl : j < L.length := (List.getElem?_eq_some_iff.mp hyj).1
      refine ⟨rfl, ?_⟩
      refine ⟨_, rfl, ws, hD6, szlt (by rw [hw6.len, List.length_append, List.length_take]; omega), ws ++ [u], ?_, ?_, ?_, upd_same, ?_⟩
      · exact fun a o k => by rw [upd_ne (ne_of_none k nD)]; exact sm6 _ _ k
      · rw [upd_ne rD]
        exact hr6
      · exact hu6.mono fun v x (k : Nd H6 v x) => k.upd hD6
      · rw [take_more hyj, ← List.append_assoc]
        exact (hw6.mono fun v x (k : Nd H6 v x) => k.upd hD6).app (.cons (hy6.upd hD6) .nil)
    · rintro H6 ⟨ws, sm6, hr6, hu6, hD6, hw6⟩
      refine ⟨ws, sm6, hD6, ?_⟩
      rw [hu6.len, List.take_length] at hw6
      rw [etake]
      exact hw6
  · rintro H4 ⟨zs, sm, hD, hz⟩
    rw [yl, List.take_length] at hz
    exact q H4 D zs (s02.trans sm) (s02.free nD) hD hz
def spMissing : Sp := fun vs H Q _ => ∃ (n : Nat) (p : Addr) (xs : List V) (S : List (Nat × Nat)), vs = [.int n, .ref p] ∧ 1 ≤ n ∧ n ≤ 10 ^ 30 ∧ H p = some (.lst xs) ∧ All2 (Nd H) xs S ∧ 1 ≤ S.length ∧ S.length ≤ 60 ∧ (∀ x ∈ S, isN n x) ∧
  ∀ (H' : Hp) (r : Addr) (ys : List V), Same H H' → H r = none → H' r = some (.lst ys) → All2 (Nd H') ys (nb n 0 (srt S)) → Q (.ref r) H'
theorem ok_missing {f g1 g2 : Addr} {fd d1 d2 : FuncData} (F : Fun K "missing" "missing" sMissing f fd) (GCheck : FnOk P w K mg base CX0 5 g1 d1 ["size", "nodes"] spCheckK) (ACheck : At K mg "_check" g1 d1 ["size", "nodes"])
    (GNodesBeside : FnOk P w K mg base CX0 5 g2 d2 ["size", "stretches"] spBeside) (ANodesBeside : At K mg "nodes_beside" g2 d2 ["size", "stretches"]) : FnOk P w K mg base CX0 6 f fd ["size", "nodes"] spMissing := by
  refine F.ok scMissing (fun vs H Q E h => ?_) (fun cdv A outer s H vs Q E hr h => ?_)
  · obtain ⟨_, _, _, _, rfl, _⟩ := h
    rfl
  obtain ⟨n, p, xs, S, rfl, n1, h30, hp, hx, l1, l60, hS, q⟩ := h
  refine ⟨_, (pss_cons (ps_expr (pe_call GCheck (hr.mono (by decide)) rfl ACheck.m ACheck.kp ACheck.b .nil pass0 (pa_cons (pv 0) (pa_cons (pv 1) pa_nil))))
    (pss_one (ps_ret (pe_call GNodesBeside (hr.mono (by decide)) rfl ANodesBeside.m ANodesBeside.kp ANodesBeside.b .nil pass0 (pa_cons (pv 0) (pa_cons (pv 1) pa_nil)))))), ?_⟩
  refine ⟨_, rfl, _, rfl, n, p, xs, S, rfl, n1, h30, hp, hx, l1, l60, hS, fun H1 s1 => ?_⟩
  refine ⟨_, rfl, _, rfl, n, p, xs, S, rfl, n1, h30, s1 _ _ hp, hx.mono (fun v x (k : Nd H v x) => k.same s1), by omega, fun x hx => ?_, fun H2 r ys s2 nr hr2 hy => ?_⟩
  · obtain ⟨a, b, _⟩ := isN_tree (hS x hx)
    omega
  exact q H2 r ys (s1.trans s2) (s1.free nr) hr2 hy
end
end LT

namespace LT
open PySem PySem.Spec PyProof.Rows L2
def isHalfP (B M : Nat) (x : Nat × Nat) : Prop := x = (B, B + gp M) ∨ x = (B + gp M, B + M)
def wayL (b m : Nat) (x : Nat × Nat) : List (Nat × Nat) :=
  if h : m ≤ 1 then [(b, b + m)] else
    if x = (b, b + m) then [(b, b + m)] else
      if x.1 < b + gp m then (b, b + m) :: wayL b (gp m) x else (b, b + m) :: wayL (b + gp m) (m - gp m) x
termination_by m
decreasing_by
  · exact gp_lt (by omega)
  · have := gp_pos m; omega
theorem wayL_here {b m : Nat} {x : Nat × Nat} (h : x = (b, b + m)) : wayL b m x = [x] := by
  rw [wayL, ← h]
  simp
theorem wayL_low {b m : Nat} {x : Nat × Nat} (h : 2 ≤ m) (c : x ≠ (b, b + m)) (k : x.1 < b + gp m) : wayL b m x = (b, b + m) :: wayL b (gp m) x := by
  rw [wayL, dif_neg (by omega), if_neg c, if_pos k]
theorem wayL_high {b m : Nat} {x : Nat × Nat} (h : 2 ≤ m) (c : x ≠ (b, b + m)) (k : ¬ x.1 < b + gp m) : wayL b m x = (b, b + m) :: wayL (b + gp m) (m - gp m) x := by
  rw [wayL, dif_neg (by omega), if_neg c, if_neg k]
/-- a node within a node of two entries or more that is not it lies in a half -/
theorem in_half {n b m : Nat} {x : Nat × Nat} (hm : 1 ≤ m) (t : tree n b m) (hn : b + m ≤ n) (hx : isN n x) (h1 : b ≤ x.1) (h2 : x.2 ≤ b + m) (c : x ≠ (b, b + m)) :
    2 ≤ m ∧ (x.1 < b + gp m → x.2 ≤ b + gp m) := by
  have k := hx.1
  have m2 : 2 ≤ m := by
    by_cases z : m = 1
    · subst z
      exact absurd (Prod.ext (by show x.1 = b; omega) (by show x.2 = b + 1; omega)) c
    · omega
  refine ⟨m2, fun z => ?_⟩
  rcases node_in m2 t hn hx h1 h2 with y | y | y
  · exact absurd y c
  · exact y
  · omega
theorem wayL_end {n : Nat} {x : Nat × Nat} (hx : isN n x) : ∀ (m b : Nat), 1 ≤ m → tree n b m → b + m ≤ n → b ≤ x.1 → x.2 ≤ b + m → x ≠ (b, b + m) →
    ∃ us B M, wayL b m x = us ++ [(B, B + M), x] ∧ isN n (B, B + M) ∧ 2 ≤ M ∧ tree n B M ∧ isHalfP B M x := by
  intro m
  induction m using Nat.strongRecOn with
  | ind m ih =>
    intro b hm t hn h1 h2 c
    obtain ⟨m2, hh⟩ := in_half hm t hn hx h1 h2 c
    have g1 := gp_lt m2
    have g3 := gp_pos m
    have em : b + gp m + (m - gp m) = b + m := by omega
    by_cases k : x.1 < b + gp m
    · rw [wayL_low m2 c k]
      by_cases c2 : x = (b, b + gp m)
      · rw [wayL_here c2]
        exact ⟨[], b, m, rfl, isN_of hm hn t, m2, t, .inl c2⟩
      · obtain ⟨us, B, M, e, r⟩ := ih (gp m) g1 b g3 (tree_low m2 t) (by omega) h1 (hh k) c2
        exact ⟨(b, b + m) :: us, B, M, by rw [e]; rfl, r⟩
    · rw [wayL_high m2 c k]
      by_cases c2 : x = (b + gp m, b + gp m + (m - gp m))
      · rw [wayL_here c2]
        exact ⟨[], b, m, rfl, isN_of hm hn t, m2, t, .inr (by rw [c2, em])⟩
      · obtain ⟨us, B, M, e, r⟩ := ih (m - gp m) (by omega) (b + gp m) (by omega) (tree_high m2 t) (by omega) (by omega) (by omega) c2
        exact ⟨(b, b + m) :: us, B, M, by rw [e]; rfl, r⟩
theorem wayL_len {n e : Nat} : ∀ (m b : Nat), tree n b m → b ≤ e → e < b + m → b + m ≤ n → (wayL b m (e, e + 1)).length = (sib b m e).length + 1 := by
  refine way_ind (fun b m h h1 h2 _ => ?_) (fun b m h _ h1 k _ ih => ?_) (fun b m h _ h1 k _ _ ih => ?_)
  · rw [wayL_here (Prod.ext (by show e = b; omega) (by show e + 1 = b + m; omega)), sib_one h]
    rfl
  · rw [wayL_low h (fun z => by have := congrArg Prod.fst z; have := congrArg Prod.snd z; simp only at *; omega) k, sib_low h k, List.length_cons, List.length_cons, ih]
  · rw [wayL_high h (fun z => by have := congrArg Prod.fst z; have := congrArg Prod.snd z; simp only at *; omega) k, sib_high h k, List.length_cons, List.length_cons, ih]
theorem wayL_most (x : Nat × Nat) : ∀ (m b : Nat), 1 ≤ m → (wayL b m x).length ≤ lb m + 1 := by
  intro m
  induction m using Nat.strongRecOn with
  | ind m ih =>
    intro b hm
    by_cases c1 : m ≤ 1
    · rw [wayL, dif_pos c1]; simp
    · have m2 : 2 ≤ m := by omega
      have g1 := gp_lt m2
      have g2 := gp_ge m2
      have g3 := gp_pos m
      have e1 := lb_big m2
      by_cases c : x = (b, b + m)
      · rw [wayL_here c]; simp
      · by_cases k : x.1 < b + gp m
        · rw [wayL_low m2 c k, List.length_cons]
          have := ih (gp m) g1 b g3
          have e2 : lb (gp m) = Nat.log2 (m - 1) := by unfold gp; rw [lb_pow]
          omega
        · rw [wayL_high m2 c k, List.length_cons]
          have := ih (m - gp m) (by omega) (b + gp m) (by omega)
          have e2 : lb (m - gp m) ≤ Nat.log2 (m - 1) := lb_le (by unfold gp at g1 g2 ⊢; omega)
          omega
end LT

namespace LT
open PySem PySem.Spec PyProof.Rows L2
/-- the parts of the log's entries around b in rooms of 2 ^ j -/
def cutAt (n b j : Nat) : Nat × Nat := (b - b % 2 ^ j, min (b - b % 2 ^ j + 2 ^ j) n)
/-- a half of a node -/
def isHalf (B M : Nat) (x : Nat × Nat) : Prop := x = (B, B + gp M) ∨ x = (B + gp M, B + M)
theorem cut_here {n b m : Nat} (t : tree n b m) (hn : b + m ≤ n) : cutAt n b (lb m) = (b, b + m) := by
  obtain ⟨d, k⟩ := t
  unfold cutAt
  rw [Nat.mod_eq_zero_of_dvd d, Nat.sub_zero]
  have := lb_ge m
  refine Prod.ext rfl ?_
  simp only
  rcases k with k | k
  · rw [← k]; exact Nat.min_eq_left hn
  · rw [k]; exact Nat.min_eq_right (by omega)
theorem mod_of_room {R B b : Nat} (d : R ∣ B) (h1 : B ≤ b) (h2 : b < B + R) : b - b % R = B := by
  obtain ⟨x, rfl⟩ := d
  have e : b % R = b - R * x := by
    have h : b = R * x + (b - R * x) := by omega
    rw [h, Nat.mul_add_mod, Nat.mod_eq_of_lt (by omega), Nat.add_sub_cancel_left]
  omega
theorem cut_above {n B M b : Nat} (t : tree n B M) (hn : B + M ≤ n) (h1 : B ≤ b) (h2 : b < B + M) : cutAt n b (lb M) = (B, B + M) := by
  rw [← cut_here t hn]
  have := lb_ge M
  unfold cutAt
  rw [mod_of_room t.1 h1 (by omega), mod_of_room t.1 (Nat.le_refl _) (by have := Nat.pow_pos (a := 2) (n := lb M) (by decide); omega)]
theorem half_lb {M : Nat} (h : 2 ≤ M) : lb M = Nat.log2 (M - 1) + 1 := by unfold lb; rw [if_neg (by omega)]
theorem cut_between {n B M : Nat} (h : 2 ≤ M) (t : tree n B M) (hn : B + M ≤ n) {x : Nat × Nat} (hx : isHalf B M x) {j : Nat} (h1 : lb (x.2 - x.1) ≤ j) (h2 : j < lb M) : cutAt n x.1 j = x := by
  have g1 := gp_lt h
  have g2 := gp_ge h
  have e1 := half_lb h
  have eg : lb (gp M) = Nat.log2 (M - 1) := by unfold gp; rw [lb_pow]
  rcases hx with rfl | rfl
  · simp only [Nat.add_sub_cancel_left] at h1
    have ej : j = lb (gp M) := by omega
    subst ej
    exact cut_here (tree_low h t) (by omega)
  · have em : B + M - (B + gp M) = M - gp M := by omega
    simp only at h1
    rw [em] at h1
    have th := tree_high h t
    by_cases c : j = lb (M - gp M)
    · subst c
      have := cut_here th (by omega)
      rw [show B + gp M + (M - gp M) = B + M by omega] at this
      exact this
    · have lt : lb (M - gp M) < lb (gp M) := by omega
      have hn2 : B + M = n := by
        rcases t.2 with k | k
        · exfalso
          have e2 := lb_gp h
          have e3 : M - gp M = gp M := by omega
          rw [e3] at lt
          omega
        · exact k
      unfold cutAt
      have dj : 2 ^ j ∣ B + gp M := by
        have d1 : 2 ^ j ∣ gp M := by unfold gp; exact Nat.pow_dvd_pow 2 (by omega)
        have d2 : gp M ∣ B := by
          have k := t.1
          rw [lb_gp h] at k
          exact Nat.dvd_trans (Nat.dvd_mul_left _ _) k
        exact Nat.dvd_add (Nat.dvd_trans d1 d2) d1
      simp only
      rw [Nat.mod_eq_zero_of_dvd dj, Nat.sub_zero]
      refine Prod.ext rfl ?_
      simp only
      have k1 := lb_ge (M - gp M)
      have k2 : 2 ^ lb (M - gp M) ≤ 2 ^ j := Nat.pow_le_pow_right (by decide) h1
      rw [Nat.min_eq_right (by omega), hn2]
theorem half_ne {B M n : Nat} (h : 2 ≤ M) (hn : B + M ≤ n) {x : Nat × Nat} (hx : isHalf B M x) : x ≠ (0, n) ∧ x ≠ (B, B + M) ∧ B ≤ x.1 ∧ x.1 < x.2 ∧ x.2 ≤ B + M := by
  have g1 := gp_lt h
  have g3 := gp_pos M
  rcases hx with rfl | rfl
  · refine ⟨fun z => ?_, fun z => ?_, Nat.le_refl _, by simp only; omega, by simp only; omega⟩
    · have := congrArg Prod.snd z; simp only at this; omega
    · have := congrArg Prod.snd z; simp only at this; omega
  · refine ⟨fun z => ?_, fun z => ?_, by simp only; omega, by simp only; omega, Nat.le_refl _⟩
    · have := congrArg Prod.fst z; simp only at this; omega
    · have := congrArg Prod.fst z; simp only at this; omega
theorem half_tree {B M n : Nat} (h : 2 ≤ M) (t : tree n B M) {x : Nat × Nat} (hx : isHalf B M x) : tree n x.1 (x.2 - x.1) := by
  have g1 := gp_lt h
  rcases hx with rfl | rfl
  · simp only [Nat.add_sub_cancel_left]
    exact tree_low h t
  · simp only
    rw [show B + M - (B + gp M) = M - gp M by omega]
    exact tree_high h t
theorem half_lt {B M : Nat} (h : 2 ≤ M) {x : Nat × Nat} (hx : isHalf B M x) : lb (x.2 - x.1) < lb M := by
  have g1 := gp_lt h
  have g2 := gp_ge h
  have e1 := half_lb h
  have eg : lb (gp M) = Nat.log2 (M - 1) := by unfold gp; rw [lb_pow]
  rcases hx with rfl | rfl
  · simp only [Nat.add_sub_cancel_left]
    omega
  · simp only
    rw [show B + M - (B + gp M) = M - gp M by omega]
    have : lb (M - gp M) ≤ Nat.log2 (M - 1) := lb_le (by unfold gp at g1 g2 ⊢; omega)
    omega
theorem nd_is (x y : Nat × Nat) : PyData.eqv (nd x) (nd y) = decide (x = y) := by
  show PyData.eqv (.tuple [.int x.1, .int x.2]) (.tuple [.int y.1, .int y.2]) = _
  rw [nd_eqv]
  by_cases c : x = y
  · subst c; simp
  · rw [decide_eq_false c, Bool.and_eq_false_iff]
    by_cases c1 : x.1 = y.1
    · right
      exact decide_eq_false (fun z => c (Prod.ext c1 (by omega)))
    · left
      exact decide_eq_false (fun z => c1 (by omega))
section
variable {P : Program} {w : World} {K : PySem.W.Frag} {mg : Str → Option Value} {base : Heap}
/-- the node above -/
def spParent : Sp := fun vs H Q _ => ∃ (n : Nat) (x : Nat × Nat) (v : V), vs = [.int n, v] ∧ Nd H v x ∧ 1 ≤ n ∧ n ≤ 10 ^ 30 ∧
  ((x = (0, n) ∧ ∀ H', Same H H' → Q .non H') ∨ (∃ B M, 2 ≤ M ∧ tree n B M ∧ B + M ≤ n ∧ isHalf B M x ∧ ∀ (H' : Hp) (u : V), Same H H' → Nd H' u (B, B + M) → Q u H'))
theorem ok_parent {f g1 g2 : Addr} {fd d1 d2 : FuncData} (F : Fun K "parent" "parent" sParent f fd) (GCheckSize : FnOk P w K mg base CX0 3 g1 d1 ["size"] spCheckSize) (ACheckSize : At K mg "check_size" g1 d1 ["size"])
    (GCheckNode : FnOk P w K mg base CX0 4 g2 d2 ["size", "node"] spCheckNode) (ACheckNode : At K mg "check_node" g2 d2 ["size", "node"]) (z_min : mg "min" = none) :
    FnOk P w K mg base CX0 5 f fd ["size", "node"] spParent := by
  refine F.ok scParent (fun vs H Q E h => ?_) (fun cdv A outer s H vs Q E hr h => ?_)
  · obtain ⟨_, _, _, rfl, _⟩ := h
    rfl
  obtain ⟨n, x, v, rfl, hv, n1, h30, q⟩ := h
  have two : 2 ≤ sizeLine := by decide
  have hx : x.1 < x.2 ∧ x.2 ≤ n ∧ tree n x.1 (x.2 - x.1) := by
    rcases q with ⟨rfl, _⟩ | ⟨B, M, h2, t, hn, hh, _⟩
    · exact ⟨n1, Nat.le_refl _, tree_root n⟩
    · have k := half_ne h2 hn hh
      exact ⟨k.2.2.2.1, by omega, half_tree h2 t hh⟩
  obtain ⟨x1, x2, x3⟩ := hx
  refine ⟨_, (pss_cons (ps_expr (pe_call GCheckSize (hr.mono (by decide)) rfl ACheckSize.m ACheckSize.kp ACheckSize.b .nil pass0 (pa_cons (pv 0) pa_nil)))
    (pss_cons (ps_expr (pe_call GCheckNode (hr.mono (by decide)) rfl ACheckNode.m ACheckNode.kp ACheckNode.b .nil pass0 (pa_cons (pv 0) (pa_cons (pv 1) pa_nil))))
    (pss_cons (ps_if (pt_cmpR (op_eqD hr.units) (pv 1) (pe_tup (pa_cons pe_int (pa_cons (pv 0) pa_nil))) (nomark _))
    (pss_one (ps_ret pe_non))
    pss_nil)
    (pss_cons (ps_asg (pv 1) (pg_tup (by rfl) (pgs_cons (pg_name (i := 2) scParent.nd rfl (Or.inl rfl)) (pgs_cons (pg_name (i := 3) scParent.nd rfl (Or.inl rfl)) pgs_nil))))
    (pss_cons (ps_par (i := 4) (j := 5) (by rfl) scParent.nd rfl rfl (by decide) rfl rfl (pa_cons (pv 2) (pa_cons (pv 3) pa_nil)) (by rfl))
    (pss_cons (ps_set (i := 6) scParent.nd rfl (Or.inl rfl) (pe_op op_shl pe_int (pe_bits (pe_op op_sub (pe_op op_sub (pv 3) (pv 2)) pe_int))))
    (pss_cons (ps_while PassesOwn.never (pt_cmpR (op_eqD hr.units) (pe_tup (pa_cons (pv 4) (pa_cons (pv 5) pa_nil))) (pe_tup (pa_cons (pv 2) (pa_cons (pv 3) pa_nil))) (nomark _))
    (pss_cons (ps_set (i := 6) scParent.nd rfl (Or.inl rfl) (pe_op op_mul (pv 6) pe_int))
    (pss_cons (ps_set (i := 4) scParent.nd rfl (Or.inl rfl) (pe_op op_sub (pv 2) (pe_op op_modN (pv 2) (pv 6))))
    (pss_one (ps_set (i := 5) scParent.nd rfl (Or.inl rfl) (pe_callB (call_min2 rfl) (by rfl) z_min (by decide +kernel) (pa_cons (pe_op op_add (pv 4) (pv 6)) (pa_cons (pv 0) pa_nil))))))))
    (pss_one (ps_ret (pe_tup (pa_cons (pv 4) (pa_cons (pv 5) pa_nil)))))))))))), ?_⟩
  refine ⟨_, rfl, n, rfl, by omega, by omega, ?_⟩
  have ex : x.1 + (x.2 - x.1) = x.2 := by omega
  refine ⟨_, rfl, _, rfl, n, x.1, x.2 - x.1, v, rfl, by rw [ex]; exact hv, by omega, by omega, h30, x3, ?_⟩
  refine ⟨_, rfl, _, rfl, two, fun t0 n0 => ?_⟩
  have s0 := same_upd (o := .tup [.int 0, .int (n : Int)]) n0
  refine ⟨nd x, nd (0, n), (hv.same s0).dp, .tup (SqT.of upd_same) (.cons (.int _) (.cons (.int _) .nil)), nd_shaped _ _, nd_shaped _ _, ?_⟩
  rw [nd_is]
  generalize upd H t0 (.tup [.int 0, .int (n : Int)]) = H0 at s0
  refine ⟨_, rfl, ite2 (fun c => ?_) (fun c => ?_)⟩
  · have c1 : x = (0, n) := of_decide_eq_true c
    rcases q with ⟨_, q⟩ | ⟨B, M, h2, t, hn, hh, _⟩
    · exact q _ s0
    · exact absurd c1 (half_ne h2 hn hh).1
  have c1 : ¬ x = (0, n) := of_decide_eq_false (Bool.eq_false_iff.mpr c)
  obtain ⟨B, M, h2, t, hn, hh, q⟩ : ∃ B M, 2 ≤ M ∧ tree n B M ∧ B + M ≤ n ∧ isHalf B M x ∧ ∀ (H' : Hp) (u : V), Same H H' → Nd H' u (B, B + M) → Q u H' := q.elim (fun z => absurd z.1 c1) id
  obtain ⟨k1, k2, k3, k4, k5⟩ := half_ne h2 hn hh
  obtain ⟨p, rfl, hp⟩ := id hv
  refine ⟨_, rfl, p, _, rfl, SqT.of (s0 _ _ hp), rfl, _, _, rfl, _, _, rfl, rfl, ?_⟩
  have em : (x.2 : Int) - (x.1 : Int) - 1 = ((x.2 - x.1 - 1 : Nat) : Int) := by omega
  have hb : Builtin.Int.intBits ((x.2 : Int) - (x.1 : Int) - 1) = lb (x.2 - x.1) := by rw [em, bits_lb (by omega)]
  have l100 := lb100 (show x.2 - x.1 ≤ 10 ^ 30 by omega)
  have lM := lb100 (show M ≤ 10 ^ 30 by omega)
  have ll := half_lt h2 hh
  have e0 : cutAt n x.1 (lb (x.2 - x.1)) = x := by
    have := cut_here (m := x.2 - x.1) (half_tree h2 t hh) (by omega)
    rw [ex] at this
    exact this
  refine ⟨_, rfl, _, rfl, _, _, rfl, _, rfl, _, rfl, _, _, rfl, rfl, _, _, rfl, rfl, _, rfl, _, _, rfl, rfl, ⟨Int.natCast_nonneg _, by omega, by decide⟩, ?_⟩
  refine ⟨fun mu σ H' => ∃ j : Nat, σ = [some (.int n), some (.ref p), some (.int (x.1 : Int)), some (.int (x.2 : Int)), some (.int ((cutAt n x.1 j).1 : Int)), some (.int ((cutAt n x.1 j).2 : Int)), some (.int ((2 ^ j : Nat) : Int))] ∧ Same H H' ∧ lb (x.2 - x.1) ≤ j ∧ j ≤ lb M ∧ mu = lb M - j,
    ⟨lb M - lb (x.2 - x.1), lb (x.2 - x.1), ?_, s0, Nat.le_refl _, by omega, rfl⟩, ?_⟩
  · have e2 : (1 : Int) * 2 ^ ((Builtin.Int.intBits ((x.2 : Int) - (x.1 : Int) - 1) : Nat) : Int).toNat = ((2 ^ lb (x.2 - x.1) : Nat) : Int) := by rw [hb, Int.one_mul, Int.toNat_natCast]; exact (Int.natCast_pow 2 _).symm
    rw [e0, ← e2]
    rfl
  rintro mu σ H1 ⟨j, rfl, s1, j1, j2, rfl⟩
  refine ⟨_, rfl, _, rfl, two, fun t1 nt1 => ⟨_, rfl, _, rfl, two, fun t2 nt2 => ?_⟩⟩
  have st1 := same_upd (o := .tup [.int ((cutAt n x.1 j).1 : Int), .int ((cutAt n x.1 j).2 : Int)]) nt1
  have st2 := same_upd (o := .tup [.int (x.1 : Int), .int (x.2 : Int)]) nt2
  have sE := s1.trans (st1.trans st2)
  refine ⟨nd (cutAt n x.1 j), nd x, .tup (SqT.of (st2 _ _ upd_same)) (.cons (.int _) (.cons (.int _) .nil)), .tup (SqT.of upd_same) (.cons (.int _) (.cons (.int _) .nil)), nd_shaped _ _, nd_shaped _ _, ?_⟩
  rw [nd_is]
  refine ⟨_, rfl, ite2 (fun c => ?_) (fun c => ?_)⟩
  · have d1 : cutAt n x.1 j = x := of_decide_eq_true c
    have d2 : j < lb M := by
      by_cases z : j = lb M
      · subst z
        rw [cut_above t hn k3 (by omega)] at d1
        exact absurd d1.symm k2
      · omega
    have pj : 0 < 2 ^ (j + 1) := Nat.pow_pos (by decide)
    refine ⟨_, fun σ' H' h => h, _, rfl, _, _, rfl, rfl, .inr ⟨by decide, by decide⟩, ?_⟩
    have er : ((2 ^ j : Nat) : Int) * 2 = ((2 ^ (j + 1) : Nat) : Int) := by rw [Nat.pow_succ]; omega
    have fm : Int.fmod (x.1 : Int) ((2 ^ (j + 1) : Nat) : Int) = ((x.1 % 2 ^ (j + 1) : Nat) : Int) := by
      rw [Int.fmod_eq_emod_of_nonneg _ (Int.natCast_nonneg _)]
      exact (Int.natCast_emod _ _).symm
    have ef : (x.1 : Int) - ((x.1 % 2 ^ (j + 1) : Nat) : Int) = ((cutAt n x.1 (j + 1)).1 : Int) := by
      have := Nat.mod_le x.1 (2 ^ (j + 1))
      show _ = ((x.1 - x.1 % 2 ^ (j + 1) : Nat) : Int)
      omega
    have el : (if (n : Int) < ((cutAt n x.1 (j + 1)).1 : Int) + ((2 ^ (j + 1) : Nat) : Int) then (n : Int) else ((cutAt n x.1 (j + 1)).1 : Int) + ((2 ^ (j + 1) : Nat) : Int)) = ((cutAt n x.1 (j + 1)).2 : Int) := by
      show (if (n : Int) < ((x.1 - x.1 % 2 ^ (j + 1) : Nat) : Int) + ((2 ^ (j + 1) : Nat) : Int) then (n : Int) else ((x.1 - x.1 % 2 ^ (j + 1) : Nat) : Int) + ((2 ^ (j + 1) : Nat) : Int)) = ((min (x.1 - x.1 % 2 ^ (j + 1) + 2 ^ (j + 1)) n : Nat) : Int)
      split <;> omega
    refine ⟨_, rfl, _, rfl, _, rfl, _, _, rfl, rfl, ?_, _, _, rfl, rfl, ?_⟩
    · rw [er]; omega
    refine ⟨_, rfl, _, rfl, _, _, rfl, rfl, _, rfl, _, _, rfl, ?_⟩
    refine ⟨lb M - (j + 1), by omega, j + 1, ?_, sE, by omega, by omega, rfl⟩
    rw [← el, ← ef, ← fm, ← er]
    rfl
  · have d1 : ¬ cutAt n x.1 j = x := of_decide_eq_false (Bool.eq_false_iff.mpr c)
    have d2 : j = lb M := by
      by_cases z : j = lb M
      · exact z
      · exact absurd (cut_between h2 t hn hh j1 (by omega)) d1
    subst d2
    generalize upd (upd H1 t1 _) t2 _ = H3 at sE
    rw [cut_above t hn k3 (by omega)]
    refine ⟨_, rfl, _, rfl, two, fun t3 nt3 => ?_⟩
    have st3 := same_upd (o := .tup [.int (B : Int), .int ((B + M : Nat) : Int)]) nt3
    exact q _ (.ref t3) (sE.trans st3) ⟨t3, rfl, upd_same⟩
end
end LT

namespace LT
open PySem PySem.Spec PyProof.Rows L2
/-- zip where the second list ends first -/
theorem for_zipS {K : PySem.W.Frag} {a b : Addr} {xs ys : List V} {g : TG} {tb : TS} {D : Ends} {σ : L2.St} {H : Hp} (hl : ys.length ≤ xs.length) (J : Nat → L2.St → Hp → Prop) (start : J 0 σ H)
    (still : ∀ i σ H, J i σ H → SqL K H a xs ∧ SqL K H b ys)
    (turn : ∀ (i : Nat) (x y : V) (t : Addr) (σ : L2.St) (H : Hp), xs[i]? = some x → ys[i]? = some y → J i σ H → H t = none → g (.ref t) σ (upd H t (.tup [x, y])) fun σ2 H2 => tb { D with nx := J (i + 1), ct := J (i + 1), bk := D.nx } σ2 H2)
    (fin : ∀ σ H, J ys.length σ H → D.nx σ H) :
    ∃ W : Nat → Nat → L2.St → Hp → Prop, (∃ m, W 0 m σ H) ∧ ∀ i m σ H, W i m σ H →
      ((Itz K a b).stop i H ∧ D.nx σ H) ∨ ((Itz K a b).go i H ∧ ∃ N : L2.St → Hp → Prop, (∀ σ' H', N σ' H' → ∃ m', m' < m ∧ W (i + 1) m' σ' H') ∧ ∀ v H', (Itz K a b).yld i H v H' → g v σ H' fun σ2 H2 => tb { D with nx := N, ct := N, bk := D.nx } σ2 H2) := by
  refine ⟨fun i m σ H => i + m = ys.length ∧ J i σ H, ⟨ys.length, Nat.zero_add _, start⟩, ?_⟩
  rintro i m σ H ⟨im, j⟩
  obtain ⟨s1, s2⟩ := still i σ H j
  by_cases z : m = 0
  · have e : i = ys.length := by omega
    subst e
    exact .inl ⟨⟨xs, ys, s1, s2, .inr (Nat.le_refl _)⟩, fin σ H j⟩
  · have h1 : i < ys.length := by omega
    have h2 : i < xs.length := by omega
    refine .inr ⟨⟨xs, ys, _, _, s1, s2, List.getElem?_eq_getElem h2, List.getElem?_eq_getElem h1⟩, J (i + 1), fun σ' H' j' => ⟨m - 1, by omega, by omega, j'⟩, ?_⟩
    rintro v H' ⟨t, x, y, rfl, ht, rfl, k1, k2⟩
    exact turn i x y t σ H (k1 xs s1) (k2 ys s2) j ht
theorem cut_first (xs : List V) (h : 1 ≤ xs.length) : cutV xs (some 1) none = xs.drop 1 := by
  unfold cutV
  have e : HT.sIx xs.length 0 (some 1) = 1 := by
    show (if (1 : Int) < 0 then ((1 : Int) + (xs.length : Int)).toNat else min (1 : Int).toNat xs.length) = 1
    rw [if_neg (by decide)]
    show min 1 xs.length = 1
    omega
  rw [e, HT.sIx_none]
  exact List.take_of_length_le (by rw [List.length_drop]; omega)
/-- the same in a comprehension -/
theorem lc_zipS {K : PySem.W.Frag} {a b : Addr} {xs ys : List V} {g : TG} {tt : TT} {te : TE} {vs : List Nat} {σ : L2.St} {H1 : Hp} {D : Addr} {Qd : Hp → Prop} (hl : ys.length ≤ xs.length) (J : Nat → Hp → Prop) (start : J 0 (upd H1 D (.lst [])))
    (still : ∀ i H, J i H → SqL K H a xs ∧ SqL K H b ys)
    (turn : ∀ (i : Nat) (x y : V) (t : Addr) (H : Hp), xs[i]? = some x → ys[i]? = some y → J i H → H t = none → g (.ref t) (wipe σ vs) (upd H t (.tup [x, y])) fun σ2 H2 => wipe σ2 vs = wipe σ vs ∧ tt σ2 H2 fun b H3 =>
      if b = true then te σ2 H3 fun y H4 => ∃ acc, H4 D = some (.lst acc) ∧ acc.length < sizeLine ∧ J (i + 1) (upd H4 D (.lst (acc ++ [y]))) else J (i + 1) H3)
    (fin : ∀ H, J ys.length H → Qd H) :
    ∃ W : Nat → Nat → Hp → Prop, (∃ m, W 0 m (upd H1 D (.lst []))) ∧ ∀ i m H, W i m H →
      ((Itz K a b).stop i H ∧ Qd H) ∨ ((Itz K a b).go i H ∧ ∃ Nx : Hp → Prop, (∀ H', Nx H' → ∃ m', m' < m ∧ W (i + 1) m' H') ∧ ∀ v H', (Itz K a b).yld i H v H' → g v (wipe σ vs) H' fun σ2 H2 => wipe σ2 vs = wipe σ vs ∧ tt σ2 H2 fun b H3 =>
        if b = true then te σ2 H3 fun y H4 => ∃ acc, H4 D = some (.lst acc) ∧ acc.length < sizeLine ∧ Nx (upd H4 D (.lst (acc ++ [y]))) else Nx H3) := by
  refine ⟨fun i m H => i + m = ys.length ∧ J i H, ⟨ys.length, Nat.zero_add _, start⟩, ?_⟩
  rintro i m H ⟨im, j⟩
  obtain ⟨s1, s2⟩ := still i H j
  by_cases z : m = 0
  · have e : i = ys.length := by omega
    subst e
    exact .inl ⟨⟨xs, ys, s1, s2, .inr (Nat.le_refl _)⟩, fin H j⟩
  · have h1 : i < ys.length := by omega
    have h2 : i < xs.length := by omega
    refine .inr ⟨⟨xs, ys, _, _, s1, s2, List.getElem?_eq_getElem h2, List.getElem?_eq_getElem h1⟩, J (i + 1), fun H' j' => ⟨m - 1, by omega, by omega, j'⟩, ?_⟩
    rintro v H' ⟨t, x, y, rfl, ht, rfl, k1, k2⟩
    exact turn i x y t H (k1 xs s1) (k2 ys s2) j ht
end LT

namespace LT
/-! ### needed nodes -/
def meets (x : Nat × Nat) (S : List (Nat × Nat)) : Bool := S.any fun s => decide (s.1 < x.2) && decide (x.1 < s.2)
theorem meets_iff {x : Nat × Nat} {S : List (Nat × Nat)} : meets x S = true ↔ ∃ s ∈ S, s.1 < x.2 ∧ x.1 < s.2 := by
  unfold meets
  rw [List.any_eq_true]
  constructor
  · rintro ⟨s, hs, h⟩
    rw [Bool.and_eq_true] at h
    exact ⟨s, hs, of_decide_eq_true h.1, of_decide_eq_true h.2⟩
  · rintro ⟨s, hs, h1, h2⟩
    exact ⟨s, hs, by rw [Bool.and_eq_true]; exact ⟨decide_eq_true h1, decide_eq_true h2⟩⟩
theorem meets_no {x : Nat × Nat} {S : List (Nat × Nat)} (h : ∀ s ∈ S, x.2 ≤ s.1 ∨ s.2 ≤ x.1) : meets x S = false := by
  cases e : meets x S with
  | false => rfl
  | true =>
    obtain ⟨s, hs, h1, h2⟩ := meets_iff.mp e
    have := h s hs
    omega
/-- a needed node: none of the told entries in it, some in each node that it is a half of -/
def Due (n : Nat) (S : List (Nat × Nat)) (x : Nat × Nat) : Prop := isN n x ∧ meets x S = false ∧ ∀ B M, isN n (B, B + M) → 2 ≤ M → isHalfP B M x → meets (B, B + M) S = true
theorem gap_due {n lo hi : Nat} {S : List (Nat × Nat)} (hn : hi ≤ n) (hlo : lo ≤ hi) (h1 : lo = 0 ∨ ∃ s ∈ S, s.1 < s.2 ∧ s.2 = lo) (h2 : hi = n ∨ ∃ s ∈ S, s.1 < s.2 ∧ s.1 = hi) (h3 : ∀ s ∈ S, s.2 ≤ lo ∨ hi ≤ s.1) (x : Nat × Nat) (hx : x ∈ nw n lo hi) : Due n S x := by
  obtain ⟨m1, m2, m3⟩ := (nw_ch hn lo hlo).mem x hx
  have x12 := m1.1
  refine ⟨m1, meets_no fun s hs => ?_, fun B M hp hM hh => ?_⟩
  · have := h3 s hs
    omega
  · have g1 := gp_lt hM
    have g3 := gp_pos M
    have pn := hp.2.1
    simp only at pn
    have xin : B ≤ x.1 ∧ x.2 ≤ B + M ∧ x ≠ (B, B + M) := by
      rcases hh with z | z <;> subst z <;> refine ⟨by simp only; omega, by simp only; omega, fun y => ?_⟩
      · have := congrArg Prod.snd y
        simp only at this
        omega
      · have := congrArg Prod.fst y
        simp only at this
        omega
    rw [meets_iff]
    by_cases c1 : B < lo
    · rcases h1 with h1 | ⟨s, hs, s1, s2⟩
      · omega
      · exact ⟨s, hs, by simp only; omega, by simp only; omega⟩
    · by_cases c2 : hi < B + M
      · rcases h2 with h2 | ⟨s, hs, s1, s2⟩
        · omega
        · exact ⟨s, hs, by simp only; omega, by simp only; omega⟩
      · exact absurd (nw_max hn hlo x hx (B, B + M) hp (by simp only; omega) (by simp only; omega) xin.1 xin.2.1).symm xin.2.2
theorem nl_due {n : Nat} : ∀ (S : List (Nat × Nat)) (lo : Nat) (pre : List (Nat × Nat)), So n lo S → (∀ s ∈ pre, s.2 ≤ lo) → (lo = 0 ∨ ∃ s ∈ pre, s.1 < s.2 ∧ s.2 = lo) → ∀ x ∈ nl n lo S, Due n (pre ++ S) x
  | [], lo, pre, hS, h1, h2, x, hx => by
    rw [List.append_nil]
    exact gap_due (Nat.le_refl n) hS h2 (.inl rfl) (fun s hs => .inl (h1 s hs)) x hx
  | y :: S, lo, pre, ⟨k1, k2, k3, k4⟩, h1, h2, x, hx => by
    have hx : x ∈ nw n lo y.1 ++ nl n y.2 S := hx
    rcases List.mem_append.mp hx with hx | hx
    · refine gap_due (by omega) k1 ?_ (.inr ⟨y, List.mem_append_right _ List.mem_cons_self, k2, rfl⟩) (fun s hs => ?_) x hx
      · rcases h2 with h2 | ⟨s, hs, r⟩
        · exact .inl h2
        · exact .inr ⟨s, List.mem_append_left _ hs, r⟩
      · rcases List.mem_append.mp hs with hs | hs
        · exact .inl (h1 s hs)
        · rcases List.mem_cons.mp hs with rfl | hs
          · exact .inr (Nat.le_refl _)
          · have := k4.mem s hs
            exact .inr (by omega)
    · have := nl_due S y.2 (pre ++ [y]) k4 (fun s hs => ?_) (.inr ⟨y, List.mem_append_right _ List.mem_cons_self, k2, rfl⟩) x hx
      · rw [List.append_assoc] at this
        exact this
      · rcases List.mem_append.mp hs with hs | hs
        · have := h1 s hs
          omega
        · rw [List.mem_singleton] at hs
          subst hs
          exact Nat.le_refl _
/-- nodes one behind the other, with gaps -/
def Up : Nat → List (Nat × Nat) → Prop
  | _, [] => True
  | lo, x :: l => lo ≤ x.1 ∧ x.1 < x.2 ∧ Up x.2 l
theorem Up.mono : ∀ {lo lo' : Nat} {l : List (Nat × Nat)}, Up lo l → lo' ≤ lo → Up lo' l
  | _, _, [], _, _ => trivial
  | _, _, _ :: _, ⟨h1, h2, h3⟩, h => ⟨Nat.le_trans h h1, h2, h3⟩
theorem Ch.up {n : Nat} : ∀ {lo hi : Nat} {l r : List (Nat × Nat)}, Ch n lo hi l → Up hi r → Up lo (l ++ r)
  | _, _, [], _, h, k => by
    have h : _ = _ := h
    subst h
    exact k
  | lo, hi, x :: l, r, ⟨h1, h2, h3, h4⟩, k => ⟨by omega, h2.1, Ch.up h4 k⟩
theorem nl_up {n : Nat} : ∀ (S : List (Nat × Nat)) (lo : Nat), So n lo S → Up lo (nl n lo S)
  | [], lo, h => by
    have := (nw_ch (n := n) (Nat.le_refl n) lo h).up (r := []) trivial
    rw [List.append_nil] at this
    exact this
  | y :: S, lo, ⟨k1, k2, k3, k4⟩ => (nw_ch (n := n) (show y.1 ≤ n by omega) lo k1).up ((nl_up S y.2 k4).mono (Nat.le_of_lt k2))
def wid (l : List (Nat × Nat)) : Nat := (l.map fun x => x.2 - x.1).sum
theorem wid_app (l r : List (Nat × Nat)) : wid (l ++ r) = wid l + wid r := by unfold wid; rw [List.map_append, List.sum_append]
theorem nl_wid {n : Nat} : ∀ (S : List (Nat × Nat)) (lo : Nat), So n lo S → wid (nl n lo S) + wid S + lo = n
  | [], lo, h => by
    have h : lo ≤ n := h
    have := (nw_ch (n := n) (Nat.le_refl n) lo h).sum
    show wid (nw n lo n) + 0 + lo = n
    unfold wid
    omega
  | y :: S, lo, ⟨k1, k2, k3, k4⟩ => by
    have a := (nw_ch (n := n) (show y.1 ≤ n by omega) lo k1).sum
    have b := nl_wid S y.2 k4
    show wid (nw n lo y.1 ++ nl n y.2 S) + wid (y :: S) + lo = n
    rw [wid_app]
    have c : wid (y :: S) = (y.2 - y.1) + wid S := rfl
    rw [c]
    unfold wid at a b ⊢
    omega
theorem nl_single {n e : Nat} (h : e < n) : (nl n 0 [(e, e + 1)]).length = (sib 0 n e).length := by
  show (nw n 0 e ++ nw n (e + 1) n).length = _
  rw [List.length_append]
  exact nw_single h
end LT

namespace LT
open PySem PySem.Spec PyProof.Rows L2
/-- stretches with entries, within a log -/
def Wn (n : Nat) (L : List (Nat × Nat)) : Prop := ∀ x ∈ L, x.1 < x.2 ∧ x.2 ≤ n
theorem Wn.app {n : Nat} {L M : List (Nat × Nat)} (h : Wn n L) (k : Wn n M) : Wn n (L ++ M) := fun x hx => (List.mem_append.mp hx).elim (h x) (k x)
theorem Wn.srt {n : Nat} {L : List (Nat × Nat)} (h : Wn n L) : Wn n (srt L) := fun x hx => h x (srt_mem.mp hx)
theorem meets_has {x : Nat × Nat} {S : List (Nat × Nat)} {s : Nat × Nat} (h : s ∈ S) (h1 : s.1 < x.2) (h2 : x.1 < s.2) : meets x S = true := meets_iff.mpr ⟨s, h, h1, h2⟩
theorem meets_same {S T : List (Nat × Nat)} (h : ∀ s, s ∈ S ↔ s ∈ T) (x : Nat × Nat) : meets x S = meets x T := by
  rw [Bool.eq_iff_iff, meets_iff, meets_iff]
  exact ⟨fun ⟨s, a, b⟩ => ⟨s, (h s).mp a, b⟩, fun ⟨s, a, b⟩ => ⟨s, (h s).mpr a, b⟩⟩
theorem due_same {n : Nat} {S T : List (Nat × Nat)} (h : ∀ x, meets x S = meets x T) {x : Nat × Nat} (d : Due n S x) : Due n T x :=
  ⟨d.1, by rw [← h]; exact d.2.1, fun B M a b c => by rw [← h]; exact d.2.2 B M a b c⟩
/-- what lies ahead of a begin has it beside -/
def Beg : List (Nat × Nat) → Prop := List.Pairwise (fun x y => x.1 ≤ y.1)
theorem srt_beg (L : List (Nat × Nat)) : Beg (srt L) := (srt_pair L).imp fun h => by
  have := leN_iff.mp h
  omega
theorem nb_due {n : Nat} : ∀ (l : List (Nat × Nat)) (lo : Nat) (pre : List (Nat × Nat)), Wn n l → Beg l → lo ≤ n → (∀ s ∈ pre, s.2 ≤ lo) → (lo = 0 ∨ ∃ s ∈ pre, s.1 < s.2 ∧ s.2 = lo) → ∀ x ∈ nb n lo l, Due n (pre ++ l) x
  | [], lo, pre, _, _, hlo, h1, h2, x, hx => by
    rw [List.append_nil]
    exact gap_due (Nat.le_refl n) hlo h2 (.inl rfl) (fun s hs => .inl (h1 s hs)) x hx
  | y :: l, lo, pre, hw, hb, hlo, h1, h2, x, hx => by
    obtain ⟨y12, yn⟩ := hw y List.mem_cons_self
    obtain ⟨hb1, hb2⟩ := List.pairwise_cons.mp hb
    rcases List.mem_append.mp (show x ∈ nw n lo y.1 ++ nb n (max lo y.2) l from hx) with hx | hx
    · by_cases c : lo ≤ y.1
      · refine gap_due (S := pre ++ y :: l) (by omega) c (h2.imp id fun ⟨s, a, b⟩ => ⟨s, List.mem_append_left _ a, b⟩) (.inr ⟨y, List.mem_append_right _ List.mem_cons_self, y12, rfl⟩) (fun s hs => ?_) x hx
        rcases List.mem_append.mp hs with hs | hs
        · exact .inl (h1 s hs)
        · rcases List.mem_cons.mp hs with rfl | hs
          · exact .inr (Nat.le_refl _)
          · exact .inr (hb1 s hs)
      · rw [nw_nil (by omega)] at hx
        cases hx
    · have := nb_due l (max lo y.2) (pre ++ [y]) (fun z hz => hw z (List.mem_cons_of_mem _ hz)) hb2 (by omega) (fun s hs => ?_) ?_ x hx
      · rwa [List.append_assoc] at this
      · rcases List.mem_append.mp hs with hs | hs
        · have := h1 s hs
          omega
        · rw [List.mem_singleton.mp hs]
          omega
      · by_cases c : lo ≤ y.2
        · exact .inr ⟨y, List.mem_append_right _ (List.mem_singleton_self _), y12, by omega⟩
        · rcases h2 with h2 | ⟨s, a, b, e⟩
          · omega
          · exact .inr ⟨s, List.mem_append_left _ a, b, by omega⟩
theorem nb_cov {n : Nat} : ∀ (l : List (Nat × Nat)) (lo i : Nat), Wn n l → lo ≤ i → i < n → (∀ s ∈ l, ¬ (s.1 ≤ i ∧ i < s.2)) → ∃ y ∈ nb n lo l, y.1 ≤ i ∧ i < y.2
  | [], lo, i, _, h1, h2, _ => (nw_ch (n := n) (Nat.le_refl n) lo (by omega)).at i h1 h2
  | y :: l, lo, i, hw, h1, h2, h3 => by
    obtain ⟨y12, yn⟩ := hw y List.mem_cons_self
    have hy := h3 y List.mem_cons_self
    by_cases c : i < y.1
    · obtain ⟨z, hz, k⟩ := (nw_ch (n := n) (e := y.1) (by omega) lo (by omega)).at i h1 c
      exact ⟨z, List.mem_append_left _ hz, k⟩
    · obtain ⟨z, hz, k⟩ := nb_cov l (max lo y.2) i (fun z hz => hw z (List.mem_cons_of_mem _ hz)) (by omega) h2 fun s hs => h3 s (List.mem_cons_of_mem _ hs)
      exact ⟨z, List.mem_append_right _ hz, k⟩
theorem nb_up {n : Nat} : ∀ (l : List (Nat × Nat)) (lo : Nat), Wn n l → lo ≤ n → Up lo (nb n lo l)
  | [], lo, _, h => by
    have := (nw_ch (n := n) (Nat.le_refl n) lo h).up (r := []) trivial
    rwa [List.append_nil] at this
  | y :: l, lo, hw, h => by
    obtain ⟨y12, yn⟩ := hw y List.mem_cons_self
    have ih := nb_up l (max lo y.2) (fun z hz => hw z (List.mem_cons_of_mem _ hz)) (by omega)
    show Up lo (nw n lo y.1 ++ nb n (max lo y.2) l)
    by_cases c : lo ≤ y.1
    · exact (nw_ch (n := n) (e := y.1) (by omega) lo c).up (ih.mono (by omega))
    · rw [nw_nil (by omega), List.nil_append]
      exact ih.mono (by omega)
theorem Up.mem : ∀ {lo : Nat} {l : List (Nat × Nat)}, Up lo l → ∀ x ∈ l, lo ≤ x.1 ∧ x.1 < x.2
  | lo, y :: l, ⟨h1, h2, h3⟩, x, hx => by
    rcases List.mem_cons.mp hx with rfl | hx
    · exact ⟨h1, h2⟩
    · have := h3.mem x hx
      exact ⟨by omega, this.2⟩
theorem up_ext : ∀ (l r : List (Nat × Nat)) (lo lo' : Nat), Up lo l → Up lo' r → (∀ x, x ∈ l ↔ x ∈ r) → l = r
  | [], [], _, _, _, _, _ => rfl
  | [], y :: r, _, _, _, _, h => absurd ((h y).mpr List.mem_cons_self) List.not_mem_nil
  | x :: l, [], _, _, _, _, h => absurd ((h x).mp List.mem_cons_self) List.not_mem_nil
  | x :: l, y :: r, lo, lo', ⟨a1, a2, a3⟩, ⟨b1, b2, b3⟩, h => by
    have e : x = y := by
      rcases List.mem_cons.mp ((h x).mp List.mem_cons_self) with e | hx
      · exact e
      · rcases List.mem_cons.mp ((h y).mpr List.mem_cons_self) with e | hy
        · exact e.symm
        · have := b3.mem x hx
          have := a3.mem y hy
          omega
    subst e
    congr 1
    refine up_ext l r x.2 x.2 a3 b3 fun z => ⟨fun hz => ?_, fun hz => ?_⟩
    · rcases List.mem_cons.mp ((h z).mp (List.mem_cons_of_mem _ hz)) with e | k
      · have := a3.mem z hz
        rw [e] at this
        omega
      · exact k
    · rcases List.mem_cons.mp ((h z).mpr (List.mem_cons_of_mem _ hz)) with e | k
      · have := b3.mem z hz
        rw [e] at this
        omega
      · exact k
/-- two nodes that share an entry are nested -/
theorem nested {n i : Nat} {x y : Nat × Nat} (hx : isN n x) (hy : isN n y) (h1 : x.1 ≤ i) (h2 : i < x.2) (h3 : y.1 ≤ i) (h4 : i < y.2) : (x.1 ≤ y.1 ∧ y.2 ≤ x.2) ∨ (y.1 ≤ x.1 ∧ x.2 ≤ y.2) := by
  obtain ⟨x12, xn, xt⟩ := isN_tree (n := n) (b := x.1) (e := x.2) hx
  obtain ⟨y12, yn, yt⟩ := isN_tree (n := n) (b := y.1) (e := y.2) hy
  rcases Nat.lt_trichotomy x.1 y.1 with c | c | c
  · have := lam xt (by omega) yt (by omega) (by omega) c (by omega)
    omega
  · omega
  · have := lam yt (by omega) xt (by omega) (by omega) c (by omega)
    omega
/-- a node within a greater one has its parent within, too -/
theorem par_in {n : Nat} {x : Nat × Nat} (hx : isN n x) : ∀ (m b : Nat), 1 ≤ m → tree n b m → b + m ≤ n → b ≤ x.1 → x.2 ≤ b + m → x ≠ (b, b + m) →
    ∃ B M, isN n (B, B + M) ∧ 2 ≤ M ∧ isHalfP B M x ∧ b ≤ B ∧ B + M ≤ b + m := by
  intro m
  induction m using Nat.strongRecOn with
  | ind m ih =>
    intro b hm t hn h1 h2 c
    obtain ⟨m2, hh⟩ := in_half hm t hn hx h1 h2 c
    have g1 := gp_lt m2
    have g3 := gp_pos m
    have em : b + gp m + (m - gp m) = b + m := by omega
    by_cases k : x.1 < b + gp m
    · by_cases c2 : x = (b, b + gp m)
      · exact ⟨b, m, isN_of hm hn t, m2, .inl c2, Nat.le_refl _, Nat.le_refl _⟩
      · obtain ⟨B, M, r1, r2, r3, r4, r5⟩ := ih (gp m) g1 b g3 (tree_low m2 t) (by omega) h1 (hh k) c2
        exact ⟨B, M, r1, r2, r3, r4, by omega⟩
    · by_cases c2 : x = (b + gp m, b + gp m + (m - gp m))
      · exact ⟨b, m, isN_of hm hn t, m2, .inr (by rw [c2, em]), Nat.le_refl _, Nat.le_refl _⟩
      · obtain ⟨B, M, r1, r2, r3, r4, r5⟩ := ih (m - gp m) (by omega) (b + gp m) (by omega) (tree_high m2 t) (by omega) (by omega) (by omega) c2
        exact ⟨B, M, r1, r2, r3, by omega, by omega⟩
theorem par_in2 {n : Nat} {x y : Nat × Nat} (hx : isN n x) (hy : isN n y) (h1 : y.1 ≤ x.1) (h2 : x.2 ≤ y.2) (c : x ≠ y) :
    ∃ B M, isN n (B, B + M) ∧ 2 ≤ M ∧ isHalfP B M x ∧ y.1 ≤ B ∧ B + M ≤ y.2 := by
  obtain ⟨y12, yn, yt⟩ := isN_tree (n := n) (b := y.1) (e := y.2) hy
  have e : y.1 + (y.2 - y.1) = y.2 := by omega
  obtain ⟨B, M, r1, r2, r3, r4, r5⟩ := par_in hx (y.2 - y.1) y.1 (by omega) yt (by omega) h1 (by omega) (by rw [e]; exact c)
  exact ⟨B, M, r1, r2, r3, r4, by omega⟩
theorem meets_sub {x y : Nat × Nat} {S : List (Nat × Nat)} (h1 : y.1 ≤ x.1) (h2 : x.2 ≤ y.2) (h : meets y S = false) : meets x S = false := by
  cases c : meets x S with
  | false => rfl
  | true =>
    obtain ⟨s, a, b, d⟩ := meets_iff.mp c
    rw [meets_has a (x := y) (by omega) (by omega)] at h
    cases h
/-- two due nodes that share an entry are one -/
theorem due_one {n i : Nat} {S : List (Nat × Nat)} {x y : Nat × Nat} (hx : Due n S x) (hy : Due n S y) (h1 : x.1 ≤ i) (h2 : i < x.2) (h3 : y.1 ≤ i) (h4 : i < y.2) : x = y := by
  by_cases c : x = y
  · exact c
  exfalso
  rcases nested hx.1 hy.1 h1 h2 h3 h4 with ⟨k1, k2⟩ | ⟨k1, k2⟩
  · obtain ⟨B, M, r1, r2, r3, r4, r5⟩ := par_in2 hy.1 hx.1 k1 k2 (fun z => c z.symm)
    have a := hy.2.2 B M r1 r2 r3
    rw [meets_sub (x := (B, B + M)) (y := x) r4 r5 hx.2.1] at a
    cases a
  · obtain ⟨B, M, r1, r2, r3, r4, r5⟩ := par_in2 hx.1 hy.1 k1 k2 c
    have a := hx.2.2 B M r1 r2 r3
    rw [meets_sub (x := (B, B + M)) (y := y) r4 r5 hy.2.1] at a
    cases a
theorem nb_srt_due {n : Nat} {L : List (Nat × Nat)} (hL : Wn n L) {x : Nat × Nat} (hx : x ∈ nb n 0 (srt L)) : Due n L x := by
  have := nb_due (srt L) 0 [] hL.srt (srt_beg L) (Nat.zero_le _) (fun _ h => absurd h List.not_mem_nil) (.inl rfl) x hx
  exact due_same (meets_same fun s => by rw [List.nil_append]; exact srt_mem) this
theorem nb_iff {n : Nat} {L : List (Nat × Nat)} (hL : Wn n L) (x : Nat × Nat) : x ∈ nb n 0 (srt L) ↔ Due n L x := by
  refine ⟨nb_srt_due hL, fun hx => ?_⟩
  obtain ⟨x12, xn, _⟩ := isN_tree (n := n) (b := x.1) (e := x.2) hx.1
  obtain ⟨y, hy, h1, h2⟩ := nb_cov (srt L) 0 x.1 hL.srt (Nat.zero_le _) (by omega) fun s hs k => by
    have := meets_has (x := x) (srt_mem.mp hs) (by omega) (by omega)
    rw [hx.2.1] at this
    cases this
  rw [due_one hx (nb_srt_due hL hy) (Nat.le_refl _) x12 h1 h2]
  exact hy
/-- the list of the due nodes -/
theorem nb_is {n : Nat} {L l : List (Nat × Nat)} (hL : Wn n L) (hu : Up 0 l) (h : ∀ x, x ∈ l ↔ Due n L x) : nb n 0 (srt L) = l :=
  up_ext _ _ 0 0 (nb_up (srt L) 0 hL.srt (Nat.zero_le _)) hu fun x => (nb_iff hL x).trans (h x).symm
theorem nb_same {n : Nat} {L M : List (Nat × Nat)} (hL : Wn n L) (hM : Wn n M) (h : ∀ x, meets x L = meets x M) : nb n 0 (srt L) = nb n 0 (srt M) :=
  nb_is hL (nb_up (srt M) 0 hM.srt (Nat.zero_le _)) fun x => (nb_iff hM x).trans ⟨due_same fun x => (h x).symm, due_same h⟩
/-- covered -/
def cov (L : List (Nat × Nat)) (i : Nat) : Prop := ∃ s ∈ L, s.1 ≤ i ∧ i < s.2
theorem cov_app {L M : List (Nat × Nat)} {i : Nat} : cov (L ++ M) i ↔ cov L i ∨ cov M i :=
  ⟨fun ⟨s, h, k⟩ => (List.mem_append.mp h).elim (fun h => .inl ⟨s, h, k⟩) (fun h => .inr ⟨s, h, k⟩), fun h => h.elim (fun ⟨s, h, k⟩ => ⟨s, List.mem_append_left _ h, k⟩) (fun ⟨s, h, k⟩ => ⟨s, List.mem_append_right _ h, k⟩)⟩
theorem meets_cov {n : Nat} {L : List (Nat × Nat)} (hL : Wn n L) {x : Nat × Nat} (hx : x.1 < x.2) : meets x L = true ↔ ∃ i, x.1 ≤ i ∧ i < x.2 ∧ cov L i := by
  rw [meets_iff]
  constructor
  · rintro ⟨s, h, h1, h2⟩
    have := (hL s h).1
    exact ⟨max x.1 s.1, by omega, by omega, s, h, by omega, by omega⟩
  · rintro ⟨i, h1, h2, s, h, h3, h4⟩
    exact ⟨s, h, by omega, by omega⟩
theorem nb_nil_iff {n : Nat} {L : List (Nat × Nat)} (hL : Wn n L) : nb n 0 (srt L) = [] ↔ ∀ i, i < n → cov L i := by
  constructor
  · intro h i hi
    by_cases c : cov L i
    · exact c
    · obtain ⟨y, hy, _⟩ := nb_cov (srt L) 0 i hL.srt (Nat.zero_le _) hi fun s hs k => c ⟨s, srt_mem.mp hs, k⟩
      rw [h] at hy
      cases hy
  · intro h
    cases e : nb n 0 (srt L) with
    | nil => rfl
    | cons y l =>
      have d := nb_srt_due hL (by rw [e]; exact List.mem_cons_self)
      obtain ⟨y12, yn, _⟩ := isN_tree (n := n) (b := y.1) (e := y.2) d.1
      obtain ⟨s, hs, k⟩ := h y.1 (by omega)
      have := meets_has (x := y) hs (by omega) (by omega)
      rw [d.2.1] at this
      cases this
theorem jgo_ne : ∀ (l : List (Nat × Nat)) (c : Nat × Nat), ∃ e r, jgo c l = (c.1, e) :: r
  | [], c => ⟨c.2, [], rfl⟩
  | x :: l, c => by
    unfold jgo
    split
    · exact jgo_ne l (c.1, max c.2 x.2)
    · exact ⟨c.2, _, rfl⟩
theorem nw_ne {n b e : Nat} (h : b < e) : nw n b e ≠ [] := by
  rw [nw_step h]
  exact List.cons_ne_nil _ _
theorem jgo_nb {n : Nat} : ∀ (l : List (Nat × Nat)) (b : Nat), b ≤ n → (∀ x ∈ l, x.2 ≤ n) → (jgo (0, b) l = [(0, n)] ↔ nb n b l = [])
  | [], b, hb, _ => by
    show [(0, b)] = [(0, n)] ↔ nw n b n = []
    constructor
    · intro h
      have h : (0, b) = (0, n) := (List.cons.inj h).1
      have := congrArg Prod.snd h
      exact nw_nil (by dsimp only at this; omega)
    · intro h
      by_cases c : b < n
      · exact absurd h (nw_ne c)
      · rw [show b = n by omega]
  | x :: l, b, hb, hw => by
    have hx := hw x List.mem_cons_self
    have ih := jgo_nb l (max b x.2) (by omega) fun y hy => hw y (List.mem_cons_of_mem _ hy)
    show (if x.1 ≤ b then jgo (0, max b x.2) l else (0, b) :: jgo x l) = [(0, n)] ↔ nw n b x.1 ++ nb n (max b x.2) l = []
    by_cases c : x.1 ≤ b
    · rw [if_pos c, nw_nil c, List.nil_append]
      exact ih
    · rw [if_neg c]
      obtain ⟨e, r, h⟩ := jgo_ne l x
      rw [h]
      exact ⟨fun z => (by cases z), fun z => absurd (List.append_eq_nil_iff.mp z).1 (nw_ne (by omega))⟩
theorem jn_nb {n : Nat} (n1 : 1 ≤ n) (S : List (Nat × Nat)) (h : ∀ x ∈ S, x.2 ≤ n) : jn S = [(0, n)] ↔ nb n 0 S = [] := by
  cases S with
  | nil =>
    show [] = [(0, n)] ↔ nw n 0 n = []
    exact ⟨fun z => by (cases z), fun z => absurd z (nw_ne (by omega))⟩
  | cons x l =>
    have hx := h x List.mem_cons_self
    show jgo x l = [(0, n)] ↔ nw n 0 x.1 ++ nb n (max 0 x.2) l = []
    by_cases c : x.1 = 0
    · have e : x = (0, x.2) := Prod.ext c rfl
      rw [e, Nat.zero_max]
      dsimp only
      rw [nw_nil (Nat.le_refl 0), List.nil_append]
      exact jgo_nb l x.2 hx fun y hy => h y (List.mem_cons_of_mem _ hy)
    · obtain ⟨e, r, k⟩ := jgo_ne l x
      rw [k]
      exact ⟨fun z => absurd (congrArg Prod.fst (List.cons.inj z).1) c, fun z => absurd (List.append_eq_nil_iff.mp z).1 (nw_ne (by omega))⟩
/-- the root comes just if all is covered -/
theorem jn_cov {n : Nat} (n1 : 1 ≤ n) {L : List (Nat × Nat)} (hL : Wn n L) : jn (srt L) = [(0, n)] ↔ ∀ i, i < n → cov L i :=
  (jn_nb n1 (srt L) fun x hx => (hL.srt x hx).2).trans (nb_nil_iff hL)
theorem jgo_in {i : Nat} : ∀ (l : List (Nat × Nat)) (c y : Nat × Nat), y ∈ jgo c l → y.1 ≤ i → i < y.2 → (c.1 ≤ i ∧ i < c.2) ∨ cov l i
  | [], c, y, h, h1, h2 => by
    rw [List.mem_singleton.mp h] at h1 h2
    exact .inl ⟨h1, h2⟩
  | x :: l, c, y, h, h1, h2 => by
    unfold jgo at h
    split at h
    · rename_i k
      rcases jgo_in l _ y h h1 h2 with ⟨a, b⟩ | ⟨s, a, b⟩
      · dsimp only at a b
        by_cases z : i < c.2
        · exact .inl ⟨a, z⟩
        · exact .inr ⟨x, List.mem_cons_self, by omega, by omega⟩
      · exact .inr ⟨s, List.mem_cons_of_mem _ a, b⟩
    · rcases List.mem_cons.mp h with rfl | h
      · exact .inl ⟨h1, h2⟩
      · rcases jgo_in l x y h h1 h2 with a | ⟨s, a, b⟩
        · exact .inr ⟨x, List.mem_cons_self, a⟩
        · exact .inr ⟨s, List.mem_cons_of_mem _ a, b⟩
theorem jn_in {i : Nat} {S : List (Nat × Nat)} {y : Nat × Nat} (h : y ∈ jn S) (h1 : y.1 ≤ i) (h2 : i < y.2) : cov S i := by
  cases S with
  | nil => cases h
  | cons x l =>
    rcases jgo_in l x y h h1 h2 with a | ⟨s, a, b⟩
    · exact ⟨x, List.mem_cons_self, a⟩
    · exact ⟨s, List.mem_cons_of_mem _ a, b⟩
end LT

namespace LT
open PySem PySem.Spec PyProof.Rows L2
/-- the nodes beside the way from a node down to one -/
def stp (b m : Nat) (x : Nat × Nat) : List (Nat × Nat) :=
  if h : x = (b, b + m) ∨ m ≤ 1 then [] else
    if x.1 < b + gp m then (b + gp m, b + m) :: stp b (gp m) x
    else (b, b + gp m) :: stp (b + gp m) (m - gp m) x
termination_by m
decreasing_by
  · exact gp_lt (by omega)
  · have := gp_pos m; omega
theorem stp_here {b m : Nat} {x : Nat × Nat} (h : x = (b, b + m)) : stp b m x = [] := by rw [stp]; simp [h]
theorem stp_low {b m : Nat} {x : Nat × Nat} (h : 2 ≤ m) (c : x ≠ (b, b + m)) (k : x.1 < b + gp m) : stp b m x = (b + gp m, b + m) :: stp b (gp m) x := by
  rw [stp]; rw [dif_neg (fun z => z.elim c (by omega)), if_pos k]
theorem stp_high {b m : Nat} {x : Nat × Nat} (h : 2 ≤ m) (c : x ≠ (b, b + m)) (k : ¬ x.1 < b + gp m) : stp b m x = (b, b + gp m) :: stp (b + gp m) (m - gp m) x := by
  rw [stp]; rw [dif_neg (fun z => z.elim c (by omega)), if_neg k]
/-- a half is a step further -/
theorem stp_half {n : Nat} {x y : Nat × Nat} (hx : isN n x) (h2 : 2 ≤ x.2 - x.1) (hy : isHalfP x.1 (x.2 - x.1) y) : ∀ (m b : Nat), 1 ≤ m → tree n b m → b + m ≤ n → b ≤ x.1 → x.2 ≤ b + m →
    (stp b m y).length = (stp b m x).length + 1 := by
  have g1 := gp_lt h2
  have g2 := gp_pos (x.2 - x.1)
  have hy1 : x.1 ≤ y.1 ∧ y.1 < y.2 ∧ y.2 ≤ x.2 ∧ (y.1 = x.1 → y.2 < x.2) := by
    rcases hy with e | e <;> rw [e] <;> refine ⟨?_, ?_, ?_, fun z => ?_⟩ <;> dsimp only at * <;> omega
  intro m
  induction m using Nat.strongRecOn with
  | ind m ih =>
    intro b hm t hn h1 h3
    by_cases c : x = (b, b + m)
    · have e1 : x.1 = b := congrArg Prod.fst c
      have e2 : x.2 = b + m := congrArg Prod.snd c
      have em : x.2 - x.1 = m := by omega
      rw [em, e1] at hy
      rw [em] at h2
      have yne : y ≠ (b, b + m) := fun z => by
        have a := hy1.2.2.2 (by rw [z, e1])
        rw [z, e2] at a
        exact absurd a (Nat.lt_irrefl _)
      rw [stp_here c]
      have gm := gp_lt h2
      have gm2 := gp_pos m
      rcases hy with hy | hy
      · have k : y.1 < b + gp m := by rw [hy]; dsimp only; omega
        rw [stp_low h2 yne k, stp_here hy]
        rfl
      · have k : ¬ y.1 < b + gp m := by rw [hy]; dsimp only; omega
        rw [stp_high h2 yne k, stp_here (by rw [hy]; exact Prod.ext rfl (by show b + m = b + gp m + (m - gp m); omega))]
        rfl
    · obtain ⟨m2, hh⟩ := in_half hm t hn hx h1 h3 c
      have gm := gp_lt m2
      have gm2 := gp_pos m
      have yne : y ≠ (b, b + m) := fun z => by
        have a1 : y.1 = b := congrArg Prod.fst z
        have a2 : y.2 = b + m := congrArg Prod.snd z
        have := hy1.2.2.2 (by omega)
        omega
      by_cases k : x.1 < b + gp m
      · have kx := hh k
        rw [stp_low m2 c k, stp_low m2 yne (by omega), List.length_cons, List.length_cons, ih (gp m) gm b gm2 (tree_low m2 t) (by omega) h1 kx]
      · rw [stp_high m2 c k, stp_high m2 yne (by omega), List.length_cons, List.length_cons, ih (m - gp m) (by omega) (b + gp m) (by omega) (tree_high m2 t) (by omega) (by omega) (by omega)]
/-- beside the way to a node stand the other halves of all nodes above it -/
theorem stp_mem {n B M : Nat} {x v : Nat × Nat} (hP : isN n (B, B + M)) (M2 : 2 ≤ M) (hx : isHalfP B M x) (hv : isN n v) (v1 : B ≤ v.1) (v2 : v.2 ≤ B + M) (vne : v ≠ (B, B + M)) (apart : v.2 ≤ x.1 ∨ x.2 ≤ v.1) :
    ∀ (m b : Nat), 1 ≤ m → tree n b m → b + m ≤ n → b ≤ B → B + M ≤ b + m → x ∈ stp b m v := by
  have v12 := (isN_tree (n := n) (b := v.1) (e := v.2) hv).1
  intro m
  induction m using Nat.strongRecOn with
  | ind m ih =>
    intro b hm t hn h1 h3
    by_cases c : (B, B + M) = (b, b + m)
    · have e1 : B = b := congrArg Prod.fst c
      have e2 : M = m := by have : B + M = b + m := congrArg Prod.snd c; omega
      subst e1
      subst e2
      have gm := gp_lt M2
      have gm2 := gp_pos M
      by_cases k : v.1 < B + gp M
      · rw [stp_low M2 vne k]
        rcases hx with hx | hx
        · rw [hx] at apart
          dsimp only at apart
          omega
        · rw [hx]
          exact List.mem_cons_self
      · rw [stp_high M2 vne k]
        rcases hx with hx | hx
        · rw [hx]
          exact List.mem_cons_self
        · rw [hx] at apart
          dsimp only at apart
          omega
    · obtain ⟨m2, hh⟩ := in_half hm t hn hP h1 h3 c
      have gm := gp_lt m2
      have gm2 := gp_pos m
      have vne2 : v ≠ (b, b + m) := fun z => by
        rw [z] at v1 v2
        dsimp only at v1 v2
        exact c (Prod.ext (by show B = b; omega) (by show B + M = b + m; omega))
      by_cases k : B < b + gp m
      · have kx : B + M ≤ b + gp m := hh k
        rw [stp_low m2 vne2 (by omega)]
        exact List.mem_cons_of_mem _ (ih (gp m) gm b gm2 (tree_low m2 t) (by omega) h1 kx)
      · rw [stp_high m2 vne2 (by omega)]
        exact List.mem_cons_of_mem _ (ih (m - gp m) (by omega) (b + gp m) (by omega) (tree_high m2 t) (by omega) (by omega) (by omega))
theorem due_stp {n : Nat} {W : List (Nat × Nat)} (n1 : 1 ≤ n) (hW : ∀ x ∈ W, isN n x) (w1 : W ≠ []) {x : Nat × Nat} (hx : Due n W x) : x ∈ W.flatMap (stp 0 n) := by
  have hroot : isN n (0, n) := by
    have := isN_of (n := n) (b := 0) (m := n) n1 (by omega) (tree_root n)
    rwa [Nat.zero_add] at this
  obtain ⟨x12, xn, _⟩ := isN_tree (n := n) (b := x.1) (e := x.2) hx.1
  have xne : x ≠ (0, n) := fun z => by
    obtain ⟨v, T, e⟩ := List.exists_cons_of_ne_nil w1
    have hv : v ∈ W := by rw [e]; exact List.mem_cons_self
    obtain ⟨v12, vn, _⟩ := isN_tree (n := n) (b := v.1) (e := v.2) (hW v hv)
    have := meets_has (x := x) hv (by rw [z]; dsimp only; omega) (by rw [z]; dsimp only; omega)
    rw [hx.2.1] at this
    cases this
  obtain ⟨B, M, r1, r2, r3, r4, r5⟩ := par_in2 hx.1 hroot (Nat.zero_le _) xn xne
  obtain ⟨v, hv, k1, k2⟩ := meets_iff.mp (hx.2.2 B M r1 r2 r3)
  dsimp only at k1 k2 r4 r5
  have hvN := hW v hv
  obtain ⟨v12, vn, _⟩ := isN_tree (n := n) (b := v.1) (e := v.2) hvN
  have apart : v.2 ≤ x.1 ∨ x.2 ≤ v.1 := by
    by_cases c : v.2 ≤ x.1 ∨ x.2 ≤ v.1
    · exact c
    · have := meets_has (x := x) hv (by omega) (by omega)
      rw [hx.2.1] at this
      cases this
  have xP : B ≤ x.1 ∧ x.2 ≤ B + M := by
    have g1 := gp_lt r2
    have g2 := gp_pos M
    rcases r3 with e | e <;> rw [e] <;> constructor <;> dsimp only <;> omega
  have nst := nested (i := max B v.1) r1 hvN (by show B ≤ _; omega) (by show _ < B + M; omega) (by omega) (by omega)
  dsimp only at nst
  have vin : B ≤ v.1 ∧ v.2 ≤ B + M := by omega
  have vne : v ≠ (B, B + M) := fun z => by rw [z] at apart; dsimp only at apart; omega
  have := stp_mem r1 r2 r3 hvN vin.1 vin.2 vne apart n 0 n1 (tree_root n) (by omega) (Nat.zero_le _) (by omega)
  exact List.mem_flatMap.mpr ⟨v, hv, this⟩
/-- a list with no item twice is no longer than one that has its items -/
theorem nodup_len : ∀ (l D : List (Nat × Nat)), l.Nodup → (∀ x ∈ l, x ∈ D) → l.length ≤ D.length
  | [], _, _, _ => Nat.zero_le _
  | x :: l, D, hn, hs => by
    obtain ⟨h1, h2⟩ := List.nodup_cons.mp hn
    have hx : x ∈ D := hs x List.mem_cons_self
    have ih := nodup_len l (D.erase x) h2 fun y hy => by
      have hne : y ≠ x := fun e => h1 (e ▸ hy)
      exact (List.mem_erase_of_ne hne).2 (hs y (List.mem_cons_of_mem _ hy))
    have e := List.length_erase_of_mem hx
    have hp : 0 < D.length := List.length_pos_of_mem hx
    rw [List.length_cons]
    omega
theorem Up.nodup : ∀ {lo : Nat} {l : List (Nat × Nat)}, Up lo l → l.Nodup
  | lo, [], _ => .nil
  | lo, x :: l, ⟨h1, h2, h3⟩ => List.nodup_cons.mpr ⟨fun h => by have := (h3.mem x h).1; omega, h3.nodup⟩
theorem flat_len (k : Nat) (f : Nat × Nat → List (Nat × Nat)) : ∀ W : List (Nat × Nat), (∀ x ∈ W, (f x).length ≤ k) → (W.flatMap f).length ≤ k * W.length
  | [], _ => Nat.zero_le _
  | x :: W, h => by
    have a := h x List.mem_cons_self
    have b := flat_len k f W fun y hy => h y (List.mem_cons_of_mem _ hy)
    rw [List.flatMap_cons, List.length_append, List.length_cons, Nat.mul_succ]
    omega
/-- how many nodes are missing at most -/
theorem nb_few {n k : Nat} {W : List (Nat × Nat)} (n1 : 1 ≤ n) (hW : ∀ x ∈ W, isN n x) (w1 : W ≠ []) (hk : ∀ x ∈ W, (stp 0 n x).length ≤ k) : (nb n 0 (srt W)).length ≤ k * W.length := by
  have wW : Wn n W := fun x hx => by
    have := isN_tree (n := n) (b := x.1) (e := x.2) (hW x hx)
    exact ⟨this.1, this.2.1⟩
  have up := nb_up (n := n) (srt W) 0 wW.srt (Nat.zero_le _)
  exact Nat.le_trans (nodup_len _ _ up.nodup fun x hx => due_stp n1 hW w1 (nb_srt_due wW hx)) (flat_len k _ W hk)
end LT

namespace LT
open PySem PySem.Spec PyProof.Rows L2
/-- whether all entries lie in one stretch -/
def lies (x : Nat × Nat) (T : List (Nat × Nat)) : Bool := T.any fun s => decide (s.1 ≤ x.1) && decide (x.2 ≤ s.2)
theorem ltc (a b : Nat) : V.bl (decide ((a : Int) < (b : Int))) = V.bl (decide (a < b)) := congrArg V.bl (decide_eq_decide.mpr (by omega))
theorem lec (a b : Nat) : V.bl (decide ((a : Int) ≤ (b : Int))) = V.bl (decide (a ≤ b)) := congrArg V.bl (decide_eq_decide.mpr (by omega))
theorem any_id {α : Type} (f : α → Bool) : ∀ S : List α, (S.map f).any id = S.any f
  | [] => rfl
  | x :: S => by rw [List.map_cons, List.any_cons, List.any_cons, any_id f S]; rfl
theorem all_id {α : Type} (f : α → Bool) : ∀ S : List α, (S.map f).all id = S.all f
  | [] => rfl
  | x :: S => by rw [List.map_cons, List.all_cons, List.all_cons, all_id f S]; rfl
section
variable {P : Program} {w : World} {K : PySem.W.Frag} {mg : Str → Option Value} {base : Heap}
def spLies : Sp := fun vs H Q _ => ∃ (v : V) (x : Nat × Nat) (p : Addr) (xs : List V) (S : List (Nat × Nat)), vs = [v, .ref p] ∧ Nd H v x ∧ H p = some (.lst xs) ∧ All2 (Nd H) xs S ∧ S.length ≤ 400 ∧
  ∀ (H' : Hp), Same H H' → Q (.bl (lies x S)) H'
theorem ok_lies {f : Addr} {fd : FuncData} (F : Fun K "_lies_within" "_lies_within" sLiesWithin f fd) (z_any : mg "any" = none) : FnOk P w K mg base CX0 1 f fd ["node", "stretches"] spLies := by
  refine F.ok scLiesWithin (fun vs H Q E h => ?_) (fun cdv A outer s H vs Q E hr h => ?_)
  · obtain ⟨_, _, _, _, _, rfl, _⟩ := h
    rfl
  obtain ⟨v, x, p, xs, S, rfl, hv, hp, hxs, hl, q⟩ := h
  have hlen := hxs.len
  obtain ⟨vp, rfl, hvp⟩ := hv
  refine ⟨_, (pss_cons (ps_asg (pv 0) (pg_tup (by rfl) (pgs_cons (pg_name (i := 2) scLiesWithin.nd rfl (Or.inr rfl)) (pgs_cons (pg_name (i := 3) scLiesWithin.nd rfl (Or.inr rfl)) pgs_nil))))
    (pss_one (ps_ret (pe_callB (cr_any rfl) (by rfl) z_any (by decide +kernel) (pa_cons (pe_lc (own := [("first", 4), ("last", 5)]) rfl scLiesWithin.nd (pi_list (pv 1)) (blkOk_by (N := ["node", "stretches", "begin", "end", "first", "last"]) (sc := defScope sLiesWithin) (by decide +kernel)) (fun _ _ _ _ _ => (pg_tupB (n := 2) rfl (pgs_cons (pg_name (i := 4) scLiesWithin.nd rfl (Or.inl rfl)) (pgs_cons (pg_name (i := 5) scLiesWithin.nd rfl (Or.inl rfl)) pgs_nil)))) (fun _ _ _ _ _ => pts_nil) (fun _ _ _ _ _ => (pe_and (pe_cmpR op_le (pv 4) (pv 2) (nomark _)) (pe_one (pe_cmpR op_le (pv 3) (pv 5) (nomark _)))))) pa_nil))))), ?_⟩
  refine ⟨_, rfl, vp, _, rfl, SqT.of hvp, rfl, _, _, rfl, _, _, rfl, rfl, ?_⟩
  refine ⟨_, rfl, p, rfl, ⟨_, SqL.of hp⟩, fun D nD => ?_⟩
  refine lc_list (K := K) (a := p) (xs := xs) (fun j H' => Same H H' ∧ H' D = some (.lst (((S.take j).map fun s => decide (s.1 ≤ x.1) && decide (x.2 ≤ s.2)).map V.bl))) ⟨same_upd nD, upd_same⟩ (fun j H' _ ⟨s5, _⟩ => SqL.of (s5 _ _ hp)) ?_ ?_
  · rintro j v H1 hj ⟨s1, hD⟩
    obtain ⟨y, hyj, pv, rfl, hpv⟩ := hxs.nth hj
    have jl := (List.getElem?_eq_some_iff.mp hyj).1
    refine ⟨pv, _, rfl, SqT.of (s1 _ _ hpv), rfl, _, _, rfl, _, _, rfl, rfl, rfl, ?_⟩
    refine ⟨_, rfl, _, rfl, _, _, rfl, rfl, decide (y.1 ≤ x.1), lec y.1 x.1, ?_⟩
    have key : ∀ (b : Bool), b = (decide (y.1 ≤ x.1) && decide (x.2 ≤ y.2)) → ∃ acc, H1 D = some (.lst acc) ∧ acc.length < sizeLine ∧ Same H (upd H1 D (.lst (acc ++ [V.bl b]))) ∧ (upd H1 D (.lst (acc ++ [V.bl b]))) D = some (.lst (((S.take (j + 1)).map fun s => decide (s.1 ≤ x.1) && decide (x.2 ≤ s.2)).map V.bl)) := fun b hb => by
      refine ⟨_, hD, szlt (by rw [List.length_map, List.length_map, List.length_take]; omega), fun u o k => by rw [upd_ne (ne_of_none k nD)]; exact s1 _ _ k, ?_⟩
      rw [take_more hyj, List.map_append, List.map_append, hb]
      exact upd_same
    cases h : decide (y.1 ≤ x.1) with
    | true =>
      refine ⟨_, rfl, _, rfl, _, _, rfl, rfl, ?_⟩
      dsimp only
      rw [lec x.2 y.2]
      exact key _ (by rw [h, Bool.true_and])
    | false => exact key false (by rw [h, Bool.false_and])
  · rintro H1 ⟨s1, hD⟩
    rw [hlen, List.take_length] at hD
    refine ⟨D, _, rfl, SqL.of hD, ?_⟩
    rw [any_id]
    exact q H1 s1
end
end LT

namespace LT
open PySem PySem.Spec PyProof.Rows L2
theorem BagAt.tup {H : Hp} {b p : Addr} {xs : List V} (h : BagAt H b) (e : H p = some (.tup xs)) : p ≠ b := fun z => by
  obtain ⟨_, _, _, k⟩ := h
  rw [← z, e] at k
  cases k
theorem Nd.but {b : Addr} {H H' : Hp} {v : V} {x : Nat × Nat} (h : Nd H v x) (B : But b H H') (hb : BagAt H b) : Nd H' v x := by
  obtain ⟨p, e, hp⟩ := h
  exact ⟨p, e, B p _ (hb.tup hp) hp⟩
theorem But.at {b p : Addr} {o : HO} {H H' : Hp} (B : But b H H') (n : p ≠ b) (h : H p = some o) : H' p = some o := B p o n h
section
variable {P : Program} {w : World} {K : PySem.W.Frag} {mg : Str → Option Value} {base : Heap}
def spParted : Sp := fun vs H Q _ => ∃ (x y : Nat) (v : V), vs = [v] ∧ Nd H v (x, y) ∧ x + 2 ≤ y ∧ y ≤ 10 ^ 30 ∧
  ∀ (H' : Hp) (q : Addr) (l h : V), Same H H' → H q = none → H' q = some (.tup [l, h]) → Nd H' l (x, x + gp (y - x)) → Nd H' h (x + gp (y - x), y) → Q (.ref q) H'
theorem ok_law_parted {f : Addr} {fd : FuncData} (F : Fun K "_law_parted" "_law_parted" sLawParted f fd) : FnOk P w K mg base CX0 1 f fd ["node"] spParted := by
  refine F.ok scLawParted (fun vs H Q E h => ?_) (fun cdv A outer s H vs Q E hr h => ?_)
  · obtain ⟨_, _, _, rfl, _⟩ := h
    rfl
  obtain ⟨x, y, v, rfl, ⟨p, rfl, hp⟩, hxy, y30, q⟩ := h
  refine ⟨_, (pss_cons (ps_set (i := 1) scLawParted.nd rfl (Or.inl rfl) (pe_op op_shl pe_int (pe_op op_sub (pe_bits (pe_op op_sub (pe_op op_sub (pe_ix ix_tup (pv 0) pe_int (fun _ _ => rfl)) (pe_ix ix_tup (pv 0) pe_int (fun _ _ => rfl))) pe_int)) pe_int)))
    (pss_one (ps_ret (pe_tup (pa_cons (pe_tup (pa_cons (pe_ix ix_tup (pv 0) pe_int (fun _ _ => rfl)) (pa_cons (pe_op op_add (pe_ix ix_tup (pv 0) pe_int (fun _ _ => rfl)) (pv 1)) pa_nil))) (pa_cons (pe_tup (pa_cons (pe_op op_add (pe_ix ix_tup (pv 0) pe_int (fun _ _ => rfl)) (pv 1)) (pa_cons (pe_ix ix_tup (pv 0) pe_int (fun _ _ => rfl)) pa_nil))) pa_nil)))))), ?_⟩
  have em : (y : Int) - (x : Int) - 1 = ((y - x - 1 : Nat) : Int) := by omega
  have hb : ((Builtin.Int.intBits ((y : Int) - (x : Int) - 1) : Nat) : Int) - 1 = ((Nat.log2 (y - x - 1) : Nat) : Int) := by
    rw [em, bits_nat, if_neg (by omega)]
    omega
  have l100 : Nat.log2 (y - x - 1) < 100 := (Nat.log2_lt (by omega)).mpr (Nat.lt_of_le_of_lt (show y - x - 1 ≤ 10 ^ 30 by omega) (by decide))
  have hg : (1 : Int) * 2 ^ (((Builtin.Int.intBits ((y : Int) - (x : Int) - 1) : Nat) : Int) - 1).toNat = ((gp (y - x) : Nat) : Int) := by
    rw [hb, Int.one_mul, Int.toNat_natCast]
    exact (Int.natCast_pow 2 _).symm
  have two : 2 ≤ sizeLine := by decide
  have q0 : atI [V.int (x : Int), V.int (y : Int)] 0 = some (.int (x : Int)) := atI_nat (j := 0) rfl
  have q1 : atI [V.int (x : Int), V.int (y : Int)] 1 = some (.int (y : Int)) := atI_nat (j := 1) rfl
  refine ⟨_, rfl, p, _, _, _, rfl, rfl, SqT.of hp, q1, _, rfl, p, _, _, _, rfl, rfl, SqT.of hp, q0, _, _, rfl, rfl, _, _, rfl, rfl, _, rfl, _, _, rfl, rfl, _, _, rfl, rfl, ⟨by rw [hb]; exact Int.natCast_nonneg _, by rw [hb]; omega, by decide⟩, ?_⟩
  dsimp only
  rw [hg]
  refine ⟨_, rfl, p, _, _, _, rfl, rfl, SqT.of hp, q0, _, rfl, p, _, _, _, rfl, rfl, SqT.of hp, q0, _, rfl, _, _, rfl, rfl, two, fun t1 n1 => ?_⟩
  have s1 := same_upd (o := .tup [.int (x : Int), .int ((x : Int) + ((gp (y - x) : Nat) : Int))]) n1
  refine ⟨_, rfl, p, _, _, _, rfl, rfl, SqT.of (s1 _ _ hp), q0, _, rfl, _, _, rfl, rfl, _, rfl, p, _, _, _, rfl, rfl, SqT.of (s1 _ _ hp), q1, two, fun t2 n2 => ⟨two, fun t3 n3 => ?_⟩⟩
  have s2 := same_upd (o := .tup [.int ((x : Int) + ((gp (y - x) : Nat) : Int)), .int (y : Int)]) n2
  have s3 := same_upd (o := .tup [.ref t1, .ref t2]) n3
  exact q _ t3 (.ref t1) (.ref t2) (s1.trans (s2.trans s3)) ((s1.trans s2).free n3) upd_same ⟨t1, rfl, s3 _ _ (s2 _ _ upd_same)⟩ ⟨t2, rfl, s3 _ _ upd_same⟩
def spWalked : Sp := fun vs H Q _ => ∃ (bg : Addr) (n most : Nat), vs = [.ref bg, .int n, .int most] ∧ BagAt H bg ∧ 1 ≤ n ∧ n ≤ 10 ^ 30 ∧ most ≤ 10 ^ 6 ∧
  ∀ (H' : Hp) (v : V) (x : Nat × Nat), But bg H H' → BagAt H' bg → Nd H' v x → isN n x → (stp 0 n x).length ≤ most → Q v H'
theorem ok_law_walked {f g1 g2 : Addr} {fd d1 d2 : FuncData} (F : Fun K "_law_walked" "_law_walked" sLawWalked f fd) (GLawParted : FnOk P w K mg base CX0 1 g1 d1 ["node"] spParted) (ALawParted : At K mg "_law_parted" g1 d1 ["node"])
    (GLawPick : FnOk P w K mg base CX0 1 g2 d2 ["bag", "many"] spPick) (ALawPick : At K mg "_law_pick" g2 d2 ["bag", "many"]) (z_range : mg "range" = none) : FnOk P w K mg base CX0 2 f fd ["bag", "size", "most"] spWalked := by
  refine F.ok scLawWalked (fun vs H Q E h => ?_) (fun cdv A outer s H vs Q E hr h => ?_)
  · obtain ⟨_, _, _, rfl, _⟩ := h
    rfl
  obtain ⟨bg, n, most, rfl, hb, n1, h30, m6, q⟩ := h
  have two : 2 ≤ sizeLine := by decide
  refine ⟨_, (pss_cons (ps_set (i := 3) scLawWalked.nd rfl (Or.inl rfl) (pe_tup (pa_cons pe_int (pa_cons (pv 1) pa_nil))))
    (pss_cons (ps_for PassesOwn.never rfl (pi_range1 (by rfl) z_range (pa_cons (pe_call GLawPick (hr.mono (by decide)) rfl ALawPick.m ALawPick.kp ALawPick.b .nil pass0 (pa_cons (pv 0) (pa_cons (pe_op op_add (pv 2) pe_int) pa_nil))) pa_nil)) (pg_name (i := 4) scLawWalked.nd rfl (Or.inl rfl))
    (pss_one (ps_if (pt_cmpR op_gt (pe_op op_sub (pe_ix ix_tup (pv 3) pe_int (fun _ _ => rfl)) (pe_ix ix_tup (pv 3) pe_int (fun _ _ => rfl))) pe_int (nomark _))
    (pss_one (ps_set (i := 3) scLawWalked.nd rfl (Or.inl rfl) (pe_ix ix_tup (pe_call GLawParted (hr.mono (by decide)) rfl ALawParted.m ALawParted.kp ALawParted.b .nil pass0 (pa_cons (pv 3) pa_nil)) (pe_call GLawPick (hr.mono (by decide)) rfl ALawPick.m ALawPick.kp ALawPick.b .nil pass0 (pa_cons (pv 0) (pa_cons pe_int pa_nil))) (fun _ _ => rfl))))
    pss_nil)))
    (pss_one (ps_ret (pv 3))))), ?_⟩
  refine ⟨_, rfl, two, fun t0 nt0 => ?_⟩
  have s0 := same_upd (o := .tup [.int 0, .int (n : Int)]) nt0
  have h0 : Nd (upd H t0 (.tup [.int 0, .int (n : Int)])) (.ref t0) (0, n) := ⟨t0, rfl, upd_same⟩
  have hb0 := hb.same s0
  generalize upd H t0 (.tup [.int 0, .int (n : Int)]) = H0 at s0 h0 hb0 ⊢
  refine ⟨_, rfl, _, rfl, _, _, rfl, rfl, bg, (most : Int) + 1, rfl, by omega, Nat.lt_of_le_of_lt (show ((most : Int) + 1).natAbs ≤ 10 ^ 7 by omega) (by decide), hb0, fun r H1 r0 r1 k1 hb1 => ?_⟩
  obtain ⟨m, rfl⟩ : ∃ m : Nat, r = (m : Int) := ⟨r.toNat, by omega⟩
  have B1 : But bg H H1 := fun a o nn k => by rw [k1 a nn]; exact s0 a o k
  have h1 : Nd H1 (.ref t0) (0, n) := h0.but ((But.refl bg H0).pick k1) hb0
  refine ⟨_, rfl, by omega, by omega, for_range (lo := 0) (n := m) (fun i σ H' => ∃ (v : V) (v4 : Option V) (x : Nat × Nat), σ = [some (.ref bg), some (.int (n : Int)), some (.int (most : Int)), some v, v4] ∧ But bg H H' ∧ BagAt H' bg ∧ Nd H' v x ∧ isN n x ∧ (stp 0 n x).length ≤ i)
    ⟨.ref t0, none, (0, n), rfl, B1, hb1, h1, ?_, ?_⟩ ?_ ?_⟩
  · have := isN_of (n := n) (b := 0) (m := n) n1 (by omega) (tree_root n)
    rwa [Nat.zero_add] at this
  · rw [stp_here (by rw [Nat.zero_add])]
    exact Nat.le_refl 0
  · rintro i σ H2 im ⟨v, v4, x, rfl, B2, hb2, hv, hx, hst⟩
    obtain ⟨x1, x2⟩ := x
    obtain ⟨p, rfl, hp⟩ := id hv
    obtain ⟨x12, x2n, xt⟩ := isN_tree hx
    have q0 : atI [V.int (x1 : Int), V.int (x2 : Int)] 0 = some (.int (x1 : Int)) := atI_nat (j := 0) rfl
    have q1 : atI [V.int (x1 : Int), V.int (x2 : Int)] 1 = some (.int (x2 : Int)) := atI_nat (j := 1) rfl
    refine ⟨_, rfl, p, _, _, _, rfl, rfl, SqT.of hp, q1, _, rfl, p, _, _, _, rfl, rfl, SqT.of hp, q0, _, _, rfl, rfl, _, _, rfl, rfl, _, rfl, ite2 (fun c => ?_) (fun c => ?_)⟩
    · have c1 : (1 : Int) < (x2 : Int) - (x1 : Int) := of_decide_eq_true c
      refine ⟨_, rfl, x1, x2, _, rfl, hv, by omega, by omega, fun H3 q l h s3 nq hq hl hh => ?_⟩
      have hb3 := hb2.same s3
      refine ⟨_, rfl, bg, 2, rfl, by decide, by decide, hb3, fun r H4 r0 r1 k4 hb4 => ?_⟩
      have B34 : But bg H3 H4 := (But.refl bg H3).pick k4
      have B4 : But bg H H4 := (B2.trans (But.of s3)).trans B34
      have hq4 := B34.at (hb3.tup hq) hq
      have el : isN n (x1, x1 + gp (x2 - x1)) := half_low_isN (m := x2 - x1) (by omega) xt (by omega)
      have eh : isN n (x1 + gp (x2 - x1), x2) := by
        have := half_high_isN (n := n) (b := x1) (m := x2 - x1) (by omega) xt (by omega)
        rwa [show x1 + (x2 - x1) = x2 by omega] at this
      have s1 := stp_half (x := (x1, x2)) hx (by show 2 ≤ x2 - x1; omega) (.inl rfl) n 0 n1 (tree_root n) (by omega) (Nat.zero_le _) (by show x2 ≤ 0 + n; omega)
      have s2 := stp_half (x := (x1, x2)) hx (by show 2 ≤ x2 - x1; omega) (.inr rfl) n 0 n1 (tree_root n) (by omega) (Nat.zero_le _) (by show x2 ≤ 0 + n; omega)
      dsimp only at s1 s2
      rw [show x1 + (x2 - x1) = x2 by omega] at s2
      rcases (show r = 0 ∨ r = 1 by omega) with rfl | rfl
      · exact ⟨q, _, _, _, rfl, rfl, SqT.of hq4, atI_nat (j := 0) rfl, l, _, _, rfl, B4, hb4, hl.but B34 hb3, el, by rw [s1]; omega⟩
      · exact ⟨q, _, _, _, rfl, rfl, SqT.of hq4, atI_nat (j := 1) rfl, h, _, _, rfl, B4, hb4, hh.but B34 hb3, eh, by rw [s2]; omega⟩
    · exact ⟨_, _, _, rfl, B2, hb2, hv, hx, by omega⟩
  · rintro σ H2 ⟨v, v4, x, rfl, B2, hb2, hv, hx, hst⟩
    exact ⟨v, rfl, q H2 v x B2 hb2 hv hx (by omega)⟩
end
end LT

namespace LT
open PySem PySem.Spec PyProof.Rows L2
def two2 (x : Nat × Nat) : List Int := [(x.1 : Int), (x.2 : Int)]
theorem two2_inj {x y : Nat × Nat} (h : two2 x = two2 y) : x = y := by
  have h1 := (List.cons.inj h).1
  have h2 := (List.cons.inj (List.cons.inj h).2).1
  exact Prod.ext (by omega) (by omega)
/-- pairs in the heap with their addresses -/
theorem nd_ks {K : PySem.W.Frag} {H : Hp} {xs : List V} {W : List (Nat × Nat)} (h : All2 (Nd H) xs W) : ∃ ks : List (Addr × List Int), xs = (ks.map fun p => V.ref p.1) ∧ ∀ p ∈ ks, ∃ x ∈ W, p.2 = two2 x ∧ Nd H (.ref p.1) x ∧ SqT K H p.1 (p.2.map V.int) := by
  induction h with
  | nil => exact ⟨[], rfl, fun p h => by cases h⟩
  | @cons v x vs W h t ih =>
    obtain ⟨a, rfl, ha⟩ := h
    obtain ⟨ks, e, k⟩ := ih
    refine ⟨(a, two2 x) :: ks, by rw [e]; rfl, fun p hp => ?_⟩
    rcases List.mem_cons.mp hp with rfl | hp
    · exact ⟨x, List.mem_cons_self, rfl, ⟨a, rfl, ha⟩, SqT.of ha⟩
    · obtain ⟨y, hy, r⟩ := k p hp
      exact ⟨y, List.mem_cons_of_mem _ hy, r⟩
theorem ks_in {K : PySem.W.Frag} {H : Hp} {xs : List V} {W : List (Nat × Nat)} (h : All2 (Nd H) xs W) : ∀ {ks : List (Addr × List Int)}, xs = (ks.map fun p => V.ref p.1) → (∀ p ∈ ks, ∃ x, p.2 = two2 x ∧ Nd H (.ref p.1) x) → ∀ x ∈ W, two2 x ∈ ks.map (·.2) := by
  induction h with
  | nil => intro ks _ _ x hx; cases hx
  | cons h t ih =>
    intro ks e k x hx
    cases ks with
    | nil => cases e
    | cons p ks =>
      rw [List.map_cons, List.cons.injEq] at e
      rcases List.mem_cons.mp hx with rfl | hx
      · obtain ⟨y, e2, hy⟩ := k p List.mem_cons_self
        rw [e.1] at h
        obtain ⟨a, ea, ha⟩ := h
        obtain ⟨b, eb, hb⟩ := hy
        rw [ea] at eb
        cases eb
        rw [ha] at hb
        have hb := Option.some.inj hb
        have h1 : [V.int ((x.1 : Nat) : Int), V.int ((x.2 : Nat) : Int)] = [V.int (y.1 : Int), V.int (y.2 : Int)] := by injection hb
        have i1 := V.int.inj (List.cons.inj h1).1
        have i2 := V.int.inj (List.cons.inj (List.cons.inj h1).2).1
        have : two2 x = p.2 := by
          rw [e2]
          unfold two2
          rw [i1, i2]
        rw [this]
        exact List.mem_map.mpr ⟨p, List.mem_cons_self, rfl⟩
      · exact List.mem_map.mpr (by
          obtain ⟨q, hq, eq⟩ := List.mem_map.mp (ih e.2 (fun p hp => k p (List.mem_cons_of_mem _ hp)) x hx)
          exact ⟨q, List.mem_cons_of_mem _ hq, eq⟩)
/-- the pairs that stand at addresses -/
theorem of_ks {H : Hp} {W : List (Nat × Nat)} : ∀ (L : List (Addr × List Int)), (∀ p ∈ L, ∃ x ∈ W, p.2 = two2 x ∧ Nd H (.ref p.1) x) → ∃ U : List (Nat × Nat), All2 (Nd H) (L.map fun p => V.ref p.1) U ∧ U.map two2 = L.map (·.2) ∧ ∀ x ∈ U, x ∈ W
  | [], _ => ⟨[], .nil, rfl, fun _ h => by cases h⟩
  | p :: L, h => by
    obtain ⟨U, a, b, c⟩ := of_ks L fun q hq => h q (List.mem_cons_of_mem _ hq)
    obtain ⟨x, hx, e, k⟩ := h p List.mem_cons_self
    exact ⟨x :: U, .cons k a, by rw [List.map_cons, List.map_cons, b, e], fun y hy => by
      rcases List.mem_cons.mp hy with rfl | hy
      · exact hx
      · exact c y hy⟩
theorem code_two (x : Nat × Nat) : TS.code (2 ^ 100) (two2 x) = (x.1 : Int) * 2 ^ 100 + (x.2 : Int) := by
  show (x.1 : Int) * (2 ^ 100) ^ 1 + ((x.2 : Int) * (2 ^ 100) ^ 0 + 0) = _
  rw [Int.pow_succ, Int.pow_zero, Int.one_mul, Int.mul_one, Int.add_zero]
theorem le_of_code {x y : Nat × Nat} (hx : x.2 < 2 ^ 100) (hy : y.2 < 2 ^ 100) (h : TS.code (2 ^ 100) (two2 x) ≤ TS.code (2 ^ 100) (two2 y)) : leN x y = true := by
  rw [code_two, code_two] at h
  rw [leN_iff]
  rcases Nat.lt_trichotomy x.1 y.1 with c | c | c
  · exact .inl c
  · refine .inr ⟨c, ?_⟩
    rw [c] at h
    omega
  · exfalso
    have : (y.1 : Int) + 1 ≤ (x.1 : Int) := by omega
    omega
theorem nd_iss (x y : Nat × Nat) : PyData.eqv (nd x) (nd y) = decide (x = y) := by
  show PyData.eqv (.tuple [.int x.1, .int x.2]) (.tuple [.int y.1, .int y.2]) = _
  rw [nd_eqv]
  by_cases c : x = y
  · subst c; simp
  · rw [decide_eq_false c, Bool.and_eq_false_iff]
    by_cases c1 : x.1 = y.1
    · right
      exact decide_eq_false (fun z => c (Prod.ext c1 (by omega)))
    · left
      exact decide_eq_false (fun z => c1 (by omega))
/-- has a node within -/
def ovr (x o : Nat × Nat) : Bool := decide (o ≠ x) && (decide (o.1 ≤ x.1) && decide (x.2 ≤ o.2))
theorem tp_ovr (W : List (Nat × Nat)) (x : Nat × Nat) : decide (W.filter (ovr x) = []) = !(W.any (ovr x)) := by
  cases h : W.any (ovr x) with
  | true =>
    obtain ⟨o, ho, k⟩ := List.any_eq_true.mp h
    exact decide_eq_false fun z => by
      have : o ∈ W.filter (ovr x) := List.mem_filter.mpr ⟨ho, k⟩
      rw [z] at this
      cases this
  | false => exact decide_eq_true (List.filter_eq_nil_iff.mpr fun o ho k => by
      have := List.any_eq_false.mp h o ho
      exact this k)
/-- within no other one -/
def tp (W : List (Nat × Nat)) (x : Nat × Nat) : Bool := !(W.any (ovr x))
section
variable {P : Program} {w : World} {K : PySem.W.Frag} {mg : Str → Option Value} {base : Heap}
def spTops33 : Sp := fun vs H Q _ => ∃ (p : Addr) (xs : List V) (W : List (Nat × Nat)), vs = [.ref p] ∧ H p = some (.lst xs) ∧ All2 (Nd H) xs W ∧ W.length < 64 ∧ (∀ x ∈ W, x.1 < x.2 ∧ x.2 ≤ 10 ^ 30) ∧
  ∀ (H' : Hp) (r : Addr) (ys : List V) (T : List (Nat × Nat)), Same H H' → H r = none → H' r = some (.lst ys) → All2 (Nd H') ys T → T.Pairwise (fun x y => leN x y = true) → T.Nodup → (∀ x, x ∈ T ↔ x ∈ W ∧ tp W x = true) → Q (.ref r) H'
theorem ok_law_tops {f : Addr} {fd : FuncData} (F : Fun K "_law_tops" "_law_tops" sLawTops f fd) (z_sorted : mg "sorted" = none) (z_set : mg "set" = none) : FnOk P w K mg base CX0 1 f fd ["nodes"] spTops33 := by
  refine F.ok scLawTops (fun vs H Q E h => ?_) (fun cdv A outer s H vs Q E hr h => ?_)
  · obtain ⟨_, _, _, rfl, _⟩ := h
    rfl
  obtain ⟨p, xs, W, rfl, hp, hx, l64, hW, q⟩ := h
  refine' ⟨_, (pss_cons (ps_set (i := 1) scLawTops.nd rfl (Or.inl rfl) (pe_lst pa_nil))
    (pss_cons (ps_for PassesOwn.never rfl (pi_list (pe_callB (cr_sortedT rfl) (by rfl) z_sorted (by decide +kernel) (pa_cons (pe_callTy (cr_setOfT rfl hr.units) (by rfl) z_set (by decide +kernel) (pa_cons (pv 0) pa_nil)) pa_nil))) (pg_name (i := 2) scLawTops.nd rfl (Or.inr rfl))
    (pss_cons ?cc1
    (pss_one (ps_if (pt_cmpR (op_eqD hr.units) (pv 3) (pe_lst pa_nil) (nomark _))
    (pss_one (ps_expr (pe_bm PySem.F.plainAttrs_list PySem.F.slot_list_append PySem.F.type_list_append mt_append (pv 1) (pa_cons (pv 2) pa_nil))))
    pss_nil))))
    (pss_one (ps_ret (pv 1))))), ?_⟩
  case cc1 => exact (ps_setLc (i := 3) (own := [("other", 4)]) rfl scLawTops.nd rfl rfl (sw_true rfl rfl rfl (by decide +kernel)) (pi_list (pv 0)) (blkOk_by (N := ["nodes", "found", "node", "over", "other"]) (sc := defScope sLawTops) (by decide +kernel)) (fun _ _ _ _ _ => (pg_name (i := 4) scLawTops.nd rfl (Or.inl rfl))) (fun _ _ _ _ _ => pts_one (PW.pt (pw_and (pt_cmpR (op_neDB hr.units) (pv 4) (pv 2) (nomark _)) (pw_and (pt_cmpR op_le (pe_ix ix_tupB (pv 4) pe_int (fun _ _ => rfl)) (pe_ix ix_tupB (pv 2) pe_int (fun _ _ => rfl)) (nomark _)) (pw_and1 (pt_cmpR op_le (pe_ix ix_tupB (pv 2) pe_int (fun _ _ => rfl)) (pe_ix ix_tupB (pv 4) pe_int (fun _ _ => rfl)) (nomark _))))))) (fun _ _ _ _ _ => (pv 4)))
  refine ⟨Nat.zero_le _, fun fa nf => ?_⟩
  have two : 2 ≤ sizeLine := by decide
  have s1 := same_upd (o := .lst []) nf
  have hf : (upd H fa (.lst [])) fa = some (.lst []) := upd_same
  have hp1 := s1 _ _ hp
  have hx1 := hx.mono fun v x (k : Nd H v x) => k.same s1
  generalize upd H fa (.lst []) = H1 at s1 hf hp1 hx1 ⊢
  obtain ⟨ks, eks, hks⟩ := nd_ks (K := K) hx1
  have kl : ks.length = W.length := by
    have := hx.len
    rw [eks, List.length_map] at this
    exact this
  have kin := ks_in (K := K) hx1 eks fun q hq => by
    obtain ⟨x, _, a, b, _⟩ := hks q hq
    exact ⟨x, a, b⟩
  refine ⟨_, rfl, p, ks, rfl, by rw [← eks]; exact SqL.of hp1, fun q hq => (hks q hq).elim fun x h => h.2.2.2, by omega, fun a L na hsub hall => ?_⟩
  have w2 := same_upd (o := SetTO P w a L) na
  have hSA : (upd H1 a (SetTO P w a L)) a = some (SetTO P w a L) := upd_same
  have s2 := s1.trans w2
  have hL2 : ∀ q ∈ L, ∃ x ∈ W, q.2 = two2 x ∧ Nd (upd H1 a (SetTO P w a L)) (.ref q.1) x := fun q hq => by
    obtain ⟨x, hxW, e, k, _⟩ := hks q (hsub q hq)
    exact ⟨x, hxW, e, k.same w2⟩
  refine ⟨a, L, 2, 2 ^ 100, rfl, hSA, fun q hq => ?_, by decide, fun q hq => ?_, fun L' r pm nd' few pw nr => ?_⟩
  · obtain ⟨x, _, e, ⟨b, eb, hb⟩⟩ := hL2 q hq
    cases eb
    rw [e]
    exact SqT.of hb
  · obtain ⟨x, hxW, e, _⟩ := hL2 q hq
    have k := hW x hxW
    have p30 : (10 : Int) ^ 30 < 2 ^ 100 := by decide
    rw [e]
    refine ⟨rfl, fun z hz => ?_⟩
    rcases List.mem_cons.mp hz with rfl | hz
    · exact ⟨by omega, by omega⟩
    · rw [List.mem_singleton.mp hz]
      exact ⟨by omega, by omega⟩
  obtain ⟨U, hU, eU, mU⟩ := of_ks (H := upd H1 a (SetTO P w a L)) (W := W) L' fun q hq => hL2 q (pm.mem_iff.mp hq)
  have w3 := same_upd (o := .lst (L'.map fun q => V.ref q.1)) nr
  have s13 := w2.trans w3
  have s3 := s1.trans s13
  have Ul := hU.len
  rw [List.length_map] at Ul
  have Und : U.Nodup := by
    have : (U.map two2).Nodup := by rw [eU]; exact nd'
    exact (List.pairwise_map.mp this).imp fun h e => h (congrArg two2 e)
  have Uiff : ∀ x, x ∈ U ↔ x ∈ W := fun x => by
    refine ⟨mU x, fun hxW => ?_⟩
    obtain ⟨q, hq, e1⟩ := List.mem_map.mp (kin x hxW)
    have e2 := hall q hq
    rw [e1] at e2
    obtain ⟨q2, hq2, e3⟩ := List.mem_map.mp e2
    have : two2 x ∈ U.map two2 := by
      rw [eU]
      exact List.mem_map.mpr ⟨q2, pm.mem_iff.mpr hq2, e3⟩
    obtain ⟨y, hy, e4⟩ := List.mem_map.mp this
    rw [← two2_inj e4]
    exact hy
  have Upw : U.Pairwise (fun x y => leN x y = true) := by
    have h1 : (L'.map (·.2)).Pairwise (fun q r => TS.code (2 ^ 100) q ≤ TS.code (2 ^ 100) r) := List.pairwise_map.mpr pw
    rw [← eU] at h1
    have h2 := List.pairwise_map.mp h1
    refine List.Pairwise.imp_of_mem (fun {x y} hx hy h => ?_) h2
    have p30 : (10 : Nat) ^ 30 < 2 ^ 100 := by decide
    have kx := hW x (mU x hx)
    have ky := hW y (mU y hy)
    exact le_of_code (by omega) (by omega) h
  have hfa3 := s13 _ _ hf
  have hr3 : (upd (upd H1 a (SetTO P w a L)) r (.lst (L'.map fun q => V.ref q.1))) r = some (.lst (L'.map fun q => V.ref q.1)) := upd_same
  have hU3 := hU.mono fun v x (k : Nd (upd H1 a (SetTO P w a L)) v x) => k.same w3
  have rfa : r ≠ fa := fun z => by
    have := w2 _ _ hf
    rw [← z] at this
    have nr' : (upd H1 a (SetTO P w a L)) r = none := nr
    rw [nr'] at this
    cases this
  refine ⟨r, rfl, ⟨_, SqL.of hr3⟩, for_list (K := K) (a := r) (xs := L'.map fun q => V.ref q.1) (fun j σ H' => ∃ (v2 v3 v4 : Option V) (zs : List V), σ = [some (.ref p), some (.ref fa), v2, v3, v4] ∧ Same H H' ∧ H' r = some (.lst (L'.map fun q => V.ref q.1)) ∧ All2 (Nd H') (L'.map fun q => V.ref q.1) U ∧ H' fa = some (.lst zs) ∧ All2 (Nd H') zs ((U.take j).filter (tp W)))
    ⟨none, none, none, [], rfl, s3, hr3, hU3, hfa3, .nil⟩ (fun i σ H' _ ⟨_, _, _, _, _, _, s5, _⟩ => SqL.of s5) ?_ ?_⟩
  · rintro j v σ H4 hj ⟨v2, v3, v4, zs, rfl, s4, hr4, hU4, hfa4, hzs⟩
    obtain ⟨x, hxj, hv⟩ := hU4.nth hj
    have jl := (List.getElem?_eq_some_iff.mp hxj).1
    have hp4 := s4 _ _ hp
    have hx4 := hx.mono fun v x (k : Nd H v x) => k.same s4
    obtain ⟨vp, rfl, hvp⟩ := id hv
    have q0 : atI [V.int (x.1 : Int), V.int (x.2 : Int)] 0 = some (.int (x.1 : Int)) := atI_nat (j := 0) rfl
    have q1 : atI [V.int (x.1 : Int), V.int (x.2 : Int)] 1 = some (.int (x.2 : Int)) := atI_nat (j := 1) rfl
    refine ⟨_, rfl, p, rfl, ⟨_, SqL.of hp4⟩, fun D nD => ?_⟩
    refine lc_list (K := K) (a := p) (xs := xs) (fun i H' => ∃ os : List V, Same H4 H' ∧ H' D = some (.lst os) ∧ All2 (Nd H') os ((W.take i).filter (ovr x))) ⟨[], same_upd nD, upd_same, .nil⟩ (fun i H' _ ⟨_, s5, _⟩ => SqL.of (s5 _ _ hp4)) ?_ ?_
    · rintro i u H5 hi ⟨os, s5, hD, hos⟩
      obtain ⟨o, hoi, op, rfl, hop⟩ := hx4.nth hi
      have il := (List.getElem?_eq_some_iff.mp hoi).1
      have hop5 := s5 _ _ hop
      have hvp5 := s5 _ _ hvp
      have o0 : atI [V.int (o.1 : Int), V.int (o.2 : Int)] 0 = some (.int (o.1 : Int)) := atI_nat (j := 0) rfl
      have o1 : atI [V.int (o.1 : Int), V.int (o.2 : Int)] 1 = some (.int (o.2 : Int)) := atI_nat (j := 1) rfl
      have no : ∀ b : Bool, ovr x o = b → b = false → ∃ os : List V, Same H4 H5 ∧ H5 D = some (.lst os) ∧ All2 (Nd H5) os ((W.take (i + 1)).filter (ovr x)) := fun b e1 e2 => by
        refine ⟨os, s5, hD, ?_⟩
        rw [take_more hoi, List.filter_append, List.filter_cons_of_neg (p := ovr x) (l := []) (by rw [e1, e2]; decide), List.filter_nil, List.append_nil]
        exact hos
      refine ⟨rfl, ?_⟩
      refine ⟨_, rfl, _, rfl, nd o, nd x, Nd.dp (x := o) ⟨op, rfl, hop5⟩, Nd.dp (x := x) ⟨vp, rfl, hvp5⟩, nd_shaped _ _, nd_shaped _ _, ?_⟩
      rw [nd_iss]
      refine ⟨decide (o ≠ x), congrArg V.bl (by simp), ?_⟩
      cases h1 : decide (o ≠ x) with
      | false => exact no _ (by unfold ovr; rw [h1, Bool.false_and]) rfl
      | true =>
        refine ⟨_, rfl, op, _, _, _, rfl, rfl, SqT.of hop5, o0, _, rfl, vp, _, _, _, rfl, rfl, SqT.of hvp5, q0, _, _, rfl, rfl, decide (o.1 ≤ x.1), lec o.1 x.1, ?_⟩
        cases h2 : decide (o.1 ≤ x.1) with
        | false => exact no _ (by unfold ovr; rw [h1, h2, Bool.false_and, Bool.and_false]) rfl
        | true =>
          refine ⟨_, rfl, vp, _, _, _, rfl, rfl, SqT.of hvp5, q1, _, rfl, op, _, _, _, rfl, rfl, SqT.of hop5, o1, _, _, rfl, rfl, decide (x.2 ≤ o.2), lec x.2 o.2, ?_⟩
          cases h3 : decide (x.2 ≤ o.2) with
          | false => exact no _ (by unfold ovr; rw [h1, h2, h3]; rfl) rfl
          | true =>
            refine ⟨_, rfl, os, hD, szlt (by rw [hos.len]; have := List.length_filter_le (ovr x) (W.take i); rw [List.length_take] at this; omega), os ++ [.ref op], fun u o k => by rw [upd_ne (ne_of_none k nD)]; exact s5 _ _ k, upd_same, ?_⟩
            rw [take_more hoi, List.filter_append, List.filter_cons_of_pos (p := ovr x) (l := []) (by unfold ovr; rw [h1, h2, h3]; rfl)]
            exact (hos.mono fun v x (k : Nd H5 v x) => k.upd hD).app (.cons (Nd.upd (x := o) ⟨op, rfl, hop5⟩ hD) .nil)
    rintro H5 ⟨os, s5, hD, hos⟩
    rw [hx.len, List.take_length] at hos
    refine ⟨_, rfl, Nat.zero_le _, fun l nl => ?_⟩
    have w6 := same_upd (o := .lst []) nl
    refine ⟨_, _, lst_dp (w6 _ _ hD) (hos.mono fun v x (k : Nd H5 v x) => k.same w6), lst_dp (l := []) upd_same .nil, nds_shaped _, nds_shaped _, ?_⟩
    rw [nds_eqv]
    have s6 := s5.trans w6
    have t6 := s4.trans s6
    have hr6 := s6 _ _ hr4
    have hU6 := hU4.mono fun v x (k : Nd H4 v x) => k.same s6
    have hf6 := s6 _ _ hfa4
    have hz6 := hzs.mono fun v x (k : Nd H4 v x) => k.same s6
    have hv6 := hv.same s6
    generalize upd H5 l (.lst []) = H6 at t6 hr6 hU6 hf6 hz6 hv6 ⊢
    refine ⟨tp W x, congrArg V.bl (tp_ovr W x), ?_⟩
    cases ht : tp W x with
    | true =>
      refine ⟨_, rfl, .inl ⟨rfl, _, SqL.of hf6⟩, _, rfl, fa, _, _, rfl, rfl, hf6, szlt (by rw [hz6.len]; have := List.length_filter_le (tp W) (U.take j); rw [List.length_take] at this; have : U.length ≤ W.length := nodup_len U W Und fun x hx => (Uiff x).mp hx; omega), ?_⟩
      refine ⟨_, _, _, zs ++ [.ref vp], rfl, fun u o k => by rw [upd_ne (ne_of_none k nf)]; exact t6 _ _ k, by rw [upd_ne rfa]; exact hr6, hU6.mono (fun v x (k : Nd H6 v x) => k.upd hf6), upd_same, ?_⟩
      rw [take_more hxj, List.filter_append, List.filter_cons_of_pos (p := tp W) (l := []) ht]
      exact (hz6.mono fun v x (k : Nd H6 v x) => k.upd hf6).app (.cons (hv6.upd hf6) .nil)
    | false =>
      refine ⟨_, _, _, zs, rfl, t6, hr6, hU6, hf6, ?_⟩
      rw [take_more hxj, List.filter_append, List.filter_cons_of_neg (p := tp W) (l := []) (by rw [ht]; decide), List.filter_nil, List.append_nil]
      exact hz6
  · rintro σ H4 ⟨v2, v3, v4, zs, rfl, s4, hr4, hU4, hfa4, hzs⟩
    rw [List.length_map, Ul, List.take_length] at hzs
    exact ⟨_, rfl, q H4 fa zs (U.filter (tp W)) s4 nf hfa4 hzs (Upw.filter _) (Und.filter _) fun x => by rw [List.mem_filter, Uiff]⟩
end
end LT

namespace LT
open PySem PySem.Spec PyProof.Rows L2
theorem up_of_pair : ∀ (l : List (Nat × Nat)) (lo : Nat), l.Pairwise (fun x y => x.2 ≤ y.1) → (∀ x ∈ l, lo ≤ x.1 ∧ x.1 < x.2) → Up lo l
  | [], _, _, _ => trivial
  | x :: l, lo, h, k => by
    obtain ⟨a, b⟩ := List.pairwise_cons.mp h
    have kx := k x List.mem_cons_self
    exact ⟨kx.1, kx.2, up_of_pair l x.2 b fun y hy => ⟨a y hy, (k y (List.mem_cons_of_mem _ hy)).2⟩⟩
theorem up_of {l : List (Nat × Nat)} (h : l.Pairwise (fun x y => leN x y = true)) (nd' : l.Nodup) (k : ∀ x ∈ l, x.1 < x.2) (ap : ∀ x ∈ l, ∀ y ∈ l, x ≠ y → x.2 ≤ y.1 ∨ y.2 ≤ x.1) : Up 0 l := by
  refine up_of_pair l 0 ?_ fun x hx => ⟨Nat.zero_le _, k x hx⟩
  have h2 := h.and nd'
  refine List.Pairwise.imp_of_mem (fun {x y} hx hy c => ?_) h2
  have := leN_iff.mp c.1
  have := k x hx
  have := k y hy
  rcases ap x hx y hy c.2 with e | e
  · exact e
  · omega
/-- the tops share no entry -/
theorem tp_apart {n : Nat} {W : List (Nat × Nat)} (hW : ∀ x ∈ W, isN n x) {x y : Nat × Nat} (hx : x ∈ W ∧ tp W x = true) (hy : y ∈ W ∧ tp W y = true) (c : x ≠ y) : x.2 ≤ y.1 ∨ y.2 ≤ x.1 := by
  by_cases k : x.2 ≤ y.1 ∨ y.2 ≤ x.1
  · exact k
  exfalso
  obtain ⟨x12, _⟩ := isN_tree (n := n) (b := x.1) (e := x.2) (hW x hx.1)
  obtain ⟨y12, _⟩ := isN_tree (n := n) (b := y.1) (e := y.2) (hW y hy.1)
  have no : ∀ {a b : Nat × Nat}, tp W a = true → b ∈ W → b ≠ a → ¬ (b.1 ≤ a.1 ∧ a.2 ≤ b.2) := fun {a b} ha hb ne z => by
    unfold tp at ha
    have : W.any (ovr a) = true := List.any_eq_true.mpr ⟨b, hb, by unfold ovr; rw [decide_eq_true ne, decide_eq_true z.1, decide_eq_true z.2]; rfl⟩
    rw [this] at ha
    cases ha
  rcases nested (i := max x.1 y.1) (hW x hx.1) (hW y hy.1) (by omega) (by omega) (by omega) (by omega) with z | z
  · exact no hy.2 hx.1 c z
  · exact no hx.2 hy.1 (fun e => c e.symm) z
/-- each node lies in a top -/
theorem tp_over {n : Nat} {W : List (Nat × Nat)} (hW : ∀ x ∈ W, isN n x) : ∀ (k : Nat) (x : Nat × Nat), x ∈ W → n - (x.2 - x.1) = k → ∃ t, (t ∈ W ∧ tp W t = true) ∧ t.1 ≤ x.1 ∧ x.2 ≤ t.2 := by
  intro k
  induction k using Nat.strongRecOn with
  | ind k ih =>
    intro x hx e
    cases h : tp W x with
    | true => exact ⟨x, ⟨hx, h⟩, Nat.le_refl _, Nat.le_refl _⟩
    | false =>
      unfold tp at h
      have h2 : W.any (ovr x) = true := by
        cases z : W.any (ovr x) with
        | true => rfl
        | false => rw [z] at h; cases h
      obtain ⟨o, ho, z⟩ := List.any_eq_true.mp h2
      unfold ovr at z
      rw [Bool.and_eq_true, Bool.and_eq_true, decide_eq_true_eq, decide_eq_true_eq, decide_eq_true_eq] at z
      obtain ⟨z1, z2, z3⟩ := z
      obtain ⟨x12, xn, _⟩ := isN_tree (n := n) (b := x.1) (e := x.2) (hW x hx)
      obtain ⟨o12, on, _⟩ := isN_tree (n := n) (b := o.1) (e := o.2) (hW o ho)
      have lt : x.2 - x.1 < o.2 - o.1 := by
        by_cases a : x.1 = o.1
        · by_cases b : x.2 = o.2
          · exact absurd (Prod.ext a.symm b.symm) z1
          · omega
        · omega
      obtain ⟨t, ht, t1, t2⟩ := ih (n - (o.2 - o.1)) (by omega) o ho rfl
      exact ⟨t, ht, by omega, by omega⟩
theorem tp_cov {n : Nat} {W T : List (Nat × Nat)} (hW : ∀ x ∈ W, isN n x) (hT : ∀ x, x ∈ T ↔ x ∈ W ∧ tp W x = true) (i : Nat) : cov T i ↔ cov W i := by
  constructor
  · rintro ⟨x, hx, k⟩
    exact ⟨x, ((hT x).mp hx).1, k⟩
  · rintro ⟨x, hx, k1, k2⟩
    obtain ⟨t, ht, t1, t2⟩ := tp_over hW _ x hx rfl
    exact ⟨t, (hT t).mpr ht, by omega, by omega⟩
/-- one behind the other -/
def Tl : Nat → Nat → List (Nat × Nat) → Prop
  | lo, hi, [] => lo = hi
  | lo, hi, x :: l => x.1 = lo ∧ x.1 < x.2 ∧ Tl x.2 hi l
theorem tile {n : Nat} : ∀ {lo : Nat} {P : List (Nat × Nat)}, Up lo P → lo ≤ n → (∀ x ∈ P, x.2 ≤ n) → (∀ i, lo ≤ i → i < n → cov P i) → Tl lo n P
  | lo, [], _, h, _, c => by
    by_cases z : lo < n
    · obtain ⟨s, hs, _⟩ := c lo (Nat.le_refl _) z
      cases hs
    · show lo = n
      omega
  | lo, x :: P, ⟨h1, h2, h3⟩, h, k, c => by
    have xn := k x List.mem_cons_self
    have x1 : x.1 = lo := by
      obtain ⟨s, hs, s1, s2⟩ := c lo (Nat.le_refl _) (by omega)
      rcases List.mem_cons.mp hs with rfl | hs
      · omega
      · have := (h3.mem s hs).1
        omega
    refine ⟨x1, h2, tile h3 xn (fun y hy => k y (List.mem_cons_of_mem _ hy)) fun i i1 i2 => ?_⟩
    obtain ⟨s, hs, s1, s2⟩ := c i (by omega) i2
    rcases List.mem_cons.mp hs with rfl | hs
    · omega
    · exact ⟨s, hs, s1, s2⟩
theorem Tl.last : ∀ {lo hi : Nat} {P : List (Nat × Nat)}, Tl lo hi P → P ≠ [] → ∃ x, P[P.length - 1]? = some x ∧ x.2 = hi
  | lo, hi, [], _, h => absurd rfl h
  | lo, hi, [x], ⟨_, _, h3⟩, _ => ⟨x, rfl, h3⟩
  | lo, hi, x :: y :: P, ⟨_, _, h3⟩, _ => by
    obtain ⟨z, e, k⟩ := Tl.last h3 (List.cons_ne_nil _ _)
    exact ⟨z, by rw [List.length_cons, Nat.add_sub_cancel]; exact e, k⟩
theorem Tl.next : ∀ {lo hi : Nat} {P : List (Nat × Nat)}, Tl lo hi P → ∀ {i : Nat} {x y : Nat × Nat}, P[i]? = some x → P[i + 1]? = some y → x.2 = y.1
  | lo, hi, [], _, i, x, y, h, _ => by cases h
  | lo, hi, [a], _, i, x, y, h, k => by cases k
  | lo, hi, a :: b :: P, ⟨_, _, h3⟩, 0, x, y, h, k => by
    cases h
    cases k
    exact h3.1.symm
  | lo, hi, a :: b :: P, ⟨_, _, h3⟩, i + 1, x, y, h, k => Tl.next h3 (i := i) h k
/-- the joined stretches stand apart -/
theorem jgo_sep : ∀ (l : List (Nat × Nat)) (c : Nat × Nat), c.1 < c.2 → Beg l → (∀ y ∈ l, c.1 ≤ y.1 ∧ y.1 < y.2) → (jgo c l).Pairwise (fun x y => x.2 < y.1) ∧ ∀ y ∈ jgo c l, c.1 ≤ y.1 ∧ y.1 < y.2
  | [], c, h, _, _ => ⟨List.pairwise_singleton _ _, fun y hy => by rw [List.mem_singleton.mp hy]; exact ⟨Nat.le_refl _, h⟩⟩
  | x :: l, c, h, hb, k => by
    obtain ⟨b1, b2⟩ := List.pairwise_cons.mp hb
    have kx := k x List.mem_cons_self
    unfold jgo
    by_cases z : x.1 ≤ c.2
    · rw [if_pos z]
      exact jgo_sep l (c.1, max c.2 x.2) (by show c.1 < max c.2 x.2; omega) b2 fun y hy => k y (List.mem_cons_of_mem _ hy)
    · rw [if_neg z]
      obtain ⟨p, q⟩ := jgo_sep l x kx.2 b2 fun y hy => ⟨b1 y hy, (k y (List.mem_cons_of_mem _ hy)).2⟩
      refine ⟨List.pairwise_cons.mpr ⟨fun y hy => by have := (q y hy).1; omega, p⟩, fun y hy => ?_⟩
      rcases List.mem_cons.mp hy with rfl | hy
      · exact ⟨Nat.le_refl _, h⟩
      · have := q y hy
        omega
theorem jn_sep {n : Nat} {W : List (Nat × Nat)} (h : Wn n W) : (jn (srt W)).Pairwise (fun x y => x.2 < y.1) := by
  have hb := srt_beg W
  have hw := h.srt
  cases e : srt W with
  | nil => exact .nil
  | cons x l =>
    rw [e] at hb hw
    obtain ⟨b1, b2⟩ := List.pairwise_cons.mp hb
    exact (jgo_sep l x (hw x List.mem_cons_self).1 b2 fun y hy => ⟨b1 y hy, (hw y (List.mem_cons_of_mem _ hy)).1⟩).1
theorem jgo_has {i : Nat} : ∀ (l : List (Nat × Nat)) (c : Nat × Nat), (∀ y ∈ l, c.1 ≤ y.1) → Beg l → (c.1 ≤ i ∧ i < c.2) ∨ cov l i → cov (jgo c l) i
  | [], c, _, _, h => by
    rcases h with h | ⟨s, hs, _⟩
    · exact ⟨c, List.mem_singleton_self _, h⟩
    · cases hs
  | x :: l, c, k, hb, h => by
    obtain ⟨b1, b2⟩ := List.pairwise_cons.mp hb
    have kx := k x List.mem_cons_self
    unfold jgo
    by_cases z : x.1 ≤ c.2
    · rw [if_pos z]
      refine jgo_has l (c.1, max c.2 x.2) (fun y hy => k y (List.mem_cons_of_mem _ hy)) b2 ?_
      rcases h with h | ⟨s, hs, h1, h2⟩
      · exact .inl ⟨h.1, by show i < max c.2 x.2; omega⟩
      · rcases List.mem_cons.mp hs with rfl | hs
        · exact .inl ⟨by show c.1 ≤ i; omega, by show i < max c.2 s.2; omega⟩
        · exact .inr ⟨s, hs, h1, h2⟩
    · rw [if_neg z]
      have ih := jgo_has (i := i) l x b1 b2
      rcases h with h | ⟨s, hs, h1, h2⟩
      · exact ⟨c, List.mem_cons_self, h⟩
      · have : cov (jgo x l) i := by
          rcases List.mem_cons.mp hs with rfl | hs
          · exact ih (.inl ⟨h1, h2⟩)
          · exact ih (.inr ⟨s, hs, h1, h2⟩)
        obtain ⟨t, ht, r⟩ := this
        exact ⟨t, List.mem_cons_of_mem _ ht, r⟩
theorem jn_has {i : Nat} {W : List (Nat × Nat)} (h : cov W i) : cov (jn (srt W)) i := by
  have hb := srt_beg W
  obtain ⟨s, hs, k⟩ := h
  have hs := srt_mem.mpr hs
  cases e : srt W with
  | nil => rw [e] at hs; cases hs
  | cons x l =>
    rw [e] at hb hs
    obtain ⟨b1, b2⟩ := List.pairwise_cons.mp hb
    refine jgo_has l x b1 b2 ?_
    rcases List.mem_cons.mp hs with rfl | hs
    · exact .inl k
    · exact .inr ⟨s, hs, k⟩
/-- what is covered without a gap lies in one stretch -/
theorem in_one {J : List (Nat × Nat)} (h : J.Pairwise (fun x y => x.2 < y.1)) {a b : Nat} (ab : a < b) (hc : ∀ i, a ≤ i → i < b → cov J i) : ∃ s ∈ J, s.1 ≤ a ∧ b ≤ s.2 := by
  obtain ⟨s, hs, s1, s2⟩ := hc a (Nat.le_refl _) ab
  refine ⟨s, hs, s1, ?_⟩
  by_cases z : b ≤ s.2
  · exact z
  exfalso
  obtain ⟨t, ht, t1, t2⟩ := hc s.2 (by omega) (by omega)
  have key : ∀ {l : List (Nat × Nat)}, l.Pairwise (fun x y => x.2 < y.1) → s ∈ l → t ∈ l → s = t ∨ s.2 < t.1 ∨ t.2 < s.1 := by
    intro l
    induction l with
    | nil => intro _ h; cases h
    | cons x l ih =>
      intro hp h1 h2
      obtain ⟨p1, p2⟩ := List.pairwise_cons.mp hp
      rcases List.mem_cons.mp h1 with e1 | h1
      · rcases List.mem_cons.mp h2 with e2 | h2
        · exact .inl (by rw [e1, e2])
        · exact .inr (.inl (by rw [e1]; exact p1 t h2))
      · rcases List.mem_cons.mp h2 with e2 | h2
        · exact .inr (.inr (by rw [e2]; exact p1 s h1))
        · exact ih p2 h1 h2
  rcases key h hs ht with e | e | e
  · rw [← e] at t2
    omega
  · omega
  · omega
theorem lies_cov {n : Nat} {W : List (Nat × Nat)} (hW : Wn n W) {x : Nat × Nat} (hx : x.1 < x.2) (h : ∀ i, x.1 ≤ i → i < x.2 → cov W i) : lies x (jn (srt W)) = true := by
  obtain ⟨s, hs, a, b⟩ := in_one (jn_sep hW) hx fun i h1 h2 => jn_has (h i h1 h2)
  exact List.any_eq_true.mpr ⟨s, hs, by rw [decide_eq_true a, decide_eq_true b]; rfl⟩
end LT

namespace LT
open PySem PySem.Spec PyProof.Rows L2
theorem cut_take (xs : List V) (b : Nat) : cutV xs none (some (b : Int)) = xs.take b := by
  unfold cutV
  rw [HT.sIx_nat, HT.sIx_none, List.drop_zero, Nat.sub_zero, ← List.take_eq_take_min]
theorem cut_mid (xs : List V) (a b : Nat) : cutV xs (some (a : Int)) (some (b : Int)) = (xs.drop a).take (b - a) := by
  unfold cutV
  rw [HT.sIx_nat, HT.sIx_nat]
  by_cases h : a ≤ xs.length
  · rw [Nat.min_eq_left h, List.take_eq_take_min (l := xs.drop a) (i := b - a), List.length_drop, List.take_eq_take_min (l := xs.drop a) (i := min b xs.length - a), List.length_drop]
    congr 1
    omega
  · rw [show min a xs.length = xs.length by omega, List.drop_length, List.drop_of_length_le (show xs.length ≤ a by omega), List.take_nil, List.take_nil]
theorem cut_drop (xs : List V) (a : Nat) : cutV xs (some (a : Int)) none = xs.drop a := by
  unfold cutV
  rw [HT.sIx_nat, HT.sIx_none]
  by_cases h : a ≤ xs.length
  · rw [Nat.min_eq_left h]
    exact List.take_of_length_le (by rw [List.length_drop]; exact Nat.le_refl _)
  · rw [Nat.min_eq_right (by omega), List.drop_length, List.drop_of_length_le (by omega), List.take_nil]
theorem All2.takeN {α : Type} {R : V → α → Prop} : ∀ {vs : List V} {xs : List α}, All2 R vs xs → ∀ k, All2 R (vs.take k) (xs.take k)
  | _, _, .nil, k => by rw [List.take_nil, List.take_nil]; exact .nil
  | _, _, .cons h t, 0 => .nil
  | _, _, .cons h t, k + 1 => .cons h (t.takeN k)
theorem All2.dropN {α : Type} {R : V → α → Prop} : ∀ {vs : List V} {xs : List α}, All2 R vs xs → ∀ k, All2 R (vs.drop k) (xs.drop k)
  | _, _, .nil, k => by rw [List.drop_nil, List.drop_nil]; exact .nil
  | _, _, .cons h t, 0 => .cons h t
  | _, _, .cons h t, k + 1 => t.dropN k
theorem So.wn {n : Nat} {S : List (Nat × Nat)} (h : So n 0 S) : Wn n S := fun x hx => (h.mem x hx).2
theorem nodes_wn {n : Nat} {W : List (Nat × Nat)} (h : ∀ x ∈ W, isN n x) : Wn n W := fun x hx => by
  have := isN_tree (n := n) (b := x.1) (e := x.2) (h x hx)
  exact ⟨this.1, this.2.1⟩
/-- the index of the first node with an entry of spans -/
def fw (S W : List (Nat × Nat)) : Option Nat := (List.range W.length).find? fun i => meets (W.getD i (0, 0)) S
def fwV (S W : List (Nat × Nat)) : V := match fw S W with
  | some i => .int (i : Int)
  | none => .non
/-- the indexes of needless nodes -/
def ndl (W : List (Nat × Nat)) (k : Nat) : List Nat := (List.range k).filter fun i => lies (W.getD i (0, 0)) (jn (srt (W.take i ++ W.drop (i + 1))))
theorem ndl_more (W : List (Nat × Nat)) (k : Nat) : ndl W (k + 1) = ndl W k ++ (if lies (W.getD k (0, 0)) (jn (srt (W.take k ++ W.drop (k + 1)))) then [k] else []) := by
  unfold ndl
  rw [List.range_succ, List.filter_append]
  congr 1
  by_cases h : lies (W.getD k (0, 0)) (jn (srt (W.take k ++ W.drop (k + 1)))) = true
  · rw [if_pos h]
    exact List.filter_cons_of_pos (l := []) h
  · rw [if_neg h]
    exact List.filter_cons_of_neg (l := []) h
theorem ndl_len (W : List (Nat × Nat)) (k : Nat) : (ndl W k).length ≤ k := by
  have := List.length_filter_le (fun i => lies (W.getD i (0, 0)) (jn (srt (W.take i ++ W.drop (i + 1))))) (List.range k)
  rw [List.length_range] at this
  exact this
theorem getD_at {W : List (Nat × Nat)} {i : Nat} {x : Nat × Nat} (h : W[i]? = some x) : W.getD i (0, 0) = x := by
  rw [List.getD_eq_getElem?_getD, h]
  rfl
end LT

namespace LT
open PySem PySem.Spec PyProof.Rows L2
theorem tps_up {n : Nat} : ∀ (J : List (Nat × Nat)) (lo : Nat), J.Pairwise (fun x y => x.2 < y.1) → (∀ s ∈ J, lo ≤ s.1 ∧ s.1 < s.2 ∧ s.2 ≤ n) → Up lo (tps n J)
  | [], _, _, _ => trivial
  | s :: J, lo, h, k => by
    obtain ⟨a, b⟩ := List.pairwise_cons.mp h
    obtain ⟨k1, k2, k3⟩ := k s List.mem_cons_self
    show Up lo (nw n s.1 s.2 ++ tps n J)
    exact ((nw_ch (n := n) (e := s.2) k3 s.1 (by omega)).up (tps_up J s.2 b fun t ht => ⟨Nat.le_of_lt (a t ht), (k t (List.mem_cons_of_mem _ ht)).2⟩)).mono k1
theorem tps_in {n : Nat} {J : List (Nat × Nat)} (k : ∀ s ∈ J, s.1 < s.2 ∧ s.2 ≤ n) {z : Nat × Nat} (hz : z ∈ tps n J) : isN n z ∧ ∃ s ∈ J, s.1 ≤ z.1 ∧ z.2 ≤ s.2 := by
  obtain ⟨s, hs, h⟩ := List.mem_flatMap.mp hz
  obtain ⟨k1, k2⟩ := k s hs
  obtain ⟨a, b, c⟩ := (nw_ch (n := n) (e := s.2) k2 s.1 (by omega)).mem z h
  exact ⟨a, s, hs, b, c⟩
theorem tps_over {n : Nat} {J : List (Nat × Nat)} (k : ∀ s ∈ J, s.1 < s.2 ∧ s.2 ≤ n) {p : Nat × Nat} (hp : isN n p) {s : Nat × Nat} (hs : s ∈ J) (h1 : s.1 ≤ p.1) (h2 : p.2 ≤ s.2) : ∃ z ∈ tps n J, z.1 ≤ p.1 ∧ p.2 ≤ z.2 := by
  obtain ⟨k1, k2⟩ := k s hs
  obtain ⟨z, hz, r⟩ := nw_in k2 (by omega) hp h1 h2
  exact ⟨z, List.mem_flatMap.mpr ⟨s, hs, hz⟩, r⟩
theorem up_eq : ∀ {lo : Nat} {l : List (Nat × Nat)}, Up lo l → ∀ {x y : Nat × Nat} {i : Nat}, x ∈ l → y ∈ l → x.1 ≤ i → i < x.2 → y.1 ≤ i → i < y.2 → x = y
  | lo, a :: l, ⟨h1, h2, h3⟩, x, y, i, hx, hy, x1, x2, y1, y2 => by
    rcases List.mem_cons.mp hx with rfl | hx'
    · rcases List.mem_cons.mp hy with rfl | hy
      · rfl
      · have := (h3.mem y hy).1
        omega
    · rcases List.mem_cons.mp hy with rfl | hy
      · have := (h3.mem x hx').1
        omega
      · exact up_eq h3 hx' hy x1 x2 y1 y2
theorem up_adj : ∀ {l : List (Nat × Nat)} {lo : Nat}, Up lo l → ∀ {x y : Nat × Nat}, x ∈ l → y ∈ l → x.2 = y.1 → ∃ i, l[i]? = some x ∧ l[i + 1]? = some y
  | a :: l, lo, ⟨h1, h2, h3⟩, x, y, hx, hy, e => by
    rcases List.mem_cons.mp hx with rfl | hx'
    · rcases List.mem_cons.mp hy with rfl | hy
      · omega
      · cases l with
        | nil => cases hy
        | cons b l =>
          obtain ⟨g1, g2, g3⟩ := h3
          rcases List.mem_cons.mp hy with rfl | hy
          · exact ⟨0, rfl, rfl⟩
          · have := (g3.mem y hy).1
            omega
    · rcases List.mem_cons.mp hy with rfl | hy
      · have := h3.mem x hx'
        omega
      · obtain ⟨i, a1, a2⟩ := up_adj h3 hx' hy e
        exact ⟨i + 1, a1, a2⟩
/-- the two halves of one node stand among them -/
def Sibs (n : Nat) (T : List (Nat × Nat)) : Prop := ∃ B M, isN n (B, B + M) ∧ 2 ≤ M ∧ (B, B + gp M) ∈ T ∧ (B + gp M, B + M) ∈ T
theorem sibs {n : Nat} {T : List (Nat × Nat)} (hT : ∀ t ∈ T, isN n t) : ∀ (k : Nat) (z : Nat × Nat), isN n z → z.2 - z.1 = k → (∀ i, z.1 ≤ i → i < z.2 → cov T i) → (∀ t ∈ T, ¬ (t.1 ≤ z.1 ∧ z.2 ≤ t.2)) → Sibs n T := by
  intro k
  induction k using Nat.strongRecOn with
  | ind k ih =>
    intro z hz e hc hno
    obtain ⟨z1, z2⟩ := z
    dsimp only at *
    obtain ⟨z12, zn, zt⟩ := isN_tree hz
    by_cases m1 : z2 - z1 ≤ 1
    · obtain ⟨t, ht, t1, t2⟩ := hc z1 (Nat.le_refl _) z12
      exact absurd ⟨t1, by omega⟩ (hno t ht)
    · have m2 : 2 ≤ z2 - z1 := by omega
      have g1 := gp_lt m2
      have g2 := gp_pos (z2 - z1)
      have ez : z1 + (z2 - z1) = z2 := by omega
      have hL := half_low_isN m2 zt (by omega)
      have hH := half_high_isN m2 zt (by omega)
      rw [ez] at hH
      have ni : ∀ {t : Nat × Nat}, t ∈ T → ∀ i, z1 ≤ i → i < z2 → t.1 ≤ i → i < t.2 → z1 ≤ t.1 ∧ t.2 ≤ z2 ∧ (t.2 ≤ z1 + gp (z2 - z1) ∨ z1 + gp (z2 - z1) ≤ t.1) := fun {t} ht i i1 i2 i3 i4 => by
        have nst := nested (hT t ht) hz i3 i4 i1 i2
        dsimp only at nst
        rcases nst with q | q
        · exact absurd q (hno t ht)
        · have r := node_in m2 zt (by omega) (hT t ht) q.1 (by omega)
          rcases r with r | r
          · refine absurd ⟨?_, ?_⟩ (hno t ht)
            · rw [r]; exact Nat.le_refl _
            · rw [r]; show z2 ≤ z1 + (z2 - z1); omega
          · exact ⟨q.1, q.2, r⟩
      by_cases hl : ∃ t ∈ T, t.1 ≤ z1 ∧ z1 + gp (z2 - z1) ≤ t.2
      · by_cases hh : ∃ t ∈ T, t.1 ≤ z1 + gp (z2 - z1) ∧ z2 ≤ t.2
        · obtain ⟨t, ht, t1, t2⟩ := hl
          obtain ⟨u, hu, u1, u2⟩ := hh
          have a := ni ht z1 (Nat.le_refl _) z12 t1 (by omega)
          have b := ni hu (z1 + gp (z2 - z1)) (by omega) (by omega) u1 (by omega)
          have e1 : t = (z1, z1 + gp (z2 - z1)) := Prod.ext (by show t.1 = z1; omega) (by show t.2 = z1 + gp (z2 - z1); omega)
          have e2 : u = (z1 + gp (z2 - z1), z1 + (z2 - z1)) := Prod.ext (by show u.1 = z1 + gp (z2 - z1); omega) (by show u.2 = z1 + (z2 - z1); omega)
          exact ⟨z1, z2 - z1, by rw [ez]; exact hz, m2, e1 ▸ ht, e2 ▸ hu⟩
        · exact ih (z2 - (z1 + gp (z2 - z1))) (by omega) (z1 + gp (z2 - z1), z2) hH rfl (fun i i1 i2 => hc i (by dsimp only at i1; omega) i2) fun t ht q => hh ⟨t, ht, q⟩
      · exact ih (z1 + gp (z2 - z1) - z1) (by omega) (z1, z1 + gp (z2 - z1)) hL rfl (fun i i1 i2 => hc i i1 (by dsimp only at i2; omega)) fun t ht q => hl ⟨t, ht, q⟩
theorem srt_cov {W : List (Nat × Nat)} {i : Nat} (h : cov (srt W) i) : cov W i := by
  obtain ⟨s, hs, k⟩ := h
  exact ⟨s, srt_mem.mp hs, k⟩
theorem kt_is {n : Nat} {W T : List (Nat × Nat)} (hW : ∀ x ∈ W, isN n x) (hT : ∀ x, x ∈ T ↔ x ∈ W ∧ tp W x = true) (up : Up 0 T) (no : ¬ Sibs n T) : tps n (jn (srt W)) = T := by
  have wW : Wn n W := nodes_wn hW
  have sep := jn_sep wW
  have hJ : ∀ s ∈ jn (srt W), s.1 < s.2 ∧ s.2 ≤ n := jn_mem wW.srt
  have kup : Up 0 (tps n (jn (srt W))) := tps_up _ 0 sep fun s hs => ⟨Nat.zero_le _, hJ s hs⟩
  have hTN : ∀ t ∈ T, isN n t := fun t ht => hW t ((hT t).mp ht).1
  have over : ∀ t ∈ T, ∃ z ∈ tps n (jn (srt W)), z.1 ≤ t.1 ∧ t.2 ≤ z.2 := fun t ht => by
    have tW := ((hT t).mp ht).1
    obtain ⟨t12, tn, _⟩ := isN_tree (n := n) (b := t.1) (e := t.2) (hTN t ht)
    obtain ⟨s, hs, a, b⟩ := in_one sep t12 fun i i1 i2 => jn_has ⟨t, tW, i1, i2⟩
    exact tps_over hJ (hTN t ht) hs a b
  have kT : ∀ z ∈ tps n (jn (srt W)), z ∈ T := fun z hz => by
    obtain ⟨hzN, s, hs, s1, s2⟩ := tps_in hJ hz
    obtain ⟨z12, zn, _⟩ := isN_tree (n := n) (b := z.1) (e := z.2) hzN
    by_cases c : ∃ t ∈ T, t.1 ≤ z.1 ∧ z.2 ≤ t.2
    · obtain ⟨t, ht, t1, t2⟩ := c
      obtain ⟨y, hy, y1, y2⟩ := over t ht
      have e := up_eq kup (i := z.1) hz hy (Nat.le_refl _) z12 (by omega) (by omega)
      rw [← e] at y1 y2
      have : z = t := Prod.ext (by omega) (by omega)
      rw [this]
      exact ht
    · exact absurd (sibs hTN _ z hzN rfl (fun i i1 i2 => (tp_cov hW hT i).mpr (srt_cov (jn_in hs (by omega) (by omega)))) fun t ht q => c ⟨t, ht, q⟩) no
  refine up_ext _ _ 0 0 kup up fun x => ⟨kT x, fun hx => ?_⟩
  obtain ⟨z, hz, z1, z2⟩ := over x hx
  obtain ⟨x12, _⟩ := isN_tree (n := n) (b := x.1) (e := x.2) (hTN x hx)
  rw [up_eq up (i := x.1) hx (kT z hz) (Nat.le_refl _) x12 z1 (by omega)]
  exact hz
end LT

namespace LT
open PySem PySem.Spec PyProof.Rows L2
section
variable {P : Program} {w : World} {K : PySem.W.Frag} {mg : Str → Option Value} {base : Heap}
theorem par_any {n : Nat} {x : Nat × Nat} (n1 : 1 ≤ n) (hx : isN n x) : x = (0, n) ∨ ∃ B M, 2 ≤ M ∧ tree n B M ∧ B + M ≤ n ∧ isHalf B M x := by
  by_cases c : x = (0, n)
  · exact .inl c
  · have hroot : isN n (0, n) := by
      have := isN_of (n := n) (b := 0) (m := n) n1 (by omega) (tree_root n)
      rwa [Nat.zero_add] at this
    obtain ⟨B, M, r1, r2, r3, _, r5⟩ := par_in2 hx hroot (Nat.zero_le _) (hx.2.1) c
    have t := (isN_tree r1).2.2
    rw [show B + M - B = M by omega] at t
    exact .inr ⟨B, M, r2, t, r5, r3⟩
def spJoins : Sp := fun vs H Q _ => ∃ (n : Nat) (p : Addr) (ys : List V) (T : List (Nat × Nat)), vs = [.int n, .ref p] ∧ 1 ≤ n ∧ n ≤ 10 ^ 30 ∧ H p = some (.lst ys) ∧ All2 (Nd H) ys T ∧ T.length ≤ 60 ∧ (∀ x ∈ T, isN n x) ∧ Up 0 T ∧
  ∀ (H' : Hp) (j : Bool), Same H H' → (Sibs n T → j = true) → Q (.bl j) H'
theorem ok_law_joins {f g1 : Addr} {fd d1 : FuncData} (F : Fun K "_law_joins" "_law_joins" sLawJoins f fd) (GParent : FnOk P w K mg base CX0 5 g1 d1 ["size", "node"] spParent) (AParent : At K mg "parent" g1 d1 ["size", "node"]) (z_zip : mg "zip" = none) : FnOk P w K mg base CX0 6 f fd ["size", "tops"] spJoins := by
  refine F.ok scLawJoins (fun vs H Q E h => ?_) (fun cdv A outer s H vs Q E hr h => ?_)
  · obtain ⟨_, _, _, _, rfl, _⟩ := h
    rfl
  obtain ⟨n, p, ys, T, rfl, n1, h30, hp, hT, l60, hN, up, q⟩ := h
  have yl := hT.len
  refine ⟨_, (pss_one (ps_ret (pe_cmpR (op_neD hr.units) (pe_lc (own := [("one", 2), ("other", 3)]) rfl scLawJoins.nd (pi_zip (by rfl) z_zip (pa_cons (pv 1) (pa_cons (pe_slice sl_list (pv 1) (po_some pe_int) po_none) pa_nil))) (blkOk_by (N := ["size", "tops", "one", "other"]) (sc := defScope sLawJoins) (by decide +kernel)) (fun _ _ _ _ _ => (pg_tupB (n := 2) rfl (pgs_cons (pg_name (i := 2) scLawJoins.nd rfl (Or.inl rfl)) (pgs_cons (pg_name (i := 3) scLawJoins.nd rfl (Or.inl rfl)) pgs_nil)))) (fun _ _ _ _ _ => pts_one (pt_cmpR (op_eqDB hr.units) (pe_call GParent (hr.mono (by decide)) rfl AParent.m AParent.kp AParent.b .nil pass0 (pa_cons (pv 0) (pa_cons (pv 2) pa_nil))) (pe_call GParent (hr.mono (by decide)) rfl AParent.m AParent.kp AParent.b .nil pass0 (pa_cons (pv 0) (pa_cons (pv 3) pa_nil))) (nomark _))) (fun _ _ _ _ _ => pe_int)) (pe_lst pa_nil) (nomark _)))), ?_⟩
  refine ⟨_, rfl, _, rfl, 1, rfl, p, _, rfl, SqL.of hp, fun c nc => ?_⟩
  rw [show cutV ys (some 1) none = ys.drop 1 from cut_drop ys 1]
  have w1 := same_upd (o := .lst (ys.drop 1)) nc
  have hc := upd_same (H := H) (a := c) (o := .lst (ys.drop 1))
  have hp1 := w1 _ _ hp
  generalize upd H c (.lst (ys.drop 1)) = H1 at w1 hc hp1 ⊢
  refine ⟨p, c, _, _, rfl, SqL.of hp1, SqL.of hc, fun D nD => ?_⟩
  refine lc_zipS (K := K) (a := p) (b := c) (xs := ys) (ys := ys.drop 1) (by rw [List.length_drop]; omega) (fun i H' => ∃ cs : List Int, Same H1 H' ∧ H' D = some (.lst (cs.map V.int)) ∧ cs.length ≤ i ∧ ∀ k, k < i → (∃ B M, isN n (B, B + M) ∧ 2 ≤ M ∧ T[k]? = some (B, B + gp M) ∧ T[k + 1]? = some (B + gp M, B + M)) → cs ≠ [])
    ⟨[], same_upd nD, upd_same, Nat.le_refl _, fun k h => by omega⟩ (fun i H' ⟨_, s5, _⟩ => ⟨SqL.of (s5 _ _ hp1), SqL.of (s5 _ _ hc)⟩) ?_ ?_
  · rintro i u v t H2 hu hv ⟨cs, s2, hD, lc, hcs⟩ nt
    rw [List.getElem?_drop, Nat.add_comm] at hv
    obtain ⟨x, hxi, hx⟩ := hT.nth hu
    obtain ⟨y, hyi, hy⟩ := hT.nth hv
    have il := (List.getElem?_eq_some_iff.mp hxi).1
    have hxN := hN x (List.mem_of_getElem? hxi)
    have hyN := hN y (List.mem_of_getElem? hyi)
    have wt := same_upd (o := .tup [u, v]) nt
    have ht : (upd H2 t (.tup [u, v])) t = some (.tup [u, v]) := upd_same
    have s3 := s2.trans wt
    have hD3 := wt _ _ hD
    generalize upd H2 t (.tup [u, v]) = H3 at wt ht s3 hD3 ⊢
    have hx3 := hx.same (w1.trans s3)
    have hy3 := hy.same (w1.trans s3)
    refine ⟨t, _, rfl, SqT.of ht, rfl, _, _, rfl, _, _, rfl, rfl, rfl, ?_⟩
    have fin : ∀ (b : Bool) (H5 : Hp), Same H3 H5 → ((∃ B M, isN n (B, B + M) ∧ 2 ≤ M ∧ T[i]? = some (B, B + gp M) ∧ T[i + 1]? = some (B + gp M, B + M)) → b = true) → if b = true then ∃ acc, H5 D = some (.lst acc) ∧ acc.length < sizeLine ∧ (∃ cs : List Int, Same H1 (upd H5 D (.lst (acc ++ [V.int 1]))) ∧ (upd H5 D (.lst (acc ++ [V.int 1]))) D = some (.lst (cs.map V.int)) ∧ cs.length ≤ i + 1 ∧ ∀ k, k < i + 1 → (∃ B M, isN n (B, B + M) ∧ 2 ≤ M ∧ T[k]? = some (B, B + gp M) ∧ T[k + 1]? = some (B + gp M, B + M)) → cs ≠ []) else ∃ cs : List Int, Same H1 H5 ∧ H5 D = some (.lst (cs.map V.int)) ∧ cs.length ≤ i + 1 ∧ ∀ k, k < i + 1 → (∃ B M, isN n (B, B + M) ∧ 2 ≤ M ∧ T[k]? = some (B, B + gp M) ∧ T[k + 1]? = some (B + gp M, B + M)) → cs ≠ [] := fun b H5 s5 hb => by
      cases b with
      | true =>
        refine ⟨_, s5 _ _ hD3, szlt (by rw [List.length_map]; omega), cs ++ [1], fun a o k => by rw [upd_ne (ne_of_none k nD)]; exact s5 _ _ (s3 _ _ k), ?_, by rw [List.length_append, List.length_singleton]; omega, fun k _ _ => by simp⟩
        rw [List.map_append]
        exact upd_same
      | false =>
        refine ⟨cs, s3.trans s5, s5 _ _ hD3, by omega, fun k hk hs => ?_⟩
        by_cases z : k = i
        · subst z
          cases hb hs
        · exact hcs k (by omega) hs
    by_cases hs : ∃ B M, isN n (B, B + M) ∧ 2 ≤ M ∧ T[i]? = some (B, B + gp M) ∧ T[i + 1]? = some (B + gp M, B + M)
    · obtain ⟨B, M, a1, a2, a3, a4⟩ := hs
      have ex : x = (B, B + gp M) := Option.some.inj (hxi.symm.trans a3)
      have ey : y = (B + gp M, B + M) := Option.some.inj (hyi.symm.trans a4)
      have tB := (isN_tree a1).2.2
      rw [show B + M - B = M by omega] at tB
      refine ⟨_, rfl, _, rfl, n, x, u, rfl, hx3, n1, h30, .inr ⟨B, M, a2, tB, (isN_tree a1).2.1, .inl ex, fun H4 u1 s4 hu1 => ?_⟩⟩
      refine ⟨_, rfl, _, rfl, n, y, v, rfl, hy3.same s4, n1, h30, .inr ⟨B, M, a2, tB, (isN_tree a1).2.1, .inr ey, fun H5 u2 s5 hu2 => ?_⟩⟩
      refine ⟨_, _, (hu1.same s5).dp, hu2.dp, nd_shaped _ _, nd_shaped _ _, ?_⟩
      rw [nd_eqv, decide_eq_true rfl, decide_eq_true rfl]
      exact ⟨true, rfl, fin true H5 (s4.trans s5) fun _ => rfl⟩
    · rcases par_any n1 hxN with ex | ⟨B, M, b1, b2, b3, b4⟩
      · refine ⟨_, rfl, _, rfl, n, x, u, rfl, hx3, n1, h30, .inl ⟨ex, fun H4 s4 => ?_⟩⟩
        rcases par_any n1 hyN with ey | ⟨B2, M2, e1, e2, e3, e4⟩
        · refine ⟨_, rfl, _, rfl, n, y, v, rfl, hy3.same s4, n1, h30, .inl ⟨ey, fun H5 s5 => ?_⟩⟩
          refine ⟨_, _, .non, .non, rfl, rfl, ?_⟩
          exact ⟨_, rfl, fin _ H5 (s4.trans s5) fun h => absurd h hs⟩
        · refine ⟨_, rfl, _, rfl, n, y, v, rfl, hy3.same s4, n1, h30, .inr ⟨B2, M2, e1, e2, e3, e4, fun H5 u2 s5 hu2 => ?_⟩⟩
          refine ⟨_, _, .non, hu2.dp, rfl, nd_shaped _ _, ?_⟩
          exact ⟨_, rfl, fin _ H5 (s4.trans s5) fun h => absurd h hs⟩
      · refine ⟨_, rfl, _, rfl, n, x, u, rfl, hx3, n1, h30, .inr ⟨B, M, b1, b2, b3, b4, fun H4 u1 s4 hu1 => ?_⟩⟩
        rcases par_any n1 hyN with ey | ⟨B2, M2, e1, e2, e3, e4⟩
        · refine ⟨_, rfl, _, rfl, n, y, v, rfl, hy3.same s4, n1, h30, .inl ⟨ey, fun H5 s5 => ?_⟩⟩
          refine ⟨_, _, (hu1.same s5).dp, .non, nd_shaped _ _, rfl, ?_⟩
          exact ⟨_, rfl, fin _ H5 (s4.trans s5) fun h => absurd h hs⟩
        · refine ⟨_, rfl, _, rfl, n, y, v, rfl, hy3.same s4, n1, h30, .inr ⟨B2, M2, e1, e2, e3, e4, fun H5 u2 s5 hu2 => ?_⟩⟩
          refine ⟨_, _, (hu1.same s5).dp, hu2.dp, nd_shaped _ _, nd_shaped _ _, ?_⟩
          exact ⟨_, rfl, fin _ H5 (s4.trans s5) fun h => absurd h hs⟩
  · rintro H2 ⟨cs, s2, hD, lc, hcs⟩
    refine ⟨Nat.zero_le _, fun l nl => ?_⟩
    have w3 := same_upd (o := .lst []) nl
    refine ⟨_, _, .lst (SqL.of (w3 _ _ hD)) (ints_dp cs), .lst (SqL.of upd_same) .nil, ints_shaped _, nil_shaped, ?_⟩
    rw [ints_nil]
    refine q _ _ (w1.trans (s2.trans w3)) fun hs => ?_
    obtain ⟨B, M, a1, a2, a3, a4⟩ := hs
    obtain ⟨k, k1, k2⟩ := up_adj up a3 a4 rfl
    have kl : k < (ys.drop 1).length := by
      have := (List.getElem?_eq_some_iff.mp k2).1
      rw [List.length_drop]
      omega
    have := hcs k kl ⟨B, M, a1, a2, k1, k2⟩
    cases cs with
    | nil => exact absurd rfl this
    | cons _ _ => rfl
end
end LT

namespace LT
open PySem PySem.Spec PyProof.Rows L2
theorem Up.filter {p : Nat × Nat → Bool} : ∀ {lo : Nat} {l : List (Nat × Nat)}, Up lo l → Up lo (l.filter p)
  | lo, [], _ => trivial
  | lo, x :: l, ⟨h1, h2, h3⟩ => by
    cases h : p x with
    | true =>
      rw [List.filter_cons_of_pos h]
      exact ⟨h1, h2, h3.filter⟩
    | false =>
      rw [List.filter_cons_of_neg (by rw [h]; decide)]
      exact h3.filter.mono (by omega)
theorem Up.pair : ∀ {lo : Nat} {l : List (Nat × Nat)}, Up lo l → l.Pairwise (fun x y => x.2 ≤ y.1)
  | lo, [], _ => .nil
  | lo, x :: l, ⟨h1, h2, h3⟩ => .cons (fun y hy => (h3.mem y hy).1) h3.pair
theorem Up.srt {lo : Nat} {l : List (Nat × Nat)} (h : Up lo l) : srt l = l := by
  refine srt_id ?_
  have p := h.pair
  have m := h.mem
  clear h
  induction l with
  | nil => exact .nil
  | cons x l ih =>
    obtain ⟨a, b⟩ := List.pairwise_cons.mp p
    refine .cons (fun y hy => leN_iff.mpr ?_) (ih b fun z hz => m z (List.mem_cons_of_mem _ hz))
    have := a y hy
    have := (m x List.mem_cons_self).2
    have := (m y (List.mem_cons_of_mem _ hy)).2
    omega
/-- nothing is needless in a list whose items share no entry -/
theorem ndl_none {W : List (Nat × Nat)} (h : Up 0 W) (k : Nat) (hk : k ≤ W.length) : ndl W k = [] := by
  unfold ndl
  refine List.filter_eq_nil_iff.mpr fun i hi => ?_
  have il : i < W.length := Nat.lt_of_lt_of_le (List.mem_range.mp hi) hk
  have e := List.getElem?_eq_getElem il
  rw [getD_at e]
  intro k
  obtain ⟨s, hs, k2⟩ := List.any_eq_true.mp k
  rw [Bool.and_eq_true, decide_eq_true_eq, decide_eq_true_eq] at k2
  have x12 := (h.mem _ (List.getElem_mem il)).2
  obtain ⟨y, hy, y1, y2⟩ := jn_in (i := (W[i]).1) hs k2.1 (by omega)
  have hy := srt_mem.mp hy
  have p := h.pair
  have split : W = W.take i ++ W[i] :: W.drop (i + 1) := by
    rw [← List.drop_eq_getElem_cons il, List.take_append_drop]
  rw [split] at p
  obtain ⟨_, p2, p3⟩ := List.pairwise_append.mp p
  obtain ⟨p4, _⟩ := List.pairwise_cons.mp p2
  rcases List.mem_append.mp hy with hy | hy
  · have := p3 y hy (W[i]) List.mem_cons_self
    omega
  · have := p4 y hy
    omega
end LT

namespace LT
open PySem PySem.Spec PyProof.Rows L2
section
variable {P : Program} {w : World} {K : PySem.W.Frag} {mg : Str → Option Value} {base : Heap}
def spNeedless : Sp := fun vs H Q _ => ∃ (n : Nat) (p : Addr) (xs : List V) (W : List (Nat × Nat)), vs = [.int n, .ref p] ∧ 1 ≤ n ∧ n ≤ 10 ^ 30 ∧ H p = some (.lst xs) ∧ All2 (Nd H) xs W ∧ 1 ≤ W.length ∧ W.length ≤ 60 ∧ (∀ x ∈ W, isN n x) ∧
  ∀ (H' : Hp) (r : Addr), Same H H' → H r = none → H' r = some (.lst ((ndl W W.length).map fun i : Nat => V.int (i : Int))) → Q (.ref r) H'
theorem ok_needless {f g1 g2 g3 : Addr} {fd d1 d2 d3 : FuncData} (F : Fun K "needless" "needless" sNeedless f fd) (GCheck : FnOk P w K mg base CX0 5 g1 d1 ["size", "nodes"] spCheckK) (ACheck : At K mg "_check" g1 d1 ["size", "nodes"])
    (GJoined : FnOk P w K mg base CX0 1 g2 d2 ["stretches"] spJoined) (AJoined : At K mg "joined" g2 d2 ["stretches"])
    (GLiesWithin : FnOk P w K mg base CX0 1 g3 d3 ["node", "stretches"] spLies) (ALiesWithin : At K mg "_lies_within" g3 d3 ["node", "stretches"]) (z_enumerate : mg "enumerate" = none) : FnOk P w K mg base CX0 6 f fd ["size", "nodes"] spNeedless := by
  refine F.ok scNeedless (fun vs H Q E h => ?_) (fun cdv A outer s H vs Q E hr h => ?_)
  · obtain ⟨_, _, _, _, rfl, _⟩ := h
    rfl
  obtain ⟨n, p, xs, W, rfl, n1, h30, hp, hx, w1, w60, hW, q⟩ := h
  refine ⟨_, (pss_cons (ps_expr (pe_call GCheck (hr.mono (by decide)) rfl ACheck.m ACheck.kp ACheck.b .nil pass0 (pa_cons (pv 0) (pa_cons (pv 1) pa_nil))))
    (pss_cons (ps_set (i := 2) scNeedless.nd rfl (Or.inl rfl) (pe_lst pa_nil))
    (pss_cons (ps_for PassesOwn.never rfl (pi_enum (by rfl) z_enumerate (pa_cons (pv 1) pa_nil)) (pg_tup (by rfl) (pgs_cons (pg_name (i := 3) scNeedless.nd rfl (Or.inl rfl)) (pgs_cons (pg_name (i := 4) scNeedless.nd rfl (Or.inl rfl)) pgs_nil)))
    (pss_cons (ps_set (i := 5) scNeedless.nd rfl (Or.inl rfl) (pe_op op_cat (pe_slice sl_list (pv 1) po_none (po_some (pv 3))) (pe_slice sl_list (pv 1) (po_some (pe_op op_add (pv 3) pe_int)) po_none)))
    (pss_one (ps_if (pt_val (pe_call GLiesWithin (hr.mono (by decide)) rfl ALiesWithin.m ALiesWithin.kp ALiesWithin.b .nil pass0 (pa_cons (pv 4) (pa_cons (pe_call GJoined (hr.mono (by decide)) rfl AJoined.m AJoined.kp AJoined.b .nil pass0 (pa_cons (pv 5) pa_nil)) pa_nil))))
    (pss_one (ps_expr (pe_bm PySem.F.plainAttrs_list PySem.F.slot_list_append PySem.F.type_list_append mt_append (pv 2) (pa_cons (pv 3) pa_nil))))
    pss_nil))))
    (pss_one (ps_ret (pv 2)))))), ?_⟩
  refine ⟨_, rfl, _, rfl, n, p, xs, W, rfl, n1, h30, hp, hx, w1, w60, hW, fun H1 s1 => ⟨Nat.zero_le _, fun fa nf => ?_⟩⟩
  have wf := same_upd (o := .lst []) nf
  have hf : (upd H1 fa (.lst [])) fa = some (.lst []) := upd_same
  have s2 := s1.trans wf
  have hp2 := s2 _ _ hp
  have hx2 := hx.mono fun v x (k : Nd H v x) => k.same s2
  have nfH := s1.free nf
  generalize upd H1 fa (.lst []) = H2 at hf s2 hp2 hx2 ⊢
  have xl := hx.len
  have pf : p ≠ fa := ne_of_none hp nfH
  refine ⟨_, rfl, p, xs, rfl, SqL.of hp2, ?_⟩
  refine for_enum (a := p) (xs := xs) (fun i σ H' => ∃ (v3 v4 v5 : Option V), σ = [some (.int (n : Int)), some (.ref p), some (.ref fa), v3, v4, v5] ∧ Same H H' ∧ H' fa = some (.lst ((ndl W i).map fun i : Nat => V.int (i : Int))))
    ⟨none, none, none, rfl, s2, hf⟩ (fun i σ H' _ ⟨_, _, _, _, sm, _⟩ => SqL.of (sm _ _ hp)) ?_ ?_
  · rintro i x σ H3 T hi ⟨v3, v4, v5, rfl, sm, hfa⟩ nT
    obtain ⟨y, hyi, hy⟩ := hx.nth hi
    have il : i < W.length := (List.getElem?_eq_some_iff.mp hyi).1
    have sT := same_upd (o := .tup [.int ((i : Nat) : Int), x]) nT
    have s13 := sm.trans sT
    have hfT := sT _ _ hfa
    have hTT : (upd H3 T (.tup [.int ((i : Nat) : Int), x])) T = some (.tup [.int ((i : Nat) : Int), x]) := upd_same
    generalize upd H3 T (.tup [.int ((i : Nat) : Int), x]) = H4 at sT s13 hfT hTT ⊢
    have hp4 := s13 _ _ hp
    have hx4 := hx.mono fun v x (k : Nd H v x) => k.same s13
    refine ⟨T, _, rfl, SqT.of hTT, rfl, _, _, rfl, _, _, rfl, rfl, ?_⟩
    refine ⟨_, rfl, _, rfl, (i : Int), rfl, p, _, rfl, SqL.of hp4, fun c nc => ?_⟩
    rw [cut_take]
    have wc := same_upd (o := .lst (xs.take i)) nc
    have hc := upd_same (H := H4) (a := c) (o := .lst (xs.take i))
    have hfc := wc _ _ hfT
    have sc := s13.trans wc
    generalize upd H4 c (.lst (xs.take i)) = H5 at wc hc hfc sc ⊢
    refine ⟨_, rfl, _, rfl, _, _, rfl, rfl, ((i + 1 : Nat) : Int), congrArg V.int (by omega), p, _, rfl, SqL.of (sc _ _ hp), fun c2 nc2 => ?_⟩
    rw [cut_drop]
    have wc2 := same_upd (o := .lst (xs.drop (i + 1))) nc2
    refine ⟨c, c2, _, _, rfl, rfl, wc2 _ _ hc, upd_same, szle (by rw [List.length_take, List.length_drop, xl]; omega), fun r nr => ?_⟩
    have wr := same_upd (o := .lst (xs.take i ++ xs.drop (i + 1))) nr
    have hr6 : (upd (upd H5 c2 (.lst (xs.drop (i + 1)))) r (.lst (xs.take i ++ xs.drop (i + 1)))) r = some (.lst (xs.take i ++ xs.drop (i + 1))) := upd_same
    have s6 := sc.trans (wc2.trans wr)
    have hf6 := (wc2.trans wr) _ _ hfc
    generalize upd (upd H5 c2 (.lst (xs.drop (i + 1)))) r (.lst (xs.take i ++ xs.drop (i + 1))) = H6 at hr6 s6 hf6 ⊢
    have hx6 := hx.mono fun v x (k : Nd H v x) => k.same s6
    have lj := jn_len (srt (W.take i ++ W.drop (i + 1)))
    have lj2 : (W.take i ++ W.drop (i + 1)).length ≤ 60 := by rw [List.length_append, List.length_take, List.length_drop]; omega
    rw [srt_len] at lj
    refine ⟨_, rfl, _, rfl, r, _, W.take i ++ W.drop (i + 1), rfl, hr6, (hx6.takeN i).app (hx6.dropN (i + 1)), by omega, fun H7 r7 z7 s7 nr7 hr7 hz7 => ?_⟩
    refine ⟨x, y, r7, z7, _, rfl, (hy.same s6).same s7, hr7, hz7, by omega, fun H8 s8 => ?_⟩
    have hf8 := (s7.trans s8) _ _ hf6
    have sE := s6.trans (s7.trans s8)
    have nm := ndl_more W i
    rw [getD_at hyi] at nm
    refine ⟨_, rfl, ite2 (fun c => ?_) (fun c => ?_)⟩
    · rw [if_pos c] at nm
      refine ⟨_, rfl, .inl ⟨rfl, _, SqL.of hf8⟩, _, rfl, fa, _, _, rfl, rfl, hf8, szlt (by rw [List.length_map]; have := ndl_len W i; omega), ?_⟩
      refine ⟨_, _, _, rfl, fun u o k => by rw [upd_ne (ne_of_none k nfH)]; exact sE _ _ k, ?_⟩
      rw [nm, List.map_append]
      exact upd_same
    · rw [if_neg c, List.append_nil] at nm
      refine ⟨_, _, _, rfl, sE, ?_⟩
      rw [nm]
      exact hf8
  · rintro σ H3 ⟨v3, v4, v5, rfl, sm, hfa⟩
    rw [xl] at hfa
    exact ⟨_, rfl, q H3 fa sm nfH hfa⟩
end
end LT

namespace LT
open PySem PySem.Spec PyProof.Rows L2
theorem ne_no {x y : V} (h : x = y) : V.bl (!decide (x = y)) = V.bl false := by rw [decide_eq_true h]; rfl
theorem nw_root {n : Nat} (h : 0 < n) : nw n 0 n = [(0, n)] := by
  rw [nw_step h]
  have : isN n (0, n) := by
    have := isN_of (n := n) (b := 0) (m := n) h (by omega) (tree_root n)
    rwa [Nat.zero_add] at this
  have e : rw1 n 0 n = n := by unfold rw1; rw [if_pos this]; rfl
  rw [e, Nat.zero_add, nw_nil (Nat.le_refl n)]
theorem atI_end {α : Type} {xs : List α} {x : α} (h : xs[xs.length - 1]? = some x) : atI xs (-1) = some x := by
  have hl : 0 < xs.length := by
    have := (List.getElem?_eq_some_iff.mp h).1
    omega
  have e : ixN xs.length (-1) = some (xs.length - 1) := by
    unfold ixN
    rw [if_neg (by decide), if_pos (by omega)]
    congr 1
    omega
  unfold atI
  rw [e]
  exact h
section
variable {P : Program} {w : World} {K : PySem.W.Frag} {mg : Str → Option Value} {base : Heap}
def spIsN : Sp := fun vs H Q _ => ∃ (n : Nat) (v : V) (x : Nat × Nat), vs = [.int n, v] ∧ 1 ≤ n ∧ n ≤ 10 ^ 30 ∧ Nd H v x ∧ isN n x ∧ Q (.bl true) H
theorem ok_is_nodeN {f g1 g2 : Addr} {fd d1 d2 : FuncData} (F : Fun K "is_node" "is_node" sIsNode f fd) (GCheckSize : FnOk P w K mg base CX0 3 g1 d1 ["size"] spCheckSize) (ACheckSize : At K mg "check_size" g1 d1 ["size"])
    (GIsTreeNode : FnOk P w K mg base CX0 3 g2 d2 ["size", "value"] spTree) (AIsTreeNode : At K mg "is_tree_node" g2 d2 ["size", "value"]) : FnOk P w K mg base CX0 4 f fd ["size", "value"] spIsN := by
  refine F.ok scIsNode (fun vs H Q E h => ?_) (fun cdv A outer s H vs Q E hr h => ?_)
  · obtain ⟨_, _, _, rfl, _⟩ := h
    rfl
  obtain ⟨n, v, x, rfl, n1, h30, hv, hx, q⟩ := h
  refine ⟨_, (pss_cons (ps_expr (pe_call GCheckSize (hr.mono (by decide)) rfl ACheckSize.m ACheckSize.kp ACheckSize.b .nil pass0 (pa_cons (pv 0) pa_nil)))
    (pss_one (ps_ret (pe_call GIsTreeNode (hr.mono (by decide)) rfl AIsTreeNode.m AIsTreeNode.kp AIsTreeNode.b .nil pass0 (pa_cons (pv 0) (pa_cons (pv 1) pa_nil)))))), ?_⟩
  obtain ⟨x1, x2⟩ := x
  obtain ⟨x12, xn, xt⟩ := isN_tree hx
  exact ⟨_, rfl, n, rfl, by omega, by omega, _, rfl, _, rfl, n, x1, x2 - x1, v, rfl, by rw [show x1 + (x2 - x1) = x2 by omega]; exact hv, by omega, by omega, h30, xt, q⟩
def spMissR : Sp := fun vs H Q _ => ∃ (n : Nat) (p1 p2 : Addr) (xs rs : List V) (W : List (Nat × Nat)), vs = [.int n, .ref p1, .ref p2] ∧ 1 ≤ n ∧ n ≤ 10 ^ 30 ∧ H p1 = some (.lst xs) ∧ All2 (Nd H) xs W ∧ 1 ≤ W.length ∧ (∀ x ∈ W, isN n x) ∧
  H p2 = some (.lst rs) ∧ All2 (Nd H) rs (nb n 0 (srt W)) ∧ W.length + (nb n 0 (srt W)).length ≤ 60 ∧ ∀ (H' : Hp), Same H H' → Q (.bl true) H'
theorem ok_law_miss {f g1 g2 g3 g4 g5 : Addr} {fd d1 d2 d3 d4 d5 : FuncData} (F : Fun K "_law_missing_right" "_law_missing_right" sLawMissingRight f fd)
    (GLawTops : FnOk P w K mg base CX0 1 g1 d1 ["nodes"] spTops33) (ALawTops : At K mg "_law_tops" g1 d1 ["nodes"])
    (GParent : FnOk P w K mg base CX0 5 g2 d2 ["size", "node"] spParent) (AParent : At K mg "parent" g2 d2 ["size", "node"])
    (GIsNode : FnOk P w K mg base CX0 4 g3 d3 ["size", "value"] spIsN) (AIsNode : At K mg "is_node" g3 d3 ["size", "value"])
    (GGivesRoot : FnOk P w K mg base CX0 6 g4 d4 ["size", "nodes"] spGives) (AGivesRoot : At K mg "gives_root" g4 d4 ["size", "nodes"])
    (GKnownTops : FnOk P w K mg base CX0 6 g5 d5 ["size", "nodes"] spTopsK) (AKnownTops : At K mg "known_tops" g5 d5 ["size", "nodes"])
    (z_sorted : mg "sorted" = none) (z_zip : mg "zip" = none) (z_range : mg "range" = none) (z_len : mg "len" = none) : FnOk P w K mg base CX0 7 f fd ["size", "nodes", "told"] spMissR := by
  refine F.ok scLawMissingRight (fun vs H Q E h => ?_) (fun cdv A outer s H vs Q E hr h => ?_)
  · obtain ⟨_, _, _, _, _, _, rfl, _⟩ := h
    rfl
  obtain ⟨n, p1, p2, xs, rs, W, rfl, n1, h30, hp1, hx, w1, hW, hp2, hr2, l60, q⟩ := h
  refine ⟨_, (pss_cons (ps_set (i := 3) scLawMissingRight.nd rfl (Or.inl rfl) (pe_call GLawTops (hr.mono (by decide)) rfl ALawTops.m ALawTops.kp ALawTops.b .nil pass0 (pa_cons (pv 1) pa_nil)))
    (pss_cons (ps_set (i := 4) scLawMissingRight.nd rfl (Or.inl rfl) (pe_callB cr_sortedPO (by rfl) z_sorted (by decide +kernel) (pa_cons (pe_op op_cat (pv 3) (pv 2)) pa_nil)))
    (pss_cons (ps_if (PW.pt (pw_or (pt_cmpR (op_neD hr.units) (pv 2) (pe_callB cr_sortedPO (by rfl) z_sorted (by decide +kernel) (pa_cons (pv 2) pa_nil)) (nomark _)) (pw_or (pt_cmpR op_ne (pe_ix ix_tup (pe_ix ix_list (pv 4) pe_int (fun _ _ => rfl)) pe_int (fun _ _ => rfl)) pe_int (nomark _)) (pw_or1 (pt_cmpR op_ne (pe_ix ix_tup (pe_ix ix_list (pv 4) (pe_un un_neg pe_int) (fun _ _ => rfl)) pe_int (fun _ _ => rfl)) (pv 0) (nomark _))))))
    (pss_one (ps_ret pe_bl))
    pss_nil)
    (pss_cons (ps_if (pt_cmpR (op_neD hr.units) (pe_lc (own := [("one", 8), ("other", 9)]) rfl scLawMissingRight.nd (pi_zip (by rfl) z_zip (pa_cons (pv 4) (pa_cons (pe_slice sl_list (pv 4) (po_some pe_int) po_none) pa_nil))) (blkOk_by (N := ["size", "nodes", "told", "tops", "pieces", "node", "above", "spot", "one", "other", "first", "end"]) (sc := defScope sLawMissingRight) (by decide +kernel)) (fun _ _ _ _ _ => (pg_tupB (n := 2) rfl (pgs_cons (pg_name (i := 8) scLawMissingRight.nd rfl (Or.inl rfl)) (pgs_cons (pg_name (i := 9) scLawMissingRight.nd rfl (Or.inl rfl)) pgs_nil)))) (fun _ _ _ _ _ => pts_one (pt_cmpR op_ne (pe_ix ix_tupB (pv 8) pe_int (fun _ _ => rfl)) (pe_ix ix_tupB (pv 9) pe_int (fun _ _ => rfl)) (nomark _))) (fun _ _ _ _ _ => pe_int)) (pe_lst pa_nil) (nomark _))
    (pss_one (ps_ret pe_bl))
    pss_nil)
    (pss_cons (ps_for PassesOwn.never rfl (pi_list (pv 2)) (pg_name (i := 5) scLawMissingRight.nd rfl (Or.inl rfl))
    (pss_cons (ps_set (i := 6) scLawMissingRight.nd rfl (Or.inr rfl) (pe_ifExp (pt_val (pe_call GIsNode (hr.mono (by decide)) rfl AIsNode.m AIsNode.kp AIsNode.b .nil pass0 (pa_cons (pv 0) (pa_cons (pv 5) pa_nil)))) (pe_call GParent (hr.mono (by decide)) rfl AParent.m AParent.kp AParent.b .nil pass0 (pa_cons (pv 0) (pa_cons (pv 5) pa_nil))) pe_non))
    (pss_cons (ps_if (pt_cmpR op_isN (pv 6) pe_non (nomark _))
    (pss_one (ps_ret pe_bl))
    pss_nil)
    (pss_one (ps_if (pt_cmpR (op_eqD hr.units) (pe_lc (own := [("first", 10), ("end", 11)]) rfl scLawMissingRight.nd (pi_list (pv 3)) (blkOk_by (N := ["size", "nodes", "told", "tops", "pieces", "node", "above", "spot", "one", "other", "first", "end"]) (sc := defScope sLawMissingRight) (by decide +kernel)) (fun _ _ _ _ _ => (pg_tupB (n := 2) rfl (pgs_cons (pg_name (i := 10) scLawMissingRight.nd rfl (Or.inl rfl)) (pgs_cons (pg_name (i := 11) scLawMissingRight.nd rfl (Or.inl rfl)) pgs_nil)))) (fun _ _ _ _ _ => pts_one (PW.pt (pw_and (pt_cmpR op_lt (pv 10) (pe_ix ix_tupB (pv 6) pe_int (fun _ _ => rfl)) (nomark _)) (pw_and1 (pt_cmpR op_lt (pe_ix ix_tupB (pv 6) pe_int (fun _ _ => rfl)) (pv 11) (nomark _)))))) (fun _ _ _ _ _ => pe_int)) (pe_lst pa_nil) (nomark _))
    (pss_one (ps_ret pe_bl))
    pss_nil)))))
    (pss_cons (ps_if (PW.pt (pw_or (pt_not (pt_val (pe_call GGivesRoot (hr.mono (by decide)) rfl AGivesRoot.m AGivesRoot.kp AGivesRoot.b .nil pass0 (pa_cons (pv 0) (pa_cons (pe_op op_cat (pv 1) (pv 2)) pa_nil))))) (pw_or1 (pt_cmpR (op_neD hr.units) (pe_call GKnownTops (hr.mono (by decide)) rfl AKnownTops.m AKnownTops.kp AKnownTops.b .nil pass0 (pa_cons (pv 0) (pa_cons (pe_op op_cat (pv 1) (pv 2)) pa_nil))) (pe_lst (pa_cons (pe_tup (pa_cons pe_int (pa_cons (pv 0) pa_nil))) pa_nil)) (nomark _)))))
    (pss_one (ps_ret pe_bl))
    pss_nil)
    (pss_cons (ps_for PassesOwn.never rfl (pi_range1 (by rfl) z_range (pa_cons (pe_callB call_len_seq (by rfl) z_len PySem.boot_len (pa_cons (pv 2) pa_nil)) pa_nil)) (pg_name (i := 7) scLawMissingRight.nd rfl (Or.inl rfl))
    (pss_one (ps_if (pt_val (pe_call GGivesRoot (hr.mono (by decide)) rfl AGivesRoot.m AGivesRoot.kp AGivesRoot.b .nil pass0 (pa_cons (pv 0) (pa_cons (pe_op op_cat (pe_op op_cat (pv 1) (pe_slice sl_list (pv 2) po_none (po_some (pv 7)))) (pe_slice sl_list (pv 2) (po_some (pe_op op_add (pv 7) pe_int)) po_none)) pa_nil))))
    (pss_one (ps_ret pe_bl))
    pss_nil)))
    (pss_one (ps_ret (pe_cmpR op_eq (pe_call GGivesRoot (hr.mono (by decide)) rfl AGivesRoot.m AGivesRoot.kp AGivesRoot.b .nil pass0 (pa_cons (pv 0) (pa_cons (pv 1) pa_nil))) (pe_cmpR (op_eqD hr.units) (pv 2) (pe_lst pa_nil) (nomark _)) (nomark _))))))))))), ?_⟩
  have wW : Wn n W := nodes_wn hW
  have k100 : (10 : Nat) ^ 30 ≤ 2 ^ 100 := by decide
  have Rup := nb_up (n := n) (srt W) 0 wW.srt (Nat.zero_le _)
  have RD : ∀ x ∈ nb n 0 (srt W), Due n W x := fun x hx => nb_srt_due wW hx
  have Rc : ∀ i, i < n → ¬ cov W i → ∃ y ∈ nb n 0 (srt W), y.1 ≤ i ∧ i < y.2 := fun i hi c => nb_cov (srt W) 0 i wW.srt (Nat.zero_le _) hi fun s hs k => c ⟨s, srt_mem.mp hs, k⟩
  have Rnil := jn_nb n1 (srt W) fun x hx => (wW.srt x hx).2
  generalize nb n 0 (srt W) = R at hr2 l60 Rup RD Rc Rnil
  have RN : ∀ x ∈ R, isN n x := fun x hx => (RD x hx).1
  have rl := hr2.len
  have xl := hx.len
  refine ⟨_, rfl, p1, xs, W, rfl, hp1, hx, by omega, (fun x hx => by have := wW x hx; omega), fun H1 tp_ ts T s1 ntp htp hT Tpw Tnd Tiff => ?_⟩
  have TN : ∀ t ∈ T, isN n t := fun t ht => hW t ((Tiff t).mp ht).1
  have Tup : Up 0 T := up_of Tpw Tnd (fun x hx => (isN_tree (n := n) (b := x.1) (e := x.2) (TN x hx)).1) fun x hx y hy c => tp_apart hW ((Tiff x).mp hx) ((Tiff y).mp hy) c
  have Tl' : T.length ≤ W.length := nodup_len T W Tnd fun x hx => ((Tiff x).mp hx).1
  have tl := hT.len
  refine ⟨_, rfl, _, rfl, tp_, p2, _, _, rfl, rfl, htp, s1 _ _ hp2, szle (by omega), fun r nr => ?_⟩
  have w2 := same_upd (o := .lst (ts ++ rs)) nr
  have hTR := (hT.app (hr2.mono fun v x (k : Nd H v x) => k.same s1)).mono fun v x (k : Nd H1 v x) => k.same w2
  have hr3 : (upd H1 r (.lst (ts ++ rs))) r = some (.lst (ts ++ rs)) := upd_same
  have s2 := s1.trans w2
  have htp2 := w2 _ _ htp
  have hT2 := hT.mono fun v x (k : Nd H1 v x) => k.same w2
  generalize upd H1 r (.lst (ts ++ rs)) = H2 at hTR hr3 s2 htp2 hT2 ⊢
  refine ⟨r, ts ++ rs, kOf H2, rfl, SqL.of hr3, fun x hm => ?_, fun zs so hs1 hs2 nso => ?_⟩
  · obtain ⟨y, _, pa, rfl, hpa⟩ := hTR.mem hm
    exact ⟨pa, rfl, by rw [hpa]; simp only [kOf, hpa]⟩
  have s3 := same_upd (o := .lst zs) nso
  have hz := (sorted_srt hTR hs1 hs2.perm).mono (fun v x (k : Nd H2 v x) => k.same s3)
  have hso : (upd H2 so (.lst zs)) so = some (.lst zs) := upd_same
  have sA := s2.trans s3
  have htpA := s3 _ _ htp2
  have hTA := hT2.mono fun v x (k : Nd H2 v x) => k.same s3
  generalize upd H2 so (.lst zs) = HA at hz hso sA htpA hTA ⊢
  clear s3 nso hs1 hs2 hTR hr3 s2 htp2 hT2 w2 nr s1 htp hT
  -- the pieces stand one behind the other
  have apTR : ∀ x ∈ T, ∀ y ∈ R, x.2 ≤ y.1 ∨ y.2 ≤ x.1 := fun x hx y hy => by
    by_cases c : x.2 ≤ y.1 ∨ y.2 ≤ x.1
    · exact c
    · have := meets_has (S := W) (x := y) ((Tiff x).mp hx).1 (by omega) (by omega)
      rw [(RD y hy).2.1] at this
      cases this
  have Pup : Up 0 (srt (T ++ R)) := by
    refine up_of (srt_pair _) ((srt_perm _).nodup_iff.mpr (List.nodup_append.mpr ⟨Tnd, Rup.nodup, fun a ha b hb e => ?_⟩)) (fun x hx => ?_) fun x hx y hy c => ?_
    · subst e
      have a12 := (isN_tree (n := n) (b := a.1) (e := a.2) (TN a ha)).1
      rcases apTR a ha a hb with z | z <;> omega
    · rcases List.mem_append.mp (srt_mem.mp hx) with h | h
      · exact (isN_tree (n := n) (b := x.1) (e := x.2) (TN x h)).1
      · exact (isN_tree (n := n) (b := x.1) (e := x.2) (RN x h)).1
    · have upp : ∀ {l : List (Nat × Nat)}, Up 0 l → x ∈ l → y ∈ l → x.2 ≤ y.1 ∨ y.2 ≤ x.1 := fun {l} u h1 h2 => by
        have m1 := u.mem x h1
        have m2 := u.mem y h2
        by_cases z : x.2 ≤ y.1 ∨ y.2 ≤ x.1
        · exact z
        · exact absurd (up_eq u (i := max x.1 y.1) h1 h2 (by omega) (by omega) (by omega) (by omega)) c
      rcases List.mem_append.mp (srt_mem.mp hx) with h | h
      · rcases List.mem_append.mp (srt_mem.mp hy) with k | k
        · exact upp Tup h k
        · exact apTR x h y k
      · rcases List.mem_append.mp (srt_mem.mp hy) with k | k
        · exact (apTR y k x h).symm
        · exact upp Rup h k
  have tl2 : Tl 0 n (srt (T ++ R)) := tile Pup (Nat.zero_le _) (fun x hx => by
    rcases List.mem_append.mp (srt_mem.mp hx) with h | h
    · exact (TN x h).2.1
    · exact (RN x h).2.1) fun i _ hi => by
      by_cases c : cov W i
      · obtain ⟨t, ht, k⟩ := (tp_cov hW Tiff i).mpr c
        exact ⟨t, srt_mem.mpr (List.mem_append_left _ ht), k⟩
      · obtain ⟨y, hy, k⟩ := Rc i hi c
        exact ⟨y, srt_mem.mpr (List.mem_append_right _ hy), k⟩
  have Pl : (srt (T ++ R)).length ≤ 60 := by rw [srt_len, List.length_append]; omega
  generalize srt (T ++ R) = PP at hz Pup tl2 Pl
  have Pne : PP ≠ [] := fun z => by
    rw [z] at tl2
    have : 0 = n := tl2
    omega
  have zl := hz.len
  have hp2A := sA _ _ hp2
  have hr2A := hr2.mono fun v x (k : Nd H v x) => k.same sA
  refine ⟨_, rfl, _, rfl, p2, rs, kOf HA, rfl, SqL.of hp2A, fun x hm => ?_, fun zs2 so2 hs1 hs2 nso2 => ?_⟩
  · obtain ⟨y, _, pa, rfl, hpa⟩ := hr2A.mem hm
    exact ⟨pa, rfl, by rw [hpa]; simp only [kOf, hpa]⟩
  have s4 := same_upd (o := .lst zs2) nso2
  have hz2 := (sorted_srt hr2A hs1 hs2.perm).mono (fun v x (k : Nd HA v x) => k.same s4)
  rw [Rup.srt] at hz2
  refine ⟨_, _, lst_dp (s4 _ _ hp2A) (hr2A.mono fun v x (k : Nd HA v x) => k.same s4), lst_dp upd_same hz2, nds_shaped _, nds_shaped _, ?_⟩
  rw [nds_eqv, decide_eq_true rfl]
  refine ⟨false, rfl, ?_⟩
  have sB := sA.trans s4
  have hsoB := s4 _ _ hso
  have hzB := hz.mono fun v x (k : Nd HA v x) => k.same s4
  have htpB := s4 _ _ htpA
  have hTB := hTA.mono fun v x (k : Nd HA v x) => k.same s4
  generalize upd HA so2 (.lst zs2) = HB at sB hsoB hzB htpB hTB ⊢
  clear hz2 s4 hs1 hs2 nso2 hp2A hr2A hso hz sA htpA hTA
  obtain ⟨x0, P0, e0⟩ := List.exists_cons_of_ne_nil Pne
  have x01 : x0.1 = 0 := by
    rw [e0] at tl2
    exact tl2.1
  obtain ⟨v0, hv0, c0, rfl, hc0⟩ := hzB.nth2 (show PP[0]? = some x0 by rw [e0]; rfl)
  obtain ⟨xe, hxe, xe2⟩ := tl2.last Pne
  obtain ⟨ve, hve, ce, rfl, hce⟩ := hzB.nth2 hxe
  refine ⟨_, rfl, so, _, _, _, rfl, rfl, SqL.of hsoB, atI_nat (j := 0) hv0, c0, _, _, _, rfl, rfl, SqT.of hc0, atI_nat (j := 0) rfl, rfl, false, ne_no (congrArg V.int (by rw [x01]; rfl)), ?_⟩
  refine ⟨_, rfl, 1, rfl, so, _, _, _, rfl, rfl, SqL.of hsoB, atI_end (by rw [zl]; exact hve), ce, _, _, _, rfl, rfl, SqT.of hce, atI_nat (j := 1) rfl, _, rfl, rfl, false, ne_no (congrArg V.int (by rw [xe2])), ?_⟩
  -- no gaps
  refine ⟨_, rfl, _, rfl, 1, rfl, so, _, rfl, SqL.of hsoB, fun c nc => ?_⟩
  rw [show cutV zs (some 1) none = zs.drop 1 from cut_drop zs 1]
  have w5 := same_upd (o := .lst (zs.drop 1)) nc
  have hc5 := upd_same (H := HB) (a := c) (o := .lst (zs.drop 1))
  have s5 := sB.trans w5
  have hso5 := w5 _ _ hsoB
  generalize upd HB c (.lst (zs.drop 1)) = H5 at w5 hc5 s5 hso5 ⊢
  refine ⟨so, c, _, _, rfl, SqL.of hso5, SqL.of hc5, fun D nD => ?_⟩
  refine lc_zipS (K := K) (a := so) (b := c) (xs := zs) (ys := zs.drop 1) (by rw [List.length_drop]; omega) (fun i H' => Same H5 H' ∧ H' D = some (.lst [])) ⟨same_upd nD, upd_same⟩ (fun i H' ⟨k, _⟩ => ⟨SqL.of (k _ _ hso5), SqL.of (k _ _ hc5)⟩) ?_ ?_
  · rintro i u v t H6 hu hv ⟨s6, hD⟩ nt
    rw [List.getElem?_drop, Nat.add_comm] at hv
    obtain ⟨x, hxi, a, rfl, ha⟩ := hzB.nth hu
    obtain ⟨y, hyi, b, rfl, hb⟩ := hzB.nth hv
    have wt := same_upd (o := .tup [V.ref a, V.ref b]) nt
    have ht : (upd H6 t (.tup [V.ref a, V.ref b])) t = some (.tup [V.ref a, V.ref b]) := upd_same
    have s7 := (w5.trans s6).trans wt
    refine ⟨t, _, rfl, SqT.of ht, rfl, _, _, rfl, _, _, rfl, rfl, rfl, ?_⟩
    refine ⟨_, rfl, a, _, _, _, rfl, rfl, SqT.of (s7 _ _ ha), atI_nat (j := 1) rfl, _, rfl, b, _, _, _, rfl, rfl, SqT.of (s7 _ _ hb), atI_nat (j := 0) rfl, rfl, false, ne_no (congrArg V.int (by rw [tl2.next hxi hyi])), ?_⟩
    exact ⟨s6.trans wt, wt _ _ hD⟩
  rintro H6 ⟨s6, hD⟩
  refine ⟨Nat.zero_le _, fun l nl => ?_⟩
  have w7 := same_upd (o := .lst []) nl
  refine ⟨_, _, lst_dp (l := []) (w7 _ _ hD) .nil, lst_dp (l := []) upd_same .nil, nds_shaped _, nds_shaped _, ?_⟩
  rw [nds_eqv, decide_eq_true rfl]
  refine ⟨false, rfl, ?_⟩
  have s67 := s6.trans w7
  have sC := s5.trans s67
  have sBC := (w5.trans s67)
  have htpC := sBC _ _ htpB
  have hTC := hTB.mono fun v x (k : Nd HB v x) => k.same sBC
  generalize upd H6 l (.lst []) = HC at sC htpC hTC ⊢
  clear sBC s67 w7 nl hD s6 s5 w5 hc5 hso5 hsoB hzB htpB hTB sB nD nc
  have hp2C := sC _ _ hp2
  have hr2C := hr2.mono fun v x (k : Nd H v x) => k.same sC
  have hxC := hx.mono fun v x (k : Nd H v x) => k.same sC
  have hp1C := sC _ _ hp1
  refine ⟨_, rfl, p2, rfl, ⟨_, SqL.of hp2C⟩, for_list (K := K) (a := p2) (xs := rs) (fun j σ H' => ∃ v5 v6 v10 v11 : Option V, σ = [some (.int (n : Int)), some (.ref p1), some (.ref p2), some (.ref tp_), some (.ref so), v5, v6, none, none, none, v10, v11] ∧ Same HC H')
    ⟨none, none, none, none, rfl, Same.refl _⟩ (fun i σ H' _ ⟨_, _, _, _, _, s5⟩ => SqL.of (s5 _ _ hp2C)) ?_ ?_⟩
  · rintro j v σ H6 hj ⟨v5, v6, v10, v11, rfl, s6⟩
    obtain ⟨x, hxj, hv⟩ := hr2C.nth hj
    have xR := List.mem_of_getElem? hxj
    have xN := RN x xR
    have xD := RD x xR
    have xnr : x ≠ (0, n) := fun z => by
      obtain ⟨u, T', e⟩ := List.exists_cons_of_ne_nil (l := W) (fun z => by rw [z] at w1; exact absurd w1 (by decide))
      have hu : u ∈ W := by rw [e]; exact List.mem_cons_self
      have k := wW u hu
      have := meets_has (x := x) hu (by rw [z]; dsimp only; omega) (by rw [z]; dsimp only; omega)
      rw [xD.2.1] at this
      cases this
    rcases par_any n1 xN with e | ⟨B, M, b1, b2, b3, b4⟩
    · exact absurd e xnr
    have hPN : isN n (B, B + M) := isN_of (by omega) b3 b2
    have pm := xD.2.2 B M hPN b1 b4
    refine ⟨_, rfl, _, rfl, n, v, x, rfl, n1, h30, hv.same s6, xN, true, rfl, ?_⟩
    refine ⟨_, rfl, _, rfl, n, x, v, rfl, hv.same s6, n1, h30, .inr ⟨B, M, b1, b2, b3, b4, fun H7 u s7 hu => ?_⟩⟩
    obtain ⟨up_, rfl, hup⟩ := hu
    have q0 : atI [V.int (B : Int), V.int ((B + M : Nat) : Int)] 0 = some (.int (B : Int)) := atI_nat (j := 0) rfl
    have q1 : atI [V.int (B : Int), V.int ((B + M : Nat) : Int)] 1 = some (.int ((B + M : Nat) : Int)) := atI_nat (j := 1) rfl
    refine ⟨_, rfl, rfl, false, rfl, ?_⟩
    have s67 := s6.trans s7
    have htp7 := s67 _ _ htpC
    have hT7 := hTC.mono fun v x (k : Nd HC v x) => k.same s67
    refine ⟨_, rfl, tp_, rfl, ⟨_, SqL.of htp7⟩, fun D nD => ?_⟩
    refine lc_list (K := K) (a := tp_) (xs := ts) (fun i H' => ∃ cs : List Int, Same H7 H' ∧ H' D = some (.lst (cs.map V.int)) ∧ cs.length ≤ i ∧ ∀ k t, k < i → T[k]? = some t → t.1 < B + M → B < t.2 → cs ≠ []) ⟨[], same_upd nD, upd_same, Nat.le_refl _, fun k t h => by omega⟩ (fun i H' _ ⟨_, s8, _⟩ => SqL.of (s8 _ _ htp7)) ?_ ?_
    · rintro i u H8 hi ⟨cs, s8, hD, lc, hcs⟩
      obtain ⟨t, hti, a, rfl, ha⟩ := hT7.nth hi
      have il := (List.getElem?_eq_some_iff.mp hti).1
      have hup8 := s8 _ _ hup
      have no : ¬ (t.1 < B + M ∧ B < t.2) → ∃ cs : List Int, Same H7 H8 ∧ H8 D = some (.lst (cs.map V.int)) ∧ cs.length ≤ i + 1 ∧ ∀ k t, k < i + 1 → T[k]? = some t → t.1 < B + M → B < t.2 → cs ≠ [] := fun hn => ⟨cs, s8, hD, by omega, fun k t' hk ht' t1 t2 => by
        by_cases z : k = i
        · subst z
          rw [hti] at ht'
          cases ht'
          exact absurd ⟨t1, t2⟩ hn
        · exact hcs k t' (by omega) ht' t1 t2⟩
      refine ⟨a, _, rfl, SqT.of (s8 _ _ ha), rfl, _, _, rfl, _, _, rfl, rfl, rfl, ?_⟩
      refine ⟨_, rfl, _, rfl, up_, _, _, _, rfl, rfl, SqT.of hup8, q1, _, _, rfl, rfl, decide (t.1 < B + M), ltc t.1 (B + M), ?_⟩
      cases h1 : decide (t.1 < B + M) with
      | false => exact no fun z => by rw [decide_eq_true z.1] at h1; cases h1
      | true =>
        refine ⟨_, rfl, up_, _, _, _, rfl, rfl, SqT.of hup8, q0, _, rfl, _, _, rfl, rfl, decide (B < t.2), ltc B t.2, ?_⟩
        cases h2 : decide (B < t.2) with
        | false => exact no fun z => by rw [decide_eq_true z.2] at h2; cases h2
        | true =>
          refine ⟨_, hD, szlt (by rw [List.length_map]; omega), cs ++ [1], fun u o k => by rw [upd_ne (ne_of_none k nD)]; exact s8 _ _ k, ?_, by rw [List.length_append, List.length_singleton]; omega, fun k _ _ _ _ _ => by simp⟩
          rw [List.map_append]
          exact upd_same
    rintro H8 ⟨cs, s8, hD, lc, hcs⟩
    refine ⟨Nat.zero_le _, fun l nl => ?_⟩
    have w9 := same_upd (o := .lst []) nl
    refine ⟨_, _, .lst (SqL.of (w9 _ _ hD)) (ints_dp cs), .lst (SqL.of upd_same) .nil, ints_shaped _, nil_shaped, ?_⟩
    rw [ints_nil]
    have cne : cs ≠ [] := by
      have P12 : (B, B + M).1 < (B, B + M).2 := by show B < B + M; omega
      obtain ⟨i, i1, i2, ci⟩ := (meets_cov wW P12).mp pm
      obtain ⟨t, ht, t1, t2⟩ := (tp_cov hW Tiff i).mpr ci
      obtain ⟨k, hk⟩ := List.getElem?_of_mem ht
      have kl := (List.getElem?_eq_some_iff.mp hk).1
      dsimp only at i1 i2
      exact hcs k t (by omega) hk (by omega) (by omega)
    have ce : cs.isEmpty = false := by
      cases cs with
      | nil => exact absurd rfl cne
      | cons _ _ => rfl
    rw [ce]
    refine ⟨false, rfl, ?_⟩
    exact ⟨_, _, _, _, rfl, s67.trans (s8.trans w9)⟩
  rintro σ H6 ⟨v5, v6, v10, v11, rfl, s6⟩
  have s06 := sC.trans s6
  have kp1 := s06 _ _ hp1
  have kx := hx.mono fun v x (k : Nd H v x) => k.same s06
  have kp2 := s06 _ _ hp2
  have kr := hr2.mono fun v x (k : Nd H v x) => k.same s06
  clear hp2C hr2C hxC hp1C htpC hTC s6 sC
  have all : ∀ i, i < n → cov (W ++ R) i := fun i hi => by
    by_cases c : cov W i
    · exact cov_app.mpr (.inl c)
    · obtain ⟨y, hy, k⟩ := Rc i hi c
      exact cov_app.mpr (.inr ⟨y, hy, k⟩)
  have nWR : ∀ x ∈ W ++ R, isN n x := fun x hx => (List.mem_append.mp hx).elim (hW x) (RN x)
  have jWR : jn (srt (W ++ R)) = [(0, n)] := (jn_cov n1 (nodes_wn nWR)).mpr all
  -- with them the root comes
  refine ⟨_, rfl, _, rfl, _, rfl, p1, p2, _, _, rfl, rfl, kp1, kp2, szle (by omega), fun r nr => ?_⟩
  have w7 := same_upd (o := .lst (xs ++ rs)) nr
  refine ⟨n, r, _, W ++ R, rfl, n1, h30, upd_same, (kx.app kr).mono (fun v x (k : Nd H6 v x) => k.same w7), by rw [List.length_append]; omega, by rw [List.length_append]; omega, nWR, fun H8 s8 => ⟨true, congrArg V.bl (decide_eq_true jWR), ?_⟩⟩
  have s68 := w7.trans s8
  refine ⟨_, rfl, _, rfl, _, rfl, p1, p2, _, _, rfl, rfl, s68 _ _ kp1, s68 _ _ kp2, szle (by omega), fun r2 nr2 => ?_⟩
  have w9 := same_upd (o := .lst (xs ++ rs)) nr2
  have s69 := s68.trans w9
  refine ⟨n, r2, _, W ++ R, rfl, n1, h30, upd_same, (kx.app kr).mono (fun v x (k : Nd H6 v x) => k.same s69), by rw [List.length_append]; omega, by rw [List.length_append]; omega, nWR, fun H10 kt ks s10 nkt hkt hks => ?_⟩
  rw [jWR, show tps n [(0, n)] = nw n 0 n by unfold tps; simp, nw_root n1] at hks
  refine ⟨_, rfl, (by show 2 ≤ sizeLine; decide), fun t nt => ⟨(by show 1 ≤ sizeLine; decide), fun l nl => ?_⟩⟩
  have w11 := same_upd (o := .tup [.int 0, .int (n : Int)]) nt
  have w12 := same_upd (o := .lst [V.ref t]) nl
  have s1012 := w11.trans w12
  refine ⟨_, _, lst_dp (s1012 _ _ hkt) (hks.mono fun v x (k : Nd H10 v x) => k.same s1012), lst_dp (l := [(0, n)]) upd_same (.cons ⟨t, rfl, w12 _ _ upd_same⟩ .nil), nds_shaped _, nds_shaped _, ?_⟩
  rw [nds_eqv, decide_eq_true rfl]
  refine ⟨false, rfl, ?_⟩
  have s612 := s69.trans (s10.trans s1012)
  have tp1 := s612 _ _ kp1
  have tx := kx.mono fun v x (k : Nd H6 v x) => k.same s612
  have tp2 := s612 _ _ kp2
  have tr := kr.mono fun v x (k : Nd H6 v x) => k.same s612
  have s0 := s06.trans s612
  generalize upd (upd H10 t (.tup [.int 0, .int (n : Int)])) l (.lst [V.ref t]) = HZ at tp1 tx tp2 tr s0 ⊢
  clear s612 s1012 w12 w11 s69 s68 s10 s8 w9 w7 hks hkt nkt nl nt nr nr2 kp1 kx kp2 kr s06
  -- without any of them it does not
  refine ⟨_, rfl, p2, rs, rfl, .inl (SqL.of tp2), ((rs.length : Nat) : Int), rfl, by omega, by omega, for_range (lo := 0) (n := rs.length) (fun i σ H' => ∃ v7 : Option V, σ = [some (.int (n : Int)), some (.ref p1), some (.ref p2), some (.ref tp_), some (.ref so), v5, v6, v7, none, none, v10, v11] ∧ Same HZ H')
    ⟨none, rfl, Same.refl _⟩ ?_ ?_⟩
  · rintro i σ H7 hi ⟨v7, rfl, s7⟩
    have il : i < R.length := by omega
    have e := List.getElem?_eq_getElem il
    have up1 := s7 _ _ tp1
    have up2 := s7 _ _ tp2
    refine ⟨_, rfl, _, rfl, _, rfl, _, rfl, (i : Int), congrArg V.int (Int.zero_add _), p2, _, rfl, SqL.of up2, fun c nc => ?_⟩
    rw [cut_take]
    have w8 := same_upd (o := .lst (rs.take i)) nc
    refine ⟨p1, c, _, _, rfl, rfl, w8 _ _ up1, upd_same, szle (by rw [List.length_take]; omega), fun r nr => ?_⟩
    have w9 := same_upd (o := .lst (xs ++ rs.take i)) nr
    have s79 := s7.trans (w8.trans w9)
    have hr9 : (upd (upd H7 c (.lst (rs.take i))) r (.lst (xs ++ rs.take i))) r = some (.lst (xs ++ rs.take i)) := upd_same
    generalize upd (upd H7 c (.lst (rs.take i))) r (.lst (xs ++ rs.take i)) = H9 at s79 hr9 ⊢
    refine ⟨_, rfl, _, rfl, _, _, rfl, rfl, ((i + 1 : Nat) : Int), congrArg V.int (by omega), p2, _, rfl, SqL.of (s79 _ _ tp2), fun c2 nc2 => ?_⟩
    rw [cut_drop]
    have w10 := same_upd (o := .lst (rs.drop (i + 1))) nc2
    refine ⟨r, c2, _, _, rfl, rfl, w10 _ _ hr9, upd_same, szle (by rw [List.length_append, List.length_take, List.length_drop]; omega), fun r2 nr2 => ?_⟩
    have w11 := same_upd (o := .lst (xs ++ rs.take i ++ rs.drop (i + 1))) nr2
    have s711 := s79.trans (w10.trans w11)
    have nM : ∀ x ∈ W ++ R.take i ++ R.drop (i + 1), isN n x := fun x hx => by
      rcases List.mem_append.mp hx with hx | hx
      · rcases List.mem_append.mp hx with hx | hx
        · exact hW x hx
        · exact RN x (List.mem_of_mem_take hx)
      · exact RN x (List.mem_of_mem_drop hx)
    refine ⟨n, r2, _, W ++ R.take i ++ R.drop (i + 1), rfl, n1, h30, upd_same, ((tx.app (tr.takeN i)).app (tr.dropN (i + 1))).mono (fun v x (k : Nd HZ v x) => k.same s711), by rw [List.length_append, List.length_append]; omega, by rw [List.length_append, List.length_append, List.length_take, List.length_drop]; omega, nM, fun H12 s12 => ⟨false, congrArg V.bl (decide_eq_false fun hj => ?_), ?_⟩⟩
    · have hcov := (jn_cov n1 (nodes_wn nM)).mp hj
      have yR : R[i] ∈ R := List.getElem_mem il
      obtain ⟨y12, yn, _⟩ := isN_tree (n := n) (b := (R[i]).1) (e := (R[i]).2) (RN _ yR)
      obtain ⟨z, hz, z1, z2⟩ := hcov (R[i]).1 (by omega)
      have p := Rup.pair
      have split : R = R.take i ++ R[i] :: R.drop (i + 1) := by
        rw [← List.drop_eq_getElem_cons il, List.take_append_drop]
      rw [split] at p
      obtain ⟨_, pp2, pp3⟩ := List.pairwise_append.mp p
      obtain ⟨pp4, _⟩ := List.pairwise_cons.mp pp2
      rcases List.mem_append.mp hz with hz | hz
      · rcases List.mem_append.mp hz with hz | hz
        · have := meets_has (S := W) (x := R[i]) hz (by omega) (by omega)
          rw [(RD _ yR).2.1] at this
          cases this
        · have := pp3 z hz (R[i]) List.mem_cons_self
          omega
      · have := pp4 z hz
        omega
    · exact ⟨_, rfl, s711.trans s12⟩
  rintro σ H7 ⟨v7, rfl, s7⟩
  refine ⟨_, rfl, _, rfl, n, p1, xs, W, rfl, n1, h30, s7 _ _ tp1, tx.mono (fun v x (k : Nd HZ v x) => k.same s7), w1, by omega, hW, fun H8 s8 => ⟨_, rfl, Nat.zero_le _, fun l9 nl9 => ?_⟩⟩
  have w9 := same_upd (o := .lst []) nl9
  have s79 := s7.trans (s8.trans w9)
  refine ⟨_, _, lst_dp (s79 _ _ tp2) (tr.mono fun v x (k : Nd HZ v x) => k.same s79), lst_dp (l := []) upd_same .nil, nds_shaped _, nds_shaped _, ?_⟩
  rw [nds_eqv]
  refine ⟨rfl, ?_⟩
  rw [decide_eq_true (congrArg V.bl (decide_eq_decide.mpr Rnil))]
  exact q _ (s0.trans s79)
end
end LT

namespace LT
open PySem PySem.Spec PyProof.Rows L2
theorem due_near {n : Nat} {S T : List (Nat × Nat)} (h : ∀ x, x.1 < x.2 → meets x S = meets x T) {x : Nat × Nat} (d : Due n S x) : Due n T x := by
  have x12 := (isN_tree (n := n) (b := x.1) (e := x.2) d.1).1
  exact ⟨d.1, by rw [← h x x12]; exact d.2.1, fun B M a b c => by rw [← h (B, B + M) (by show B < B + M; omega)]; exact d.2.2 B M a b c⟩
theorem nb_near {n : Nat} {L M : List (Nat × Nat)} (hL : Wn n L) (hM : Wn n M) (h : ∀ i, cov L i ↔ cov M i) : nb n 0 (srt L) = nb n 0 (srt M) := by
  have k : ∀ x : Nat × Nat, x.1 < x.2 → meets x L = meets x M := fun x hx => by
    rw [Bool.eq_iff_iff, meets_cov hL hx, meets_cov hM hx]
    exact ⟨fun ⟨i, a, b, c⟩ => ⟨i, a, b, (h i).mp c⟩, fun ⟨i, a, b, c⟩ => ⟨i, a, b, (h i).mpr c⟩⟩
  exact nb_is hL (nb_up (srt M) 0 hM.srt (Nat.zero_le _)) fun x => (nb_iff hM x).trans ⟨due_near fun x hx => (k x hx).symm, due_near k⟩
theorem sep_ext : ∀ (l r : List (Nat × Nat)), l.Pairwise (fun x y => x.2 < y.1) → r.Pairwise (fun x y => x.2 < y.1) → (∀ x ∈ l, x.1 < x.2) → (∀ x ∈ r, x.1 < x.2) → (∀ i, cov l i ↔ cov r i) → l = r
  | [], [], _, _, _, _, _ => rfl
  | [], y :: r, _, _, _, k, h => by
    obtain ⟨s, hs, _⟩ := (h y.1).mpr ⟨y, List.mem_cons_self, Nat.le_refl _, k y List.mem_cons_self⟩
    cases hs
  | x :: l, [], _, _, k, _, h => by
    obtain ⟨s, hs, _⟩ := (h x.1).mp ⟨x, List.mem_cons_self, Nat.le_refl _, k x List.mem_cons_self⟩
    cases hs
  | x :: l, y :: r, hl, hr, kl, kr, h => by
    obtain ⟨a1, a2⟩ := List.pairwise_cons.mp hl
    obtain ⟨b1, b2⟩ := List.pairwise_cons.mp hr
    have x12 := kl x List.mem_cons_self
    have y12 := kr y List.mem_cons_self
    have inL : ∀ i, cov (x :: l) i → (x.1 ≤ i ∧ i < x.2) ∨ (x.2 < i ∧ cov l i) := fun i ⟨s, hs, s1, s2⟩ => by
      rcases List.mem_cons.mp hs with rfl | hs
      · exact .inl ⟨s1, s2⟩
      · have := a1 s hs
        exact .inr ⟨by omega, s, hs, s1, s2⟩
    have inR : ∀ i, cov (y :: r) i → (y.1 ≤ i ∧ i < y.2) ∨ (y.2 < i ∧ cov r i) := fun i ⟨s, hs, s1, s2⟩ => by
      rcases List.mem_cons.mp hs with rfl | hs
      · exact .inl ⟨s1, s2⟩
      · have := b1 s hs
        exact .inr ⟨by omega, s, hs, s1, s2⟩
    have cx : ∀ i, x.1 ≤ i → i < x.2 → cov (x :: l) i := fun i i1 i2 => ⟨x, List.mem_cons_self, i1, i2⟩
    have cy : ∀ i, y.1 ≤ i → i < y.2 → cov (y :: r) i := fun i i1 i2 => ⟨y, List.mem_cons_self, i1, i2⟩
    have f1 := inR x.1 ((h _).mp (cx x.1 (Nat.le_refl _) x12))
    have f2 := inL y.1 ((h _).mpr (cy y.1 (Nat.le_refl _) y12))
    have e1 : x.1 = y.1 := by
      rcases f1 with f1 | f1 <;> rcases f2 with f2 | f2 <;> omega
    have e2 : x.2 = y.2 := by
      rcases Nat.lt_trichotomy x.2 y.2 with c | c | c
      · rcases inL x.2 ((h _).mpr (cy x.2 (by omega) c)) with f | f
        · omega
        · exact absurd f.1 (Nat.lt_irrefl _)
      · exact c
      · rcases inR y.2 ((h _).mp (cx y.2 (by omega) c)) with f | f
        · omega
        · exact absurd f.1 (Nat.lt_irrefl _)
    have e : x = y := Prod.ext e1 e2
    subst e
    congr 1
    refine sep_ext l r a2 b2 (fun z hz => kl z (List.mem_cons_of_mem _ hz)) (fun z hz => kr z (List.mem_cons_of_mem _ hz)) fun i => ⟨fun ⟨s, hs, s1, s2⟩ => ?_, fun ⟨s, hs, s1, s2⟩ => ?_⟩
    · have := a1 s hs
      rcases inR i ((h i).mp ⟨s, List.mem_cons_of_mem _ hs, s1, s2⟩) with f | f
      · omega
      · exact f.2
    · have := b1 s hs
      rcases inL i ((h i).mpr ⟨s, List.mem_cons_of_mem _ hs, s1, s2⟩) with f | f
      · omega
      · exact f.2
theorem jn_near {n : Nat} {L M : List (Nat × Nat)} (hL : Wn n L) (hM : Wn n M) (h : ∀ i, cov L i ↔ cov M i) : jn (srt L) = jn (srt M) := by
  refine sep_ext _ _ (jn_sep hL) (jn_sep hM) (fun x hx => (jn_mem hL.srt x hx).1) (fun x hx => (jn_mem hM.srt x hx).1) fun i => ?_
  have k : ∀ {W : List (Nat × Nat)}, cov (jn (srt W)) i ↔ cov W i := fun {W} => ⟨fun ⟨s, hs, s1, s2⟩ => srt_cov (jn_in hs s1 s2), jn_has⟩
  rw [k, k]
  exact h i
theorem any_int (k : Int) : ∀ ns : List Int, ((ns.map PyData.int).any fun z => PyData.eqv z (.int k)) = decide (k ∈ ns)
  | [] => (decide_eq_false List.not_mem_nil).symm
  | y :: l => by
    rw [List.map_cons, List.any_cons, any_int k l]
    have e : PyData.eqv (.int y) (.int k) = decide (y = k) := by
      simp only [PyData.eqv]
      rw [Bool.eq_iff_iff, beq_iff_eq, decide_eq_true_eq]
    rw [e]
    by_cases c : y = k
    · rw [decide_eq_true c, Bool.true_or]
      exact (decide_eq_true (by rw [c]; exact List.mem_cons_self)).symm
    · rw [decide_eq_false c, Bool.false_or]
      refine decide_eq_decide.mpr ?_
      rw [List.mem_cons]
      exact ⟨fun h => .inr h, fun h => h.resolve_left fun e => c e.symm⟩
end LT

namespace LT
open PySem PySem.Spec PyProof.Rows L2
theorem cut_1 (xs : List V) : cutV xs (some 1) none = xs.drop 1 := cut_drop xs 1
theorem cut_60 (xs : List V) : cutV xs none (some 60) = xs.take 60 := cut_take xs 60
theorem ints_refl (ns : List Int) : PyData.eqv (.list (ns.map PyData.int)) (.list (ns.map PyData.int)) = true := by
  have : ∀ ns : List Int, PyData.eqvAll (ns.map PyData.int) (ns.map PyData.int) = true := by
    intro ns
    induction ns with
    | nil => simp only [List.map_nil, PyData.eqvAll]
    | cons a t ih => simp only [List.map_cons, PyData.eqvAll, PyData.eqv, ih, Bool.and_true, beq_self_eq_true]
  simp only [PyData.eqv, this]
section
variable {P : Program} {w : World} {K : PySem.W.Frag} {mg : Str → Option Value} {base : Heap}
def spRight : Sp := fun vs H Q _ => ∃ (b : Addr) (n : Nat), vs = [.ref b, .int n] ∧ 1 ≤ n ∧ n ≤ 10 ^ 30 ∧ BagAt H b ∧ ∀ H', But b H H' → BagAt H' b → Q (.bl true) H'
theorem ok_law_right {f g1 g2 g3 g4 g5 g6 g7 g8 g9 : Addr} {fd d1 d2 d3 d4 d5 d6 d7 d8 d9 : FuncData} (F : Fun K "_law_right" "_law_right" sLawRight f fd)
    (GLawPick : FnOk P w K mg base CX0 1 g1 d1 ["bag", "many"] spPick) (ALawPick : At K mg "_law_pick" g1 d1 ["bag", "many"])
    (GLawWalked : FnOk P w K mg base CX0 2 g2 d2 ["bag", "size", "most"] spWalked) (ALawWalked : At K mg "_law_walked" g2 d2 ["bag", "size", "most"])
    (GMissing : FnOk P w K mg base CX0 6 g3 d3 ["size", "nodes"] spMissing) (AMissing : At K mg "missing" g3 d3 ["size", "nodes"])
    (GLawMissingRight : FnOk P w K mg base CX0 7 g4 d4 ["size", "nodes", "told"] spMissR) (ALawMissingRight : At K mg "_law_missing_right" g4 d4 ["size", "nodes", "told"])
    (GLawTops : FnOk P w K mg base CX0 1 g5 d5 ["nodes"] spTops33) (ALawTops : At K mg "_law_tops" g5 d5 ["nodes"])
    (GLawJoins : FnOk P w K mg base CX0 6 g6 d6 ["size", "tops"] spJoins) (ALawJoins : At K mg "_law_joins" g6 d6 ["size", "tops"])
    (GKnownTops : FnOk P w K mg base CX0 6 g7 d7 ["size", "nodes"] spTopsK) (AKnownTops : At K mg "known_tops" g7 d7 ["size", "nodes"])
    (GLawParted : FnOk P w K mg base CX0 1 g8 d8 ["node"] spParted) (ALawParted : At K mg "_law_parted" g8 d8 ["node"])
    (GNeedless : FnOk P w K mg base CX0 6 g9 d9 ["size", "nodes"] spNeedless) (ANeedless : At K mg "needless" g9 d9 ["size", "nodes"])
    (z_range : mg "range" = none) (z_list : mg "list" = none) : FnOk P w K mg base CX0 8 f fd ["bag", "size"] spRight := by
  refine F.ok scLawRight (fun vs H Q E h => ?_) (fun cdv A outer s H vs Q E hr h => ?_)
  · obtain ⟨_, _, rfl, _⟩ := h
    rfl
  obtain ⟨bg, n, rfl, n1, h30, hb, q⟩ := h
  refine' ⟨_, (pss_cons ?cc1
    (pss_cons (ps_if (pt_cmpR op_eq (pe_call GLawPick (hr.mono (by decide)) rfl ALawPick.m ALawPick.kp ALawPick.b .nil pass0 (pa_cons (pv 0) (pa_cons pe_int pa_nil))) pe_int (nomark _))
    (pss_one (ps_set (i := 2) scLawRight.nd rfl (Or.inl rfl) (pe_lst (pa_cons (pe_call GLawWalked (hr.mono (by decide)) rfl ALawWalked.m ALawWalked.kp ALawWalked.b .nil pass0 (pa_cons (pv 0) (pa_cons (pv 1) (pa_cons pe_int pa_nil)))) pa_nil))))
    pss_nil)
    (pss_cons (ps_set (i := 3) scLawRight.nd rfl (Or.inl rfl) (pe_call GMissing (hr.mono (by decide)) rfl AMissing.m AMissing.kp AMissing.b .nil pass0 (pa_cons (pv 1) (pa_cons (pv 2) pa_nil))))
    (pss_cons (ps_if (pt_not (pt_val (pe_call GLawMissingRight (hr.mono (by decide)) rfl ALawMissingRight.m ALawMissingRight.kp ALawMissingRight.b .nil pass0 (pa_cons (pv 1) (pa_cons (pv 2) (pa_cons (pv 3) pa_nil))))))
    (pss_one (ps_ret pe_bl))
    pss_nil)
    (pss_cons (ps_set (i := 4) scLawRight.nd rfl (Or.inl rfl) (pe_call GLawTops (hr.mono (by decide)) rfl ALawTops.m ALawTops.kp ALawTops.b .nil pass0 (pa_cons (pv 2) pa_nil)))
    (pss_cons (ps_if (PW.pt (pw_and (pt_not (pt_val (pe_call GLawJoins (hr.mono (by decide)) rfl ALawJoins.m ALawJoins.kp ALawJoins.b .nil pass0 (pa_cons (pv 1) (pa_cons (pv 4) pa_nil))))) (pw_and1 (pt_cmpR (op_neD hr.units) (pe_call GKnownTops (hr.mono (by decide)) rfl AKnownTops.m AKnownTops.kp AKnownTops.b .nil pass0 (pa_cons (pv 1) (pa_cons (pv 2) pa_nil))) (pv 4) (nomark _)))))
    (pss_one (ps_ret pe_bl))
    pss_nil)
    (pss_cons (ps_set (i := 5) scLawRight.nd rfl (Or.inl rfl) (pe_ix ix_list (pv 2) pe_int (fun _ _ => rfl)))
    (pss_cons (ps_if (pt_cmpR op_gt (pe_op op_sub (pe_ix ix_tup (pv 5) pe_int (fun _ _ => rfl)) (pe_ix ix_tup (pv 5) pe_int (fun _ _ => rfl))) pe_int (nomark _))
    (pss_cons (ps_set (i := 6) scLawRight.nd rfl (Or.inl rfl) (pe_op op_cat (pe_slice sl_list (pv 2) (po_some pe_int) po_none) (pe_revL (pe_callTy call_list_of (by rfl) z_list (by decide +kernel) (pa_cons (pe_call GLawParted (hr.mono (by decide)) rfl ALawParted.m ALawParted.kp ALawParted.b .nil pass0 (pa_cons (pv 5) pa_nil)) pa_nil)))))
    (pss_cons (ps_if (PW.pt (pw_or (pt_cmpR (op_neD hr.units) (pe_call GMissing (hr.mono (by decide)) rfl AMissing.m AMissing.kp AMissing.b .nil pass0 (pa_cons (pv 1) (pa_cons (pv 6) pa_nil))) (pv 3) (nomark _)) (pw_or1 (pt_cmpR (op_neD hr.units) (pe_call GKnownTops (hr.mono (by decide)) rfl AKnownTops.m AKnownTops.kp AKnownTops.b .nil pass0 (pa_cons (pv 1) (pa_cons (pv 6) pa_nil))) (pe_call GKnownTops (hr.mono (by decide)) rfl AKnownTops.m AKnownTops.kp AKnownTops.b .nil pass0 (pa_cons (pv 1) (pa_cons (pv 2) pa_nil))) (nomark _)))))
    (pss_one (ps_ret pe_bl))
    pss_nil)
    (pss_one (ps_if (pt_cmpR (op_notInD (units1 hr)) pe_int (pe_call GNeedless (hr.mono (by decide)) rfl ANeedless.m ANeedless.kp ANeedless.b .nil pass0 (pa_cons (pv 1) (pa_cons (pe_op op_cat (pe_lst (pa_cons (pv 5) pa_nil)) (pv 6)) pa_nil))) (by rfl))
    (pss_one (ps_ret pe_bl))
    pss_nil))))
    pss_nil)
    (pss_one (ps_ret (pe_ifExp (pt_cmpR (op_neD hr.units) (pv 3) (pe_lst pa_nil) (nomark _)) (pe_and (pe_cmpR (op_eqD hr.units) (pe_call GNeedless (hr.mono (by decide)) rfl ANeedless.m ANeedless.kp ANeedless.b .nil pass0 (pa_cons (pv 1) (pa_cons (pe_lst (pa_cons (pv 5) (pa_cons (pv 5) pa_nil))) pa_nil))) (pe_lst (pa_cons pe_int (pa_cons pe_int pa_nil))) (nomark _)) (pe_one (pe_cmpR (op_eqD hr.units) (pe_call GNeedless (hr.mono (by decide)) rfl ANeedless.m ANeedless.kp ANeedless.b .nil pass0 (pa_cons (pv 1) (pa_cons (pe_slice sl_list (pv 3) po_none (po_some pe_int)) pa_nil))) (pe_lst pa_nil) (nomark _)))) pe_bl))))))))))), ?_⟩
  case cc1 => exact (ps_setLc (i := 2) (own := [("turn", 7)]) rfl scLawRight.nd rfl rfl (sw_true rfl rfl rfl (by decide +kernel)) (pi_range1 (by rfl) z_range (pa_cons (pe_op op_add pe_int (pe_call GLawPick (hr.mono (by decide)) rfl ALawPick.m ALawPick.kp ALawPick.b .nil pass0 (pa_cons (pv 0) (pa_cons pe_int pa_nil)))) pa_nil)) (blkOk_by (N := ["bag", "size", "nodes", "told", "tops", "first", "others", "turn"]) (sc := defScope sLawRight) (by decide +kernel)) (fun _ _ _ _ _ => (pg_name (i := 7) scLawRight.nd rfl (Or.inl rfl))) (fun _ _ _ _ _ => pts_nil) (fun _ _ _ _ _ => (pe_call GLawWalked (hr.mono (by decide)) rfl ALawWalked.m ALawWalked.kp ALawWalked.b .nil pass0 (pa_cons (pv 0) (pa_cons (pv 1) (pa_cons pe_int pa_nil))))))
  have one1 : 1 ≤ sizeLine := by decide
  have two : 2 ≤ sizeLine := by decide
  refine ⟨_, rfl, bg, 4, rfl, by decide, by decide, hb, fun r H13 r0 r1 k13 hb13 => ?_⟩
  obtain ⟨m, rfl⟩ : ∃ m : Nat, r = (m : Int) := ⟨r.toNat, by omega⟩
  have B13 : But bg H H13 := (But.refl bg H).pick k13
  refine ⟨_, _, rfl, rfl, ((1 + m : Nat) : Int), congrArg (fun z => [V.int z]) (by omega), by omega, by omega, fun Dn nD => ?_⟩
  have Db := hb13.ne nD
  refine lc_range (lo := 0) (n := 1 + m) (fun i H' => ∃ (ws : List V) (W : List (Nat × Nat)), But bg H H' ∧ BagAt H' bg ∧ H' Dn = some (.lst ws) ∧ All2 (Nd H') ws W ∧ (∀ x ∈ W, isN n x ∧ (stp 0 n x).length ≤ 12) ∧ W.length = i)
    ⟨[], [], B13.trans (But.of (same_upd nD)), hb13.upd Db, upd_same, .nil, (fun _ h => absurd h List.not_mem_nil), rfl⟩ ?_ ?_
  · rintro j H14 hj ⟨ws, W, B14, hb14, hD, hws, hW, lW⟩
    refine ⟨rfl, ?_⟩
    refine ⟨_, rfl, _, rfl, bg, n, 12, rfl, hb14, n1, h30, by decide, fun H15 v x B15 hb15 hv hx hst => ?_⟩
    have hD15 := B15.at Db hD
    refine ⟨ws, hD15, szlt (by rw [hws.len, lW]; omega), ws ++ [v], W ++ [x], ?_, hb15.upd Db, upd_same, ?_, ?_, by rw [List.length_append, List.length_singleton, lW]⟩
    · exact fun a o z k => by rw [upd_ne (ne_of_none (B13 a o z k) nD)]; exact B15 a o z (B14 a o z k)
    · exact ((hws.mono fun v x (k : Nd H14 v x) => k.but B15 hb14).mono fun v x (k : Nd H15 v x) => k.upd hD15).app (.cons (hv.upd hD15) .nil)
    · intro y hy
      rcases List.mem_append.mp hy with hy | hy
      · exact hW y hy
      · rw [List.mem_singleton.mp hy]
        exact ⟨hx, hst⟩
  rintro H14 ⟨ws, W, B14, hb14, hD, hws, hW, lW⟩
  refine ⟨_, rfl, bg, 3, rfl, by decide, by decide, hb14, fun r H15 r0 r1 k15 hb15 => ?_⟩
  have B1415 : But bg H14 H15 := (But.refl bg H14).pick k15
  refine ⟨rfl, decide (V.int r = V.int 0), rfl, ?_⟩
  cases hr0 : decide (V.int r = V.int 0)
  case' true =>
    refine ⟨_, rfl, _, rfl, bg, n, 55, rfl, hb15, n1, h30, by decide, fun H16 v x B16 hb16 hv hx hst => ⟨one1, fun l nl => ?_⟩⟩
    have w17 := same_upd (o := .lst [v]) nl
    have hbA := hb16.same w17
    have BA := ((B14.trans B1415).trans B16).trans (But.of (b := bg) w17)
    obtain ⟨W', ws', D', hDA, hwsA, hWA, w1, w4, hfew⟩ : ∃ (W' : List (Nat × Nat)) (ws' : List V) (D' : Addr), (D' = l ∧ (upd H16 l (.lst [v])) D' = some (.lst ws')) ∧ All2 (Nd (upd H16 l (.lst [v]))) ws' W' ∧ (∀ x ∈ W', isN n x) ∧ 1 ≤ W'.length ∧ W'.length ≤ 4 ∧ W'.length + (nb n 0 (srt W')).length ≤ 60 :=
      ⟨[x], [v], l, ⟨rfl, upd_same⟩, .cons (hv.same w17) .nil, (fun y hy => by rw [List.mem_singleton.mp hy]; exact hx), Nat.le_refl 1, (by show 1 ≤ 4; decide), by
        have := nb_few (n := n) (k := 55) (W := [x]) n1 (fun y hy => by rw [List.mem_singleton.mp hy]; exact hx) (List.cons_ne_nil _ _) fun y hy => by rw [List.mem_singleton.mp hy]; exact hst
        rw [List.length_singleton] at this ⊢
        omega⟩
    obtain ⟨eD, hDA⟩ := hDA
    rw [← eD]
    rw [← eD] at hDA hwsA hbA BA
    generalize upd H16 D' (.lst [v]) = HA at hDA hwsA hbA BA ⊢
  case' false =>
    have hbA := hb15
    have BA := B14.trans B1415
    have hDA := B1415.at Db hD
    have hwsA := hws.mono fun v x (k : Nd H14 v x) => k.but B1415 hb14
    have hWA : ∀ x ∈ W, isN n x := fun x hx => (hW x hx).1
    have w1 : 1 ≤ W.length := by omega
    have w4 : W.length ≤ 4 := by omega
    have hfew : W.length + (nb n 0 (srt W)).length ≤ 60 := by
      have := nb_few (n := n) (k := 12) n1 hWA (fun z => by rw [z] at w1; exact absurd w1 (by decide)) fun y hy => (hW y hy).2
      have : 12 * W.length ≤ 48 := by omega
      omega
    generalize H15 = HA at hDA hwsA hbA BA ⊢
    generalize Dn = D' at hDA ⊢
    generalize ws = ws' at hDA hwsA
    generalize W = W' at hwsA hWA w1 w4 hfew
  all_goals
    have wW := nodes_wn hWA
    have wl := hwsA.len
    obtain ⟨x0, W0, eW⟩ := List.exists_cons_of_ne_nil (l := W') (fun z => by rw [z] at w1; exact absurd w1 (by decide))
    have Rup := nb_up (n := n) (srt W') 0 wW.srt (Nat.zero_le _)
    have RN : ∀ x ∈ nb n 0 (srt W'), isN n x := fun x hx => (nb_srt_due wW hx).1
    refine ⟨_, rfl, _, rfl, n, D', ws', W', rfl, n1, h30, hDA, hwsA, w1, by omega, hWA, fun H1 tr rs s1 ntr htr hrs => ?_⟩
    have hD1 := s1 _ _ hDA
    have hws1 := hwsA.mono fun v x (k : Nd HA v x) => k.same s1
    refine ⟨_, rfl, _, rfl, _, rfl, n, D', tr, ws', rs, W', rfl, n1, h30, hD1, hws1, w1, hWA, htr, hrs, hfew, fun H2 s2 => ⟨true, rfl, ?_⟩⟩
    have near : ∀ O, Wn n O → (∀ i, cov O i ↔ cov W' i) → nb n 0 (srt O) = nb n 0 (srt W') := fun O a b => nb_near a wW b
    generalize nb n 0 (srt W') = R at hrs hfew Rup RN near
    have rl := hrs.len
    refine ⟨_, rfl, D', ws', W', rfl, s2 _ _ hD1, hws1.mono (fun v x (k : Nd H1 v x) => k.same s2), by omega, (fun x hx => by have := wW x hx; omega), fun H3 tp_ ts T s3 ntp htp hT Tpw Tnd Tiff => ?_⟩
    have TN : ∀ t ∈ T, isN n t := fun t ht => hWA t ((Tiff t).mp ht).1
    have Tup : Up 0 T := up_of Tpw Tnd (fun x hx => (isN_tree (n := n) (b := x.1) (e := x.2) (TN x hx)).1) fun x hx y hy c => tp_apart hWA ((Tiff x).mp hx) ((Tiff y).mp hy) c
    have Tl' : T.length ≤ W'.length := nodup_len T W' Tnd fun x hx => ((Tiff x).mp hx).1
    refine ⟨_, rfl, _, rfl, n, tp_, ts, T, rfl, n1, h30, htp, hT, by omega, TN, Tup, fun H4 j s4 hj => ?_⟩
    have s14 := s2.trans (s3.trans s4)
    have hD4 := s14 _ _ hD1
    have hws4 := hws1.mono fun v x (k : Nd H1 v x) => k.same s14
    have htr4 := s14 _ _ htr
    have hrs4 := hrs.mono fun v x (k : Nd H1 v x) => k.same s14
    have htp4 := s4 _ _ htp
    have hT4 := hT.mono fun v x (k : Nd H3 v x) => k.same s4
    have hb4 := (hbA.same s1).same s14
    have B4 := (BA.trans (But.of (b := bg) s1)).trans (But.of (b := bg) s14)
    clear hbA BA hDA hwsA s1 hD1 hws1 htr hrs s2 s3 s4 s14 htp hT ntr ntp
    refine ⟨j, rfl, ?_⟩
    cases j
    case' false =>
      refine ⟨_, rfl, _, rfl, n, D', ws', W', rfl, n1, h30, hD4, hws4, w1, by omega, hWA, fun H5 kt ks s5 nkt hkt hks => ⟨_, rfl, ?_⟩⟩
      rw [kt_is hWA Tiff Tup fun hs => by cases hj hs] at hks
      refine ⟨_, _, lst_dp hkt hks, lst_dp (s5 _ _ htp4) (hT4.mono fun v x (k : Nd H4 v x) => k.same s5), nds_shaped _, nds_shaped _, ?_⟩
      rw [nds_eqv, decide_eq_true rfl]
      refine ⟨false, rfl, ?_⟩
      have sC := s5
      generalize H5 = HC at sC ⊢
    case' true =>
      obtain ⟨HC, hHC⟩ : ∃ HC, HC = H4 := ⟨_, rfl⟩
      rw [← hHC]
      have sC : Same H4 HC := by rw [hHC]; exact Same.refl H4
      clear hHC
    all_goals
      have hDC := sC _ _ hD4
      have hwC := hws4.mono fun v x (k : Nd H4 v x) => k.same sC
      have htC := sC _ _ htr4
      have hrC := hrs4.mono fun v x (k : Nd H4 v x) => k.same sC
      have hbC := hb4.same sC
      have BC := B4.trans (But.of (b := bg) sC)
      clear sC hD4 hws4 htr4 hrs4 htp4 hT4 hb4 B4 hj
      obtain ⟨v0, hv0, hN0⟩ := hwC.nth2 (show W'[0]? = some x0 by rw [eW]; rfl)
      have x0N : isN n x0 := hWA x0 (by rw [eW]; exact List.mem_cons_self)
      obtain ⟨x12, xn, xt⟩ := isN_tree (n := n) (b := x0.1) (e := x0.2) x0N
      obtain ⟨c0, rfl, hc0⟩ := id hN0
      refine ⟨_, rfl, D', _, _, _, rfl, rfl, SqL.of hDC, atI_nat (j := 0) hv0, ?_⟩
      have q0 : atI [V.int (x0.1 : Int), V.int (x0.2 : Int)] 0 = some (.int (x0.1 : Int)) := atI_nat (j := 0) rfl
      have q1 : atI [V.int (x0.1 : Int), V.int (x0.2 : Int)] 1 = some (.int (x0.2 : Int)) := atI_nat (j := 1) rfl
      refine ⟨_, rfl, c0, _, _, _, rfl, rfl, SqT.of hc0, q1, _, rfl, c0, _, _, _, rfl, rfl, SqT.of hc0, q0, _, _, rfl, rfl, _, _, rfl, rfl, decide (2 ≤ x0.2 - x0.1), congrArg V.bl (decide_eq_decide.mpr (by omega)), ?_⟩
      cases hbig : decide (2 ≤ x0.2 - x0.1)
      case' true =>
        have m2 : 2 ≤ x0.2 - x0.1 := of_decide_eq_true hbig
        have g1 := gp_lt m2
        have g2 := gp_pos (x0.2 - x0.1)
        have hL := half_low_isN m2 xt (by omega)
        have hH := half_high_isN m2 xt (by omega)
        rw [show x0.1 + (x0.2 - x0.1) = x0.2 by omega] at hH
        refine ⟨_, rfl, 1, rfl, D', _, rfl, SqL.of hDC, fun c nc => ?_⟩
        rw [cut_1]
        have w5 := same_upd (o := .lst (ws'.drop 1)) nc
        have hc5 := upd_same (H := HC) (a := c) (o := .lst (ws'.drop 1))
        generalize upd HC c (.lst (ws'.drop 1)) = H5 at w5 hc5 ⊢
        refine ⟨_, rfl, x0.1, x0.2, .ref c0, rfl, hN0.same w5, by omega, by omega, fun H6 qq la ha s6 nq hq hla hha => ?_⟩
        refine ⟨qq, _, rfl, .inr (SqT.of hq), fun l1 nl1 => ?_⟩
        have w7 := same_upd (o := .lst [la, ha]) nl1
        have h7 := upd_same (H := H6) (a := l1) (o := .lst [la, ha])
        have s57 := s6.trans w7
        have hla7 := hla.same w7
        have hha7 := hha.same w7
        generalize upd H6 l1 (.lst [la, ha]) = H7 at w7 h7 s57 hla7 hha7 ⊢
        refine ⟨l1, _, rfl, SqL.of h7, fun l2 nl2 => ?_⟩
        have w8 := same_upd (o := .lst [la, ha].reverse) nl2
        refine ⟨c, l2, _, _, rfl, rfl, w8 _ _ (s57 _ _ hc5), upd_same, szle (by rw [List.length_drop]; show _ + 2 ≤ _; omega), fun r nr => ?_⟩
        have w9 := same_upd (o := .lst (ws'.drop 1 ++ [la, ha].reverse)) nr
        have s59 := s57.trans (w8.trans w9)
        have sC9 := w5.trans s59
        have hr9 := upd_same (H := upd H7 l2 (.lst [la, ha].reverse)) (a := r) (o := .lst (ws'.drop 1 ++ [la, ha].reverse))
        have hO9 : All2 (Nd (upd (upd H7 l2 (.lst [la, ha].reverse)) r (.lst (ws'.drop 1 ++ [la, ha].reverse)))) (ws'.drop 1 ++ [la, ha].reverse) (W'.drop 1 ++ [(x0.1 + gp (x0.2 - x0.1), x0.2), (x0.1, x0.1 + gp (x0.2 - x0.1))]) :=
          ((hwC.dropN 1).mono fun v x (k : Nd HC v x) => k.same sC9).app (.cons ((hha7.same w8).same w9) (.cons ((hla7.same w8).same w9) .nil))
        generalize upd (upd H7 l2 (.lst [la, ha].reverse)) r (.lst (ws'.drop 1 ++ [la, ha].reverse)) = H9 at sC9 hr9 hO9 ⊢
        obtain ⟨O, hOe⟩ : ∃ O, O = W'.drop 1 ++ [(x0.1 + gp (x0.2 - x0.1), x0.2), (x0.1, x0.1 + gp (x0.2 - x0.1))] := ⟨_, rfl⟩
        rw [← hOe] at hO9
        have ol := hO9.len
        have Ol : O.length = W'.length + 1 := by rw [hOe, List.length_append, List.length_drop]; show _ - 1 + 2 = _; omega
        have ON : ∀ x ∈ O, isN n x := fun x hx => by
          rw [hOe] at hx
          rcases List.mem_append.mp hx with hx | hx
          · exact hWA x (List.mem_of_mem_drop hx)
          · rcases List.mem_cons.mp hx with rfl | hx
            · exact hH
            · rw [List.mem_singleton.mp hx]
              exact hL
        have Oc : ∀ i, cov O i ↔ cov W' i := fun i => by
          rw [hOe, eW]
          constructor
          · rintro ⟨s, hs, s1, s2⟩
            rcases List.mem_append.mp hs with hs | hs
            · exact ⟨s, List.mem_cons_of_mem _ hs, s1, s2⟩
            · refine ⟨x0, List.mem_cons_self, ?_, ?_⟩ <;> rcases List.mem_cons.mp hs with rfl | hs
              · dsimp only at s1; omega
              · rw [List.mem_singleton.mp hs] at s1; exact s1
              · exact s2
              · rw [List.mem_singleton.mp hs] at s2; dsimp only at s2; omega
          · rintro ⟨s, hs, s1, s2⟩
            rcases List.mem_cons.mp hs with rfl | hs
            · by_cases z : i < s.1 + gp (s.2 - s.1)
              · exact ⟨(s.1, s.1 + gp (s.2 - s.1)), List.mem_append_right _ (List.mem_cons_of_mem _ (List.mem_singleton_self _)), s1, z⟩
              · exact ⟨(s.1 + gp (s.2 - s.1), s.2), List.mem_append_right _ List.mem_cons_self, by show _ ≤ i; omega, s2⟩
            · exact ⟨s, List.mem_append_left _ hs, s1, s2⟩
        have hD9 := sC9 _ _ hDC
        have hw9 := hwC.mono fun v x (k : Nd HC v x) => k.same sC9
        have ht9 := sC9 _ _ htC
        have hrr9 := hrC.mono fun v x (k : Nd HC v x) => k.same sC9
        have hv9 := hN0.same sC9
        have hb9 := hbC.same sC9
        have B9 := BC.trans (But.of (b := bg) sC9)
        clear sC9 s59 w9 w8 s57 w7 s6 w5 hc5 h7 hla7 hha7 hla hha hq hDC hwC htC hrC hbC BC nr nl2 nl1 nq nc
        refine ⟨_, rfl, _, rfl, n, r, _, O, rfl, n1, h30, hr9, hO9, by omega, by omega, ON, fun H10 ma ms s10 nma hma hms => ⟨_, rfl, ?_⟩⟩
        rw [near O (nodes_wn ON) Oc] at hms
        refine ⟨_, _, lst_dp hma hms, lst_dp (s10 _ _ ht9) (hrr9.mono fun v x (k : Nd H9 v x) => k.same s10), nds_shaped _, nds_shaped _, ?_⟩
        rw [nds_eqv, decide_eq_true rfl]
        refine ⟨false, rfl, ?_⟩
        refine ⟨_, rfl, _, rfl, n, r, _, O, rfl, n1, h30, s10 _ _ hr9, hO9.mono (fun v x (k : Nd H9 v x) => k.same s10), by omega, by omega, ON, fun H11 ka kas s11 nka hka hkas => ?_⟩
        have s911 := s10.trans s11
        refine ⟨_, rfl, _, rfl, n, D', ws', W', rfl, n1, h30, s911 _ _ hD9, hw9.mono (fun v x (k : Nd H9 v x) => k.same s911), w1, by omega, hWA, fun H12 kb kbs s12 nkb hkb hkbs => ?_⟩
        rw [jn_near (nodes_wn ON) wW Oc] at hkas
        refine ⟨_, _, lst_dp (s12 _ _ hka) (hkas.mono fun v x (k : Nd H11 v x) => k.same s12), lst_dp hkb hkbs, nds_shaped _, nds_shaped _, ?_⟩
        rw [nds_eqv, decide_eq_true rfl]
        refine ⟨false, rfl, ?_⟩
        have s912 := s911.trans s12
        refine ⟨_, rfl, _, rfl, one1, fun l nl => ?_⟩
        have w13 := same_upd (o := .lst [V.ref c0]) nl
        have h13 := upd_same (H := H12) (a := l) (o := .lst [V.ref c0])
        have s913 := s912.trans w13
        refine ⟨_, rfl, l, r, _, _, rfl, rfl, h13, s913 _ _ hr9, szle (by rw [ol]; show 1 + _ ≤ _; omega), fun r2 nr2 => ?_⟩
        have w14 := same_upd (o := .lst ([V.ref c0] ++ (ws'.drop 1 ++ [la, ha].reverse))) nr2
        have s914 := s913.trans w14
        have nO : ∀ x ∈ x0 :: O, isN n x := fun x hx => by
          rcases List.mem_cons.mp hx with rfl | hx
          · exact x0N
          · exact ON x hx
        refine ⟨n, r2, _, x0 :: O, rfl, n1, h30, upd_same, .cons (hv9.same s914) (hO9.mono fun v x (k : Nd H9 v x) => k.same s914), by rw [List.length_cons]; omega, by rw [List.length_cons]; omega, nO, fun H15 na' s15 nna hna => ?_⟩
        have hint : H15 na' = some (.lst (((ndl (x0 :: O) (x0 :: O).length).map fun i : Nat => (i : Int)).map V.int)) := by
          rw [hna, List.map_map]
          rfl
        refine ⟨_, _, .int 0, .lst (SqL.of hint) (ints_dp _), rfl, ints_shaped _, ?_⟩
        have zin : (0 : Int) ∈ (ndl (x0 :: O) (x0 :: O).length).map fun i : Nat => (i : Int) := by
          refine List.mem_map.mpr ⟨0, ?_, rfl⟩
          unfold ndl
          refine List.mem_filter.mpr ⟨List.mem_range.mpr (by rw [List.length_cons]; omega), ?_⟩
          show lies x0 (jn (srt ([] ++ O))) = true
          exact lies_cov (nodes_wn ON) x12 fun i i1 i2 => (Oc i).mpr ⟨x0, by rw [eW]; exact List.mem_cons_self, i1, i2⟩
        rw [any_int, decide_eq_true zin]
        refine ⟨false, rfl, ?_⟩
        have sX := s914.trans s15
        have tX := sX _ _ ht9
        have rX := hrr9.mono fun v x (k : Nd H9 v x) => k.same sX
        have vX := hv9.same sX
        have bX := hb9.same sX
        have BX := B9.trans (But.of (b := bg) sX)
        generalize H15 = HX at tX rX vX bX BX ⊢
      case' false =>
        have tX := htC
        have rX := hrC
        have vX := hN0
        have bX := hbC
        have BX := BC
        generalize HC = HX at tX rX vX bX BX ⊢
      all_goals
        refine ⟨_, rfl, Nat.zero_le _, fun l nl => ?_⟩
        have w1' := same_upd (o := .lst []) nl
        refine ⟨_, _, lst_dp (w1' _ _ tX) (rX.mono fun v x (k : Nd HX v x) => k.same w1'), lst_dp (l := []) upd_same .nil, nds_shaped _, nds_shaped _, ?_⟩
        rw [nds_eqv]
        refine ⟨!decide (R = []), rfl, ?_⟩
        have tY := w1' _ _ tX
        have rY := rX.mono fun v x (k : Nd HX v x) => k.same w1'
        have vY := vX.same w1'
        have bY := bX.same w1'
        have BY := BX.trans (But.of (b := bg) w1')
        generalize upd HX l (.lst []) = HY at tY rY vY bY BY ⊢
        cases hre : decide (R = [])
        case' true => exact q HY BY bY
        case' false =>
          have R1 : 1 ≤ R.length := List.length_pos_iff.mpr (of_decide_eq_false hre)
          refine ⟨_, rfl, _, rfl, _, rfl, two, fun l2 nl2 => ?_⟩
          have w2 := same_upd (o := .lst [V.ref c0, V.ref c0]) nl2
          refine ⟨n, l2, _, [x0, x0], rfl, n1, h30, upd_same, .cons (vY.same w2) (.cons (vY.same w2) .nil), (by show 1 ≤ 2; decide), (by show 2 ≤ 60; decide), (fun x hx => by
            rcases List.mem_cons.mp hx with rfl | hx
            · exact x0N
            · rw [List.mem_singleton.mp hx]; exact x0N), fun H3' na' s3 nna hna => ⟨two, fun l4 nl4 => ?_⟩⟩
          have wx : Wn n [x0] := fun x hx => by rw [List.mem_singleton.mp hx]; exact ⟨x12, xn⟩
          have lx : lies x0 (jn (srt [x0])) = true := lies_cov wx x12 fun i i1 i2 => ⟨x0, List.mem_singleton_self _, i1, i2⟩
          have nd2 : ndl [x0, x0] [x0, x0].length = [0, 1] := by
            unfold ndl
            rw [show List.range [x0, x0].length = [0, 1] from rfl]
            refine List.filter_eq_self.mpr fun i hi => ?_
            rcases List.mem_cons.mp hi with rfl | hi
            · exact lx
            · rw [List.mem_singleton.mp hi]
              exact lx
          rw [nd2] at hna
          have w5 := same_upd (o := .lst [V.int 0, V.int 1]) nl4
          refine ⟨_, _, .lst (SqL.of (w5 _ _ hna)) (ints_dp [0, 1]), .lst (SqL.of upd_same) (ints_dp [0, 1]), ints_shaped _, ints_shaped _, ?_⟩
          rw [ints_refl]
          refine ⟨true, rfl, ?_⟩
          have s25 := w2.trans (s3.trans w5)
          refine ⟨_, rfl, _, rfl, 60, rfl, tr, _, rfl, SqL.of (s25 _ _ tY), fun c nc => ?_⟩
          rw [cut_60]
          have w6 := same_upd (o := .lst (rs.take 60)) nc
          have s26 := s25.trans w6
          have upT : Up 0 (R.take 60) := up_of_pair _ 0 (Rup.pair.sublist (List.take_sublist _ _)) fun x hx => ⟨Nat.zero_le _, (Rup.mem x (List.mem_of_mem_take hx)).2⟩
          refine ⟨n, c, _, R.take 60, rfl, n1, h30, upd_same, (rY.takeN 60).mono (fun v x (k : Nd HY v x) => k.same s26), by rw [List.length_take]; omega, by rw [List.length_take]; omega, fun x hx => RN x (List.mem_of_mem_take hx), fun H7' nb7 s7 nnb hnb => ⟨Nat.zero_le _, fun l8 nl8 => ?_⟩⟩
          rw [ndl_none upT _ (Nat.le_refl _)] at hnb
          have w8 := same_upd (o := .lst []) nl8
          refine ⟨_, _, lst_dp (l := []) (w8 _ _ hnb) .nil, lst_dp (l := []) upd_same .nil, nds_shaped _, nds_shaped _, ?_⟩
          rw [nds_eqv, decide_eq_true rfl]
          have sE := s26.trans (s7.trans w8)
          exact q _ (BY.trans (But.of (b := bg) sE)) (bY.same sE)
end
end LT

namespace LT
open PySem PySem.Spec PyProof.Rows L2
theorem script_at {ns : List Int} {lo hi : Option Int} {i : Nat} {x : V} (h : (cutV (ns.map V.int) lo hi ++ [.int 0])[i]? = some x) : ∃ c : Int, x = .int c := by
  have m := List.mem_of_getElem? h
  rcases List.mem_append.mp m with m | m
  · unfold cutV at m
    have m2 := List.mem_of_mem_drop (List.mem_of_mem_take m)
    obtain ⟨c, _, e⟩ := List.mem_map.mp m2
    exact ⟨c, e.symm⟩
  · exact ⟨0, List.mem_singleton.mp m⟩
theorem sqSame {K : PySem.W.Frag} {H H' : Hp} {a : Addr} {xs : List V} (h : SqL K H a xs) (e : Same H H') : SqL K H' a xs :=
  h.elim (fun h => .inl (h.elim (fun h => .inl (e _ _ h)) fun ⟨o, h⟩ => .inr ⟨o, e _ _ h⟩)) fun h => .inr h
def spLaw (K : PySem.W.Frag) : Sp := fun vs H Q _ => ∃ (a : Addr) (ns : List Int), vs = [.ref a] ∧ SqL K H a (ns.map V.int) ∧ ns.length ≤ 63 ∧ ∀ H', Q (.bl true) H'
end LT

namespace LT
open PySem PySem.Spec PyProof.Rows L2
theorem side_srt : srt [(0, 1)] = [(0, 1)] := srt_id (.cons (fun y hy => absurd hy List.not_mem_nil) .nil)
theorem side_three : (nb (2 ^ 90) 0 [(0, 1)]).take 3 = [(1, 2), (2, 4), (4, 8)] := by decide +kernel
theorem side_len : (nb (2 ^ 90) 0 [(0, 1)]).length = 90 := by decide +kernel
theorem side_node : isN (2 ^ 90) (0, 1) := ⟨by decide, by decide +kernel, by decide +kernel, .inl (by decide +kernel)⟩
section
variable {P : Program} {w : World} {K : PySem.W.Frag} {mg : Str → Option Value} {base : Heap}
theorem ok_law {f g1 g2 g3 g4 : Addr} {fd d1 d2 d3 d4 : FuncData} (F : Fun K "law" "law" sLaw f fd)
    (GLawBag : FnOk P w K mg base CX0 1 g1 d1 ["cell"] spBag) (ALawBag : At K mg "_law_bag" g1 d1 ["cell"])
    (GLawSize : FnOk P w K mg base CX0 2 g2 d2 ["bag", "most"] spSizeM) (ALawSize : At K mg "_law_size" g2 d2 ["bag", "most"])
    (GLawRight : FnOk P w K mg base CX0 8 g3 d3 ["bag", "size"] spRight) (ALawRight : At K mg "_law_right" g3 d3 ["bag", "size"]) (GMissing : FnOk P w K mg base CX0 6 g4 d4 ["size", "nodes"] spMissing) (AMissing : At K mg "missing" g4 d4 ["size", "nodes"]) (z_len : mg "len" = none) : FnOk P w K mg base CX0 9 f fd ["script"] (spLaw K) := by
  refine F.ok scLaw (fun vs H Q E h => ?_) (fun cdv A outer s H vs Q E hr h => ?_)
  · obtain ⟨_, _, rfl, _⟩ := h
    rfl
  obtain ⟨a, ns, rfl, hs, hn, q⟩ := h
  refine ⟨_, (pss_cons (ps_for PassesOwn.never rfl (pi_list (pe_op op_cat (pe_slice sl_list (pv 0) po_none (po_some pe_int)) (pe_lst (pa_cons pe_int pa_nil)))) (pg_name (i := 1) scLaw.nd rfl (Or.inl rfl))
    (pss_cons (ps_set (i := 2) scLaw.nd rfl (Or.inl rfl) (pe_call GLawBag (hr.mono (by decide)) rfl ALawBag.m ALawBag.kp ALawBag.b .nil pass0 (pa_cons (pv 1) pa_nil)))
    (pss_one (ps_for PassesOwn.never rfl (pi_tup (pe_tup (pa_cons (pe_op op_pow pe_int pe_int) (pa_cons (pe_op op_pow pe_int pe_int) (pa_cons pe_int pa_nil))))) (pg_name (i := 3) scLaw.nd rfl (Or.inl rfl))
    (pss_one (ps_if (pt_not (pt_val (pe_call GLawRight (hr.mono (by decide)) rfl ALawRight.m ALawRight.kp ALawRight.b .nil pass0 (pa_cons (pv 2) (pa_cons (pe_call GLawSize (hr.mono (by decide)) rfl ALawSize.m ALawSize.kp ALawSize.b .nil pass0 (pa_cons (pv 2) (pa_cons (pv 3) pa_nil))) pa_nil)))))
    (pss_one (ps_ret pe_bl))
    pss_nil))))))
    (pss_cons (ps_set (i := 4) scLaw.nd rfl (Or.inl rfl) (pe_op op_shl pe_int pe_int))
    (pss_one (ps_ret (pe_and (pe_cmpR (op_eqD hr.units) (pe_slice sl_list (pe_call GMissing (hr.mono (by decide)) rfl AMissing.m AMissing.kp AMissing.b .nil pass0 (pa_cons (pv 4) (pa_cons (pe_lst (pa_cons (pe_tup (pa_cons pe_int (pa_cons pe_int pa_nil))) pa_nil)) pa_nil))) po_none (po_some pe_int)) (pe_lst (pa_cons (pe_tup (pa_cons pe_int (pa_cons pe_int pa_nil))) (pa_cons (pe_tup (pa_cons pe_int (pa_cons pe_int pa_nil))) (pa_cons (pe_tup (pa_cons pe_int (pa_cons pe_int pa_nil))) pa_nil)))) (nomark _)) (pe_one (pe_cmpR op_eq (pe_callB call_len_seq (by rfl) z_len PySem.boot_len (pa_cons (pe_call GMissing (hr.mono (by decide)) rfl AMissing.m AMissing.kp AMissing.b .nil pass0 (pa_cons (pv 4) (pa_cons (pe_lst (pa_cons (pe_tup (pa_cons pe_int (pa_cons pe_int pa_nil))) pa_nil)) pa_nil))) pa_nil)) pe_int (nomark _)))))))), ?_⟩
  have one1 : 1 ≤ sizeLine := by decide
  have two : 2 ≤ sizeLine := by decide
  refine ⟨_, rfl, 6, rfl, a, _, rfl, hs, fun c nc => ⟨one1, fun z nz => ?_⟩⟩
  have s1 := same_upd (o := .lst (cutV (ns.map V.int) none (some 6))) nc
  have s2 := same_upd (o := .lst [.int 0]) nz
  have hcl := cutV_length (ns.map V.int) none (some 6)
  rw [List.length_map] at hcl
  refine ⟨c, z, _, _, rfl, rfl, s2 _ _ upd_same, upd_same, szle (by rw [List.length_singleton]; omega), fun r nr => ?_⟩
  have hr0 : (upd (upd (upd H c (.lst (cutV (ns.map V.int) none (some 6)))) z (.lst [.int 0])) r (.lst (cutV (ns.map V.int) none (some 6) ++ [.int 0]))) r = some (.lst (cutV (ns.map V.int) none (some 6) ++ [.int 0])) := upd_same
  generalize upd (upd (upd H c (.lst (cutV (ns.map V.int) none (some 6)))) z (.lst [.int 0])) r (.lst (cutV (ns.map V.int) none (some 6) ++ [.int 0])) = H0 at hr0
  refine ⟨r, rfl, ⟨_, SqL.of hr0⟩, for_list (K := K) (a := r) (xs := cutV (ns.map V.int) none (some 6) ++ [.int 0]) (fun i σ H' => ∃ v1 v2 v3 : Option V, σ = [some (.ref a), v1, v2, v3, none] ∧ Same H0 H')
    ⟨none, none, none, rfl, Same.refl _⟩ (fun i σ H' _ ⟨_, _, _, _, s5⟩ => SqL.of (s5 _ _ hr0)) ?_ ?_⟩
  · rintro i x σ H1 hi ⟨v1, v2, v3, rfl, sm1⟩
    obtain ⟨cell, rfl⟩ := script_at hi
    refine ⟨_, rfl, cell, rfl, fun H2 b sm2 nb hb => ?_⟩
    have nb0 : H0 b = none := sm1.free nb
    have B2 : But b H0 H2 := But.of (sm1.trans sm2)
    refine ⟨_, _, rfl, rfl, ⟨by decide, by decide, by decide⟩, _, _, rfl, rfl, ⟨by decide, by decide, by decide⟩, (by show 3 ≤ sizeLine; decide), fun t nt => ?_⟩
    have s4 := same_upd (o := .tup [.int (10 ^ Int.toNat 30), .int (10 ^ Int.toNat 9), .int 99]) nt
    have tb := hb.ne nt
    have h4 : (upd H2 t (.tup [.int (10 ^ Int.toNat 30), .int (10 ^ Int.toNat 9), .int 99])) t = some (.tup ([10 ^ 30, 10 ^ 9, 99].map fun x : Nat => V.int (x : Int))) := by rw [upd_same]; rfl
    have hl : ∀ x ∈ [10 ^ 30, 10 ^ 9, 99], 1 ≤ x ∧ x ≤ 10 ^ 30 := by decide
    have B4 := B2.trans (But.of s4)
    have b4 := hb.same s4
    generalize upd H2 t (.tup [.int (10 ^ Int.toNat 30), .int (10 ^ Int.toNat 9), .int 99]) = H4 at h4 B4 b4
    generalize [10 ^ 30, 10 ^ 9, 99] = L at h4 hl
    refine ⟨t, rfl, ⟨_, SqT.of h4⟩, for_tup (K := K) (a := t) (xs := L.map fun x : Nat => V.int (x : Int)) (fun j σ H' => ∃ v3 : Option V, σ = [some (.ref a), some (.int cell), some (.ref b), v3, none] ∧ But b H0 H' ∧ But b H4 H' ∧ BagAt H' b)
      ⟨v3, rfl, B4, But.refl _ _, b4⟩ (fun i σ H' _ ⟨_, _, _, k, _⟩ => SqT.of (k _ _ tb h4)) ?_ ?_⟩
    · rintro j x σ H5 hj ⟨v3, rfl, B5, C5, b5⟩
      rw [List.getElem?_map] at hj
      obtain ⟨most, ht, rfl⟩ := Option.map_eq_some_iff.mp hj
      obtain ⟨t1, t30⟩ := hl most (List.mem_of_getElem? ht)
      refine ⟨_, rfl, _, rfl, _, rfl, b, most, rfl, t1, t30, b5, fun n H6 n1 n30 B6 b6 => ?_⟩
      refine ⟨b, n, rfl, n1, by omega, b6, fun H7 B7 b7 => ⟨true, rfl, ?_⟩⟩
      exact ⟨_, rfl, (B5.trans B6).trans B7, (C5.trans B6).trans B7, b7⟩
    · rintro σ H5 ⟨v3, rfl, B5, C5, b5⟩
      exact ⟨_, _, _, rfl, fun u o k => B5 u o (ne_of_none k nb0) k⟩
  · rintro σ H1 ⟨v1, v2, v3, rfl, sm1⟩
    have two : 2 ≤ sizeLine := by decide
    have three : 3 ≤ sizeLine := by decide
    refine ⟨_, _, rfl, rfl, ⟨by decide, by decide, by decide⟩, ?_⟩
    have e90 : (1 : Int) * 2 ^ Int.toNat 90 = ((2 ^ 90 : Nat) : Int) := by decide +kernel
    dsimp only
    rw [e90]
    have sN : ∀ x ∈ [((0 : Nat), (1 : Nat))], isN (2 ^ 90) x := fun x hx => by rw [List.mem_singleton.mp hx]; exact side_node
    refine ⟨_, rfl, two, fun ta na => ⟨one1, fun la nla => ?_⟩⟩
    have w1 := same_upd (o := .tup [.int 0, .int 1]) na
    have w2 := same_upd (o := .lst [V.ref ta]) nla
    refine ⟨2 ^ 90, la, [V.ref ta], [(0, 1)], rfl, by decide +kernel, by decide +kernel, upd_same, .cons ⟨ta, rfl, w2 _ _ upd_same⟩ .nil, Nat.le_refl 1, (by show 1 ≤ 60; decide), sN, fun H2 r ys s2 nr hr hy => ?_⟩
    rw [side_srt] at hy
    refine ⟨3, rfl, r, _, rfl, SqL.of hr, fun c nc => ?_⟩
    rw [show cutV ys none (some 3) = ys.take 3 from cut_take ys 3]
    have v1 := same_upd (o := .lst (ys.take 3)) nc
    have hc := upd_same (H := H2) (a := c) (o := .lst (ys.take 3))
    have hy3 := (hy.takeN 3).mono fun v x (k : Nd H2 v x) => k.same v1
    rw [side_three] at hy3
    generalize upd H2 c (.lst (ys.take 3)) = H3 at v1 hc hy3 ⊢
    refine ⟨two, fun t1 m1 => ⟨two, fun t2 m2 => ⟨two, fun t3 m3 => ⟨three, fun l nl => ?_⟩⟩⟩⟩
    have u1 := same_upd (o := .tup [.int 1, .int 2]) m1
    have u2 := same_upd (o := .tup [.int 2, .int 4]) m2
    have u3 := same_upd (o := .tup [.int 4, .int 8]) m3
    have u4 := same_upd (o := .lst [V.ref t1, V.ref t2, V.ref t3]) nl
    have u34 := u3.trans u4
    have u24 := u2.trans u34
    have u14 := u1.trans u24
    refine ⟨_, _, lst_dp (u14 _ _ hc) (hy3.mono fun v x (k : Nd H3 v x) => k.same u14), lst_dp (l := [(1, 2), (2, 4), (4, 8)]) upd_same (.cons ⟨t1, rfl, u24 _ _ upd_same⟩ (.cons ⟨t2, rfl, u34 _ _ upd_same⟩ (.cons ⟨t3, rfl, u4 _ _ upd_same⟩ .nil))), nds_shaped _, nds_shaped _, ?_⟩
    rw [nds_eqv, decide_eq_true rfl]
    refine ⟨true, rfl, ?_⟩
    refine ⟨_, rfl, two, fun tb nb' => ⟨one1, fun lb' nlb => ?_⟩⟩
    have w3 := same_upd (o := .tup [.int 0, .int 1]) nb'
    have w4 := same_upd (o := .lst [V.ref tb]) nlb
    refine ⟨2 ^ 90, lb', [V.ref tb], [(0, 1)], rfl, by decide +kernel, by decide +kernel, upd_same, .cons ⟨tb, rfl, w4 _ _ upd_same⟩ .nil, Nat.le_refl 1, (by show 1 ≤ 60; decide), sN, fun H5 r5 ys5 s5 nr5 hr5 hy5 => ⟨r5, ys5, rfl, .inl (SqL.of hr5), rfl, ?_⟩⟩
    rw [side_srt] at hy5
    have e : V.int ((ys5.length : Nat) : Int) = V.int 90 := by
      rw [hy5.len, side_len]
      rfl
    rw [decide_eq_true e]
    exact q _
end
end LT

namespace LT
open PySem PySem.Spec PyProof.Rows L2
theorem all_mk {l : PySem.W.OpenLaw} {w : World} {K : PySem.W.Frag} {h : Heap} {mg : Str → Option Value} {fa f0 f1 f2 f3 f4 f5 f6 f7 f8 f9 f10 f11 f12 f13 f14 f15 f16 f17 f18 f19 f20 f21 f22 f23 f24 f25 f26 f27 f28 f29 : Addr} (X : K.In h) (G : h.Ns mainGlobals mg) (hfa : mg "law" = some (.ref fa))
    {od0 an0 od1 an1 od2 an2 od3 an3 od4 an4 od5 an5 od6 an6 od7 an7 od8 an8 od9 an9 od10 an10 od11 an11 od12 an12 od13 an13 od14 an14 od15 an15 od16 an16 od17 an17 od18 an18 od19 an19 od20 an20 od21 an21 od22 an22 od23 an23 od24 an24 od25 an25 od26 an26 od27 an27 od28 an28 od29 an29 : Option Addr} {sl0 sl1 sl2 sl3 sl4 sl5 sl6 sl7 sl8 sl9 sl10 sl11 sl12 sl13 sl14 sl15 sl16 sl17 sl18 sl19 sl20 sl21 sl22 sl23 sl24 sl25 sl26 sl27 sl28 sl29 : Array (Option Value)} {oc0 kV0 dc0 pm0 cd0 ct0 oc1 kV1 dc1 pm1 cd1 ct1 oc2 kV2 dc2 pm2 cd2 ct2 oc3 kV3 dc3 pm3 cd3 ct3 oc4 kV4 dc4 pm4 cd4 ct4 oc5 kV5 dc5 pm5 cd5 ct5 oc6 kV6 dc6 pm6 cd6 ct6 oc7 kV7 dc7 pm7 cd7 ct7 oc8 kV8 dc8 pm8 cd8 ct8 oc9 kV9 dc9 pm9 cd9 ct9 oc10 kV10 dc10 pm10 cd10 ct10 oc11 kV11 dc11 pm11 cd11 ct11 oc12 kV12 dc12 pm12 cd12 ct12 oc13 kV13 dc13 pm13 cd13 ct13 oc14 kV14 dc14 pm14 cd14 ct14 oc15 kV15 dc15 pm15 cd15 ct15 oc16 kV16 dc16 pm16 cd16 ct16 oc17 kV17 dc17 pm17 cd17 ct17 oc18 kV18 dc18 pm18 cd18 ct18 oc19 kV19 dc19 pm19 cd19 ct19 oc20 kV20 dc20 pm20 cd20 ct20 oc21 kV21 dc21 pm21 cd21 ct21 oc22 kV22 dc22 pm22 cd22 ct22 oc23 kV23 dc23 pm23 cd23 ct23 oc24 kV24 dc24 pm24 cd24 ct24 oc25 kV25 dc25 pm25 cd25 ct25 oc26 kV26 dc26 pm26 cd26 ct26 oc27 kV27 dc27 pm27 cd27 ct27 oc28 kV28 dc28 pm28 cd28 ct28 oc29 kV29 dc29 pm29 cd29 ct29 : Value}
    (a0 : PySem.W.nsIn K mainGlobals "is_whole" = some (some (.ref f0))) (l0 : K.lookup f0 = some ⟨oc0, od0, .func (PySem.W.fnOf "is_whole" "is_whole" (defArgs sIsWhole) (defBody sIsWhole) (defScope sIsWhole) .none kV0 dc0 pm0 an0 cd0 ct0), sl0⟩) (c0 : PySem.W.codeIn K cd0 "is_whole" = true) (k0 : PySem.W.keepIn K (.ref f0) = true)
    (a1 : PySem.W.nsIn K mainGlobals "is_between" = some (some (.ref f1))) (l1 : K.lookup f1 = some ⟨oc1, od1, .func (PySem.W.fnOf "is_between" "is_between" (defArgs sIsBetween) (defBody sIsBetween) (defScope sIsBetween) .none kV1 dc1 pm1 an1 cd1 ct1), sl1⟩) (c1 : PySem.W.codeIn K cd1 "is_between" = true) (k1 : PySem.W.keepIn K (.ref f1) = true)
    (a2 : PySem.W.nsIn K mainGlobals "is_tree_node" = some (some (.ref f2))) (l2 : K.lookup f2 = some ⟨oc2, od2, .func (PySem.W.fnOf "is_tree_node" "is_tree_node" (defArgs sIsTreeNode) (defBody sIsTreeNode) (defScope sIsTreeNode) .none kV2 dc2 pm2 an2 cd2 ct2), sl2⟩) (c2 : PySem.W.codeIn K cd2 "is_tree_node" = true) (k2 : PySem.W.keepIn K (.ref f2) = true)
    (a3 : PySem.W.nsIn K mainGlobals "is_list_of" = some (some (.ref f3))) (l3 : K.lookup f3 = some ⟨oc3, od3, .func (PySem.W.fnOf "is_list_of" "is_list_of" (defArgs sIsListOf) (defBody sIsListOf) (defScope sIsListOf) .none kV3 dc3 pm3 an3 cd3 ct3), sl3⟩) (c3 : PySem.W.codeIn K cd3 "is_list_of" = true) (k3 : PySem.W.keepIn K (.ref f3) = true)
    (a4 : PySem.W.nsIn K mainGlobals "check_size" = some (some (.ref f4))) (l4 : K.lookup f4 = some ⟨oc4, od4, .func (PySem.W.fnOf "check_size" "check_size" (defArgs sCheckSize) (defBody sCheckSize) (defScope sCheckSize) .none kV4 dc4 pm4 an4 cd4 ct4), sl4⟩) (c4 : PySem.W.codeIn K cd4 "check_size" = true) (k4 : PySem.W.keepIn K (.ref f4) = true)
    (a5 : PySem.W.nsIn K mainGlobals "check_node" = some (some (.ref f5))) (l5 : K.lookup f5 = some ⟨oc5, od5, .func (PySem.W.fnOf "check_node" "check_node" (defArgs sCheckNode) (defBody sCheckNode) (defScope sCheckNode) .none kV5 dc5 pm5 an5 cd5 ct5), sl5⟩) (c5 : PySem.W.codeIn K cd5 "check_node" = true) (k5 : PySem.W.keepIn K (.ref f5) = true)
    {dT6 : Addr} {tc6 : Value} {td6 : Option Addr} {tits6 : Array Value} {tn6 : Nat} {tsl6 : Array (Option Value)}
    (a6 : PySem.W.nsIn K mainGlobals "check_nodes" = some (some (.ref f6))) (l6 : K.lookup f6 = some ⟨oc6, od6, .func (PySem.W.fnOf "check_nodes" "check_nodes" (defArgs sCheckNodes) (defBody sCheckNodes) (defScope sCheckNodes) (.ref dT6) kV6 dc6 pm6 an6 cd6 ct6), sl6⟩) (c6 : PySem.W.codeIn K cd6 "check_nodes" = true) (k6 : PySem.W.keepIn K (.ref f6) = true)
    (lT6 : K.lookup dT6 = some ⟨tc6, td6, .seq tits6 tn6, tsl6⟩) (vT6 : Vals [.int 1, .int 60] tits6.toList)
    (a7 : PySem.W.nsIn K mainGlobals "power_within" = some (some (.ref f7))) (l7 : K.lookup f7 = some ⟨oc7, od7, .func (PySem.W.fnOf "power_within" "power_within" (defArgs sPowerWithin) (defBody sPowerWithin) (defScope sPowerWithin) .none kV7 dc7 pm7 an7 cd7 ct7), sl7⟩) (c7 : PySem.W.codeIn K cd7 "power_within" = true) (k7 : PySem.W.keepIn K (.ref f7) = true)
    (a8 : PySem.W.nsIn K mainGlobals "_first_full" = some (some (.ref f8))) (l8 : K.lookup f8 = some ⟨oc8, od8, .func (PySem.W.fnOf "_first_full" "_first_full" (defArgs sFirstFull) (defBody sFirstFull) (defScope sFirstFull) .none kV8 dc8 pm8 an8 cd8 ct8), sl8⟩) (c8 : PySem.W.codeIn K cd8 "_first_full" = true) (k8 : PySem.W.keepIn K (.ref f8) = true)
    (a9 : PySem.W.nsIn K mainGlobals "nodes_within" = some (some (.ref f9))) (l9 : K.lookup f9 = some ⟨oc9, od9, .func (PySem.W.fnOf "nodes_within" "nodes_within" (defArgs sNodesWithin) (defBody sNodesWithin) (defScope sNodesWithin) .none kV9 dc9 pm9 an9 cd9 ct9), sl9⟩) (c9 : PySem.W.codeIn K cd9 "nodes_within" = true) (k9 : PySem.W.keepIn K (.ref f9) = true)
    (a10 : PySem.W.nsIn K mainGlobals "nodes_beside" = some (some (.ref f10))) (l10 : K.lookup f10 = some ⟨oc10, od10, .func (PySem.W.fnOf "nodes_beside" "nodes_beside" (defArgs sNodesBeside) (defBody sNodesBeside) (defScope sNodesBeside) .none kV10 dc10 pm10 an10 cd10 ct10), sl10⟩) (c10 : PySem.W.codeIn K cd10 "nodes_beside" = true) (k10 : PySem.W.keepIn K (.ref f10) = true)
    (a11 : PySem.W.nsIn K mainGlobals "is_node" = some (some (.ref f11))) (l11 : K.lookup f11 = some ⟨oc11, od11, .func (PySem.W.fnOf "is_node" "is_node" (defArgs sIsNode) (defBody sIsNode) (defScope sIsNode) .none kV11 dc11 pm11 an11 cd11 ct11), sl11⟩) (c11 : PySem.W.codeIn K cd11 "is_node" = true) (k11 : PySem.W.keepIn K (.ref f11) = true)
    (a12 : PySem.W.nsIn K mainGlobals "parent" = some (some (.ref f12))) (l12 : K.lookup f12 = some ⟨oc12, od12, .func (PySem.W.fnOf "parent" "parent" (defArgs sParent) (defBody sParent) (defScope sParent) .none kV12 dc12 pm12 an12 cd12 ct12), sl12⟩) (c12 : PySem.W.codeIn K cd12 "parent" = true) (k12 : PySem.W.keepIn K (.ref f12) = true)
    (a13 : PySem.W.nsIn K mainGlobals "joined" = some (some (.ref f13))) (l13 : K.lookup f13 = some ⟨oc13, od13, .func (PySem.W.fnOf "joined" "joined" (defArgs sJoined) (defBody sJoined) (defScope sJoined) .none kV13 dc13 pm13 an13 cd13 ct13), sl13⟩) (c13 : PySem.W.codeIn K cd13 "joined" = true) (k13 : PySem.W.keepIn K (.ref f13) = true)
    (a14 : PySem.W.nsIn K mainGlobals "_check" = some (some (.ref f14))) (l14 : K.lookup f14 = some ⟨oc14, od14, .func (PySem.W.fnOf "_check" "_check" (defArgs sCheck) (defBody sCheck) (defScope sCheck) .none kV14 dc14 pm14 an14 cd14 ct14), sl14⟩) (c14 : PySem.W.codeIn K cd14 "_check" = true) (k14 : PySem.W.keepIn K (.ref f14) = true)
    (a15 : PySem.W.nsIn K mainGlobals "gives_root" = some (some (.ref f15))) (l15 : K.lookup f15 = some ⟨oc15, od15, .func (PySem.W.fnOf "gives_root" "gives_root" (defArgs sGivesRoot) (defBody sGivesRoot) (defScope sGivesRoot) .none kV15 dc15 pm15 an15 cd15 ct15), sl15⟩) (c15 : PySem.W.codeIn K cd15 "gives_root" = true) (k15 : PySem.W.keepIn K (.ref f15) = true)
    (a16 : PySem.W.nsIn K mainGlobals "known_tops" = some (some (.ref f16))) (l16 : K.lookup f16 = some ⟨oc16, od16, .func (PySem.W.fnOf "known_tops" "known_tops" (defArgs sKnownTops) (defBody sKnownTops) (defScope sKnownTops) .none kV16 dc16 pm16 an16 cd16 ct16), sl16⟩) (c16 : PySem.W.codeIn K cd16 "known_tops" = true) (k16 : PySem.W.keepIn K (.ref f16) = true)
    (a17 : PySem.W.nsIn K mainGlobals "missing" = some (some (.ref f17))) (l17 : K.lookup f17 = some ⟨oc17, od17, .func (PySem.W.fnOf "missing" "missing" (defArgs sMissing) (defBody sMissing) (defScope sMissing) .none kV17 dc17 pm17 an17 cd17 ct17), sl17⟩) (c17 : PySem.W.codeIn K cd17 "missing" = true) (k17 : PySem.W.keepIn K (.ref f17) = true)
    (a18 : PySem.W.nsIn K mainGlobals "_lies_within" = some (some (.ref f18))) (l18 : K.lookup f18 = some ⟨oc18, od18, .func (PySem.W.fnOf "_lies_within" "_lies_within" (defArgs sLiesWithin) (defBody sLiesWithin) (defScope sLiesWithin) .none kV18 dc18 pm18 an18 cd18 ct18), sl18⟩) (c18 : PySem.W.codeIn K cd18 "_lies_within" = true) (k18 : PySem.W.keepIn K (.ref f18) = true)
    (a19 : PySem.W.nsIn K mainGlobals "needless" = some (some (.ref f19))) (l19 : K.lookup f19 = some ⟨oc19, od19, .func (PySem.W.fnOf "needless" "needless" (defArgs sNeedless) (defBody sNeedless) (defScope sNeedless) .none kV19 dc19 pm19 an19 cd19 ct19), sl19⟩) (c19 : PySem.W.codeIn K cd19 "needless" = true) (k19 : PySem.W.keepIn K (.ref f19) = true)
    (a20 : PySem.W.nsIn K mainGlobals "_law_bag" = some (some (.ref f20))) (l20 : K.lookup f20 = some ⟨oc20, od20, .func (PySem.W.fnOf "_law_bag" "_law_bag" (defArgs sLawBag) (defBody sLawBag) (defScope sLawBag) .none kV20 dc20 pm20 an20 cd20 ct20), sl20⟩) (c20 : PySem.W.codeIn K cd20 "_law_bag" = true) (k20 : PySem.W.keepIn K (.ref f20) = true)
    (a21 : PySem.W.nsIn K mainGlobals "_law_pick" = some (some (.ref f21))) (l21 : K.lookup f21 = some ⟨oc21, od21, .func (PySem.W.fnOf "_law_pick" "_law_pick" (defArgs sLawPick) (defBody sLawPick) (defScope sLawPick) .none kV21 dc21 pm21 an21 cd21 ct21), sl21⟩) (c21 : PySem.W.codeIn K cd21 "_law_pick" = true) (k21 : PySem.W.keepIn K (.ref f21) = true)
    (a22 : PySem.W.nsIn K mainGlobals "_law_size" = some (some (.ref f22))) (l22 : K.lookup f22 = some ⟨oc22, od22, .func (PySem.W.fnOf "_law_size" "_law_size" (defArgs sLawSize) (defBody sLawSize) (defScope sLawSize) .none kV22 dc22 pm22 an22 cd22 ct22), sl22⟩) (c22 : PySem.W.codeIn K cd22 "_law_size" = true) (k22 : PySem.W.keepIn K (.ref f22) = true)
    (a23 : PySem.W.nsIn K mainGlobals "_law_parted" = some (some (.ref f23))) (l23 : K.lookup f23 = some ⟨oc23, od23, .func (PySem.W.fnOf "_law_parted" "_law_parted" (defArgs sLawParted) (defBody sLawParted) (defScope sLawParted) .none kV23 dc23 pm23 an23 cd23 ct23), sl23⟩) (c23 : PySem.W.codeIn K cd23 "_law_parted" = true) (k23 : PySem.W.keepIn K (.ref f23) = true)
    (a24 : PySem.W.nsIn K mainGlobals "_law_walked" = some (some (.ref f24))) (l24 : K.lookup f24 = some ⟨oc24, od24, .func (PySem.W.fnOf "_law_walked" "_law_walked" (defArgs sLawWalked) (defBody sLawWalked) (defScope sLawWalked) .none kV24 dc24 pm24 an24 cd24 ct24), sl24⟩) (c24 : PySem.W.codeIn K cd24 "_law_walked" = true) (k24 : PySem.W.keepIn K (.ref f24) = true)
    (a25 : PySem.W.nsIn K mainGlobals "_law_tops" = some (some (.ref f25))) (l25 : K.lookup f25 = some ⟨oc25, od25, .func (PySem.W.fnOf "_law_tops" "_law_tops" (defArgs sLawTops) (defBody sLawTops) (defScope sLawTops) .none kV25 dc25 pm25 an25 cd25 ct25), sl25⟩) (c25 : PySem.W.codeIn K cd25 "_law_tops" = true) (k25 : PySem.W.keepIn K (.ref f25) = true)
    (a26 : PySem.W.nsIn K mainGlobals "_law_joins" = some (some (.ref f26))) (l26 : K.lookup f26 = some ⟨oc26, od26, .func (PySem.W.fnOf "_law_joins" "_law_joins" (defArgs sLawJoins) (defBody sLawJoins) (defScope sLawJoins) .none kV26 dc26 pm26 an26 cd26 ct26), sl26⟩) (c26 : PySem.W.codeIn K cd26 "_law_joins" = true) (k26 : PySem.W.keepIn K (.ref f26) = true)
    (a27 : PySem.W.nsIn K mainGlobals "_law_missing_right" = some (some (.ref f27))) (l27 : K.lookup f27 = some ⟨oc27, od27, .func (PySem.W.fnOf "_law_missing_right" "_law_missing_right" (defArgs sLawMissingRight) (defBody sLawMissingRight) (defScope sLawMissingRight) .none kV27 dc27 pm27 an27 cd27 ct27), sl27⟩) (c27 : PySem.W.codeIn K cd27 "_law_missing_right" = true) (k27 : PySem.W.keepIn K (.ref f27) = true)
    (a28 : PySem.W.nsIn K mainGlobals "_law_right" = some (some (.ref f28))) (l28 : K.lookup f28 = some ⟨oc28, od28, .func (PySem.W.fnOf "_law_right" "_law_right" (defArgs sLawRight) (defBody sLawRight) (defScope sLawRight) .none kV28 dc28 pm28 an28 cd28 ct28), sl28⟩) (c28 : PySem.W.codeIn K cd28 "_law_right" = true) (k28 : PySem.W.keepIn K (.ref f28) = true)
    (a29 : PySem.W.nsIn K mainGlobals "law" = some (some (.ref f29))) (l29 : K.lookup f29 = some ⟨oc29, od29, .func (PySem.W.fnOf "law" "law" (defArgs sLaw) (defBody sLaw) (defScope sLaw) .none kV29 dc29 pm29 an29 cd29 ct29), sl29⟩) (c29 : PySem.W.codeIn K cd29 "law" = true) (k29 : PySem.W.keepIn K (.ref f29) = true)
    (z_any : PySem.W.nsIn K mainGlobals "any" = some none)
    (z_bool : PySem.W.nsIn K mainGlobals "bool" = some none)
    (z_enumerate : PySem.W.nsIn K mainGlobals "enumerate" = some none)
    (z_int : PySem.W.nsIn K mainGlobals "int" = some none)
    (z_isinstance : PySem.W.nsIn K mainGlobals "isinstance" = some none)
    (z_len : PySem.W.nsIn K mainGlobals "len" = some none)
    (z_list : PySem.W.nsIn K mainGlobals "list" = some none)
    (z_max : PySem.W.nsIn K mainGlobals "max" = some none)
    (z_min : PySem.W.nsIn K mainGlobals "min" = some none)
    (z_range : PySem.W.nsIn K mainGlobals "range" = some none)
    (z_set : PySem.W.nsIn K mainGlobals "set" = some none)
    (z_sorted : PySem.W.nsIn K mainGlobals "sorted" = some none)
    (z_sum : PySem.W.nsIn K mainGlobals "sum" = some none)
    (z_tuple : PySem.W.nsIn K mainGlobals "tuple" = some none)
    (z_zip : PySem.W.nsIn K mainGlobals "zip" = some none)
    {t_MOST_ENTRIES : Tok} (g_MOST_ENTRIES : PySem.W.nsIn K mainGlobals "MOST_ENTRIES" = some (some (.int 1000000000000000000000000000000 t_MOST_ENTRIES)))
    : ∃ fd : FuncData, (∀ (s : Shared) (v : Value), BindsTo s fd ⟨[v], []⟩ [("script", v)]) ∧ ∀ base : Heap, K.In base → base.Ns mainGlobals mg → FnOk l.prog w K mg base CX0 9 fa fd ["script"] (spLaw K) := by
  have e := hfa.symm.trans (PySem.W.mg_of X G a29)
  cases e
  have FIsWhole := fun_mk (st := sIsWhole) l0 c0 k0
  have FIsBetween := fun_mk (st := sIsBetween) l1 c1 k1
  have FIsTreeNode := fun_mk (st := sIsTreeNode) l2 c2 k2
  have FIsListOf := fun_mk (st := sIsListOf) l3 c3 k3
  have FCheckSize := fun_mk (st := sCheckSize) l4 c4 k4
  have FCheckNode := fun_mk (st := sCheckNode) l5 c5 k5
  have FCheckNodes := funT_mk (st := sCheckNodes) l6 c6 k6 lT6 vT6
  have FPowerWithin := fun_mk (st := sPowerWithin) l7 c7 k7
  have FFirstFull := fun_mk (st := sFirstFull) l8 c8 k8
  have FNodesWithin := fun_mk (st := sNodesWithin) l9 c9 k9
  have FNodesBeside := fun_mk (st := sNodesBeside) l10 c10 k10
  have FIsNode := fun_mk (st := sIsNode) l11 c11 k11
  have FParent := fun_mk (st := sParent) l12 c12 k12
  have FJoined := fun_mk (st := sJoined) l13 c13 k13
  have FCheck := fun_mk (st := sCheck) l14 c14 k14
  have FGivesRoot := fun_mk (st := sGivesRoot) l15 c15 k15
  have FKnownTops := fun_mk (st := sKnownTops) l16 c16 k16
  have FMissing := fun_mk (st := sMissing) l17 c17 k17
  have FLiesWithin := fun_mk (st := sLiesWithin) l18 c18 k18
  have FNeedless := fun_mk (st := sNeedless) l19 c19 k19
  have FLawBag := fun_mk (st := sLawBag) l20 c20 k20
  have FLawPick := fun_mk (st := sLawPick) l21 c21 k21
  have FLawSize := fun_mk (st := sLawSize) l22 c22 k22
  have FLawParted := fun_mk (st := sLawParted) l23 c23 k23
  have FLawWalked := fun_mk (st := sLawWalked) l24 c24 k24
  have FLawTops := fun_mk (st := sLawTops) l25 c25 k25
  have FLawJoins := fun_mk (st := sLawJoins) l26 c26 k26
  have FLawMissingRight := fun_mk (st := sLawMissingRight) l27 c27 k27
  have FLawRight := fun_mk (st := sLawRight) l28 c28 k28
  have FLaw := fun_mk (st := sLaw) l29 c29 k29
  have AIsWhole : At K mg "is_whole" f0 (PySem.W.fnOf "is_whole" "is_whole" (defArgs sIsWhole) (defBody sIsWhole) (defScope sIsWhole) .none kV0 dc0 pm0 an0 cd0 ct0) ["value"] := ⟨PySem.W.mg_of X G a0, k0, FIsWhole.binds (ps := ["value"]) fun _ _ _ _ _ _ us hl => match us, hl with | [_], _ => rfl⟩
  have AIsBetween : At K mg "is_between" f1 (PySem.W.fnOf "is_between" "is_between" (defArgs sIsBetween) (defBody sIsBetween) (defScope sIsBetween) .none kV1 dc1 pm1 an1 cd1 ct1) ["value", "low", "high"] := ⟨PySem.W.mg_of X G a1, k1, FIsBetween.binds (ps := ["value", "low", "high"]) fun _ _ _ _ _ _ us hl => match us, hl with | [_, _, _], _ => rfl⟩
  have AIsTreeNode : At K mg "is_tree_node" f2 (PySem.W.fnOf "is_tree_node" "is_tree_node" (defArgs sIsTreeNode) (defBody sIsTreeNode) (defScope sIsTreeNode) .none kV2 dc2 pm2 an2 cd2 ct2) ["size", "value"] := ⟨PySem.W.mg_of X G a2, k2, FIsTreeNode.binds (ps := ["size", "value"]) fun _ _ _ _ _ _ us hl => match us, hl with | [_, _], _ => rfl⟩
  have AIsListOf : At K mg "is_list_of" f3 (PySem.W.fnOf "is_list_of" "is_list_of" (defArgs sIsListOf) (defBody sIsListOf) (defScope sIsListOf) .none kV3 dc3 pm3 an3 cd3 ct3) ["value", "least", "most"] := ⟨PySem.W.mg_of X G a3, k3, FIsListOf.binds (ps := ["value", "least", "most"]) fun _ _ _ _ _ _ us hl => match us, hl with | [_, _, _], _ => rfl⟩
  have ACheckSize : At K mg "check_size" f4 (PySem.W.fnOf "check_size" "check_size" (defArgs sCheckSize) (defBody sCheckSize) (defScope sCheckSize) .none kV4 dc4 pm4 an4 cd4 ct4) ["size"] := ⟨PySem.W.mg_of X G a4, k4, FCheckSize.binds (ps := ["size"]) fun _ _ _ _ _ _ us hl => match us, hl with | [_], _ => rfl⟩
  have ACheckNode : At K mg "check_node" f5 (PySem.W.fnOf "check_node" "check_node" (defArgs sCheckNode) (defBody sCheckNode) (defScope sCheckNode) .none kV5 dc5 pm5 an5 cd5 ct5) ["size", "node"] := ⟨PySem.W.mg_of X G a5, k5, FCheckNode.binds (ps := ["size", "node"]) fun _ _ _ _ _ _ us hl => match us, hl with | [_, _], _ => rfl⟩
  have ACheckNodes : AtT K mg "check_nodes" f6 _ ["size", "nodes", "least", "most"] tits6.toList [.int 1, .int 60] := ⟨PySem.W.mg_of X G a6, k6, FCheckNodes.binds (n := 2) (m := 2) rfl (fun _ _ _ _ _ _ _ us its hl hi => match us, hl, its, hi with | [_, _], _, [_, _], _ => ⟨_, rfl, rfl⟩) , vT6⟩
  have APowerWithin : At K mg "power_within" f7 (PySem.W.fnOf "power_within" "power_within" (defArgs sPowerWithin) (defBody sPowerWithin) (defScope sPowerWithin) .none kV7 dc7 pm7 an7 cd7 ct7) ["number"] := ⟨PySem.W.mg_of X G a7, k7, FPowerWithin.binds (ps := ["number"]) fun _ _ _ _ _ _ us hl => match us, hl with | [_], _ => rfl⟩
  have AFirstFull : At K mg "_first_full" f8 (PySem.W.fnOf "_first_full" "_first_full" (defArgs sFirstFull) (defBody sFirstFull) (defScope sFirstFull) .none kV8 dc8 pm8 an8 cd8 ct8) ["begin", "end"] := ⟨PySem.W.mg_of X G a8, k8, FFirstFull.binds (ps := ["begin", "end"]) fun _ _ _ _ _ _ us hl => match us, hl with | [_, _], _ => rfl⟩
  have ANodesWithin : At K mg "nodes_within" f9 (PySem.W.fnOf "nodes_within" "nodes_within" (defArgs sNodesWithin) (defBody sNodesWithin) (defScope sNodesWithin) .none kV9 dc9 pm9 an9 cd9 ct9) ["size", "begin", "end"] := ⟨PySem.W.mg_of X G a9, k9, FNodesWithin.binds (ps := ["size", "begin", "end"]) fun _ _ _ _ _ _ us hl => match us, hl with | [_, _, _], _ => rfl⟩
  have ANodesBeside : At K mg "nodes_beside" f10 (PySem.W.fnOf "nodes_beside" "nodes_beside" (defArgs sNodesBeside) (defBody sNodesBeside) (defScope sNodesBeside) .none kV10 dc10 pm10 an10 cd10 ct10) ["size", "stretches"] := ⟨PySem.W.mg_of X G a10, k10, FNodesBeside.binds (ps := ["size", "stretches"]) fun _ _ _ _ _ _ us hl => match us, hl with | [_, _], _ => rfl⟩
  have AIsNode : At K mg "is_node" f11 (PySem.W.fnOf "is_node" "is_node" (defArgs sIsNode) (defBody sIsNode) (defScope sIsNode) .none kV11 dc11 pm11 an11 cd11 ct11) ["size", "value"] := ⟨PySem.W.mg_of X G a11, k11, FIsNode.binds (ps := ["size", "value"]) fun _ _ _ _ _ _ us hl => match us, hl with | [_, _], _ => rfl⟩
  have AParent : At K mg "parent" f12 (PySem.W.fnOf "parent" "parent" (defArgs sParent) (defBody sParent) (defScope sParent) .none kV12 dc12 pm12 an12 cd12 ct12) ["size", "node"] := ⟨PySem.W.mg_of X G a12, k12, FParent.binds (ps := ["size", "node"]) fun _ _ _ _ _ _ us hl => match us, hl with | [_, _], _ => rfl⟩
  have AJoined : At K mg "joined" f13 (PySem.W.fnOf "joined" "joined" (defArgs sJoined) (defBody sJoined) (defScope sJoined) .none kV13 dc13 pm13 an13 cd13 ct13) ["stretches"] := ⟨PySem.W.mg_of X G a13, k13, FJoined.binds (ps := ["stretches"]) fun _ _ _ _ _ _ us hl => match us, hl with | [_], _ => rfl⟩
  have ACheck : At K mg "_check" f14 (PySem.W.fnOf "_check" "_check" (defArgs sCheck) (defBody sCheck) (defScope sCheck) .none kV14 dc14 pm14 an14 cd14 ct14) ["size", "nodes"] := ⟨PySem.W.mg_of X G a14, k14, FCheck.binds (ps := ["size", "nodes"]) fun _ _ _ _ _ _ us hl => match us, hl with | [_, _], _ => rfl⟩
  have AGivesRoot : At K mg "gives_root" f15 (PySem.W.fnOf "gives_root" "gives_root" (defArgs sGivesRoot) (defBody sGivesRoot) (defScope sGivesRoot) .none kV15 dc15 pm15 an15 cd15 ct15) ["size", "nodes"] := ⟨PySem.W.mg_of X G a15, k15, FGivesRoot.binds (ps := ["size", "nodes"]) fun _ _ _ _ _ _ us hl => match us, hl with | [_, _], _ => rfl⟩
  have AKnownTops : At K mg "known_tops" f16 (PySem.W.fnOf "known_tops" "known_tops" (defArgs sKnownTops) (defBody sKnownTops) (defScope sKnownTops) .none kV16 dc16 pm16 an16 cd16 ct16) ["size", "nodes"] := ⟨PySem.W.mg_of X G a16, k16, FKnownTops.binds (ps := ["size", "nodes"]) fun _ _ _ _ _ _ us hl => match us, hl with | [_, _], _ => rfl⟩
  have AMissing : At K mg "missing" f17 (PySem.W.fnOf "missing" "missing" (defArgs sMissing) (defBody sMissing) (defScope sMissing) .none kV17 dc17 pm17 an17 cd17 ct17) ["size", "nodes"] := ⟨PySem.W.mg_of X G a17, k17, FMissing.binds (ps := ["size", "nodes"]) fun _ _ _ _ _ _ us hl => match us, hl with | [_, _], _ => rfl⟩
  have ALiesWithin : At K mg "_lies_within" f18 (PySem.W.fnOf "_lies_within" "_lies_within" (defArgs sLiesWithin) (defBody sLiesWithin) (defScope sLiesWithin) .none kV18 dc18 pm18 an18 cd18 ct18) ["node", "stretches"] := ⟨PySem.W.mg_of X G a18, k18, FLiesWithin.binds (ps := ["node", "stretches"]) fun _ _ _ _ _ _ us hl => match us, hl with | [_, _], _ => rfl⟩
  have ANeedless : At K mg "needless" f19 (PySem.W.fnOf "needless" "needless" (defArgs sNeedless) (defBody sNeedless) (defScope sNeedless) .none kV19 dc19 pm19 an19 cd19 ct19) ["size", "nodes"] := ⟨PySem.W.mg_of X G a19, k19, FNeedless.binds (ps := ["size", "nodes"]) fun _ _ _ _ _ _ us hl => match us, hl with | [_, _], _ => rfl⟩
  have ALawBag : At K mg "_law_bag" f20 (PySem.W.fnOf "_law_bag" "_law_bag" (defArgs sLawBag) (defBody sLawBag) (defScope sLawBag) .none kV20 dc20 pm20 an20 cd20 ct20) ["cell"] := ⟨PySem.W.mg_of X G a20, k20, FLawBag.binds (ps := ["cell"]) fun _ _ _ _ _ _ us hl => match us, hl with | [_], _ => rfl⟩
  have ALawPick : At K mg "_law_pick" f21 (PySem.W.fnOf "_law_pick" "_law_pick" (defArgs sLawPick) (defBody sLawPick) (defScope sLawPick) .none kV21 dc21 pm21 an21 cd21 ct21) ["bag", "many"] := ⟨PySem.W.mg_of X G a21, k21, FLawPick.binds (ps := ["bag", "many"]) fun _ _ _ _ _ _ us hl => match us, hl with | [_, _], _ => rfl⟩
  have ALawSize : At K mg "_law_size" f22 (PySem.W.fnOf "_law_size" "_law_size" (defArgs sLawSize) (defBody sLawSize) (defScope sLawSize) .none kV22 dc22 pm22 an22 cd22 ct22) ["bag", "most"] := ⟨PySem.W.mg_of X G a22, k22, FLawSize.binds (ps := ["bag", "most"]) fun _ _ _ _ _ _ us hl => match us, hl with | [_, _], _ => rfl⟩
  have ALawParted : At K mg "_law_parted" f23 (PySem.W.fnOf "_law_parted" "_law_parted" (defArgs sLawParted) (defBody sLawParted) (defScope sLawParted) .none kV23 dc23 pm23 an23 cd23 ct23) ["node"] := ⟨PySem.W.mg_of X G a23, k23, FLawParted.binds (ps := ["node"]) fun _ _ _ _ _ _ us hl => match us, hl with | [_], _ => rfl⟩
  have ALawWalked : At K mg "_law_walked" f24 (PySem.W.fnOf "_law_walked" "_law_walked" (defArgs sLawWalked) (defBody sLawWalked) (defScope sLawWalked) .none kV24 dc24 pm24 an24 cd24 ct24) ["bag", "size", "most"] := ⟨PySem.W.mg_of X G a24, k24, FLawWalked.binds (ps := ["bag", "size", "most"]) fun _ _ _ _ _ _ us hl => match us, hl with | [_, _, _], _ => rfl⟩
  have ALawTops : At K mg "_law_tops" f25 (PySem.W.fnOf "_law_tops" "_law_tops" (defArgs sLawTops) (defBody sLawTops) (defScope sLawTops) .none kV25 dc25 pm25 an25 cd25 ct25) ["nodes"] := ⟨PySem.W.mg_of X G a25, k25, FLawTops.binds (ps := ["nodes"]) fun _ _ _ _ _ _ us hl => match us, hl with | [_], _ => rfl⟩
  have ALawJoins : At K mg "_law_joins" f26 (PySem.W.fnOf "_law_joins" "_law_joins" (defArgs sLawJoins) (defBody sLawJoins) (defScope sLawJoins) .none kV26 dc26 pm26 an26 cd26 ct26) ["size", "tops"] := ⟨PySem.W.mg_of X G a26, k26, FLawJoins.binds (ps := ["size", "tops"]) fun _ _ _ _ _ _ us hl => match us, hl with | [_, _], _ => rfl⟩
  have ALawMissingRight : At K mg "_law_missing_right" f27 (PySem.W.fnOf "_law_missing_right" "_law_missing_right" (defArgs sLawMissingRight) (defBody sLawMissingRight) (defScope sLawMissingRight) .none kV27 dc27 pm27 an27 cd27 ct27) ["size", "nodes", "told"] := ⟨PySem.W.mg_of X G a27, k27, FLawMissingRight.binds (ps := ["size", "nodes", "told"]) fun _ _ _ _ _ _ us hl => match us, hl with | [_, _, _], _ => rfl⟩
  have ALawRight : At K mg "_law_right" f28 (PySem.W.fnOf "_law_right" "_law_right" (defArgs sLawRight) (defBody sLawRight) (defScope sLawRight) .none kV28 dc28 pm28 an28 cd28 ct28) ["bag", "size"] := ⟨PySem.W.mg_of X G a28, k28, FLawRight.binds (ps := ["bag", "size"]) fun _ _ _ _ _ _ us hl => match us, hl with | [_, _], _ => rfl⟩
  have z_any := PySem.W.mg_none_of X G z_any
  have z_bool := PySem.W.mg_none_of X G z_bool
  have z_enumerate := PySem.W.mg_none_of X G z_enumerate
  have z_int := PySem.W.mg_none_of X G z_int
  have z_isinstance := PySem.W.mg_none_of X G z_isinstance
  have z_len := PySem.W.mg_none_of X G z_len
  have z_list := PySem.W.mg_none_of X G z_list
  have z_max := PySem.W.mg_none_of X G z_max
  have z_min := PySem.W.mg_none_of X G z_min
  have z_range := PySem.W.mg_none_of X G z_range
  have z_set := PySem.W.mg_none_of X G z_set
  have z_sorted := PySem.W.mg_none_of X G z_sorted
  have z_sum := PySem.W.mg_none_of X G z_sum
  have z_tuple := PySem.W.mg_none_of X G z_tuple
  have z_zip := PySem.W.mg_none_of X G z_zip
  have g_MOST_ENTRIES := PySem.W.mg_of X G g_MOST_ENTRIES
  refine ⟨PySem.W.fnOf "law" "law" (defArgs sLaw) (defBody sLaw) (defScope sLaw) .none kV29 dc29 pm29 an29 cd29 ct29, fun s v => .of_eq rfl, fun base _ _ => ?_⟩
  have GIsWholeV := ok_is_wholeV (P := l.prog) (w := w) (base := base) FIsWhole z_isinstance z_int z_bool
  have GIsWhole := ok_is_whole (P := l.prog) (w := w) (base := base) FIsWhole z_isinstance z_int z_bool
  have GIsBetweenV := ok_is_betweenV FIsBetween GIsWholeV AIsWhole
  have GIsBetween := ok_is_between FIsBetween GIsWhole AIsWhole
  have GTreeV := ok_is_tree_nodeV FIsTreeNode GIsBetweenV AIsBetween z_isinstance z_tuple z_len
  have GTree := ok_is_tree_node FIsTreeNode GIsBetween AIsBetween z_isinstance z_tuple z_len
  have GIsListOf := ok_is_list_of (P := l.prog) (w := w) (base := base) FIsListOf z_isinstance z_list z_len
  have GCheckSize := ok_check_size FCheckSize GIsBetween AIsBetween g_MOST_ENTRIES
  have GCheckNode := ok_check_node FCheckNode GTree AIsTreeNode
  have GCheckNodes := ok_check_nodes (P := l.prog) (w := w) (base := base) FCheckNodes GIsListOf AIsListOf GTreeV AIsTreeNode z_enumerate
  have GPowerWithin := ok_power_within (P := l.prog) (w := w) (mg := mg) (base := base) FPowerWithin
  have GFirstFull := ok_first_full FFirstFull GPowerWithin APowerWithin z_min
  have GNodesWithinX := ok_nodes_withinX FNodesWithin GTreeV AIsTreeNode GFirstFull AFirstFull
  have GNodesBeside := ok_nodes_beside FNodesBeside GNodesWithinX ANodesWithin z_sorted z_max
  have GIsNode := ok_is_nodeN FIsNode GCheckSize ACheckSize GTree AIsTreeNode
  have GParent := ok_parent FParent GCheckSize ACheckSize GCheckNode ACheckNode z_min
  have GJoined := ok_joined (P := l.prog) (w := w) (base := base) FJoined z_sorted z_max
  have GCheck := ok_check FCheck GCheckSize ACheckSize GCheckNodes ACheckNodes
  have GGivesRoot := ok_gives_root FGivesRoot GCheck ACheck GJoined AJoined
  have GKnownTops := ok_known_tops FKnownTops GCheck ACheck GJoined AJoined GNodesWithinX ANodesWithin
  have GMissing := ok_missing FMissing GCheck ACheck GNodesBeside ANodesBeside
  have GLiesWithin := ok_lies (P := l.prog) (w := w) (base := base) FLiesWithin z_any
  have GNeedless := ok_needless FNeedless GCheck ACheck GJoined AJoined GLiesWithin ALiesWithin z_enumerate
  have GLawBag := ok_law_bag (P := l.prog) (w := w) (base := base) FLawBag z_max
  have GLawPick := ok_law_pick (P := l.prog) (w := w) (base := base) FLawPick z_int
  have GLawSize := ok_law_sizeM FLawSize GLawPick ALawPick z_max z_min z_sum z_range
  have GLawParted := ok_law_parted (P := l.prog) (w := w) (mg := mg) (base := base) FLawParted
  have GLawWalked := ok_law_walked FLawWalked GLawParted ALawParted GLawPick ALawPick z_range
  have GLawTops := ok_law_tops (P := l.prog) (w := w) (base := base) FLawTops z_sorted z_set
  have GLawJoins := ok_law_joins FLawJoins GParent AParent z_zip
  have GLawMissingRight := ok_law_miss FLawMissingRight GLawTops ALawTops GParent AParent GIsNode AIsNode GGivesRoot AGivesRoot GKnownTops AKnownTops z_sorted z_zip z_range z_len
  have GLawRight := ok_law_right FLawRight GLawPick ALawPick GLawWalked ALawWalked GMissing AMissing GLawMissingRight ALawMissingRight GLawTops ALawTops GLawJoins ALawJoins GKnownTops AKnownTops GLawParted ALawParted GNeedless ANeedless z_range z_list
  exact ok_law FLaw GLawBag ALawBag GLawSize ALawSize GLawRight ALawRight GMissing AMissing z_len
end LT
open PySem PySem.W PyProof.Rows
set_option maxRecDepth 100000 in
set_option maxHeartbeats 0 in
theorem PySem.Challenge.cw_logtrees_k33_great_known_nodes_holds : PySem.Challenge.rw_logtrees_k33_great_known_nodes.Holds := by
  w_on; o_law; k_head; (case hw => w_witness2)
  k_fill
  refine L2.walk_of (l := PySem.Challenge.rw_logtrees_k33_great_known_nodes) (n := 63) (k := 9) (x := "script") (CX := fun _ => L2.CX0) (sp := fun w => LT.spLaw _) rfl (by decide) rfl ⟨rfl, by decide, by decide⟩ (fun w h Y => PySem.W.kIn_of Y) ?F (fun _ _ a ns hl _ hS => ⟨a, ns, rfl, hS, hl, fun _ => rfl⟩) (fun _ _ _ _ _ h => h)
  case F =>
    intro w mg fa h KX G hmg
    refine' LT.all_mk KX G hmg ?a0 ?l0 ?c0 ?k0 ?a1 ?l1 ?c1 ?k1 ?a2 ?l2 ?c2 ?k2 ?a3 ?l3 ?c3 ?k3 ?a4 ?l4 ?c4 ?k4 ?a5 ?l5 ?c5 ?k5 ?a6 ?l6 ?c6 ?k6 ?lT6 ?vT6 ?a7 ?l7 ?c7 ?k7 ?a8 ?l8 ?c8 ?k8 ?a9 ?l9 ?c9 ?k9 ?a10 ?l10 ?c10 ?k10 ?a11 ?l11 ?c11 ?k11 ?a12 ?l12 ?c12 ?k12 ?a13 ?l13 ?c13 ?k13 ?a14 ?l14 ?c14 ?k14 ?a15 ?l15 ?c15 ?k15 ?a16 ?l16 ?c16 ?k16 ?a17 ?l17 ?c17 ?k17 ?a18 ?l18 ?c18 ?k18 ?a19 ?l19 ?c19 ?k19 ?a20 ?l20 ?c20 ?k20 ?a21 ?l21 ?c21 ?k21 ?a22 ?l22 ?c22 ?k22 ?a23 ?l23 ?c23 ?k23 ?a24 ?l24 ?c24 ?k24 ?a25 ?l25 ?c25 ?k25 ?a26 ?l26 ?c26 ?k26 ?a27 ?l27 ?c27 ?k27 ?a28 ?l28 ?c28 ?k28 ?a29 ?l29 ?c29 ?k29 ?z_any ?z_bool ?z_enumerate ?z_int ?z_isinstance ?z_len ?z_list ?z_max ?z_min ?z_range ?z_set ?z_sorted ?z_sum ?z_tuple ?z_zip ?g_MOST_ENTRIES
    (case a0 => k_is)
    (case l0 => k_is)
    (case c0 => k_is)
    (case k0 => k_is)
    (case a1 => k_is)
    (case l1 => k_is)
    (case c1 => k_is)
    (case k1 => k_is)
    (case a2 => k_is)
    (case l2 => k_is)
    (case c2 => k_is)
    (case k2 => k_is)
    (case a3 => k_is)
    (case l3 => k_is)
    (case c3 => k_is)
    (case k3 => k_is)
    (case a4 => k_is)
    (case l4 => k_is)
    (case c4 => k_is)
    (case k4 => k_is)
    (case a5 => k_is)
    (case l5 => k_is)
    (case c5 => k_is)
    (case k5 => k_is)
    (case a6 => k_is)
    (case l6 => k_is)
    (case c6 => k_is)
    (case k6 => k_is)
    (case lT6 => k_is)
    (case vT6 => exact .cons ⟨_, rfl⟩ (.cons ⟨_, rfl⟩ (.nil)))
    (case a7 => k_is)
    (case l7 => k_is)
    (case c7 => k_is)
    (case k7 => k_is)
    (case a8 => k_is)
    (case l8 => k_is)
    (case c8 => k_is)
    (case k8 => k_is)
    (case a9 => k_is)
    (case l9 => k_is)
    (case c9 => k_is)
    (case k9 => k_is)
    (case a10 => k_is)
    (case l10 => k_is)
    (case c10 => k_is)
    (case k10 => k_is)
    (case a11 => k_is)
    (case l11 => k_is)
    (case c11 => k_is)
    (case k11 => k_is)
    (case a12 => k_is)
    (case l12 => k_is)
    (case c12 => k_is)
    (case k12 => k_is)
    (case a13 => k_is)
    (case l13 => k_is)
    (case c13 => k_is)
    (case k13 => k_is)
    (case a14 => k_is)
    (case l14 => k_is)
    (case c14 => k_is)
    (case k14 => k_is)
    (case a15 => k_is)
    (case l15 => k_is)
    (case c15 => k_is)
    (case k15 => k_is)
    (case a16 => k_is)
    (case l16 => k_is)
    (case c16 => k_is)
    (case k16 => k_is)
    (case a17 => k_is)
    (case l17 => k_is)
    (case c17 => k_is)
    (case k17 => k_is)
    (case a18 => k_is)
    (case l18 => k_is)
    (case c18 => k_is)
    (case k18 => k_is)
    (case a19 => k_is)
    (case l19 => k_is)
    (case c19 => k_is)
    (case k19 => k_is)
    (case a20 => k_is)
    (case l20 => k_is)
    (case c20 => k_is)
    (case k20 => k_is)
    (case a21 => k_is)
    (case l21 => k_is)
    (case c21 => k_is)
    (case k21 => k_is)
    (case a22 => k_is)
    (case l22 => k_is)
    (case c22 => k_is)
    (case k22 => k_is)
    (case a23 => k_is)
    (case l23 => k_is)
    (case c23 => k_is)
    (case k23 => k_is)
    (case a24 => k_is)
    (case l24 => k_is)
    (case c24 => k_is)
    (case k24 => k_is)
    (case a25 => k_is)
    (case l25 => k_is)
    (case c25 => k_is)
    (case k25 => k_is)
    (case a26 => k_is)
    (case l26 => k_is)
    (case c26 => k_is)
    (case k26 => k_is)
    (case a27 => k_is)
    (case l27 => k_is)
    (case c27 => k_is)
    (case k27 => k_is)
    (case a28 => k_is)
    (case l28 => k_is)
    (case c28 => k_is)
    (case k28 => k_is)
    (case a29 => k_is)
    (case l29 => k_is)
    (case c29 => k_is)
    (case k29 => k_is)
    (case z_any => k_is)
    (case z_bool => k_is)
    (case z_enumerate => k_is)
    (case z_int => k_is)
    (case z_isinstance => k_is)
    (case z_len => k_is)
    (case z_list => k_is)
    (case z_max => k_is)
    (case z_min => k_is)
    (case z_range => k_is)
    (case z_set => k_is)
    (case z_sorted => k_is)
    (case z_sum => k_is)
    (case z_tuple => k_is)
    (case z_zip => k_is)
    (case g_MOST_ENTRIES => k_is)
