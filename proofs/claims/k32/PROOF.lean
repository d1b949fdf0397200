import PyProof.Rows.All
import Wide.All
import OpenK.AllK
import Wide.FinOn
import HandS.ForMost
import HandS.Wide
import HandS.WideBits
import HandS.IsInst
import HandS.Style
import HandS.Deep
import HandS.RaiseMore
import HandS.Conv
import HandS.Flow
import HandS.SortRule
import HandS.NoneIn
import HandS.TupLen
import HandS.Set
import HandS.SetFor
import HandS.Strs
import HandS.Defaults
import KE.DataAny
import HandS.TupSets
import PyProof.ReprRoads
import PyProof.Rows.NestShow
import KE.DataMinMax
import KE.SortData
import PySem.Challenge.RW_logtrees_k32_missing_and_needless
set_option Elab.async false
set_option linter.all false
set_option maxRecDepth 100000
set_option maxHeartbeats 4000000
namespace LT
/-- the greatest power of two less than m (m from 2) -/
def gp (m : Nat) : Nat := 2 ^ Nat.log2 (m - 1)
theorem gp_pos (m : Nat) : 0 < gp m := Nat.pow_pos (by decide)
theorem gp_lt {m : Nat} (h : 2 ≤ m) : gp m < m := by
  have := Nat.log2_self_le (n := m - 1) (by omega)
  unfold gp; omega
theorem gp_ge {m : Nat} (h : 2 ≤ m) : m ≤ 2 * gp m := by
  have := Nat.lt_log2_self (n := m - 1)
  unfold gp; rw [Nat.pow_succ] at this; omega
theorem pow_eq_of {i j : Nat} {m : Nat} (h1 : 2 ^ i < m) (h2 : m ≤ 2 * 2 ^ i) (h3 : 2 ^ j < m) (h4 : m ≤ 2 * 2 ^ j) : i = j := by
  have a : 2 ^ i < 2 ^ (j + 1) := by rw [Nat.pow_succ]; omega
  have b : 2 ^ j < 2 ^ (i + 1) := by rw [Nat.pow_succ]; omega
  have a' := (Nat.pow_lt_pow_iff_right (by decide : 1 < 2)).mp a
  have b' := (Nat.pow_lt_pow_iff_right (by decide : 1 < 2)).mp b
  omega
theorem gp_eq {i m : Nat} (h1 : 2 ^ i < m) (h2 : m ≤ 2 * 2 ^ i) : gp m = 2 ^ i := by
  have h : 2 ≤ m := by have := Nat.pow_pos (a := 2) (n := i) (by decide); omega
  have := pow_eq_of (gp_lt h) (gp_ge h) h1 h2
  unfold gp; rw [this]
theorem gp_pow (i : Nat) : gp (2 ^ (i + 1)) = 2 ^ i := gp_eq (by rw [Nat.pow_succ]; have := Nat.pow_pos (a := 2) (n := i) (by decide); omega) (by rw [Nat.pow_succ]; omega)

/-- siblings from the root's half down to the leaf's: nodes as (begin, length-end) pairs -/
def sib (b m e : Nat) : List (Nat × Nat) :=
  if h : m ≤ 1 then [] else
    if e < b + gp m then (b + gp m, b + m) :: sib b (gp m) e
    else (b, b + gp m) :: sib (b + gp m) (m - gp m) e
termination_by m
decreasing_by
  · exact gp_lt (by omega)
  · have := gp_pos m; omega
theorem sib_one {b m e : Nat} (h : m ≤ 1) : sib b m e = [] := by rw [sib]; simp [h]
theorem sib_low {b m e : Nat} (h : 2 ≤ m) (k : e < b + gp m) : sib b m e = (b + gp m, b + m) :: sib b (gp m) e := by
  rw [sib]; rw [dif_neg (by omega), if_pos k]
theorem sib_high {b m e : Nat} (h : 2 ≤ m) (k : ¬ e < b + gp m) : sib b m e = (b, b + gp m) :: sib (b + gp m) (m - gp m) e := by
  rw [sib]; rw [dif_neg (by omega), if_neg k]

/-! ### joining up again -/
def join (x y : Nat × Nat) : Nat × Nat := (min x.1 y.1, max x.2 y.2)
/-- the halves of a node -/
def halv (x : Nat × Nat) : (Nat × Nat) × (Nat × Nat) := ((x.1, x.1 + gp (x.2 - x.1)), (x.1 + gp (x.2 - x.1), x.2))
def ok1 (x y : Nat × Nat) : Prop := (join x y).1 + 2 ≤ (join x y).2 ∧ (halv (join x y) = (x, y) ∨ halv (join x y) = (y, x))
def oks : Nat × Nat → List (Nat × Nat) → Prop
  | _, [] => True
  | x, y :: r => ok1 x y ∧ oks (join x y) r
def top : Nat × Nat → List (Nat × Nat) → Nat × Nat
  | x, [] => x
  | x, y :: r => top (join x y) r
theorem oks_append : ∀ (x : Nat × Nat) (l r : List (Nat × Nat)), oks x l → oks (top x l) r → oks x (l ++ r)
  | _, [], _, _, h => h
  | x, y :: l, r, h1, h2 => ⟨h1.1, oks_append (join x y) l r h1.2 h2⟩
theorem top_append : ∀ (x : Nat × Nat) (l r : List (Nat × Nat)), top x (l ++ r) = top (top x l) r
  | _, [], _ => rfl
  | x, y :: l, r => top_append (join x y) l r
theorem sib_up : ∀ (m b e : Nat), b ≤ e → e < b + m → oks (e, e + 1) (sib b m e).reverse ∧ top (e, e + 1) (sib b m e).reverse = (b, b + m) := by
  intro m
  induction m using Nat.strongRecOn with
  | ind m ih =>
    intro b e h1 h2
    by_cases hm : m ≤ 1
    · have : m = 1 := by omega
      subst this
      rw [sib_one (by omega)]
      have : e = b := by omega
      subst this
      exact ⟨True.intro, rfl⟩
    · have g1 := gp_lt (m := m) (by omega)
      have g2 := gp_pos m
      by_cases k : e < b + gp m
      · rw [sib_low (by omega) k, List.reverse_cons]
        obtain ⟨p, q⟩ := ih (gp m) g1 b e h1 k
        have j : join (b, b + gp m) (b + gp m, b + m) = (b, b + m) := by
          unfold join; simp only []; rw [Nat.min_eq_left (by omega), Nat.max_eq_right (by omega)]
        refine ⟨oks_append _ _ _ p ?_, ?_⟩
        · rw [q]
          refine ⟨⟨?_, .inl ?_⟩, True.intro⟩
          · rw [j]; simp only []; omega
          · rw [j]; unfold halv; simp only []; rw [Nat.add_sub_cancel_left]
        · rw [top_append, q]; exact j
      · rw [sib_high (by omega) k, List.reverse_cons]
        obtain ⟨p, q⟩ := ih (m - gp m) (by omega) (b + gp m) e (by omega) (by omega)
        have e2 : b + gp m + (m - gp m) = b + m := by omega
        rw [e2] at q
        have j : join (b + gp m, b + m) (b, b + gp m) = (b, b + m) := by
          unfold join; simp only []; rw [Nat.min_eq_right (by omega), Nat.max_eq_left (by omega)]
        refine ⟨oks_append _ _ _ p ?_, ?_⟩
        · rw [q]
          refine ⟨⟨?_, .inr ?_⟩, True.intro⟩
          · rw [j]; simp only []; omega
          · rw [j]; unfold halv; simp only []; rw [Nat.add_sub_cancel_left]
        · rw [top_append, q]; exact j
theorem sib_len_pow (i : Nat) : ∀ (b e : Nat), b ≤ e → e < b + 2 ^ i → (sib b (2 ^ i) e).length = i := by
  induction i with
  | zero => intro b e h1 h2; rw [sib_one (by simp)]; rfl
  | succ i ih =>
    intro b e h1 h2
    have h3 : 2 ≤ 2 ^ (i + 1) := by rw [Nat.pow_succ]; have := Nat.pow_pos (a := 2) (n := i) (by decide); omega
    have g := gp_pow i
    have e2 : 2 ^ (i + 1) - 2 ^ i = 2 ^ i := by rw [Nat.pow_succ]; omega
    by_cases k : e < b + gp (2 ^ (i + 1))
    · rw [sib_low h3 k, List.length_cons, g, ih b e h1 (by omega)]
    · rw [sib_high h3 k, List.length_cons, g, e2, ih (b + 2 ^ i) e (by omega) (by rw [Nat.pow_succ] at h2; omega)]
/-! ### the peaks by digits: (begin, height) -/
def pk : Nat → Nat → Nat → List (Nat × Nat)
  | 0, _, _ => []
  | i + 1, n, b => if n.testBit i then (b, i) :: pk i n (b + 2 ^ i) else pk i n b
theorem mod_succ (n i : Nat) : n % 2 ^ (i + 1) = (if n.testBit i then 2 ^ i else 0) + n % 2 ^ i := by
  rw [Nat.mod_pow_succ, Nat.testBit_eq_decide_div_mod_eq, Nat.add_comm]
  have h : n / 2 ^ i % 2 = 0 ∨ n / 2 ^ i % 2 = 1 := by omega
  rcases h with h | h <;> rw [h] <;> simp
theorem pk_nil : ∀ (i n b : Nat), n % 2 ^ i = 0 → pk i n b = []
  | 0, _, _, _ => rfl
  | i + 1, n, b, h => by
    rw [mod_succ] at h
    have p := Nat.pow_pos (a := 2) (n := i) (by decide)
    unfold pk
    cases t : n.testBit i with
    | true => rw [t] at h; simp at h
    | false => rw [t] at h; simp at h; simp; exact pk_nil i n b h
theorem pk_ne : ∀ (i n b : Nat), n % 2 ^ i ≠ 0 → pk i n b ≠ []
  | 0, _, _, h => by simp [Nat.mod_one] at h
  | i + 1, n, b, h => by
    rw [mod_succ] at h
    unfold pk
    cases t : n.testBit i with
    | true => simp
    | false => rw [t] at h; simp at h; simp; exact pk_ne i n b (by omega)
theorem pk_begin : ∀ (i n b : Nat) (x : Nat × Nat), x ∈ pk i n b → b ≤ x.1 ∧ x.2 < i
  | 0, _, _, _, h => by simp [pk] at h
  | i + 1, n, b, x, h => by
    unfold pk at h
    cases t : n.testBit i with
    | true =>
      rw [t] at h; simp at h
      rcases h with h | h
      · subst h; exact ⟨Nat.le_refl _, Nat.lt_succ_self _⟩
      · have := pk_begin i n _ x h; have p := Nat.pow_pos (a := 2) (n := i) (by decide); omega
    | false =>
      rw [t] at h; simp at h
      have := pk_begin i n _ x h; omega
/-- what the law says of the levels: s the place of the first row, of t rows in all -/
def lev (t : Nat) : Nat → List (Nat × Nat) → List (Nat × Nat × Nat)
  | _, [] => []
  | s, x :: r => (x.1, x.1 + 2 ^ x.2, x.2 + min (s + 1) (t - 1)) :: lev t (s + 1) r
def due (e : Nat) (l : List (Nat × Nat × Nat)) : List Nat := (l.filter fun x => decide (x.1 ≤ e) && decide (e < x.2.1)).map fun x => x.2.2
theorem due_none (t e : Nat) : ∀ (l : List (Nat × Nat)) (s : Nat), (∀ x ∈ l, e < x.1) → due e (lev t s l) = []
  | [], _, _ => rfl
  | x :: r, s, h => by
    have h1 := h x (List.mem_cons_self)
    have ih := due_none t e r (s + 1) fun y hy => h y (List.mem_cons_of_mem _ hy)
    show List.map _ (List.filter _ ((x.1, x.1 + 2 ^ x.2, x.2 + min (s + 1) (t - 1)) :: lev t (s + 1) r)) = []
    rw [List.filter_cons, if_neg (by simp; omega)]
    exact ih
theorem due_is (n e : Nat) : ∀ (i b s : Nat), b ≤ e → e < b + n % 2 ^ i → due e (lev (s + (pk i n b).length) s (pk i n b)) = [(sib b (n % 2 ^ i) e).length + min s (s + (pk i n b).length - 1)] := by
  intro i
  induction i with
  | zero => intro b s h1 h2; simp [Nat.mod_one] at h2; omega
  | succ i ih =>
    intro b s h1 h2
    have p := Nat.pow_pos (a := 2) (n := i) (by decide)
    have ml := Nat.mod_lt n p
    cases t : n.testBit i with
    | false =>
      have e1 : n % 2 ^ (i + 1) = n % 2 ^ i := by rw [mod_succ, t]; simp
      have e2 : pk (i + 1) n b = pk i n b := by show (if n.testBit i = true then _ else _) = _; rw [t]; simp
      rw [e1] at h2
      rw [e1, e2]; exact ih b s h1 h2
    | true =>
      have e1 : n % 2 ^ (i + 1) = 2 ^ i + n % 2 ^ i := by rw [mod_succ, t]; simp
      have e2 : pk (i + 1) n b = (b, i) :: pk i n (b + 2 ^ i) := by show (if n.testBit i = true then _ else _) = _; rw [t]; simp
      rw [e1] at h2
      rw [e1, e2, List.length_cons]
      by_cases r0 : n % 2 ^ i = 0
      · rw [pk_nil i n _ r0, r0]
        rw [r0] at h2
        rw [Nat.add_zero] at h2
        rw [Nat.add_zero (2 ^ i), sib_len_pow i b e h1 h2]
        show List.map _ (List.filter _ [(b, b + 2 ^ i, i + min (s + 1) (s + (0 + 1) - 1))]) = _
        rw [List.filter_cons, if_pos (by simp; omega)]
        simp
      · have hne : 1 ≤ (pk i n (b + 2 ^ i)).length := by
          have := pk_ne i n (b + 2 ^ i) r0
          cases hh : pk i n (b + 2 ^ i) with
          | nil => exact absurd hh this
          | cons _ _ => rw [List.length_cons]; omega
        have g : gp (2 ^ i + n % 2 ^ i) = 2 ^ i := gp_eq (by omega) (by omega)
        by_cases k : e < b + 2 ^ i
        · rw [sib_low (by omega) (by rw [g]; exact k), g, List.length_cons, sib_len_pow i b e h1 k]
          have d := due_none (s + ((pk i n (b + 2 ^ i)).length + 1)) e (pk i n (b + 2 ^ i)) (s + 1) fun x hx => by have := pk_begin _ _ _ x hx; omega
          show List.map _ (List.filter _ ((b, b + 2 ^ i, i + min (s + 1) (s + ((pk i n (b + 2 ^ i)).length + 1) - 1)) :: lev (s + ((pk i n (b + 2 ^ i)).length + 1)) (s + 1) (pk i n (b + 2 ^ i)))) = _
          rw [List.filter_cons, if_pos (by simp; omega), List.map_cons]
          have d' : List.map (fun x => x.2.2) (List.filter (fun x => decide (x.1 ≤ e) && decide (e < x.2.1)) (lev (s + ((pk i n (b + 2 ^ i)).length + 1)) (s + 1) (pk i n (b + 2 ^ i)))) = [] := d
          rw [d']
          simp
          omega
        · rw [sib_high (by omega) (by rw [g]; exact k), g, List.length_cons, Nat.add_sub_cancel_left]
          have q := ih (b + 2 ^ i) (s + 1) (by omega) (by omega)
          have e3 : s + 1 + (pk i n (b + 2 ^ i)).length = s + ((pk i n (b + 2 ^ i)).length + 1) := by omega
          rw [e3] at q
          show List.map _ (List.filter _ ((b, b + 2 ^ i, i + min (s + 1) (s + ((pk i n (b + 2 ^ i)).length + 1) - 1)) :: lev (s + ((pk i n (b + 2 ^ i)).length + 1)) (s + 1) (pk i n (b + 2 ^ i)))) = _
          rw [List.filter_cons, if_neg (by simp; omega)]
          refine Eq.trans q ?_
          congr 1
          omega
/-! ### which pairs are nodes -/
/-- the bits of m - 1 -/
def lb (m : Nat) : Nat := if m ≤ 1 then 0 else Nat.log2 (m - 1) + 1
theorem lb_le {x i : Nat} (h : x ≤ 2 ^ i) : lb x ≤ i := by
  unfold lb
  by_cases k : x ≤ 1
  · rw [if_pos k]; omega
  · rw [if_neg k]
    have h1 := Nat.log2_self_le (n := x - 1) (by omega)
    have h2 : 2 ^ Nat.log2 (x - 1) < 2 ^ i := by omega
    exact (Nat.pow_lt_pow_iff_right (by decide : 1 < 2)).mp h2
theorem lb_ge (x : Nat) : x ≤ 2 ^ lb x := by
  unfold lb
  by_cases k : x ≤ 1
  · rw [if_pos k]; omega
  · rw [if_neg k]
    have := Nat.lt_log2_self (n := x - 1)
    omega
theorem lb_pow (i : Nat) : lb (2 ^ i) = i := by
  have h1 := lb_le (Nat.le_refl (2 ^ i))
  have h2 := (Nat.pow_le_pow_iff_right (by decide : 1 < 2)).mp (lb_ge (2 ^ i))
  omega
theorem lb_gp {m : Nat} (h : 2 ≤ m) : 2 ^ lb m = 2 * gp m := by
  unfold lb gp; rw [if_neg (by omega), Nat.pow_succ]; omega
def tree (n b m : Nat) : Prop := 2 ^ lb m ∣ b ∧ (m = 2 ^ lb m ∨ b + m = n)
theorem tree_root (n : Nat) : tree n 0 n := ⟨Nat.dvd_zero _, .inr (Nat.zero_add _)⟩
theorem tree_low {n b m : Nat} (h : 2 ≤ m) (t : tree n b m) : tree n b (gp m) := by
  obtain ⟨d, _⟩ := t
  rw [lb_gp h] at d
  have e : 2 ^ lb (gp m) = gp m := by unfold gp; rw [lb_pow]
  exact ⟨by rw [e]; exact Nat.dvd_trans (Nat.dvd_mul_left _ _) d, .inl e.symm⟩
theorem tree_high {n b m : Nat} (h : 2 ≤ m) (t : tree n b m) : tree n (b + gp m) (m - gp m) := by
  obtain ⟨d, k⟩ := t
  rw [lb_gp h] at d k
  have g1 := gp_lt h
  have g2 := gp_ge h
  have dg : 2 ^ lb (m - gp m) ∣ gp m := by
    have : lb (m - gp m) ≤ Nat.log2 (m - 1) := lb_le (by unfold gp at g1 g2 ⊢; omega)
    exact Nat.pow_dvd_pow 2 this
  refine ⟨Nat.dvd_add (Nat.dvd_trans dg (Nat.dvd_trans (Nat.dvd_mul_left _ _) d)) dg, ?_⟩
  rcases k with k | k
  · left
    have e : m - gp m = gp m := by omega
    rw [e]
    unfold gp; rw [lb_pow]
  · right; omega
theorem sib_len_le : ∀ (m b e : Nat), b ≤ e → e < b + m → (sib b m e).length ≤ lb m := by
  intro m
  induction m using Nat.strongRecOn with
  | ind m ih =>
    intro b e h1 h2
    by_cases hm : m ≤ 1
    · rw [sib_one hm]; exact Nat.zero_le _
    · have g1 := gp_lt (m := m) (by omega)
      have g2 := gp_ge (m := m) (by omega)
      have g3 := gp_pos m
      have e1 : lb m = Nat.log2 (m - 1) + 1 := by unfold lb; rw [if_neg hm]
      by_cases k : e < b + gp m
      · rw [sib_low (by omega) k, List.length_cons]
        have := ih (gp m) g1 b e h1 k
        have e2 : lb (gp m) = Nat.log2 (m - 1) := by unfold gp; rw [lb_pow]
        omega
      · rw [sib_high (by omega) k, List.length_cons]
        have := ih (m - gp m) (by omega) (b + gp m) e (by omega) (by omega)
        have e2 : lb (m - gp m) ≤ Nat.log2 (m - 1) := lb_le (by unfold gp at g1 g2 ⊢; omega)
        omega
end LT
namespace LT
open PySem PySem.Spec PyProof.Rows L2
def topS (i : Nat) : Stmt := PySem.Challenge.pw_logtrees_k32_missing_and_needless.main.body.getD i (.Pass ⟨0, 0, 0, 0⟩)
abbrev sIsWhole : Stmt := topS 7
theorem scIsWhole : FnScope ["value"] ["value"] (defScope sIsWhole) := ⟨rfl, rfl, rfl, by decide +kernel, rfl, by decide +kernel, by decide +kernel⟩
abbrev sIsBetween : Stmt := topS 8
theorem scIsBetween : FnScope ["value", "low", "high"] ["value", "low", "high"] (defScope sIsBetween) := ⟨rfl, rfl, rfl, by decide +kernel, rfl, by decide +kernel, by decide +kernel⟩
abbrev sIsTreeNode : Stmt := topS 9
theorem scIsTreeNode : FnScope ["size", "value", "begin", "end", "room"] ["size", "value"] (defScope sIsTreeNode) := ⟨rfl, rfl, rfl, by decide +kernel, rfl, by decide +kernel, by decide +kernel⟩
abbrev sIsListOf : Stmt := topS 10
theorem scIsListOf : FnScope ["value", "least", "most"] ["value", "least", "most"] (defScope sIsListOf) := ⟨rfl, rfl, rfl, by decide +kernel, rfl, by decide +kernel, by decide +kernel⟩
abbrev sCheckSize : Stmt := topS 11
theorem scCheckSize : FnScope ["size"] ["size"] (defScope sCheckSize) := ⟨rfl, rfl, rfl, by decide +kernel, rfl, by decide +kernel, by decide +kernel⟩
abbrev sCheckNodes : Stmt := topS 12
theorem scCheckNodes : FnScope ["size", "nodes", "least", "most", "item", "node"] ["size", "nodes", "least", "most"] (defScope sCheckNodes) := ⟨rfl, rfl, rfl, by decide +kernel, rfl, by decide +kernel, by decide +kernel⟩
abbrev sPowerWithin : Stmt := topS 14
theorem scPowerWithin : FnScope ["number"] ["number"] (defScope sPowerWithin) := ⟨rfl, rfl, rfl, by decide +kernel, rfl, by decide +kernel, by decide +kernel⟩
abbrev sFirstFull : Stmt := topS 15
theorem scFirstFull : FnScope ["begin", "end", "room"] ["begin", "end"] (defScope sFirstFull) := ⟨rfl, rfl, rfl, by decide +kernel, rfl, by decide +kernel, by decide +kernel⟩
abbrev sNodesWithin : Stmt := topS 16
theorem scNodesWithin : FnScope ["size", "begin", "end", "found", "node"] ["size", "begin", "end"] (defScope sNodesWithin) := ⟨rfl, rfl, rfl, by decide +kernel, rfl, by decide +kernel, by decide +kernel⟩
abbrev sNodesBeside : Stmt := topS 17
theorem scNodesBeside : FnScope ["size", "stretches", "found", "behind", "begin", "end"] ["size", "stretches"] (defScope sNodesBeside) := ⟨rfl, rfl, rfl, by decide +kernel, rfl, by decide +kernel, by decide +kernel⟩
abbrev sJoined : Stmt := topS 19
theorem scJoined : FnScope ["stretches", "found", "begin", "end", "first", "last"] ["stretches"] (defScope sJoined) := ⟨rfl, rfl, rfl, by decide +kernel, rfl, by decide +kernel, by decide +kernel⟩
abbrev sCheck : Stmt := topS 20
theorem scCheck : FnScope ["size", "nodes"] ["size", "nodes"] (defScope sCheck) := ⟨rfl, rfl, rfl, by decide +kernel, rfl, by decide +kernel, by decide +kernel⟩
abbrev sGivesRoot : Stmt := topS 21
theorem scGivesRoot : FnScope ["size", "nodes"] ["size", "nodes"] (defScope sGivesRoot) := ⟨rfl, rfl, rfl, by decide +kernel, rfl, by decide +kernel, by decide +kernel⟩
abbrev sMissing : Stmt := topS 22
theorem scMissing : FnScope ["size", "nodes"] ["size", "nodes"] (defScope sMissing) := ⟨rfl, rfl, rfl, by decide +kernel, rfl, by decide +kernel, by decide +kernel⟩
abbrev sLiesWithin : Stmt := topS 23
theorem scLiesWithin : FnScope ["node", "stretches", "begin", "end", "first", "last"] ["node", "stretches"] (defScope sLiesWithin) := ⟨rfl, rfl, rfl, by decide +kernel, rfl, by decide +kernel, by decide +kernel⟩
abbrev sNeedless : Stmt := topS 24
theorem scNeedless : FnScope ["size", "nodes", "found", "index", "node", "others"] ["size", "nodes"] (defScope sNeedless) := ⟨rfl, rfl, rfl, by decide +kernel, rfl, by decide +kernel, by decide +kernel⟩
abbrev sLawBag : Stmt := topS 26
theorem scLawBag : FnScope ["cell"] ["cell"] (defScope sLawBag) := ⟨rfl, rfl, rfl, by decide +kernel, rfl, by decide +kernel, by decide +kernel⟩
abbrev sLawPick : Stmt := topS 27
theorem scLawPick : FnScope ["bag", "many", "told", "seed", "turn", "first", "second", "drawn"] ["bag", "many"] (defScope sLawPick) := ⟨rfl, rfl, rfl, by decide +kernel, rfl, by decide +kernel, by decide +kernel⟩
abbrev sLawSize : Stmt := topS 28
theorem scLawSize : FnScope ["bag", "most", "way", "powers", "turn"] ["bag", "most"] (defScope sLawSize) := ⟨rfl, rfl, rfl, by decide +kernel, rfl, by decide +kernel, by decide +kernel⟩
abbrev sLawParted : Stmt := topS 29
theorem scLawParted : FnScope ["node", "wide"] ["node"] (defScope sLawParted) := ⟨rfl, rfl, rfl, by decide +kernel, rfl, by decide +kernel, by decide +kernel⟩
abbrev sLawTree : Stmt := topS 30
theorem scLawTree : FnScope ["size", "found", "left", "node", "above", "half"] ["size"] (defScope sLawTree) := ⟨rfl, rfl, rfl, by decide +kernel, rfl, by decide +kernel, by decide +kernel⟩
abbrev sLawMarked : Stmt := topS 31
theorem scLawMarked : FnScope ["size", "nodes", "found", "first", "end", "entry"] ["size", "nodes"] (defScope sLawMarked) := ⟨rfl, rfl, rfl, by decide +kernel, rfl, by decide +kernel, by decide +kernel⟩
abbrev sLawDue : Stmt := topS 32
theorem scLawDue : FnScope ["size", "nodes", "marked", "found", "node", "above"] ["size", "nodes"] (defScope sLawDue) := ⟨rfl, rfl, rfl, by decide +kernel, rfl, by decide +kernel, by decide +kernel⟩
abbrev sLawNeedless : Stmt := topS 33
theorem scLawNeedless : FnScope ["size", "nodes", "found", "spot", "node", "marked"] ["size", "nodes"] (defScope sLawNeedless) := ⟨rfl, rfl, rfl, by decide +kernel, rfl, by decide +kernel, by decide +kernel⟩
abbrev sLawFewestRight : Stmt := topS 34
theorem scLawFewestRight : FnScope ["bag", "size", "some", "nodes", "marked", "due", "free", "way", "found", "node", "above", "turn", "spot"] ["bag"] (defScope sLawFewestRight) := ⟨rfl, rfl, rfl, by decide +kernel, rfl, by decide +kernel, by decide +kernel⟩
abbrev sLawRight : Stmt := topS 35
theorem scLawRight : FnScope ["bag", "size", "some", "nodes", "passed", "told", "more", "node", "above", "turn"] ["bag", "size"] (defScope sLawRight) := ⟨rfl, rfl, rfl, by decide +kernel, rfl, by decide +kernel, by decide +kernel⟩
abbrev sLaw : Stmt := topS 36
theorem scLaw : FnScope ["script", "cell", "bag", "turn"] ["script"] (defScope sLaw) := ⟨rfl, rfl, rfl, by decide +kernel, rfl, by decide +kernel, by decide +kernel⟩
/-- a def as it stands behind the top -/
structure At (K : PySem.W.Frag) (mg : Str → Option Value) (x : Str) (f : Addr) (fd : FuncData) (ps : List Str) : Prop where
  m : mg x = some (.ref f)
  kp : PySem.W.keepIn K (.ref f) = true
  b : Binds K fd ps []
theorem units1 {k : Nat} {A : Around} (r : Room k A) : A.units + 65 < cLine := by have := r.un; omega
/-- all but b as it was -/
def But (b : Addr) (H H' : Hp) : Prop := ∀ a o, a ≠ b → H a = some o → H' a = some o
theorem But.refl (b : Addr) (H : Hp) : But b H H := fun _ _ _ h => h
theorem But.trans {b : Addr} {H H1 H2 : Hp} (x : But b H H1) (y : But b H1 H2) : But b H H2 := fun a o n h => y a o n (x a o n h)
theorem But.of {b : Addr} {H H1 : Hp} (x : Same H H1) : But b H H1 := fun a o _ h => x a o h
theorem same_upd {H : Hp} {p : Addr} {o : HO} (h : H p = none) : Same H (upd H p o) := fun b x e => by
  rw [upd_ne (ne_of_none e h)]
  exact e
def BagAt (H : Hp) (b : Addr) : Prop := ∃ x y z : Int, H b = some (.lst [.int x, .int y, .int z])
theorem BagAt.same {H H' : Hp} {b : Addr} (h : BagAt H b) (s : Same H H') : BagAt H' b := by
  obtain ⟨x, y, z, e⟩ := h
  exact ⟨x, y, z, s _ _ e⟩
/-- a pair of ints -/
def Nd (H : Hp) (v : V) (x : Nat × Nat) : Prop := ∃ p, v = .ref p ∧ H p = some (.tup [.int x.1, .int x.2])
theorem Nd.same {H H' : Hp} {v : V} {x : Nat × Nat} (h : Nd H v x) (s : Same H H') : Nd H' v x := by
  obtain ⟨p, e, q⟩ := h
  exact ⟨p, e, s _ _ q⟩
theorem Nd.dp {K : PySem.W.Frag} {H : Hp} {v : V} {x : Nat × Nat} (h : Nd H v x) : Dp K H v (.tuple [.int x.1, .int x.2]) := by
  obtain ⟨p, rfl, q⟩ := h
  exact .tup (SqT.of q) (.cons (.int _) (.cons (.int _) .nil))
theorem nd_shaped (a b : Int) : SeqAt.shaped (.tuple [.int a, .int b]) = true := by
  show (PyData.canLay0 _ && decide (PyData.depth _ ≤ 64)) = true
  simp [PyData.canLay0, PyData.canLayAll0, PyData.depth, PyData.depthAll]
theorem nd_eqv (a b c d : Int) : PyData.eqv (.tuple [.int a, .int b]) (.tuple [.int c, .int d]) = (decide (a = c) && decide (b = d)) := by
  have e : PyData.eqv (.tuple [.int a, .int b]) (.tuple [.int c, .int d]) = ((a == c) && ((b == d) && true)) := by simp only [PyData.eqv, PyData.eqvAll]
  rw [e, Bool.and_true]
  by_cases h1 : a = c <;> by_cases h2 : b = d <;> simp [h1, h2]
/-- lists of values and what they stand for -/
inductive All2 {α : Type} (R : V → α → Prop) : List V → List α → Prop
  | nil : All2 R [] []
  | cons {v : V} {x : α} {vs : List V} {xs : List α} : R v x → All2 R vs xs → All2 R (v :: vs) (x :: xs)
section
variable {α : Type} {R R' : V → α → Prop}
theorem All2.mono (f : ∀ v x, R v x → R' v x) : ∀ {vs : List V} {xs : List α}, All2 R vs xs → All2 R' vs xs
  | _, _, .nil => .nil
  | _, _, .cons h t => .cons (f _ _ h) (All2.mono f t)
theorem All2.len : ∀ {vs : List V} {xs : List α}, All2 R vs xs → vs.length = xs.length
  | _, _, .nil => rfl
  | _, _, .cons _ t => by rw [List.length_cons, List.length_cons, All2.len t]
theorem All2.app : ∀ {vs : List V} {xs : List α} {us : List V} {ys : List α}, All2 R vs xs → All2 R us ys → All2 R (vs ++ us) (xs ++ ys)
  | _, _, _, _, .nil, h => h
  | _, _, _, _, .cons h t, k => .cons h (All2.app t k)
theorem All2.rev : ∀ {vs : List V} {xs : List α}, All2 R vs xs → All2 R vs.reverse xs.reverse
  | _, _, .nil => .nil
  | _, _, .cons h t => by
    rw [List.reverse_cons, List.reverse_cons]
    exact All2.app (All2.rev t) (.cons h .nil)
theorem All2.nth : ∀ {vs : List V} {xs : List α} {i : Nat} {v : V}, All2 R vs xs → vs[i]? = some v → ∃ x, xs[i]? = some x ∧ R v x
  | _, _, _, _, .nil, h => by simp at h
  | _, _, 0, _, .cons h t, e => by
    have := Option.some.inj e
    subst this
    exact ⟨_, rfl, h⟩
  | _, _, i + 1, _, .cons h t, e => by
    rw [List.getElem?_cons_succ] at e ⊢
    exact All2.nth t e
theorem All2.nth2 : ∀ {vs : List V} {xs : List α} {i : Nat} {x : α}, All2 R vs xs → xs[i]? = some x → ∃ v, vs[i]? = some v ∧ R v x
  | _, _, _, _, .nil, h => by simp at h
  | _, _, 0, _, .cons h t, e => by
    have := Option.some.inj e
    subst this
    exact ⟨_, rfl, h⟩
  | _, _, i + 1, _, .cons h t, e => by
    rw [List.getElem?_cons_succ] at e ⊢
    exact All2.nth2 t e
end

/-! ### rules within a comprehension: what they say of the written part is said of the def's -/
section
open PySem L2
variable {X : Cx} {s : Shared} {H : Hp} {sc : Scope} {ce : Env} {fp : List Addr}
theorem pg_tupB {es : List Expr} {k : Nat} {pos : Pos} {t : TGs} {n : Nat} (hc : X.calm = true) (h : PGs (X.blk s H sc ce fp) es t)
    (hn : (assignEach es (X.blk s H sc ce fp).env).length = n := by rfl) (hst : (assignEach es (X.blk s H sc ce fp).env).findIdx? (·.1) = none := by rfl) : PG (X.blk s H sc ce fp) (.Tuple es k pos) (gTup X.K n t) := pg_tup hc h hn hst
theorem ix_listB : IxR (X.blk s H sc ce fp) (rIxL X.K) := ix_list
theorem ix_tupB : IxR (X.blk s H sc ce fp) (rIxT X.K) := ix_tup
theorem call_len_seqB : CallR (X.blk s H sc ce fp) (.builtin "len") (fun xs H Q => ∃ p ys, xs = [.ref p] ∧ (SqL X.K H p ys ∨ SqT X.K H p ys) ∧ Q (.int ys.length) H) := call_len_seq
theorem op_eqDB (hu : X.A.units + 64 < cLine) : OpR (X.blk s H sc ce fp) (compareOp .Eq) (rEqD X.K) := op_eqD (X := X.blk s H sc ce fp) hu
theorem op_neDB (hu : X.A.units + 64 < cLine) : OpR (X.blk s H sc ce fp) (compareOp .NotEq) (rNeD X.K) := op_neD (X := X.blk s H sc ce fp) hu
theorem op_inDB (hu : X.A.units + 65 < cLine) : OpR (X.blk s H sc ce fp) (compareOp .In) (rInD X.K) := op_inD (X := X.blk s H sc ce fp) hu
theorem op_notInDB (hu : X.A.units + 65 < cLine) : OpR (X.blk s H sc ce fp) (compareOp .NotIn) (rNotInD X.K) := op_notInD (X := X.blk s H sc ce fp) hu
end
theorem Nd.upd {H : Hp} {v : V} {x : Nat × Nat} {s : Addr} {xs : List V} {o : HO} (h : Nd H v x) (hs : H s = some (.lst xs)) : Nd (upd H s o) v x := by
  obtain ⟨p, e, q⟩ := h
  exact ⟨p, e, by rw [upd_ne (ne_of q hs (by intro z; cases z))]; exact q⟩
def full (x : Nat × Nat) : Nat × Nat := (x.1, x.1 + 2 ^ x.2)
theorem pk_len : ∀ (i n b : Nat), (pk i n b).length ≤ i
  | 0, _, _ => Nat.le_refl _
  | i + 1, n, b => by
    show (if n.testBit i = true then (b, i) :: pk i n (b + 2 ^ i) else pk i n b).length ≤ i + 1
    by_cases t : n.testBit i = true
    · rw [if_pos t, List.length_cons]
      exact Nat.succ_le_succ (pk_len i n _)
    · rw [if_neg t]
      exact Nat.le_succ_of_le (pk_len i n b)
theorem take_more {α : Type} : ∀ {l : List α} {i : Nat} {x : α}, l[i]? = some x → l.take (i + 1) = l.take i ++ [x]
  | [], i, x, h => by simp at h
  | a :: l, 0, x, h => by
    have e : a = x := Option.some.inj h
    subst e
    rfl
  | a :: l, i + 1, x, h => by
    have ih := take_more (l := l) (i := i) (x := x) h
    show a :: l.take (i + 1) = a :: l.take i ++ [x]
    rw [ih]
    rfl
theorem szle {n : Nat} (h : n ≤ 100000) : n ≤ sizeLine := Nat.le_trans h (by decide)
theorem szlt {n : Nat} (h : n < 100000) : n < sizeLine := Nat.lt_of_lt_of_le h (by decide)
end LT

namespace LT
open PySem PySem.Spec PyProof.Rows L2
theorem bools_dp {K : PySem.W.Frag} {H : Hp} : ∀ bs : List Bool, DpAll K H (bs.map V.bl) (bs.map PyData.bool)
  | [] => .nil
  | b :: bs => .cons (.bl b) (bools_dp bs)
theorem bools_plain : ∀ bs : List Bool, PyData.plainAll (bs.map PyData.bool) = true
  | [] => rfl
  | b :: bs => by
    show (PyData.plain (.bool b) && PyData.plainAll (bs.map PyData.bool)) = true
    rw [bools_plain bs]
    rfl
theorem bools_fits (bs : List Bool) : ∀ x ∈ bs.map PyData.bool, x.fits63 := by
  intro x hx
  obtain ⟨b, _, rfl⟩ := List.mem_map.mp hx
  exact trivial
theorem bools_any : ∀ bs : List Bool, (bs.map PyData.bool).any PyData.truthy = bs.any id
  | [] => rfl
  | b :: bs => by
    rw [List.map_cons, List.any_cons, List.any_cons, bools_any bs]
    rfl
theorem bools_all : ∀ bs : List Bool, (bs.map PyData.bool).all PyData.truthy = bs.all id
  | [] => rfl
  | b :: bs => by
    rw [List.map_cons, List.all_cons, List.all_cons, bools_all bs]
    rfl
section
variable {X : Cx}
/-- any(xs), all(xs), a list of truth values -/
def rAny (K : PySem.W.Frag) : List V → Hp → VK → Prop := fun vs H Q => ∃ (a : Addr) (bs : List Bool), vs = [V.ref a] ∧ SqL K H a (bs.map V.bl) ∧ Q (.bl (bs.any id)) H
def rAll (K : PySem.W.Frag) : List V → Hp → VK → Prop := fun vs H Q => ∃ (a : Addr) (bs : List Bool), vs = [V.ref a] ∧ SqL K H a (bs.map V.bl) ∧ Q (.bl (bs.all id)) H
theorem cr_any (hc : X.calm = true) : CallR X (.builtin "any") (rAny X.K) := by
  intro pins s σ H vs us Q I r h
  obtain ⟨a, bs, rfl, hs, q⟩ := h
  obtain ⟨its, rv, hl, _⟩ := I.list hs
  rw [Vals.ref1 r]
  obtain ⟨as, hr⟩ := Dp.readsAll I _ _ _ (bools_dp bs) rv
  refine PySem.W.any_list_data (I.ok.hd hc) hl.isList hr (bools_plain bs) (bools_fits bs) fun h' tk hk => ⟨.bl (bs.any id), H, I.kept hk, ?_, q⟩
  rw [bools_any]
  exact rfl
theorem cr_all (hc : X.calm = true) : CallR X (.builtin "all") (rAll X.K) := by
  intro pins s σ H vs us Q I r h
  obtain ⟨a, bs, rfl, hs, q⟩ := h
  obtain ⟨its, rv, hl, _⟩ := I.list hs
  rw [Vals.ref1 r]
  obtain ⟨as, hr⟩ := Dp.readsAll I _ _ _ (bools_dp bs) rv
  refine PySem.W.all_list_data (I.ok.hd hc) hl.isList hr (bools_plain bs) (bools_fits bs) fun h' tk hk => ⟨.bl (bs.all id), H, I.kept hk, ?_, q⟩
  rw [bools_all]
  exact rfl
end
end LT

namespace LT
open PySem PySem.Spec PyProof.Rows L2
section
variable {P : Program} {w : World} {K : PySem.W.Frag} {mg : Str → Option Value} {base : Heap}
def spWhole : Sp := fun vs H Q _ => ∃ i : Int, vs = [.int i] ∧ Q (.bl true) H
theorem ok_is_whole {f : Addr} {fd : FuncData} (F : Fun K "is_whole" "is_whole" sIsWhole f fd) (z_isinstance : mg "isinstance" = none) (z_int : mg "int" = none) (z_bool : mg "bool" = none) : FnOk P w K mg base CX0 1 f fd ["value"] spWhole := by
  refine F.ok scIsWhole (fun vs H Q E h => ?_) (fun cdv A outer s H vs Q E hr h => ?_)
  · obtain ⟨i, rfl, _⟩ := h
    rfl
  obtain ⟨i, rfl, q⟩ := h
  refine ⟨_, (pss_one (ps_ret (pe_and (pe_callB call_isi (by rfl) z_isinstance (by decide +kernel) (pa_cons (pv 0) (pa_cons (pe_bltn (v := .ty "int") (u := .type "int") (by rfl) z_int (by decide +kernel) rfl) pa_nil))) (pe_one (pe_not (pe_callB call_isi (by rfl) z_isinstance (by decide +kernel) (pa_cons (pv 0) (pa_cons (pe_bltn (v := .ty "bool") (u := .type "bool") (by rfl) z_bool (by decide +kernel) rfl) pa_nil)))))))), ?_⟩
  refine ⟨_, rfl, _, _, _, _, true, rfl, .ty "int", .base (.int i), kit_ty (by decide +kernel), true, rfl, ?_⟩
  refine ⟨_, rfl, _, _, _, _, false, rfl, .ty "bool", .base (.int i), kit_ty (by decide +kernel), false, rfl, ?_⟩
  exact q
def spBetween : Sp := fun vs H Q _ => ∃ v lo hi : Int, vs = [.int v, .int lo, .int hi] ∧ Q (.bl (decide (lo ≤ v) && decide (v ≤ hi))) H
theorem ok_is_between {f g : Addr} {fd gd : FuncData} (F : Fun K "is_between" "is_between" sIsBetween f fd) (GIsWhole : FnOk P w K mg base CX0 1 g gd ["value"] spWhole) (AIsWhole : At K mg "is_whole" g gd ["value"]) : FnOk P w K mg base CX0 2 f fd ["value", "low", "high"] spBetween := by
  refine F.ok scIsBetween (fun vs H Q E h => ?_) (fun cdv A outer s H vs Q E hr h => ?_)
  · obtain ⟨i, _, _, rfl, _⟩ := h
    rfl
  obtain ⟨v, lo, hi, rfl, q⟩ := h
  refine ⟨_, (pss_one (ps_ret (pe_and (pe_call GIsWhole (hr.mono (by decide)) rfl AIsWhole.m AIsWhole.kp AIsWhole.b .nil pass0 (pa_cons (pv 0) pa_nil)) (pe_one (pe_chain op_le op_le (pv 1) (pv 0) (pv 2)))))), ?_⟩
  refine ⟨_, rfl, v, rfl, true, rfl, ?_⟩
  refine ⟨_, rfl, _, rfl, _, _, rfl, rfl, _, rfl, ?_⟩
  by_cases h1 : lo ≤ v
  · rw [decide_eq_true h1] at q ⊢
    exact ⟨_, rfl, _, _, rfl, rfl, q⟩
  · rw [decide_eq_false h1] at q ⊢
    exact q
def spCheckSize : Sp := fun vs H Q _ => ∃ n : Int, vs = [.int n] ∧ 1 ≤ n ∧ n ≤ 10 ^ 30 ∧ Q .non H
theorem ok_check_size {f g : Addr} {fd gd : FuncData} {t : Tok} (F : Fun K "check_size" "check_size" sCheckSize f fd) (GIsBetween : FnOk P w K mg base CX0 2 g gd ["value", "low", "high"] spBetween) (AIsBetween : At K mg "is_between" g gd ["value", "low", "high"]) (g_MOST_ENTRIES : mg "MOST_ENTRIES" = some (.int 1000000000000000000000000000000 t)) : FnOk P w K mg base CX0 3 f fd ["size"] spCheckSize := by
  refine F.ok scCheckSize (fun vs H Q E h => ?_) (fun cdv A outer s H vs Q E hr h => ?_)
  · obtain ⟨i, rfl, _⟩ := h
    rfl
  obtain ⟨n, rfl, h1, h2, q⟩ := h
  refine ⟨_, (pss_one (ps_if (pt_not (pt_val (pe_call GIsBetween (hr.mono (by decide)) rfl AIsBetween.m AIsBetween.kp AIsBetween.b .nil pass0 (pa_cons (pv 0) (pa_cons pe_int (pa_cons (pe_glob (v := .int 1000000000000000000000000000000) rfl g_MOST_ENTRIES ⟨_, rfl⟩) pa_nil))))))
    (pss_one ps_never)
    pss_nil)), ?_⟩
  refine ⟨_, rfl, n, 1, 1000000000000000000000000000000, rfl, _, rfl, ?_⟩
  rw [decide_eq_true h1, decide_eq_true (show n ≤ 1000000000000000000000000000000 from h2)]
  exact q
end
end LT

namespace LT
open PySem PySem.Spec PyProof.Rows L2
/-- values of the plain kinds, with their types -/
inductive Pl (K : PySem.W.Frag) (H : Hp) : V → String → Prop
  | non : Pl K H .non "NoneType"
  | bl (b : Bool) : Pl K H (.bl b) "bool"
  | int (i : Int) : Pl K H (.int i) "int"
  | str (s : Str) : Pl K H (.str s) "str"
  | lst {a : Addr} {xs : List V} : H a = some (.lst xs) → Pl K H (.ref a) "list"
  | tup {a : Addr} {xs : List V} : H a = some (.tup xs) → Pl K H (.ref a) "tuple"
  | dict {a : Addr} {kvs : List (Key × V)} : H a = some (.dK kvs) → Pl K H (.ref a) "dict"
theorem Pl.ty {K : PySem.W.Frag} {H : Hp} {v : V} {t : String} (h : Pl K H v t) : TyX K H v (.type t) := by
  cases h with
  | non => exact .base .non
  | bl b => exact .base (.bl b)
  | int i => exact .base (.int i)
  | str s => exact .base (.str s)
  | lst e => exact .base (.lst e)
  | tup e => exact .base (.tup e)
  | dict e => exact .base (.dK e)
def isInt : V → Bool
  | .int _ => true
  | _ => false
def inRange (lo hi : Int) : V → Bool
  | .int i => decide (lo ≤ i) && decide (i ≤ hi)
  | _ => false
section
variable {P : Program} {w : World} {K : PySem.W.Frag} {mg : Str → Option Value} {base : Heap}
def spWholeV (K : PySem.W.Frag) : Sp := fun vs H Q _ => ∃ (v : V) (t : String), vs = [v] ∧ Pl K H v t ∧ Q (.bl (isInt v)) H
theorem ok_is_wholeV {f : Addr} {fd : FuncData} (F : Fun K "is_whole" "is_whole" sIsWhole f fd) (z_isinstance : mg "isinstance" = none) (z_int : mg "int" = none) (z_bool : mg "bool" = none) : FnOk P w K mg base CX0 1 f fd ["value"] (spWholeV K) := by
  refine F.ok scIsWhole (fun vs H Q E h => ?_) (fun cdv A outer s H vs Q E hr h => ?_)
  · obtain ⟨_, _, rfl, _⟩ := h
    rfl
  obtain ⟨v, t, rfl, hv, q⟩ := h
  refine ⟨_, (pss_one (ps_ret (pe_and (pe_callB call_isi (by rfl) z_isinstance (by decide +kernel) (pa_cons (pv 0) (pa_cons (pe_bltn (v := .ty "int") (u := .type "int") (by rfl) z_int (by decide +kernel) rfl) pa_nil))) (pe_one (pe_not (pe_callB call_isi (by rfl) z_isinstance (by decide +kernel) (pa_cons (pv 0) (pa_cons (pe_bltn (v := .ty "bool") (u := .type "bool") (by rfl) z_bool (by decide +kernel) rfl) pa_nil)))))))), ?_⟩
  cases hv with
  | non => exact ⟨_, rfl, _, _, _, _, false, rfl, .ty "int", (Pl.non (K := K) (H := H)).ty, kit_ty (by decide +kernel), false, rfl, q⟩
  | bl b => exact ⟨_, rfl, _, _, _, _, true, rfl, .ty "int", (Pl.bl (K := K) (H := H) b).ty, kit_ty (by decide +kernel), true, rfl, _, rfl, _, _, _, _, true, rfl, .ty "bool", (Pl.bl (K := K) (H := H) b).ty, kit_ty (by decide +kernel), true, rfl, q⟩
  | int i => exact ⟨_, rfl, _, _, _, _, true, rfl, .ty "int", (Pl.int (K := K) (H := H) i).ty, kit_ty (by decide +kernel), true, rfl, _, rfl, _, _, _, _, false, rfl, .ty "bool", (Pl.int (K := K) (H := H) i).ty, kit_ty (by decide +kernel), false, rfl, q⟩
  | str s => exact ⟨_, rfl, _, _, _, _, false, rfl, .ty "int", (Pl.str (K := K) (H := H) s).ty, kit_ty (by decide +kernel), false, rfl, q⟩
  | lst e => exact ⟨_, rfl, _, _, _, _, false, rfl, .ty "int", (Pl.lst (K := K) e).ty, kit_ty (by decide +kernel), false, rfl, q⟩
  | tup e => exact ⟨_, rfl, _, _, _, _, false, rfl, .ty "int", (Pl.tup (K := K) e).ty, kit_ty (by decide +kernel), false, rfl, q⟩
  | dict e => exact ⟨_, rfl, _, _, _, _, false, rfl, .ty "int", (Pl.dict (K := K) e).ty, kit_ty (by decide +kernel), false, rfl, q⟩
def spBetweenV (K : PySem.W.Frag) : Sp := fun vs H Q _ => ∃ (v : V) (t : String) (lo hi : Int), vs = [v, .int lo, .int hi] ∧ Pl K H v t ∧ Q (.bl (inRange lo hi v)) H
theorem ok_is_betweenV {f g : Addr} {fd gd : FuncData} (F : Fun K "is_between" "is_between" sIsBetween f fd) (GIsWhole : FnOk P w K mg base CX0 1 g gd ["value"] (spWholeV K)) (AIsWhole : At K mg "is_whole" g gd ["value"]) : FnOk P w K mg base CX0 2 f fd ["value", "low", "high"] (spBetweenV K) := by
  refine F.ok scIsBetween (fun vs H Q E h => ?_) (fun cdv A outer s H vs Q E hr h => ?_)
  · obtain ⟨_, _, _, _, rfl, _⟩ := h
    rfl
  obtain ⟨v, t, lo, hi, rfl, hv, q⟩ := h
  refine ⟨_, (pss_one (ps_ret (pe_and (pe_call GIsWhole (hr.mono (by decide)) rfl AIsWhole.m AIsWhole.kp AIsWhole.b .nil pass0 (pa_cons (pv 0) pa_nil)) (pe_one (pe_chain op_le op_le (pv 1) (pv 0) (pv 2)))))), ?_⟩
  refine ⟨_, rfl, v, t, rfl, hv, isInt v, rfl, ?_⟩
  cases v with
  | int i =>
    have q' : Q (.bl (decide (lo ≤ i) && decide (i ≤ hi))) H := q
    refine ⟨_, rfl, _, rfl, _, _, rfl, rfl, _, rfl, ?_⟩
    by_cases h1 : lo ≤ i
    · rw [decide_eq_true h1] at q' ⊢
      exact ⟨_, rfl, _, _, rfl, rfl, q'⟩
    · rw [decide_eq_false h1] at q' ⊢
      exact q'
  | non => exact q
  | bl _ => exact q
  | str _ => exact q
  | byt _ => exact q
  | flt _ => exact q
  | ref _ => exact q
  | ty _ => exact q
theorem whole_of {k : Nat} {f : Addr} {fd : FuncData} (F : FnOk P w K mg base CX0 k f fd ["value"] (spWholeV K)) : FnOk P w K mg base CX0 k f fd ["value"] spWhole :=
  F.imp fun vs H Q E h => by
    obtain ⟨i, rfl, q⟩ := h
    exact ⟨_, _, rfl, .int i, q⟩
theorem between_of {k : Nat} {f : Addr} {fd : FuncData} (F : FnOk P w K mg base CX0 k f fd ["value", "low", "high"] (spBetweenV K)) : FnOk P w K mg base CX0 k f fd ["value", "low", "high"] spBetween :=
  F.imp fun vs H Q E h => by
    obtain ⟨v, lo, hi, rfl, q⟩ := h
    exact ⟨_, _, _, _, rfl, .int v, q⟩
end
end LT

namespace LT
open PySem PySem.Spec PyProof.Rows L2
theorem bits_nat (k : Nat) : Builtin.Int.intBits (k : Int) = if k = 0 then 0 else k.log2 + 1 := by
  unfold Builtin.Int.intBits
  by_cases h : k = 0
  · subst h; rfl
  · rw [if_neg h, if_neg (by simpa using h)]
    rfl
theorem bits_lb {m : Nat} (h : 1 ≤ m) : Builtin.Int.intBits ((m - 1 : Nat) : Int) = lb m := by
  rw [bits_nat]
  unfold lb
  by_cases k : m ≤ 1
  · rw [if_pos k, if_pos (by omega)]
  · rw [if_neg k, if_neg (by omega)]
theorem lb100 {m : Nat} (h : m ≤ 10 ^ 30) : lb m ≤ 100 := lb_le (Nat.le_trans h (by decide))
theorem fmod_of_dvd {a b : Nat} (h : a ∣ b) : Int.fmod (b : Int) (a : Int) = 0 := by
  rw [Int.fmod_eq_emod_of_nonneg _ (Int.natCast_nonneg _)]
  exact Int.emod_eq_zero_of_dvd (Int.natCast_dvd_natCast.mpr h)
end LT

namespace LT
open PySem PySem.Spec PyProof.Rows L2
section
variable {P : Program} {w : World} {K : PySem.W.Frag} {mg : Str → Option Value} {base : Heap}
def spTree : Sp := fun vs H Q _ => ∃ (n b m : Nat) (v : V), vs = [.int n, v] ∧ Nd H v (b, b + m) ∧ 1 ≤ m ∧ b + m ≤ n ∧ n ≤ 10 ^ 30 ∧ tree n b m ∧ Q (.bl true) H
theorem ok_is_tree_node {f g : Addr} {fd gd : FuncData} (F : Fun K "is_tree_node" "is_tree_node" sIsTreeNode f fd) (GIsBetween : FnOk P w K mg base CX0 2 g gd ["value", "low", "high"] spBetween) (AIsBetween : At K mg "is_between" g gd ["value", "low", "high"])
    (z_isinstance : mg "isinstance" = none) (z_tuple : mg "tuple" = none) (z_len : mg "len" = none) : FnOk P w K mg base CX0 3 f fd ["size", "value"] spTree := by
  refine F.ok scIsTreeNode (fun vs H Q E h => ?_) (fun cdv A outer s H vs Q E hr h => ?_)
  · obtain ⟨_, _, _, _, rfl, _⟩ := h
    rfl
  obtain ⟨n, b, m, v, rfl, ⟨p, rfl, hp⟩, hm, hn, h30, ht, q⟩ := h
  refine ⟨_, (pss_cons (ps_if (PW.pt (pw_or (pt_not (pt_val (pe_callB call_isi (by rfl) z_isinstance (by decide +kernel) (pa_cons (pv 1) (pa_cons (pe_bltn (v := .ty "tuple") (u := .type "tuple") (by rfl) z_tuple (by decide +kernel) rfl) pa_nil))))) (pw_or1 (pt_cmpR op_ne (pe_callB call_len_seq (by rfl) z_len PySem.boot_len (pa_cons (pv 1) pa_nil)) pe_int (nomark _)))))
    (pss_one (ps_ret pe_bl))
    pss_nil)
    (pss_cons (ps_asg (pv 1) (pg_tup (by rfl) (pgs_cons (pg_name (i := 2) scIsTreeNode.nd rfl (Or.inl rfl)) (pgs_cons (pg_name (i := 3) scIsTreeNode.nd rfl (Or.inl rfl)) pgs_nil))))
    (pss_cons (ps_if (PW.pt (pw_or (pt_not (pt_val (pe_call GIsBetween (hr.mono (by decide)) rfl AIsBetween.m AIsBetween.kp AIsBetween.b .nil pass0 (pa_cons (pv 2) (pa_cons pe_int (pa_cons (pe_op op_sub (pv 0) pe_int) pa_nil)))))) (pw_or1 (pt_not (pt_val (pe_call GIsBetween (hr.mono (by decide)) rfl AIsBetween.m AIsBetween.kp AIsBetween.b .nil pass0 (pa_cons (pv 3) (pa_cons (pe_op op_add (pv 2) pe_int) (pa_cons (pv 0) pa_nil)))))))))
    (pss_one (ps_ret pe_bl))
    pss_nil)
    (pss_cons (ps_set (i := 4) scIsTreeNode.nd rfl (Or.inl rfl) (pe_op op_shl pe_int (pe_bits (pe_op op_sub (pe_op op_sub (pv 3) (pv 2)) pe_int))))
    (pss_one (ps_ret (pe_and (pe_cmpR op_eq (pe_op op_modN (pv 2) (pv 4)) pe_int (nomark _)) (pe_one (pe_or (pe_cmpR op_eq (pe_op op_sub (pv 3) (pv 2)) (pv 4) (nomark _)) (pe_one (pe_cmpR op_eq (pv 3) (pv 0) (nomark _)))))))))))), ?_⟩
  refine ⟨_, rfl, _, _, _, _, true, rfl, .ty "tuple", .base (.tup hp), kit_ty (by decide +kernel), true, rfl, ?_⟩
  refine ⟨_, rfl, p, _, rfl, .inr (SqT.of hp), rfl, false, rfl, ?_⟩
  refine ⟨_, rfl, p, _, rfl, SqT.of hp, rfl, _, _, rfl, _, _, rfl, rfl, ?_⟩
  refine ⟨_, rfl, _, rfl, _, _, rfl, rfl, _, _, _, rfl, true, ?_, ?_⟩
  · exact congrArg V.bl (by rw [Bool.and_eq_true]; exact ⟨decide_eq_true (by omega), decide_eq_true (by show (b : Int) ≤ n - 1; omega)⟩)
  refine ⟨_, rfl, _, rfl, _, _, rfl, rfl, _, rfl, _, _, _, rfl, true, ?_, ?_⟩
  · exact congrArg V.bl (by rw [Bool.and_eq_true]; exact ⟨decide_eq_true (by show (b : Int) + 1 ≤ ((b + m : Nat) : Int); omega), decide_eq_true (by show ((b + m : Nat) : Int) ≤ n; omega)⟩)
  have e1 : ((b + m : Nat) : Int) - (b : Int) - 1 = ((m - 1 : Nat) : Int) := by omega
  refine ⟨_, rfl, _, rfl, _, _, rfl, rfl, _, _, rfl, rfl, _, rfl, ?_⟩
  dsimp only
  rw [e1, bits_lb hm]
  have l100 := lb100 (show m ≤ 10 ^ 30 by omega)
  refine ⟨_, _, rfl, rfl, ⟨Int.natCast_nonneg _, by omega, by decide⟩, ?_⟩
  have e2 : (1 : Int) * 2 ^ ((lb m : Nat) : Int).toNat = ((2 ^ lb m : Nat) : Int) := by rw [Int.one_mul, Int.toNat_natCast]; exact (Int.natCast_pow 2 (lb m)).symm
  dsimp only
  rw [e2]
  obtain ⟨d, k⟩ := ht
  have pz : 0 < 2 ^ lb m := Nat.pow_pos (by decide)
  generalize 2 ^ lb m = R at d k pz
  refine ⟨_, rfl, _, rfl, _, _, rfl, rfl, by omega, rfl, true, ?_, ?_⟩
  · show V.bl (decide (V.int (Int.fmod (b : Int) (R : Int)) = V.int 0)) = V.bl true
    rw [fmod_of_dvd d, decide_eq_true rfl]
  refine ⟨_, rfl, _, rfl, _, _, rfl, rfl, _, rfl, rfl, _, rfl, ite2 (fun c => q) (fun c => ?_)⟩
  have c1 : ¬ V.int (((b + m : Nat) : Int) - (b : Int)) = V.int (R : Int) := of_decide_eq_false (Bool.eq_false_iff.mpr c)
  refine ⟨_, rfl, _, rfl, rfl, ?_⟩
  have e4 : b + m = n := by
    rcases k with k | k
    · exact absurd (congrArg V.int (by omega)) c1
    · exact k
  show Q (V.bl (decide (V.int ((b + m : Nat) : Int) = V.int (n : Int)))) H
  rw [decide_eq_true (by rw [e4])]
  exact q
end
end LT

namespace LT
open PySem PySem.Spec PyProof.Rows L2
section
variable {P : Program} {w : World} {K : PySem.W.Frag} {mg : Str → Option Value} {base : Heap}
def spPower : Sp := fun vs H Q _ => ∃ (k : Nat), vs = [.int k] ∧ 1 ≤ k ∧ k ≤ 10 ^ 30 ∧ Q (.int ((2 ^ k.log2 : Nat) : Int)) H
theorem ok_power_within {f : Addr} {fd : FuncData} (F : Fun K "power_within" "power_within" sPowerWithin f fd) : FnOk P w K mg base CX0 1 f fd ["number"] spPower := by
  refine F.ok scPowerWithin (fun vs H Q E h => ?_) (fun cdv A outer s H vs Q E hr h => ?_)
  · obtain ⟨_, rfl, _⟩ := h
    rfl
  obtain ⟨k, rfl, h1, h30, q⟩ := h
  refine ⟨_, (pss_one (ps_ret (pe_op op_shl pe_int (pe_op op_sub (pe_bits (pv 0)) pe_int)))), ?_⟩
  refine ⟨_, rfl, _, rfl, _, _, rfl, rfl, ?_⟩
  dsimp only
  have e : ((Builtin.Int.intBits (k : Int) : Nat) : Int) - 1 = ((k.log2 : Nat) : Int) := by
    rw [bits_nat, if_neg (by omega)]
    omega
  rw [e]
  have l100 : k.log2 < 100 := (Nat.log2_lt (by omega)).mpr (Nat.lt_of_le_of_lt h30 (by decide))
  refine ⟨_, _, rfl, rfl, ⟨Int.natCast_nonneg _, by omega, by decide⟩, ?_⟩
  have e2 : (1 : Int) * 2 ^ ((k.log2 : Nat) : Int).toNat = ((2 ^ k.log2 : Nat) : Int) := by rw [Int.one_mul, Int.toNat_natCast]; exact (Int.natCast_pow 2 _).symm
  show Q (.int ((1 : Int) * 2 ^ ((k.log2 : Nat) : Int).toNat)) H
  rw [e2]
  exact q
end
end LT

namespace LT
/-- the nodes from (b, b + m) down, as the law lists them -/
def nodesF : Nat → Nat → Nat → List (Nat × Nat)
  | 0, _, _ => []
  | i + 1, b, m => if m ≤ 1 then [(b, b + m)] else (b, b + m) :: (nodesF i b (gp m) ++ nodesF i (b + gp m) (m - gp m))
theorem nodesF_one {i b m : Nat} (h : m ≤ 1) : nodesF (i + 1) b m = [(b, b + m)] := if_pos h
theorem nodesF_two {i b m : Nat} (h : ¬ m ≤ 1) : nodesF (i + 1) b m = (b, b + m) :: (nodesF i b (gp m) ++ nodesF i (b + gp m) (m - gp m)) := if_neg h
theorem gp_half {i m : Nat} (h : 2 ≤ m) (k : 2 * m ≤ 2 ^ (i + 1)) : 2 * gp m ≤ 2 ^ i ∧ 2 * (m - gp m) ≤ 2 ^ i := by
  have g1 := gp_lt h
  have g2 := gp_ge h
  have p := Nat.pow_succ (n := 2) (m := i)
  have : gp m < 2 ^ i := by omega
  unfold gp at this ⊢
  have e := (Nat.pow_lt_pow_iff_right (by decide : 1 < 2)).mp this
  have e2 : 2 ^ ((m - 1).log2 + 1) ≤ 2 ^ i := Nat.pow_le_pow_right (by decide) (by omega)
  rw [Nat.pow_succ] at e2
  unfold gp at g1 g2
  omega
theorem nodesF_len : ∀ (i b m : Nat), 1 ≤ m → 2 * m ≤ 2 ^ i → (nodesF i b m).length = 2 * m - 1
  | 0, b, m, h1, h2 => by simp at h2; omega
  | i + 1, b, m, h1, h2 => by
    by_cases c : m ≤ 1
    · rw [nodesF_one c]
      simp
      omega
    · rw [nodesF_two c, List.length_cons, List.length_append]
      have g1 := gp_lt (m := m) (by omega)
      have g3 := gp_pos m
      obtain ⟨k1, k2⟩ := gp_half (by omega) h2
      rw [nodesF_len i b (gp m) g3 k1, nodesF_len i (b + gp m) (m - gp m) (by omega) k2]
      omega
/-- a node of tree(n) -/
def isN (n : Nat) (x : Nat × Nat) : Prop := x.1 < x.2 ∧ x.2 ≤ n ∧ tree n x.1 (x.2 - x.1)
theorem mul_le_of_lt {R a b : Nat} (h1 : R ∣ a) (h2 : R ∣ b) (h : a < b) : a + R ≤ b := by
  obtain ⟨x, rfl⟩ := h1
  obtain ⟨y, rfl⟩ := h2
  have : x < y := Nat.lt_of_mul_lt_mul_left h
  calc R * x + R = R * (x + 1) := by rw [Nat.mul_succ]
    _ ≤ R * y := Nat.mul_le_mul_left R this
/-- a node within another one is it, or lies within one of its halves -/
theorem node_in {n b m : Nat} (h : 2 ≤ m) (t : tree n b m) (hn : b + m ≤ n) {x : Nat × Nat} (hx : isN n x) (h1 : b ≤ x.1) (h2 : x.2 ≤ b + m) : x = (b, b + m) ∨ x.2 ≤ b + gp m ∨ b + gp m ≤ x.1 := by
  obtain ⟨x1, x2⟩ := x
  obtain ⟨k1, k2, d, k3⟩ := hx
  simp only at k1 k2 d k3 h1 h2
  by_cases c1 : x2 ≤ b + gp m
  · exact .inr (.inl c1)
  by_cases c2 : b + gp m ≤ x1
  · exact .inr (.inr c2)
  left
  obtain ⟨td, tk⟩ := t
  have e := lb_gp h
  rw [e] at td tk
  have g1 := gp_lt h
  have g2 := gp_ge h
  have gR : gp m = 2 ^ Nat.log2 (m - 1) := rfl
  generalize hr : lb (x2 - x1) = r at d k3
  have ge := lb_ge (x2 - x1)
  rw [hr] at ge
  by_cases c : r ≤ Nat.log2 (m - 1)
  · -- small: a multiple of 2 ^ r below b + gp m ends there at most
    have dg : 2 ^ r ∣ gp m := by rw [gR]; exact Nat.pow_dvd_pow 2 c
    have db : 2 ^ r ∣ b := Nat.dvd_trans dg (Nat.dvd_trans (Nat.dvd_mul_left _ _) td)
    have := mul_le_of_lt d (Nat.dvd_add db dg) (by omega : x1 < b + gp m)
    omega
  · have dd : 2 * gp m ∣ 2 ^ r := by
      rw [gR, Nat.mul_comm, ← Nat.pow_succ]
      exact Nat.pow_dvd_pow 2 (by omega)
    have dx := Nat.dvd_trans dd d
    have ex : x1 = b := by
      by_cases z : b < x1
      · have := mul_le_of_lt td dx z
        omega
      · omega
    subst ex
    have le : 2 * gp m ≤ 2 ^ r := Nat.le_of_dvd (Nat.pow_pos (by decide)) dd
    have rl : r ≤ Nat.log2 (m - 1) + 1 := by
      rw [← hr]
      refine lb_le ?_
      rw [Nat.pow_succ, ← gR]
      omega
    have e2 : 2 ^ r ≤ 2 * gp m := by
      rw [gR, Nat.mul_comm, ← Nat.pow_succ]
      exact Nat.pow_le_pow_right (by decide) rl
    have : x2 = x1 + m := by
      rcases k3 with k3 | k3 <;> omega
    rw [this]
theorem mem_nodesF (n : Nat) (x : Nat × Nat) : ∀ (i b m : Nat), 1 ≤ m → 2 * m ≤ 2 ^ i → tree n b m → b + m ≤ n → (x ∈ nodesF i b m ↔ isN n x ∧ b ≤ x.1 ∧ x.2 ≤ b + m)
  | 0, b, m, h1, h2, _, _ => by simp at h2; omega
  | i + 1, b, m, h1, h2, t, hn => by
    by_cases c : m ≤ 1
    · have em : m = 1 := by omega
      subst em
      rw [nodesF_one (by omega), List.mem_singleton]
      constructor
      · rintro rfl
        exact ⟨⟨by simp, by simpa using hn, by simpa using t⟩, by simp, by simp⟩
      · rintro ⟨⟨k1, _⟩, k2, k3⟩
        have : x.1 = b ∧ x.2 = b + 1 := by omega
        exact Prod.ext this.1 this.2
    · rw [nodesF_two c, List.mem_cons, List.mem_append]
      have g1 := gp_lt (m := m) (by omega)
      have g3 := gp_pos m
      obtain ⟨k1, k2⟩ := gp_half (by omega) h2
      have e : b + gp m + (m - gp m) = b + m := by omega
      have il := mem_nodesF n x i b (gp m) g3 k1 (tree_low (by omega) t) (by omega)
      have ih := mem_nodesF n x i (b + gp m) (m - gp m) (by omega) k2 (tree_high (by omega) t) (by omega)
      rw [il, ih, e]
      constructor
      · rintro (rfl | ⟨p, q, r⟩ | ⟨p, q, r⟩)
        · exact ⟨⟨by simp; omega, by simpa using hn, by simpa using t⟩, by simp, by simp⟩
        · exact ⟨p, q, by omega⟩
        · exact ⟨p, by omega, r⟩
      · rintro ⟨p, q, r⟩
        rcases node_in (by omega) t hn p q r with z | z | z
        · exact .inl z
        · exact .inr (.inl ⟨p, q, z⟩)
        · exact .inr (.inr ⟨p, z, r⟩)
instance (n : Nat) (x : Nat × Nat) : Decidable (tree n x.1 (x.2 - x.1)) := by unfold tree; infer_instance
instance (n : Nat) (x : Nat × Nat) : Decidable (isN n x) := by unfold isN; infer_instance
end LT

namespace LT
open PySem PySem.Spec PyProof.Rows L2
def tnV (n : Nat) : V → V → Bool
  | .int b, .int e => decide (0 ≤ b ∧ isN n (b.toNat, e.toNat))
  | _, _ => false
theorem tn_out {n : Nat} {b e : Int} (h : ¬ (0 ≤ b ∧ b < e ∧ e ≤ n)) : tnV n (.int b) (.int e) = false := by
  refine decide_eq_false (fun ⟨h0, k⟩ => h ⟨h0, ?_, ?_⟩)
  · have := k.1
    simp only at this
    omega
  · have := k.1
    have := k.2.1
    simp only at *
    omega
/-- what may be asked whether it is a node -/
inductive Ask (K : PySem.W.Frag) (H : Hp) (n : Nat) : V → Bool → Prop
  | kind {v : V} {t : String} : Pl K H v t → t ≠ "tuple" → Ask K H n v false
  | long {p : Addr} {xs : List V} : H p = some (.tup xs) → xs.length ≠ 2 → xs.length ≤ 1000 → Ask K H n (.ref p) false
  | pair {p : Addr} {v1 v2 : V} {t1 t2 : String} : H p = some (.tup [v1, v2]) → Pl K H v1 t1 → Pl K H v2 t2 → Ask K H n (.ref p) (tnV n v1 v2)
theorem kit_tup {t : String} {K : PySem.W.Frag} {H : Hp} {v : V} (h : Pl K H v t) (hn : t ≠ "tuple") : PySem.W.kitOne K (.type t) (.type "tuple") = some false := by
  cases h with
  | non => exact kit_ty (by decide +kernel)
  | bl _ => exact kit_ty (by decide +kernel)
  | int _ => exact kit_ty (by decide +kernel)
  | str _ => exact kit_ty (by decide +kernel)
  | lst _ => exact kit_ty (by decide +kernel)
  | tup _ => exact absurd rfl hn
  | dict _ => exact kit_ty (by decide +kernel)
section
variable {P : Program} {w : World} {K : PySem.W.Frag} {mg : Str → Option Value} {base : Heap}
def spTreeV (K : PySem.W.Frag) : Sp := fun vs H Q _ => ∃ (n : Nat) (v : V) (r : Bool), vs = [.int n, v] ∧ 1 ≤ n ∧ n ≤ 2 ^ 100 ∧ Ask K H n v r ∧ Q (.bl r) H
theorem ok_is_tree_nodeV {f g : Addr} {fd gd : FuncData} (F : Fun K "is_tree_node" "is_tree_node" sIsTreeNode f fd) (GIsBetween : FnOk P w K mg base CX0 2 g gd ["value", "low", "high"] (spBetweenV K)) (AIsBetween : At K mg "is_between" g gd ["value", "low", "high"])
    (z_isinstance : mg "isinstance" = none) (z_tuple : mg "tuple" = none) (z_len : mg "len" = none) : FnOk P w K mg base CX0 3 f fd ["size", "value"] (spTreeV K) := by
  refine F.ok scIsTreeNode (fun vs H Q E h => ?_) (fun cdv A outer s H vs Q E hr h => ?_)
  · obtain ⟨_, _, _, rfl, _⟩ := h
    rfl
  obtain ⟨n, v, r, rfl, n1, h30, ask, q⟩ := h
  refine ⟨_, (pss_cons (ps_if (PW.pt (pw_or (pt_not (pt_val (pe_callB call_isi (by rfl) z_isinstance (by decide +kernel) (pa_cons (pv 1) (pa_cons (pe_bltn (v := .ty "tuple") (u := .type "tuple") (by rfl) z_tuple (by decide +kernel) rfl) pa_nil))))) (pw_or1 (pt_cmpR op_ne (pe_callB call_len_seq (by rfl) z_len PySem.boot_len (pa_cons (pv 1) pa_nil)) pe_int (nomark _)))))
    (pss_one (ps_ret pe_bl))
    pss_nil)
    (pss_cons (ps_asg (pv 1) (pg_tup (by rfl) (pgs_cons (pg_name (i := 2) scIsTreeNode.nd rfl (Or.inl rfl)) (pgs_cons (pg_name (i := 3) scIsTreeNode.nd rfl (Or.inl rfl)) pgs_nil))))
    (pss_cons (ps_if (PW.pt (pw_or (pt_not (pt_val (pe_call GIsBetween (hr.mono (by decide)) rfl AIsBetween.m AIsBetween.kp AIsBetween.b .nil pass0 (pa_cons (pv 2) (pa_cons pe_int (pa_cons (pe_op op_sub (pv 0) pe_int) pa_nil)))))) (pw_or1 (pt_not (pt_val (pe_call GIsBetween (hr.mono (by decide)) rfl AIsBetween.m AIsBetween.kp AIsBetween.b .nil pass0 (pa_cons (pv 3) (pa_cons (pe_op op_add (pv 2) pe_int) (pa_cons (pv 0) pa_nil)))))))))
    (pss_one (ps_ret pe_bl))
    pss_nil)
    (pss_cons (ps_set (i := 4) scIsTreeNode.nd rfl (Or.inl rfl) (pe_op op_shl pe_int (pe_bits (pe_op op_sub (pe_op op_sub (pv 3) (pv 2)) pe_int))))
    (pss_one (ps_ret (pe_and (pe_cmpR op_eq (pe_op op_modN (pv 2) (pv 4)) pe_int (nomark _)) (pe_one (pe_or (pe_cmpR op_eq (pe_op op_sub (pv 3) (pv 2)) (pv 4) (nomark _)) (pe_one (pe_cmpR op_eq (pv 3) (pv 0) (nomark _)))))))))))), ?_⟩
  cases ask with
  | @kind _ t hv ht => exact ⟨_, rfl, _, _, _, _, false, rfl, .ty "tuple", hv.ty, kit_tup hv ht, false, rfl, q⟩
  | @long p xs hp hl h1000 =>
    refine ⟨_, rfl, _, _, _, _, true, rfl, .ty "tuple", .base (.tup hp), kit_ty (by decide +kernel), true, rfl, ?_⟩
    refine ⟨_, rfl, p, _, rfl, .inr (SqT.of hp), rfl, true, ?_, q⟩
    refine congrArg V.bl ?_
    rw [Bool.not_eq_true']
    exact decide_eq_false (fun z => hl (by have := V.int.inj z; omega))
  | @pair p v1 v2 ty1 ty2 hp p1 p2 =>
    refine ⟨_, rfl, _, _, _, _, true, rfl, .ty "tuple", .base (.tup hp), kit_ty (by decide +kernel), true, rfl, ?_⟩
    refine ⟨_, rfl, p, _, rfl, .inr (SqT.of hp), rfl, false, rfl, ?_⟩
    refine ⟨_, rfl, p, _, rfl, SqT.of hp, rfl, _, _, rfl, _, _, rfl, rfl, ?_⟩
    refine ⟨_, rfl, _, rfl, _, _, rfl, rfl, v1, ty1, _, _, rfl, p1, inRange 0 ((n : Int) - 1) v1, rfl, ?_⟩
    cases h1 : inRange 0 ((n : Int) - 1) v1 with
    | false =>
      have e : tnV n v1 v2 = false := by
        cases v1 with
        | int b =>
          cases v2 with
          | int e =>
            refine tn_out (fun k => ?_)
            have h1' : (decide (0 ≤ b) && decide (b ≤ (n : Int) - 1)) = false := h1
            rw [decide_eq_true k.1, decide_eq_true (show b ≤ (n : Int) - 1 by omega)] at h1'
            exact absurd h1' (by decide)
          | _ => rfl
        | _ => rfl
      rw [e] at q
      exact q
    | true =>
      cases p1 with
      | int b =>
        have h1' : (decide (0 ≤ b) && decide (b ≤ (n : Int) - 1)) = true := h1
        rw [Bool.and_eq_true] at h1'
        have b0 := of_decide_eq_true h1'.1
        have b1 := of_decide_eq_true h1'.2
        refine ⟨_, rfl, _, rfl, _, _, rfl, rfl, _, rfl, v2, ty2, _, _, rfl, p2, inRange (b + 1) (n : Int) v2, rfl, ?_⟩
        cases h2 : inRange (b + 1) (n : Int) v2 with
        | false =>
          have e : tnV n (.int b) v2 = false := by
            cases v2 with
            | int e =>
              refine tn_out (fun k => ?_)
              have h2' : (decide (b + 1 ≤ e) && decide (e ≤ (n : Int))) = false := h2
              rw [decide_eq_true (show b + 1 ≤ e by omega), decide_eq_true k.2.2] at h2'
              exact absurd h2' (by decide)
            | _ => rfl
          rw [e] at q
          exact q
        | true =>
          cases p2 with
          | int e =>
            have h2' : (decide (b + 1 ≤ e) && decide (e ≤ (n : Int))) = true := h2
            rw [Bool.and_eq_true] at h2'
            have e0 := of_decide_eq_true h2'.1
            have e1 := of_decide_eq_true h2'.2
            obtain ⟨bn, rfl⟩ := Int.eq_ofNat_of_zero_le b0
            obtain ⟨en, rfl⟩ := Int.eq_ofNat_of_zero_le (show 0 ≤ e by omega)
            have hlt : bn < en := by omega
            have ev : tnV n (.int (bn : Int)) (.int (en : Int)) = decide (isN n (bn, en)) := by
              show decide (0 ≤ (bn : Int) ∧ isN n ((bn : Int).toNat, (en : Int).toNat)) = decide (isN n (bn, en))
              rw [Int.toNat_natCast, Int.toNat_natCast]
              by_cases k : isN n (bn, en)
              · rw [decide_eq_true k, decide_eq_true ⟨b0, k⟩]
              · rw [decide_eq_false k, decide_eq_false (fun z => k z.2)]
            rw [ev] at q
            have em : (en : Int) - (bn : Int) - 1 = ((en - bn - 1 : Nat) : Int) := by omega
            refine ⟨_, rfl, _, rfl, _, _, rfl, rfl, _, _, rfl, rfl, _, rfl, ?_⟩
            dsimp only
            rw [em, bits_lb (show 1 ≤ en - bn by omega)]
            have l100 := lb_le (show en - bn ≤ 2 ^ 100 by omega)
            refine ⟨_, _, rfl, rfl, ⟨Int.natCast_nonneg _, by omega, by decide⟩, ?_⟩
            have e2 : (1 : Int) * 2 ^ ((lb (en - bn) : Nat) : Int).toNat = ((2 ^ lb (en - bn) : Nat) : Int) := by rw [Int.one_mul, Int.toNat_natCast]; exact (Int.natCast_pow 2 _).symm
            dsimp only
            rw [e2]
            have pz : 0 < 2 ^ lb (en - bn) := Nat.pow_pos (by decide)
            have isE : isN n (bn, en) ↔ (bn % 2 ^ lb (en - bn) = 0 ∧ (en - bn = 2 ^ lb (en - bn) ∨ en = n)) := by
              unfold isN tree
              simp only
              constructor
              · rintro ⟨_, _, k1, k2⟩
                exact ⟨Nat.mod_eq_zero_of_dvd k1, k2.elim .inl (fun z => .inr (by omega))⟩
              · rintro ⟨k1, k2⟩
                exact ⟨hlt, by omega, Nat.dvd_of_mod_eq_zero k1, k2.elim .inl (fun z => .inr (by omega))⟩
            generalize 2 ^ lb (en - bn) = R at pz isE
            have fm : Int.fmod (bn : Int) (R : Int) = ((bn % R : Nat) : Int) := by
              rw [Int.fmod_eq_emod_of_nonneg _ (Int.natCast_nonneg _)]
              exact (Int.natCast_emod _ _).symm
            refine ⟨_, rfl, _, rfl, _, _, rfl, rfl, by omega, rfl, decide (bn % R = 0), ?_, ?_⟩
            · show V.bl (decide (V.int (Int.fmod (bn : Int) (R : Int)) = V.int 0)) = V.bl (decide (bn % R = 0))
              rw [fm]
              refine congrArg V.bl ?_
              by_cases k : bn % R = 0
              · rw [decide_eq_true k, k]; rfl
              · rw [decide_eq_false k]
                exact decide_eq_false (fun z => k (by have := V.int.inj z; omega))
            by_cases k : bn % R = 0
            · rw [decide_eq_true k]
              refine iteT ?_
              refine ⟨_, rfl, _, rfl, _, _, rfl, rfl, _, rfl, rfl, _, rfl, ite2 (fun c => ?_) (fun c => ?_)⟩
              · have c1 : V.int ((en : Int) - (bn : Int)) = V.int (R : Int) := of_decide_eq_true c
                have c2 := V.int.inj c1
                rw [decide_eq_true (isE.mpr ⟨k, .inl (by omega)⟩)] at q
                exact q
              · have c1 : ¬ V.int ((en : Int) - (bn : Int)) = V.int (R : Int) := of_decide_eq_false (Bool.eq_false_iff.mpr c)
                refine ⟨_, rfl, _, rfl, rfl, ?_⟩
                have ed : decide (V.int (en : Int) = V.int (n : Int)) = decide (isN n (bn, en)) := by
                  by_cases z : en = n
                  · rw [decide_eq_true (isE.mpr ⟨k, .inr z⟩), decide_eq_true (by rw [z])]
                  · rw [decide_eq_false (fun y => z (by have := V.int.inj y; omega)), decide_eq_false (fun y => (isE.mp y).2.elim (fun u => c1 (congrArg V.int (by omega))) z)]
                show Q (.bl (decide (V.int (en : Int) = V.int (n : Int)))) H
                rw [ed]
                exact q
            · rw [decide_eq_false k]
              refine iteF ?_
              rw [decide_eq_false (fun z => k (isE.mp z).1)] at q
              exact q
          | _ => exact absurd h2 (by intro z; cases z)
      | _ => exact absurd h1 (by intro z; cases z)
end
end LT

namespace LT
/-! ### the greatest nodes within a stretch -/
theorem and_pred_odd (c : Nat) : (2 * c + 1) &&& (2 * c) = 2 * c := by
  apply Nat.eq_of_testBit_eq
  intro i
  rw [Nat.testBit_and]
  cases i with
  | zero => simp
  | succ i =>
    rw [Nat.testBit_succ, Nat.testBit_succ, show (2 * c + 1) / 2 = c by omega, show 2 * c / 2 = c by omega, Bool.and_self]
theorem and_pred_even (c : Nat) (h : 0 < c) : (2 * c) &&& (2 * c - 1) = 2 * (c &&& (c - 1)) := by
  apply Nat.eq_of_testBit_eq
  intro i
  rw [Nat.testBit_and]
  cases i with
  | zero => simp
  | succ i =>
    rw [Nat.testBit_succ, Nat.testBit_succ, Nat.testBit_succ, show 2 * c / 2 = c by omega, show (2 * c - 1) / 2 = c - 1 by omega, show 2 * (c &&& (c - 1)) / 2 = c &&& (c - 1) by omega, Nat.testBit_and]
def low (b : Nat) : Nat := b - (b &&& (b - 1))
theorem low_is : ∀ b : Nat, 0 < b → ∃ k, low b = 2 ^ k ∧ 2 ^ k ∣ b ∧ ¬ 2 ^ (k + 1) ∣ b := by
  intro b
  induction b using Nat.strongRecOn with
  | ind b ih =>
    intro hb
    rcases Nat.mod_two_eq_zero_or_one b with h | h
    · obtain ⟨c, rfl⟩ : ∃ c, b = 2 * c := ⟨b / 2, by omega⟩
      obtain ⟨k, e, d1, d2⟩ := ih c (by omega) (by omega)
      refine ⟨k + 1, ?_, ?_, ?_⟩
      · unfold low at e ⊢
        rw [and_pred_even c (by omega), Nat.pow_succ]
        omega
      · rw [Nat.pow_succ, Nat.mul_comm]
        exact Nat.mul_dvd_mul_left 2 d1
      · rw [Nat.pow_succ, Nat.mul_comm (2 ^ (k + 1)) 2]
        exact fun z => d2 (Nat.dvd_of_mul_dvd_mul_left (by decide) z)
    · obtain ⟨c, rfl⟩ : ∃ c, b = 2 * c + 1 := ⟨b / 2, by omega⟩
      refine ⟨0, ?_, Nat.one_dvd _, ?_⟩
      · unfold low
        rw [show 2 * c + 1 - 1 = 2 * c by omega, and_pred_odd]
        omega
      · intro z
        have := Nat.mod_eq_zero_of_dvd z
        omega
/-- the room of the greatest full node that begins at b, up to e -/
def rm (b e : Nat) : Nat := if b = 0 then 2 ^ (e - b).log2 else min (2 ^ (e - b).log2) (low b)
theorem rm_is {b e : Nat} (h : b < e) : ∃ k, rm b e = 2 ^ k ∧ 2 ^ k ∣ b ∧ b + 2 ^ k ≤ e ∧ (2 ^ (k + 1) ∣ b → e < b + 2 ^ (k + 1)) := by
  have l1 := Nat.log2_self_le (n := e - b) (by omega)
  have l2 := Nat.lt_log2_self (n := e - b)
  unfold rm
  by_cases c : b = 0
  · subst c
    rw [if_pos rfl]
    exact ⟨_, rfl, Nat.dvd_zero _, by omega, fun _ => by omega⟩
  · rw [if_neg c]
    obtain ⟨k, e1, d1, d2⟩ := low_is b (by omega)
    rw [e1]
    by_cases c2 : (e - b).log2 ≤ k
    · have := Nat.pow_le_pow_right (n := 2) (by decide) c2
      rw [Nat.min_eq_left this]
      exact ⟨_, rfl, Nat.dvd_trans (Nat.pow_dvd_pow 2 c2) d1, by omega, fun _ => by omega⟩
    · have := Nat.pow_le_pow_right (n := 2) (by decide) (show k ≤ (e - b).log2 by omega)
      rw [Nat.min_eq_right this]
      exact ⟨k, rfl, d1, by omega, fun z => absurd z d2⟩
def rw1 (n b e : Nat) : Nat := if isN n (b, e) then e - b else rm b e
def nwF (n : Nat) : Nat → Nat → Nat → List (Nat × Nat)
  | 0, _, _ => []
  | f + 1, b, e => if b < e then (b, b + rw1 n b e) :: nwF n f (b + rw1 n b e) e else []
def nw (n b e : Nat) : List (Nat × Nat) := nwF n (e - b) b e
theorem rw1_pos {n b e : Nat} (h : b < e) : 0 < rw1 n b e ∧ b + rw1 n b e ≤ e := by
  unfold rw1
  split
  · omega
  · obtain ⟨k, e1, _, e2, _⟩ := rm_is h
    have := Nat.pow_pos (a := 2) (n := k) (by decide)
    omega
theorem nwF_eq (n e : Nat) : ∀ (f g b : Nat), e - b ≤ f → e - b ≤ g → nwF n f b e = nwF n g b e
  | 0, 0, _, _, _ => rfl
  | 0, g + 1, b, h, _ => by
    show [] = if b < e then _ else _
    rw [if_neg (by omega)]
  | f + 1, 0, b, _, h => by
    show (if b < e then _ else _) = []
    rw [if_neg (by omega)]
  | f + 1, g + 1, b, h1, h2 => by
    show (if b < e then _ else _) = if b < e then _ else _
    by_cases c : b < e
    · have := rw1_pos (n := n) c
      rw [if_pos c, if_pos c, nwF_eq n e f g (b + rw1 n b e) (by omega) (by omega)]
    · rw [if_neg c, if_neg c]
theorem nw_nil {n b e : Nat} (h : e ≤ b) : nw n b e = [] := by
  unfold nw
  rw [show e - b = 0 by omega]
  rfl
theorem nw_step {n b e : Nat} (h : b < e) : nw n b e = (b, b + rw1 n b e) :: nw n (b + rw1 n b e) e := by
  have p := rw1_pos (n := n) h
  unfold nw
  rw [show e - b = (e - b - 1) + 1 by omega]
  show (if b < e then _ else _) = _
  rw [if_pos h, nwF_eq n e (e - b - 1) (e - (b + rw1 n b e)) (b + rw1 n b e) (by omega) (by omega)]
/-- induction over the nodes within -/
theorem nw_ind {n e : Nat} {p : Nat → Prop} (h0 : ∀ b, e ≤ b → p b) (h1 : ∀ b, b < e → p (b + rw1 n b e) → p b) (b : Nat) : p b := by
  have : ∀ (f b : Nat), e - b ≤ f → p b := by
    intro f
    induction f with
    | zero => exact fun b h => h0 b (by omega)
    | succ f ih =>
      intro b h
      by_cases c : b < e
      · have := rw1_pos (n := n) c
        exact h1 b c (ih _ (by omega))
      · exact h0 b (by omega)
  exact this _ b (Nat.le_refl _)
theorem nw_len2 {n e : Nat} : ∀ (L b : Nat), 2 ^ L ∣ b → e < b + 2 ^ L → (nw n b e).length ≤ L
  | 0, b, _, h => by rw [nw_nil (by simp at h; omega)]; exact Nat.zero_le _
  | L + 1, b, d, h => by
    have d' : 2 ^ L ∣ b := Nat.dvd_trans (Nat.pow_dvd_pow 2 (Nat.le_succ L)) d
    by_cases c : b < e
    · by_cases c2 : e < b + 2 ^ L
      · have := nw_len2 (n := n) (e := e) L b d' c2
        omega
      · rw [nw_step c, List.length_cons]
        unfold rw1
        split
        · rw [nw_nil (by omega)]
          simp
        · obtain ⟨k, e1, e2, e3, e4⟩ := rm_is c
          rw [e1]
          have kL : k = L := by
            by_cases z : k < L
            · have := e4 (Nat.dvd_trans (Nat.pow_dvd_pow 2 z) d')
              have := Nat.pow_le_pow_right (n := 2) (by decide) (show k + 1 ≤ L from z)
              omega
            · have : 2 ^ k < 2 ^ (L + 1) := by omega
              have := (Nat.pow_lt_pow_iff_right (by decide : 1 < 2)).mp this
              omega
          subst kL
          have := nw_len2 (n := n) (e := e) k (b + 2 ^ k) (Nat.dvd_add e2 (Nat.dvd_refl _)) (by rw [Nat.pow_succ] at h; omega)
          omega
    · rw [nw_nil (by omega)]
      exact Nat.zero_le _
theorem nw_len1 {n e L : Nat} : ∀ (t j b : Nat), j + t = L → 2 ^ j ∣ b → e < b + 2 ^ L → (nw n b e).length ≤ L + t
  | 0, j, b, hj, d, h => by
    have : j = L := by omega
    subst this
    exact nw_len2 j b d h
  | t + 1, j, b, hj, d, h => by
    by_cases c : b < e
    · by_cases d1 : 2 ^ (j + 1) ∣ b
      · have := nw_len1 (n := n) (e := e) (L := L) t (j + 1) b (by omega) d1 h
        omega
      · rw [nw_step c, List.length_cons]
        unfold rw1
        split
        · rw [nw_nil (by omega)]
          simp
          omega
        · obtain ⟨k, e1, e2, e3, e4⟩ := rm_is c
          rw [e1]
          by_cases z : k < j
          · have e5 := e4 (Nat.dvd_trans (Nat.pow_dvd_pow 2 z) d)
            have := nw_len2 (n := n) (e := e) k (b + 2 ^ k) (Nat.dvd_add e2 (Nat.dvd_refl _)) (by rw [Nat.pow_succ] at e5; omega)
            omega
          · have kj : k = j := by
              by_cases y : j < k
              · exact absurd (Nat.dvd_trans (Nat.pow_dvd_pow 2 y) e2) d1
              · omega
            subst kj
            have d2 : 2 ^ (k + 1) ∣ b + 2 ^ k := by
              obtain ⟨x, rfl⟩ := d
              rcases Nat.mod_two_eq_zero_or_one x with y | y
              · exact absurd (by rw [Nat.pow_succ]; exact Nat.mul_dvd_mul_left _ (Nat.dvd_of_mod_eq_zero y)) d1
              · refine ⟨x / 2 + 1, ?_⟩
                have : x = 2 * (x / 2) + 1 := by omega
                rw [Nat.pow_succ]
                generalize x / 2 = u at this
                subst this
                rw [Nat.mul_add, Nat.mul_add, Nat.mul_assoc (2 ^ k) 2 u]
                omega
            have p := Nat.pow_pos (a := 2) (n := k) (by decide)
            have := nw_len1 (n := n) (e := e) (L := L) t (k + 1) (b + 2 ^ k) (by omega) d2 (by omega)
            omega
    · rw [nw_nil (by omega)]
      exact Nat.zero_le _
theorem nw_len {n b e : Nat} (h : e ≤ 2 ^ 100) : (nw n b e).length ≤ 202 := by
  have := nw_len1 (n := n) (e := e) (L := 101) 101 0 b (by decide) (by simp) (by rw [Nat.pow_succ]; omega)
  omega
/-- nodes are nested or apart -/
theorem lam {n b m B M : Nat} (t : tree n b m) (hm : 1 ≤ m) (T : tree n B M) (hn : b + m ≤ n) (HN : B + M ≤ n) (h1 : b < B) (h2 : B < b + m) : B + M ≤ b + m := by
  obtain ⟨d, k⟩ := t
  obtain ⟨D, _⟩ := T
  have ge := lb_ge m
  have gE := lb_ge M
  by_cases c : lb m ≤ lb M
  · have := mul_le_of_lt d (Nat.dvd_trans (Nat.pow_dvd_pow 2 c) D) h1
    omega
  · have c1 : lb M ≤ lb m := by omega
    have := mul_le_of_lt D (Nat.dvd_add (Nat.dvd_trans (Nat.pow_dvd_pow 2 c1) d) (Nat.pow_dvd_pow 2 c1)) (show B < b + 2 ^ lb m by omega)
    rcases k with k | k
    · omega
    · omega
theorem isN_tree {n b e : Nat} (h : isN n (b, e)) : b < e ∧ e ≤ n ∧ tree n b (e - b) := h
theorem isN_of {n b m : Nat} (h1 : 1 ≤ m) (h2 : b + m ≤ n) (t : tree n b m) : isN n (b, b + m) := ⟨by show b < b + m; omega, h2, by show tree n b (b + m - b); rw [Nat.add_sub_cancel_left]; exact t⟩
theorem full_isN {n b k : Nat} (h2 : b + 2 ^ k ≤ n) (d : 2 ^ k ∣ b) : isN n (b, b + 2 ^ k) := isN_of (Nat.pow_pos (by decide)) h2 ⟨by rw [lb_pow]; exact d, .inl (by rw [lb_pow])⟩
theorem rw1_isN {n b e : Nat} (h : b < e) (hn : e ≤ n) : isN n (b, b + rw1 n b e) := by
  unfold rw1
  split
  · rename_i c
    rw [show b + (e - b) = e by omega]
    exact c
  · obtain ⟨k, e1, e2, e3, _⟩ := rm_is h
    rw [e1]
    exact full_isN (by omega) e2
/-- the first node is the greatest one that begins there -/
theorem rw1_max {n b e y : Nat} (hn : e ≤ n) (hy : isN n (b, y)) (h : y ≤ e) : y ≤ b + rw1 n b e := by
  have hb : b < y := hy.1
  unfold rw1
  split
  · omega
  · rename_i c
    obtain ⟨k, e1, e2, e3, e4⟩ := rm_is (show b < e by omega)
    rw [e1]
    obtain ⟨_, y1, d, t⟩ := isN_tree hy
    rcases t with t | t
    · by_cases z : k < lb (y - b)
      · have := e4 (Nat.dvd_trans (Nat.pow_dvd_pow 2 z) d)
        have := Nat.pow_le_pow_right (n := 2) (by decide) (show k + 1 ≤ lb (y - b) from z)
        omega
      · have := Nat.pow_le_pow_right (n := 2) (by decide) (show lb (y - b) ≤ k by omega)
        omega
    · have : y = e := by omega
      subst this
      exact absurd hy c
/-- a list of nodes one behind the other -/
def Ch (n : Nat) : Nat → Nat → List (Nat × Nat) → Prop
  | lo, hi, [] => lo = hi
  | lo, hi, x :: l => x.1 = lo ∧ isN n x ∧ x.2 ≤ hi ∧ Ch n x.2 hi l
theorem nw_ch {n e : Nat} (hn : e ≤ n) (b : Nat) : b ≤ e → Ch n b e (nw n b e) := by
  refine nw_ind (n := n) (e := e) (p := fun b => b ≤ e → Ch n b e (nw n b e)) (fun b h h2 => ?_) (fun b h ih _ => ?_) b
  · rw [nw_nil h]
    exact Nat.le_antisymm h2 h
  · rw [nw_step h]
    have := rw1_pos (n := n) h
    exact ⟨rfl, rw1_isN h hn, this.2, ih this.2⟩
/-- nothing greater in the stretch has one of them -/
def Mx (n lo hi : Nat) (l : List (Nat × Nat)) : Prop := ∀ x ∈ l, ∀ p, isN n p → lo ≤ p.1 → p.2 ≤ hi → p.1 ≤ x.1 → x.2 ≤ p.2 → p = x
theorem nw_mx {n lo e : Nat} (hn : e ≤ n) (b : Nat) : b ≤ e → lo ≤ b → (∀ p, isN n p → lo ≤ p.1 → p.2 ≤ e → p.1 < b → p.2 ≤ b) → Mx n lo e (nw n b e) := by
  refine nw_ind (n := n) (e := e) (p := fun b => b ≤ e → lo ≤ b → (∀ p, isN n p → lo ≤ p.1 → p.2 ≤ e → p.1 < b → p.2 ≤ b) → Mx n lo e (nw n b e)) (fun b h h2 _ _ => ?_) (fun b h ih h1 h2 h3 => ?_) b
  · rw [nw_nil h]
    exact fun x hx => by cases hx
  · have w := rw1_pos (n := n) h
    have wN := rw1_isN h hn
    have wM : ∀ p, isN n p → lo ≤ p.1 → p.2 ≤ e → p.1 = b → p.2 ≤ b + rw1 n b e := by
      rintro ⟨p1, p2⟩ k1 k2 k3 rfl
      exact rw1_max hn k1 k3
    rw [nw_step h]
    intro x hx
    rcases List.mem_cons.mp hx with rfl | hx
    · rintro ⟨p1, p2⟩ k1 k2 k3 k4 k5
      simp only at k2 k3 k4 k5
      by_cases c : p1 < b
      · have := h3 _ k1 k2 k3 c
        simp only at this
        omega
      · have : p1 = b := by omega
        subst this
        have := wM _ k1 k2 k3 rfl
        simp only at this
        exact Prod.ext rfl (by show p2 = _; omega)
    · refine ih w.2 (by omega) ?_ x hx
      rintro ⟨p1, p2⟩ k1 k2 k3 k4
      simp only at k2 k3 k4 ⊢
      by_cases c : p1 < b
      · have := h3 _ k1 k2 k3 c
        simp only at this
        omega
      · by_cases c2 : p1 = b
        · subst c2
          exact wM _ k1 k2 k3 rfl
        · obtain ⟨q1, q2, q3⟩ := isN_tree k1
          obtain ⟨u1, u2, u3⟩ := isN_tree wN
          have := lam (n := n) (b := b) (m := b + rw1 n b e - b) (B := p1) (M := p2 - p1) u3 (by omega) q3 (by omega) (by omega) (by omega) (by omega)
          omega
theorem nw_max {n b e : Nat} (hn : e ≤ n) (h : b ≤ e) : Mx n b e (nw n b e) := nw_mx hn b h (Nat.le_refl _) (fun p _ k1 _ k3 => by omega)
theorem Ch.mem {n : Nat} : ∀ {lo hi : Nat} {l : List (Nat × Nat)}, Ch n lo hi l → ∀ x ∈ l, isN n x ∧ lo ≤ x.1 ∧ x.2 ≤ hi
  | lo, hi, y :: l, ⟨h1, h2, h3, h4⟩, x, hx => by
    have k := h2.1
    rcases List.mem_cons.mp hx with rfl | hx
    · exact ⟨h2, by omega, h3⟩
    · obtain ⟨k1, k2, k3⟩ := Ch.mem h4 x hx
      exact ⟨k1, by omega, k3⟩
theorem Ch.le {n : Nat} : ∀ {lo hi : Nat} {l : List (Nat × Nat)}, Ch n lo hi l → lo ≤ hi
  | _, _, [], h => Nat.le_of_eq h
  | lo, hi, y :: l, ⟨h1, h2, h3, h4⟩ => by
    have k := h2.1
    omega
theorem Ch.app {n : Nat} : ∀ {lo mid hi : Nat} {l r : List (Nat × Nat)}, Ch n lo mid l → Ch n mid hi r → Ch n lo hi (l ++ r)
  | _, _, _, [], _, h, k => by
    have h : _ = _ := h
    subst h
    exact k
  | _, _, _, x :: l, r, ⟨h1, h2, h3, h4⟩, k => ⟨h1, h2, Nat.le_trans h3 k.le, Ch.app h4 k⟩
/-- each entry between is in one of them -/
theorem Ch.at {n : Nat} : ∀ {lo hi : Nat} {l : List (Nat × Nat)}, Ch n lo hi l → ∀ i, lo ≤ i → i < hi → ∃ x ∈ l, x.1 ≤ i ∧ i < x.2
  | lo, hi, [], h, i, h1, h2 => by
    have h : lo = hi := h
    omega
  | lo, hi, y :: l, ⟨h1, h2, h3, h4⟩, i, k1, k2 => by
    by_cases c : i < y.2
    · exact ⟨y, List.mem_cons_self, by omega, c⟩
    · obtain ⟨x, hx, r⟩ := Ch.at h4 i (by omega) k2
      exact ⟨x, List.mem_cons_of_mem _ hx, r⟩
theorem Ch.sum {n : Nat} : ∀ {lo hi : Nat} {l : List (Nat × Nat)}, Ch n lo hi l → (l.map fun x => x.2 - x.1).sum = hi - lo
  | lo, hi, [], h => by
    have h : lo = hi := h
    simp; omega
  | lo, hi, y :: l, ⟨h1, h2, h3, h4⟩ => by
    have := Ch.sum h4
    have k := h2.1
    have := h4.le
    rw [List.map_cons, List.sum_cons]
    omega
/-- any node within the stretch lies in one of them -/
theorem nw_in {n b e : Nat} (hn : e ≤ n) (h : b ≤ e) {p : Nat × Nat} (hp : isN n p) (h1 : b ≤ p.1) (h2 : p.2 ≤ e) : ∃ x ∈ nw n b e, x.1 ≤ p.1 ∧ p.2 ≤ x.2 := by
  have k := hp.1
  obtain ⟨x, hx, a1, a2⟩ := (nw_ch hn b h).at p.1 h1 (by omega)
  refine ⟨x, hx, a1, ?_⟩
  obtain ⟨x1, x2, x3⟩ := (nw_ch hn b h).mem x hx
  have kx := x1.1
  have kn := x1.2.1
  have pn := hp.2.1
  by_cases c : x.1 < p.1
  · have := lam (n := n) (b := x.1) (m := x.2 - x.1) (B := p.1) (M := p.2 - p.1) x1.2.2 (by omega) hp.2.2 (by omega) (by omega) c (by omega)
    omega
  · by_cases c2 : p.2 ≤ x.2
    · exact c2
    · have := nw_max hn h x hx p hp h1 h2 (by omega) (by omega)
      rw [this]
      exact Nat.le_refl _
/-- a list of nodes one behind the other, none within a greater one of the stretch, is that of the greatest ones -/
theorem nw_unique {n hi lo0 : Nat} (hn : hi ≤ n) : ∀ (l r : List (Nat × Nat)) (lo : Nat), lo0 ≤ lo → Ch n lo hi l → Ch n lo hi r → Mx n lo0 hi l → Mx n lo0 hi r → l = r
  | [], [], _, _, _, _, _, _ => rfl
  | [], y :: r, lo, _, h1, ⟨k1, k2, k3, k4⟩, _, _ => by
    have h1 : lo = hi := h1
    have := k2.1
    omega
  | x :: l, [], lo, _, ⟨k1, k2, k3, k4⟩, h1, _, _ => by
    have h1 : lo = hi := h1
    have := k2.1
    omega
  | x :: l, y :: r, lo, h0, ⟨k1, k2, k3, k4⟩, ⟨j1, j2, j3, j4⟩, m1, m2 => by
    have e : x = y := by
      by_cases c : x.2 ≤ y.2
      · exact (m1 x List.mem_cons_self y j2 (by omega) j3 (by omega) c).symm
      · exact m2 y List.mem_cons_self x k2 (by omega) k3 (by omega) (by omega)
    subst e
    have := k2.1
    rw [nw_unique hn l r x.2 (by omega) k4 j4 (fun z hz => m1 z (List.mem_cons_of_mem _ hz)) (fun z hz => m2 z (List.mem_cons_of_mem _ hz))]
end LT

namespace LT
open PySem PySem.Spec PyProof.Rows L2
theorem bitAnd_low (b : Nat) (h : 0 < b) : Builtin.bitAnd (b : Int) (-(b : Int)) = ((low b : Nat) : Int) := by
  rw [bitAnd_pn (Int.natCast_nonneg b) (by omega)]
  have e : (Builtin.bitNot (-(b : Int))).toNat = b - 1 := by
    show (-(-(b : Int)) - 1).toNat = b - 1
    omega
  rw [e, Int.toNat_natCast]
  have : b &&& (b - 1) ≤ b := Nat.and_le_left
  unfold low
  omega
section
variable {P : Program} {w : World} {K : PySem.W.Frag} {mg : Str → Option Value} {base : Heap}
def spFirstFull : Sp := fun vs H Q _ => ∃ (b e : Nat), vs = [.int b, .int e] ∧ b < e ∧ e ≤ 10 ^ 30 ∧ ∀ (H' : Hp) (p : Addr), Same H H' → H p = none → H' p = some (.tup [.int b, .int ((b + rm b e : Nat) : Int)]) → Q (.ref p) H'
theorem ok_first_full {f g1 : Addr} {fd d1 : FuncData} (F : Fun K "_first_full" "_first_full" sFirstFull f fd) (GPowerWithin : FnOk P w K mg base CX0 1 g1 d1 ["number"] spPower) (APowerWithin : At K mg "power_within" g1 d1 ["number"]) (z_min : mg "min" = none) :
    FnOk P w K mg base CX0 2 f fd ["begin", "end"] spFirstFull := by
  refine F.ok scFirstFull (fun vs H Q E h => ?_) (fun cdv A outer s H vs Q E hr h => ?_)
  · obtain ⟨_, _, rfl, _⟩ := h
    rfl
  obtain ⟨b, e, rfl, hb, h30, q⟩ := h
  refine ⟨_, (pss_cons (ps_set (i := 2) scFirstFull.nd rfl (Or.inl rfl) (pe_call GPowerWithin (hr.mono (by decide)) rfl APowerWithin.m APowerWithin.kp APowerWithin.b .nil pass0 (pa_cons (pe_op op_sub (pv 1) (pv 0)) pa_nil)))
    (pss_cons (ps_if (pt_cmpR op_gt (pv 0) pe_int (nomark _))
    (pss_one (ps_set (i := 2) scFirstFull.nd rfl (Or.inl rfl) (pe_callB (call_min2 rfl) (by rfl) z_min (by decide +kernel) (pa_cons (pv 2) (pa_cons (pe_op op_and (pv 0) (pe_un un_neg (pv 0))) pa_nil)))))
    pss_nil)
    (pss_one (ps_ret (pe_tup (pa_cons (pv 0) (pa_cons (pe_op op_add (pv 0) (pv 2)) pa_nil))))))), ?_⟩
  have two : 2 ≤ sizeLine := by decide
  refine ⟨_, rfl, _, rfl, _, _, rfl, rfl, e - b, congrArg (fun z => [V.int z]) (by omega), by omega, by omega, ?_⟩
  refine ⟨_, rfl, _, _, rfl, rfl, _, rfl, ite2 (fun c => ?_) (fun c => ?_)⟩
  · have c1 : (b : Int) > 0 := of_decide_eq_true c
    refine ⟨_, rfl, _, rfl, _, rfl, _, rfl, _, _, rfl, rfl, _, _, rfl, ?_⟩
    rw [bitAnd_low b (by omega)]
    have em : (if ((low b : Nat) : Int) < ((2 ^ (e - b).log2 : Nat) : Int) then ((low b : Nat) : Int) else ((2 ^ (e - b).log2 : Nat) : Int)) = ((rm b e : Nat) : Int) := by
      unfold rm
      rw [if_neg (show ¬ b = 0 by omega)]
      split <;> omega
    refine ⟨_, rfl, _, rfl, _, rfl, _, _, rfl, rfl, two, fun t nt => ?_⟩
    dsimp only
    rw [em]
    refine q _ t (same_upd nt) nt ?_
    rw [upd_same, show (b : Int) + ((rm b e : Nat) : Int) = ((b + rm b e : Nat) : Int) by omega]
  · have c1 : ¬ (b : Int) > 0 := of_decide_eq_false (Bool.eq_false_iff.mpr c)
    have b0 : b = 0 := by omega
    have em : rm b e = 2 ^ (e - b).log2 := by unfold rm; rw [if_pos b0]
    refine ⟨_, rfl, _, rfl, _, rfl, _, _, rfl, rfl, two, fun t nt => ?_⟩
    refine q _ t (same_upd nt) nt ?_
    rw [upd_same, em]
    rfl
def spWithinX : Sp := fun vs H Q _ => ∃ (n b e : Nat), vs = [.int n, .int b, .int e] ∧ 1 ≤ n ∧ n ≤ 2 ^ 100 ∧ e ≤ n ∧ e ≤ 10 ^ 30 ∧
  ∀ (H' : Hp) (p : Addr) (xs : List V), Same H H' → H p = none → H' p = some (.lst xs) → All2 (Nd H') xs (nw n b e) → Q (.ref p) H'
theorem tn_nat (n b e : Nat) : tnV n (.int (b : Int)) (.int (e : Int)) = decide (isN n (b, e)) := by
  show decide (0 ≤ (b : Int) ∧ isN n ((b : Int).toNat, (e : Int).toNat)) = decide (isN n (b, e))
  rw [Int.toNat_natCast, Int.toNat_natCast]
  by_cases k : isN n (b, e)
  · rw [decide_eq_true k, decide_eq_true ⟨Int.natCast_nonneg _, k⟩]
  · rw [decide_eq_false k, decide_eq_false (fun z => k z.2)]
theorem ok_nodes_withinX {f g1 g2 : Addr} {fd d1 d2 : FuncData} (F : Fun K "nodes_within" "nodes_within" sNodesWithin f fd) (GIsTreeNode : FnOk P w K mg base CX0 3 g1 d1 ["size", "value"] (spTreeV K)) (AIsTreeNode : At K mg "is_tree_node" g1 d1 ["size", "value"])
    (GFirstFull : FnOk P w K mg base CX0 2 g2 d2 ["begin", "end"] spFirstFull) (AFirstFull : At K mg "_first_full" g2 d2 ["begin", "end"]) : FnOk P w K mg base CX0 4 f fd ["size", "begin", "end"] spWithinX := by
  refine F.ok scNodesWithin (fun vs H Q E h => ?_) (fun cdv A outer s H vs Q E hr h => ?_)
  · obtain ⟨_, _, _, rfl, _⟩ := h
    rfl
  obtain ⟨n, b0, e, rfl, n1, n100, he, h30, q⟩ := h
  refine ⟨_, (pss_cons (ps_set (i := 3) scNodesWithin.nd rfl (Or.inl rfl) (pe_lst pa_nil))
    (pss_cons (ps_while PassesOwn.never (pt_cmpR op_lt (pv 1) (pv 2) (nomark _))
    (pss_cons (ps_if (pt_val (pe_call GIsTreeNode (hr.mono (by decide)) rfl AIsTreeNode.m AIsTreeNode.kp AIsTreeNode.b .nil pass0 (pa_cons (pv 0) (pa_cons (pe_tup (pa_cons (pv 1) (pa_cons (pv 2) pa_nil))) pa_nil))))
    (pss_one (ps_set (i := 4) scNodesWithin.nd rfl (Or.inl rfl) (pe_tup (pa_cons (pv 1) (pa_cons (pv 2) pa_nil)))))
    (pss_one (ps_set (i := 4) scNodesWithin.nd rfl (Or.inl rfl) (pe_call GFirstFull (hr.mono (by decide)) rfl AFirstFull.m AFirstFull.kp AFirstFull.b .nil pass0 (pa_cons (pv 1) (pa_cons (pv 2) pa_nil))))))
    (pss_cons (ps_expr (pe_bm PySem.F.plainAttrs_list PySem.F.slot_list_append PySem.F.type_list_append mt_append (pv 3) (pa_cons (pv 4) pa_nil)))
    (pss_one (ps_set (i := 1) scNodesWithin.nd rfl (Or.inl rfl) (pe_ix ix_tup (pv 4) pe_int (fun _ _ => rfl)))))))
    (pss_one (ps_ret (pv 3))))), ?_⟩
  have two : 2 ≤ sizeLine := by decide
  refine ⟨Nat.zero_le _, fun fa nf => ?_⟩
  refine ⟨fun mu σ H' => ∃ (b : Nat) (v4 : Option V) (xs : List V) (done : List (Nat × Nat)), σ = [some (.int n), some (.int (b : Int)), some (.int (e : Int)), some (.ref fa), v4] ∧ Same H H' ∧ H' fa = some (.lst xs) ∧ All2 (Nd H') xs done ∧ done ++ nw n b e = nw n b0 e ∧ mu = e - b,
    ⟨e - b0, b0, none, [], [], rfl, same_upd nf, upd_same, .nil, rfl, rfl⟩, ?_⟩
  rintro m σ H1 ⟨b, v4, xs, done, rfl, sm, hf, hx, hd, rfl⟩
  refine ⟨_, rfl, _, rfl, _, _, rfl, rfl, _, rfl, ite2 (fun c => ?_) (fun c => ?_)⟩
  · have c1 : (b : Int) < (e : Int) := of_decide_eq_true c
    have dl : done.length ≤ 202 := by
      have k1 := congrArg List.length hd
      rw [List.length_append] at k1
      have k2 := nw_len (n := n) (b := b0) (e := e) (by omega)
      omega
    have w1 := rw1_pos (n := n) (show b < e by omega)
    have st := nw_step (n := n) (show b < e by omega)
    refine ⟨fun σ' H' => ∃ mu, mu < e - b ∧ ∃ (b : Nat) (v4 : Option V) (xs : List V) (done : List (Nat × Nat)), σ' = [some (.int n), some (.int (b : Int)), some (.int (e : Int)), some (.ref fa), v4] ∧ Same H H' ∧ H' fa = some (.lst xs) ∧ All2 (Nd H') xs done ∧ done ++ nw n b e = nw n b0 e ∧ mu = e - b, fun σ' H' h => h, ?_⟩
    -- behind the choice
    have fin : ∀ (H2 : Hp) (p : Addr), Same H1 H2 → H2 p = some (.tup [.int (b : Int), .int ((b + rw1 n b e : Nat) : Int)]) →
        (pss_term_fin : True) → ∃ (b' : Nat) (xs' : List V) (done' : List (Nat × Nat)), b' = b + rw1 n b e ∧ xs' = xs ++ [.ref p] ∧ Same H (upd H2 fa (.lst xs')) ∧ All2 (Nd (upd H2 fa (.lst xs'))) xs' done' ∧ done' ++ nw n b' e = nw n b0 e := fun H2 p s2 hp _ => by
      have hf2 := s2 _ _ hf
      refine ⟨_, _, done ++ [(b, b + rw1 n b e)], rfl, rfl, ?_, ?_, ?_⟩
      · exact fun a o k => by rw [upd_ne (ne_of_none k nf)]; exact s2 _ _ (sm _ _ k)
      · refine (hx.mono (fun v x (k : Nd H1 v x) => (k.same s2).upd hf2)).app (.cons ?_ .nil)
        exact Nd.upd (x := (b, b + rw1 n b e)) ⟨p, rfl, hp⟩ hf2
      · rw [← hd, st, List.append_assoc]
        rfl
    refine ⟨_, rfl, _, rfl, _, rfl, two, fun t nt => ?_⟩
    have s1 := same_upd (o := .tup [.int (b : Int), .int (e : Int)]) nt
    have ht : (upd H1 t (.tup [.int (b : Int), .int (e : Int)])) t = some (.tup [.int (b : Int), .int (e : Int)]) := upd_same
    generalize upd H1 t (.tup [.int (b : Int), .int (e : Int)]) = H2 at s1 ht
    refine ⟨n, .ref t, _, rfl, n1, n100, .pair ht (.int _) (.int _), ?_⟩
    rw [tn_nat]
    by_cases c2 : isN n (b, e)
    · rw [decide_eq_true c2]
      refine ⟨true, rfl, ?_⟩
      have rw_e : rw1 n b e = e - b := by unfold rw1; rw [if_pos c2]
      refine ⟨_, rfl, _, rfl, two, fun t2 nt2 => ?_⟩
      have s2 := same_upd (o := .tup [.int (b : Int), .int (e : Int)]) nt2
      obtain ⟨b', xs', done', eb, ex, f1, f2, f3⟩ := fin _ t2 (s1.trans s2) (by rw [upd_same, rw_e, show b + (e - b) = e by omega]) trivial
      subst ex
      have hf3 := s2 _ _ (s1 _ _ hf)
      have ht3 : (upd H2 t2 (.tup [.int (b : Int), .int (e : Int)])) t2 = some (.tup [.int (b : Int), .int (e : Int)]) := upd_same
      refine ⟨_, rfl, .inl ⟨rfl, _, SqL.of hf3⟩, _, rfl, fa, _, _, rfl, rfl, hf3, szlt (by rw [hx.len]; omega), ?_⟩
      refine ⟨_, rfl, t2, _, _, _, rfl, rfl, SqT.of ((upd_ne (ne_of ht3 hf3 (by intro z; cases z))).trans ht3), atI_nat (j := 1) rfl, ?_⟩
      refine ⟨e - b', by omega, b', some (.ref t2), xs ++ [.ref t2], done', ?_, f1, ?_, f2, f3, rfl⟩
      · rw [eb, rw_e, show b + (e - b) = e by omega]
        rfl
      · exact upd_same
    · rw [decide_eq_false c2]
      refine ⟨false, rfl, ?_⟩
      have rw_e : rw1 n b e = rm b e := by unfold rw1; rw [if_neg c2]
      refine ⟨_, rfl, _, rfl, b, e, rfl, by omega, by omega, fun H3 t2 s2 nt2 ht2 => ?_⟩
      obtain ⟨b', xs', done', eb, ex, f1, f2, f3⟩ := fin _ t2 (s1.trans s2) (by rw [ht2, rw_e]) trivial
      subst ex
      have hf3 := s2 _ _ (s1 _ _ hf)
      refine ⟨_, rfl, .inl ⟨rfl, _, SqL.of hf3⟩, _, rfl, fa, _, _, rfl, rfl, hf3, szlt (by rw [hx.len]; omega), ?_⟩
      refine ⟨_, rfl, t2, _, _, _, rfl, rfl, SqT.of ((upd_ne (ne_of ht2 hf3 (by intro z; cases z))).trans ht2), atI_nat (j := 1) rfl, ?_⟩
      refine ⟨e - b', by omega, b', some (.ref t2), xs ++ [.ref t2], done', ?_, f1, ?_, f2, f3, rfl⟩
      · rw [eb, rw_e]
        rfl
      · exact upd_same
  · have c1 : ¬ (b : Int) < (e : Int) := of_decide_eq_false (Bool.eq_false_iff.mpr c)
    rw [nw_nil (show e ≤ b by omega), List.append_nil] at hd
    rw [hd] at hx
    exact ⟨_, rfl, q H1 fa xs sm nf hf hx⟩
def spWithin : Sp := fun vs H Q _ => ∃ (n b e : Nat), vs = [.int n, .int b, .int e] ∧ 1 ≤ n ∧ n ≤ 2 ^ 100 ∧ b ≤ e ∧ e ≤ n ∧ e ≤ 10 ^ 30 ∧
  ∀ (H' : Hp) (p : Addr) (xs : List V), Same H H' → H p = none → H' p = some (.lst xs) → All2 (Nd H') xs (nw n b e) → Q (.ref p) H'
theorem within_of {k : Nat} {f : Addr} {fd : FuncData} (F : FnOk P w K mg base CX0 k f fd ["size", "begin", "end"] spWithinX) : FnOk P w K mg base CX0 k f fd ["size", "begin", "end"] spWithin :=
  F.imp fun vs H Q E h => by
    obtain ⟨n, b, e, rfl, n1, n100, hb, he, h30, q⟩ := h
    exact ⟨n, b, e, rfl, n1, n100, he, h30, q⟩
end
end LT

namespace LT
/-! ### an entry's siblings, by side -/
def lft (b m e : Nat) : List (Nat × Nat) :=
  if h : m ≤ 1 then [] else
    if e < b + gp m then lft b (gp m) e
    else (b, b + gp m) :: lft (b + gp m) (m - gp m) e
termination_by m
decreasing_by
  · exact gp_lt (by omega)
  · have := gp_pos m; omega
theorem lft_one {b m e : Nat} (h : m ≤ 1) : lft b m e = [] := by rw [lft]; simp [h]
theorem lft_low {b m e : Nat} (h : 2 ≤ m) (k : e < b + gp m) : lft b m e = lft b (gp m) e := by
  rw [lft, dif_neg (by omega), if_pos k]
theorem lft_high {b m e : Nat} (h : 2 ≤ m) (k : ¬ e < b + gp m) : lft b m e = (b, b + gp m) :: lft (b + gp m) (m - gp m) e := by
  rw [lft, dif_neg (by omega), if_neg k]
def rgt (b m e : Nat) : List (Nat × Nat) :=
  if h : m ≤ 1 then [] else
    if e < b + gp m then rgt b (gp m) e ++ [(b + gp m, b + m)]
    else rgt (b + gp m) (m - gp m) e
termination_by m
decreasing_by
  · exact gp_lt (by omega)
  · have := gp_pos m; omega
theorem rgt_one {b m e : Nat} (h : m ≤ 1) : rgt b m e = [] := by rw [rgt]; simp [h]
theorem rgt_low {b m e : Nat} (h : 2 ≤ m) (k : e < b + gp m) : rgt b m e = rgt b (gp m) e ++ [(b + gp m, b + m)] := by
  rw [rgt, dif_neg (by omega), if_pos k]
theorem rgt_high {b m e : Nat} (h : 2 ≤ m) (k : ¬ e < b + gp m) : rgt b m e = rgt (b + gp m) (m - gp m) e := by
  rw [rgt, dif_neg (by omega), if_neg k]
/-- induction down the way to an entry -/
theorem way_ind {n e : Nat} {p : Nat → Nat → Prop} (h1 : ∀ b m, m ≤ 1 → b ≤ e → e < b + m → b + m ≤ n → p b m)
    (h2 : ∀ b m, 2 ≤ m → tree n b m → b ≤ e → e < b + gp m → b + m ≤ n → p b (gp m) → p b m)
    (h3 : ∀ b m, 2 ≤ m → tree n b m → b ≤ e → ¬ e < b + gp m → e < b + m → b + m ≤ n → p (b + gp m) (m - gp m) → p b m) :
    ∀ (m b : Nat), tree n b m → b ≤ e → e < b + m → b + m ≤ n → p b m := by
  intro m
  induction m using Nat.strongRecOn with
  | ind m ih =>
    intro b t k1 k2 k3
    by_cases c : m ≤ 1
    · exact h1 b m c k1 k2 k3
    · have m2 : 2 ≤ m := by omega
      have g1 := gp_lt m2
      have g3 := gp_pos m
      by_cases k : e < b + gp m
      · exact h2 b m m2 t k1 k k3 (ih _ g1 b (tree_low m2 t) k1 k (by omega))
      · exact h3 b m m2 t k1 k k2 k3 (ih _ (by omega) _ (tree_high m2 t) (by omega) (by omega) (by omega))
theorem sides_len {n e : Nat} : ∀ (m b : Nat), tree n b m → b ≤ e → e < b + m → b + m ≤ n → (lft b m e).length + (rgt b m e).length = (sib b m e).length := by
  refine way_ind (fun b m h _ _ _ => ?_) (fun b m h _ _ k _ ih => ?_) (fun b m h _ _ k _ _ ih => ?_)
  · rw [lft_one h, rgt_one h, sib_one h]; rfl
  · rw [lft_low h k, rgt_low h k, sib_low h k]; simp only [List.length_append, List.length_cons, List.length_nil]; omega
  · rw [lft_high h k, rgt_high h k, sib_high h k, List.length_cons, List.length_cons]; omega
theorem half_low_isN {n b m : Nat} (h : 2 ≤ m) (t : tree n b m) (hn : b + m ≤ n) : isN n (b, b + gp m) := isN_of (gp_pos m) (by have := gp_lt h; omega) (tree_low h t)
theorem half_high_isN {n b m : Nat} (h : 2 ≤ m) (t : tree n b m) (hn : b + m ≤ n) : isN n (b + gp m, b + m) := by
  have g := gp_lt h
  have := isN_of (n := n) (b := b + gp m) (m := m - gp m) (by omega) (by omega) (tree_high h t)
  rw [show b + gp m + (m - gp m) = b + m by omega] at this
  exact this
theorem lft_ch {n e : Nat} : ∀ (m b : Nat), tree n b m → b ≤ e → e < b + m → b + m ≤ n → Ch n b e (lft b m e) := by
  refine way_ind (fun b m h _ _ _ => ?_) (fun b m h _ _ k _ ih => ?_) (fun b m h t _ k k2 hn ih => ?_)
  · rw [lft_one h]; show b = e; omega
  · rw [lft_low h k]; exact ih
  · rw [lft_high h k]
    exact ⟨rfl, half_low_isN h t hn, by show b + gp m ≤ e; omega, ih⟩
theorem rgt_ch {n e : Nat} : ∀ (m b : Nat), tree n b m → b ≤ e → e < b + m → b + m ≤ n → Ch n (e + 1) (b + m) (rgt b m e) := by
  refine way_ind (fun b m h _ _ _ => ?_) (fun b m h t _ k hn ih => ?_) (fun b m h _ _ k _ _ ih => ?_)
  · rw [rgt_one h]; show e + 1 = b + m; omega
  · rw [rgt_low h k]
    refine ih.app ⟨rfl, half_high_isN h t hn, Nat.le_refl _, rfl⟩
  · rw [rgt_high h k]
    have := gp_lt h
    rw [show b + gp m + (m - gp m) = b + m by omega] at ih
    exact ih
theorem lft_mx {n e : Nat} (he : e < n) : ∀ (m b : Nat), tree n b m → b ≤ e → e < b + m → b + m ≤ n → Mx n 0 e (lft b m e) := by
  refine way_ind (fun b m h _ _ _ => ?_) (fun b m h _ _ k _ ih => ?_) (fun b m h t _ k k2 hn ih => ?_)
  · rw [lft_one h]; exact fun x hx => by cases hx
  · rw [lft_low h k]; exact ih
  · rw [lft_high h k]
    intro x hx
    rcases List.mem_cons.mp hx with rfl | hx
    · rintro ⟨p1, p2⟩ hp _ q2 q3 q4
      simp only at q2 q3 q4
      have g := gp_pos m
      obtain ⟨a1, a2, a3⟩ := isN_tree hp
      by_cases c : p1 < b
      · have := lam (n := n) (b := p1) (m := p2 - p1) (B := b) (M := m) a3 (by omega) t (by omega) hn c (by omega)
        omega
      · have e1 : p1 = b := by omega
        subst e1
        rcases node_in h t hn hp (Nat.le_refl _) (by show p2 ≤ p1 + m; omega) with z | z | z
        · have : p2 = p1 + m := congrArg Prod.snd z
          omega
        · simp only at z
          exact Prod.ext rfl (by show p2 = _; omega)
        · simp only at z
          omega
    · exact ih x hx
theorem rgt_mx {n e : Nat} : ∀ (m b : Nat), tree n b m → b ≤ e → e < b + m → b + m ≤ n → Mx n (e + 1) n (rgt b m e) := by
  refine way_ind (fun b m h _ _ _ => ?_) (fun b m h t hb k hn ih => ?_) (fun b m h _ _ k _ _ ih => ?_)
  · rw [rgt_one h]; exact fun x hx => by cases hx
  · rw [rgt_low h k]
    intro x hx
    rcases List.mem_append.mp hx with hx | hx
    · exact ih x hx
    · rw [List.mem_singleton] at hx
      subst hx
      rintro ⟨p1, p2⟩ hp q1 q2 q3 q4
      simp only at q1 q2 q3 q4
      have g := gp_lt h
      obtain ⟨a1, a2, a3⟩ := isN_tree hp
      have := lam (n := n) (b := b) (m := m) (B := p1) (M := p2 - p1) t (by omega) a3 hn (by omega) (by omega) (by omega)
      have e2 : p2 = b + m := by omega
      rcases node_in h t hn hp (by show b ≤ p1; omega) (by show p2 ≤ b + m; omega) with z | z | z
      · have : p1 = b := congrArg Prod.fst z
        omega
      · simp only at z
        omega
      · simp only at z
        exact Prod.ext (by show p1 = _; omega) (by show p2 = _; omega)
  · rw [rgt_high h k]; exact ih
/-- what lies ahead of an entry, and behind it -/
theorem nw_lft {n e : Nat} (h : e < n) : nw n 0 e = lft 0 n e := by
  have r := tree_root n
  exact nw_unique (n := n) (hi := e) (lo0 := 0) (by omega) _ _ 0 (Nat.le_refl _) (nw_ch (by omega) 0 (by omega)) (lft_ch n 0 r (by omega) (by omega) (by omega)) (nw_max (by omega) (by omega)) (lft_mx h n 0 r (by omega) (by omega) (by omega))
theorem nw_rgt {n e : Nat} (h : e < n) : nw n (e + 1) n = rgt 0 n e := by
  have r := tree_root n
  have c := rgt_ch (e := e) n 0 r (by omega) (by omega) (by omega)
  rw [Nat.zero_add] at c
  exact nw_unique (n := n) (hi := n) (lo0 := e + 1) (Nat.le_refl _) _ _ (e + 1) (Nat.le_refl _) (nw_ch (Nat.le_refl _) (e + 1) (by omega)) c (nw_max (Nat.le_refl _) (by omega)) (rgt_mx n 0 r (by omega) (by omega) (by omega))
theorem nw_single {n e : Nat} (h : e < n) : (nw n 0 e).length + (nw n (e + 1) n).length = (sib 0 n e).length := by
  rw [nw_lft h, nw_rgt h]
  exact sides_len n 0 (tree_root n) (by omega) (by omega) (by omega)
/-! ### peaks -/
theorem pk_ch {n e : Nat} (he : e ≤ n) : ∀ (i b : Nat), 2 ^ i ∣ b → b + e % 2 ^ i = e → Ch n b e ((pk i e b).map full)
  | 0, b, _, h => by rw [Nat.pow_zero, Nat.mod_one] at h; exact h
  | i + 1, b, d, h => by
    rw [mod_succ] at h
    have d' : 2 ^ i ∣ b := Nat.dvd_trans (Nat.pow_dvd_pow 2 (Nat.le_succ i)) d
    show Ch n b e ((if e.testBit i = true then (b, i) :: pk i e (b + 2 ^ i) else pk i e b).map full)
    by_cases t : e.testBit i = true
    · rw [if_pos t] at h ⊢
      refine ⟨rfl, (show isN n (b, b + 2 ^ i) from full_isN (by omega) d'), ?_, pk_ch he i (b + 2 ^ i) (Nat.dvd_add d' (Nat.dvd_refl _)) (by omega)⟩
      show b + 2 ^ i ≤ e
      omega
    · rw [if_neg t] at h ⊢
      exact pk_ch he i b d' (by omega)
theorem pk_mx {n e : Nat} (he : e < n) : ∀ (i b : Nat), 2 ^ i ∣ b → b + e % 2 ^ i = e → Mx n 0 e ((pk i e b).map full)
  | 0, b, _, h => fun x hx => by cases hx
  | i + 1, b, d, h => by
    have ml := Nat.mod_lt e (Nat.pow_pos (a := 2) (n := i + 1) (by decide))
    have hh := h
    rw [mod_succ] at h
    have d' : 2 ^ i ∣ b := Nat.dvd_trans (Nat.pow_dvd_pow 2 (Nat.le_succ i)) d
    show Mx n 0 e ((if e.testBit i = true then (b, i) :: pk i e (b + 2 ^ i) else pk i e b).map full)
    by_cases t : e.testBit i = true
    · rw [if_pos t] at h ⊢
      intro x hx
      rw [List.map_cons] at hx
      rcases List.mem_cons.mp hx with rfl | hx
      · rintro ⟨p1, p2⟩ hp _ q2 q3 q4
        have q3 : p1 ≤ b := q3
        have q4 : b + 2 ^ i ≤ p2 := q4
        simp only at q2
        have pz := Nat.pow_pos (a := 2) (n := i) (by decide)
        obtain ⟨a1, a2, a3, a4⟩ := isN_tree hp
        have a5 : p2 - p1 = 2 ^ lb (p2 - p1) := by
          rcases a4 with a4 | a4
          · exact a4
          · omega
        by_cases c : i < lb (p2 - p1)
        · have m1 := Nat.pow_le_pow_right (n := 2) (by decide) (show i + 1 ≤ lb (p2 - p1) from c)
          have m2 := mul_le_of_lt (R := 2 ^ (i + 1)) d (Nat.dvd_add (Nat.dvd_trans (Nat.pow_dvd_pow 2 (show i + 1 ≤ lb (p2 - p1) from c)) a3) (Nat.pow_dvd_pow 2 (show i + 1 ≤ lb (p2 - p1) from c))) (show b < p1 + 2 ^ lb (p2 - p1) by omega)
          omega
        · have m1 := Nat.pow_le_pow_right (n := 2) (by decide) (show lb (p2 - p1) ≤ i by omega)
          exact Prod.ext (by show p1 = b; omega) (by show p2 = b + 2 ^ i; omega)
      · exact pk_mx he i (b + 2 ^ i) (Nat.dvd_add d' (Nat.dvd_refl _)) (by omega) x hx
    · rw [if_neg t] at h ⊢
      exact pk_mx he i b d' (by omega)
theorem nw_pk {n e : Nat} (h : e < n) (h100 : e < 2 ^ 101) : nw n 0 e = (pk 101 e 0).map full := by
  have em : 0 + e % 2 ^ 101 = e := by rw [Nat.mod_eq_of_lt h100, Nat.zero_add]
  exact nw_unique (n := n) (hi := e) (lo0 := 0) (by omega) _ _ 0 (Nat.le_refl _) (nw_ch (by omega) 0 (by omega)) (pk_ch (by omega) 101 0 (Nat.dvd_zero _) em) (nw_max (by omega) (by omega)) (pk_mx h 101 0 (Nat.dvd_zero _) em)
theorem pk_even : ∀ (i c b b' : Nat), (pk (i + 1) (2 * c) b).length = (pk i c b').length
  | 0, c, b, b' => by
    show (if (2 * c).testBit 0 = true then _ else _ : List (Nat × Nat)).length = 0
    have : (2 * c).testBit 0 = false := by simp
    rw [this]
    rfl
  | i + 1, c, b, b' => by
    show (if (2 * c).testBit (i + 1) = true then (b, i + 1) :: pk (i + 1) (2 * c) (b + 2 ^ (i + 1)) else pk (i + 1) (2 * c) b).length = (if c.testBit i = true then (b', i) :: pk i c (b' + 2 ^ i) else pk i c b').length
    rw [Nat.testBit_succ, show 2 * c / 2 = c by omega]
    by_cases t : c.testBit i = true
    · rw [if_pos t, if_pos t, List.length_cons, List.length_cons, pk_even i c _ (b' + 2 ^ i)]
    · rw [if_neg t, if_neg t, pk_even i c b b']
theorem pk_odd : ∀ (i c b b' : Nat), (pk (i + 1) (2 * c + 1) b).length = (pk i c b').length + 1
  | 0, c, b, b' => by
    show (if (2 * c + 1).testBit 0 = true then (b, 0) :: ([] : List (Nat × Nat)) else []).length = 0 + 1
    have : (2 * c + 1).testBit 0 = true := by simp
    rw [this]
    rfl
  | i + 1, c, b, b' => by
    show (if (2 * c + 1).testBit (i + 1) = true then (b, i + 1) :: pk (i + 1) (2 * c + 1) (b + 2 ^ (i + 1)) else pk (i + 1) (2 * c + 1) b).length = (if c.testBit i = true then (b', i) :: pk i c (b' + 2 ^ i) else pk i c b').length + 1
    rw [Nat.testBit_succ, show (2 * c + 1) / 2 = c by omega]
    by_cases t : c.testBit i = true
    · rw [if_pos t, if_pos t, List.length_cons, List.length_cons, pk_odd i c _ (b' + 2 ^ i)]
    · rw [if_neg t, if_neg t, pk_odd i c b b']
theorem pow_dvd_odd {k c : Nat} (h : 2 ^ k ∣ 2 * c + 1) : k = 0 := by
  cases k with
  | zero => rfl
  | succ k =>
    have := Nat.dvd_trans (⟨2 ^ k, by rw [Nat.pow_succ, Nat.mul_comm]⟩ : 2 ∣ 2 ^ (k + 1)) h
    omega
theorem pk_pred : ∀ (i e k b b' : Nat), 0 < e → e < 2 ^ i → 2 ^ k ∣ e → ¬ 2 ^ (k + 1) ∣ e → (pk i e b).length + k = (pk i (e - 1) b').length + 1
  | 0, e, k, _, _, h, h2, _, _ => by simp at h2; omega
  | i + 1, e, k, b, b', h, h2, d1, d2 => by
    rcases Nat.mod_two_eq_zero_or_one e with z | z
    · obtain ⟨c, rfl⟩ : ∃ c, e = 2 * c := ⟨e / 2, by omega⟩
      have kp : k ≠ 0 := fun y => d2 (by rw [y]; exact ⟨c, by simp⟩)
      obtain ⟨j, rfl⟩ : ∃ j, k = j + 1 := ⟨k - 1, by omega⟩
      rw [Nat.pow_succ] at h2
      have ih := pk_pred i c j 0 0 (by omega) (by omega) (by rw [Nat.pow_succ, Nat.mul_comm] at d1; exact Nat.dvd_of_mul_dvd_mul_left (by decide) d1) (fun y => d2 (by rw [Nat.pow_succ, Nat.mul_comm]; exact Nat.mul_dvd_mul_left 2 y))
      rw [show 2 * c - 1 = 2 * (c - 1) + 1 by omega, pk_even i c b 0, pk_odd i (c - 1) b' 0]
      omega
    · obtain ⟨c, rfl⟩ : ∃ c, e = 2 * c + 1 := ⟨e / 2, by omega⟩
      have := pow_dvd_odd d1
      subst this
      rw [show 2 * c + 1 - 1 = 2 * c by omega, pk_odd i c b 0, pk_even i c b' 0]
theorem lb_big {n : Nat} (h : 2 ≤ n) : lb n = Nat.log2 (n - 1) + 1 := by unfold lb; rw [if_neg (by omega)]
end LT

namespace LT
open PySem PySem.Spec PyProof.Rows L2
/-! ### lists of ints as data -/
theorem ints_lay : ∀ ns : List Int, PyData.canLayAll0 (ns.map PyData.int) = true
  | [] => by simp [PyData.canLayAll0]
  | n :: ns => by simp [PyData.canLayAll0, PyData.canLay0, ints_lay ns]
theorem ints_depth : ∀ ns : List Int, PyData.depthAll (ns.map PyData.int) ≤ 1
  | [] => by simp [PyData.depthAll]
  | n :: ns => by
    have := ints_depth ns
    simp only [List.map_cons, PyData.depthAll, PyData.depth]
    omega
theorem ints_shaped (ns : List Int) : SeqAt.shaped (.list (ns.map PyData.int)) = true := by
  have h := ints_depth ns
  have h2 : PyData.depth (.list (ns.map PyData.int)) ≤ 64 := by
    simp only [PyData.depth]
    omega
  show (PyData.canLay0 (.list (ns.map PyData.int)) && decide (PyData.depth (.list (ns.map PyData.int)) ≤ 64)) = true
  rw [Bool.and_eq_true]
  exact ⟨by simp only [PyData.canLay0]; exact ints_lay ns, decide_eq_true h2⟩
theorem ints_dp {K : PySem.W.Frag} {H : Hp} : ∀ ns : List Int, DpAll K H (ns.map V.int) (ns.map PyData.int)
  | [] => .nil
  | n :: ns => .cons (.int n) (ints_dp ns)
theorem ints_nil : ∀ ns : List Int, PyData.eqv (.list (ns.map PyData.int)) (.list []) = ns.isEmpty
  | [] => by simp only [List.map_nil, PyData.eqv, PyData.eqvAll, List.isEmpty_nil]
  | n :: ns => by simp only [List.map_cons, PyData.eqv, PyData.eqvAll, List.isEmpty_cons]
theorem nil_shaped : SeqAt.shaped (.list []) = true := ints_shaped []
end LT

namespace LT
open PySem PySem.Spec PyProof.Rows L2
def nd (x : Nat × Nat) : PyData := .tuple [.int x.1, .int x.2]
theorem nds_lay : ∀ l : List (Nat × Nat), PyData.canLayAll0 (l.map nd) = true
  | [] => by simp [PyData.canLayAll0]
  | x :: l => by simp [PyData.canLayAll0, nd, PyData.canLay0, nds_lay l]
theorem nds_depth : ∀ l : List (Nat × Nat), PyData.depthAll (l.map nd) ≤ 2
  | [] => by simp [PyData.depthAll]
  | x :: l => by
    have := nds_depth l
    simp only [List.map_cons, PyData.depthAll, nd, PyData.depth]
    omega
theorem nds_shaped (l : List (Nat × Nat)) : SeqAt.shaped (.list (l.map nd)) = true := by
  have h := nds_depth l
  have h2 : PyData.depth (.list (l.map nd)) ≤ 64 := by
    simp only [PyData.depth]
    omega
  show (PyData.canLay0 (.list (l.map nd)) && decide (PyData.depth (.list (l.map nd)) ≤ 64)) = true
  rw [Bool.and_eq_true]
  exact ⟨by simp only [PyData.canLay0]; exact nds_lay l, decide_eq_true h2⟩
theorem nds_dp {K : PySem.W.Frag} {H : Hp} : ∀ {vs : List V} {l : List (Nat × Nat)}, All2 (Nd H) vs l → DpAll K H vs (l.map nd)
  | _, _, .nil => .nil
  | _, _, .cons h t => .cons h.dp (nds_dp t)
theorem nds_any (l : List (Nat × Nat)) (x : Nat × Nat) : (l.map nd).any (fun z => PyData.eqv z (.tuple [.int x.1, .int x.2])) = decide (x ∈ l) := by
  induction l with
  | nil => simp
  | cons y l ih =>
    rw [List.map_cons, List.any_cons, ih]
    show (PyData.eqv (.tuple [.int y.1, .int y.2]) _ || _) = _
    rw [nd_eqv]
    by_cases c : x = y
    · subst c
      simp
    · have e : (decide ((y.1 : Int) = (x.1 : Int)) && decide ((y.2 : Int) = (x.2 : Int))) = false := by
        rw [Bool.and_eq_false_iff]
        by_cases c1 : y.1 = x.1
        · right
          refine decide_eq_false (fun z => c (Prod.ext c1.symm ?_))
          omega
        · left
          exact decide_eq_false (fun z => c1 (by omega))
      rw [e, Bool.false_or]
      simp [c]
end LT

namespace LT
open PySem PySem.Spec PyProof.Rows L2
theorem ndt_shaped (l : List (Nat × Nat)) : SeqAt.shaped (.tuple (l.map nd)) = true := by
  have h := nds_depth l
  have h2 : PyData.depth (.tuple (l.map nd)) ≤ 64 := by
    simp only [PyData.depth]
    omega
  show (PyData.canLay0 (.tuple (l.map nd)) && decide (PyData.depth (.tuple (l.map nd)) ≤ 64)) = true
  rw [Bool.and_eq_true]
  exact ⟨by simp only [PyData.canLay0]; exact nds_lay l, decide_eq_true h2⟩
theorem tup_dp {K : PySem.W.Frag} {H : Hp} {p : Addr} {vs : List V} {l : List (Nat × Nat)} (h : H p = some (.tup vs)) (k : All2 (Nd H) vs l) : Dp K H (.ref p) (.tuple (l.map nd)) := .tup (SqT.of h) (nds_dp k)
theorem lst_dp {K : PySem.W.Frag} {H : Hp} {p : Addr} {vs : List V} {l : List (Nat × Nat)} (h : H p = some (.lst vs)) (k : All2 (Nd H) vs l) : Dp K H (.ref p) (.list (l.map nd)) := .lst (SqL.of h) (nds_dp k)
end LT

namespace LT
open PySem PySem.Spec PyProof.Rows L2
section
variable {P : Program} {w : World} {K : PySem.W.Frag} {mg : Str → Option Value} {base : Heap}
/-! ### walking an enumerate -/
theorem for_enum {a : Addr} {xs : List V} {g : TG} {tb : TS} {D : Ends} {σ : L2.St} {H : Hp} (Pv : Nat → L2.St → Hp → Prop) (h0 : Pv 0 σ H) (hl : ∀ i σ H, i ≤ xs.length → Pv i σ H → SqL K H a xs)
    (hs : ∀ i x σ H T, xs[i]? = some x → Pv i σ H → H T = none → g (.ref T) σ (upd H T (.tup [.int (i : Nat), x])) fun σ2 H2 => tb { D with nx := Pv (i + 1), ct := Pv (i + 1), bk := D.nx } σ2 H2) (hd : ∀ σ H, Pv xs.length σ H → D.nx σ H) :
    ∃ W : Nat → Nat → L2.St → Hp → Prop, (∃ m, W 0 m σ H) ∧ ∀ i m σ H, W i m σ H →
      ((Ite K a).stop i H ∧ D.nx σ H) ∨ ((Ite K a).go i H ∧ ∃ N : L2.St → Hp → Prop, (∀ σ' H', N σ' H' → ∃ m', m' < m ∧ W (i + 1) m' σ' H') ∧ ∀ x H', (Ite K a).yld i H x H' → g x σ H' fun σ2 H2 => tb { D with nx := N, ct := N, bk := D.nx } σ2 H2) := by
  refine ⟨fun i m σ H => m = xs.length - i ∧ i ≤ xs.length ∧ Pv i σ H, ⟨xs.length, by simp, Nat.zero_le _, h0⟩, ?_⟩
  rintro i m σ H ⟨rfl, hi, p⟩
  have q := hl i σ H hi p
  by_cases hlt : i < xs.length
  · refine .inr ⟨⟨xs, xs[i], q, by simp [hlt]⟩, Pv (i + 1), fun σ' H' p' => ⟨xs.length - (i + 1), by omega, rfl, hlt, p'⟩, fun x H' y => ?_⟩
    obtain ⟨T, x1, rfl, nT, rfl, f⟩ := y
    exact hs i x1 σ H T (f xs q) p nT
  · have e : i = xs.length := by omega
    subst e
    exact .inl ⟨⟨xs, q, Nat.le_refl _⟩, hd σ H p⟩
end
end LT

namespace LT
open PySem PySem.Spec PyProof.Rows L2
/-- an enumerate in a comprehension -/
theorem lc_enum {K : PySem.W.Frag} {a : Addr} {xs : List V} {g : TG} {tt : TT} {te : TE} {vs : List Nat} {σ : L2.St} {H1 : Hp} {D : Addr} {Qd : Hp → Prop} (J : Nat → Hp → Prop) (start : J 0 (upd H1 D (.lst [])))
    (still : ∀ i H, J i H → SqL K H a xs)
    (turn : ∀ (i : Nat) (x : V) (t : Addr) (H : Hp), xs[i]? = some x → J i H → H t = none → g (.ref t) (wipe σ vs) (upd H t (.tup [.int (i : Nat), x])) fun σ2 H2 => wipe σ2 vs = wipe σ vs ∧ tt σ2 H2 fun b H3 =>
      if b = true then te σ2 H3 fun y H4 => ∃ acc, H4 D = some (.lst acc) ∧ acc.length < sizeLine ∧ J (i + 1) (upd H4 D (.lst (acc ++ [y]))) else J (i + 1) H3)
    (fin : ∀ H, J xs.length H → Qd H) :
    ∃ W : Nat → Nat → Hp → Prop, (∃ m, W 0 m (upd H1 D (.lst []))) ∧ ∀ i m H, W i m H →
      ((Ite K a).stop i H ∧ Qd H) ∨ ((Ite K a).go i H ∧ ∃ Nx : Hp → Prop, (∀ H', Nx H' → ∃ m', m' < m ∧ W (i + 1) m' H') ∧ ∀ v H', (Ite K a).yld i H v H' → g v (wipe σ vs) H' fun σ2 H2 => wipe σ2 vs = wipe σ vs ∧ tt σ2 H2 fun b H3 =>
        if b = true then te σ2 H3 fun y H4 => ∃ acc, H4 D = some (.lst acc) ∧ acc.length < sizeLine ∧ Nx (upd H4 D (.lst (acc ++ [y]))) else Nx H3) := by
  refine ⟨fun i m H => i + m = xs.length ∧ J i H, ⟨xs.length, Nat.zero_add _, start⟩, ?_⟩
  rintro i m H ⟨im, j⟩
  have s1 := still i H j
  by_cases z : m = 0
  · have e : i = xs.length := by omega
    subst e
    exact .inl ⟨⟨xs, s1, Nat.le_refl _⟩, fin H j⟩
  · have h1 : i < xs.length := by omega
    refine .inr ⟨⟨xs, xs[i], s1, by simp [h1]⟩, J (i + 1), fun H' j' => ⟨m - 1, by omega, by omega, j'⟩, ?_⟩
    rintro v H' ⟨t, x, rfl, ht, rfl, k1⟩
    exact turn i x t H (k1 xs s1) j ht
end LT

namespace LT
open PySem PySem.Spec PyProof.Rows L2
/-- spans, each one at or behind the end of the one ahead -/
def So (n : Nat) : Nat → List (Nat × Nat) → Prop
  | lo, [] => lo ≤ n
  | lo, x :: l => lo ≤ x.1 ∧ x.1 < x.2 ∧ x.2 ≤ n ∧ So n x.2 l
theorem So.le {n : Nat} : ∀ {lo : Nat} {l : List (Nat × Nat)}, So n lo l → lo ≤ n
  | _, [], h => h
  | _, _ :: _, ⟨h1, h2, h3, _⟩ => by omega
theorem So.mem {n : Nat} : ∀ {lo : Nat} {l : List (Nat × Nat)}, So n lo l → ∀ x ∈ l, lo ≤ x.1 ∧ x.1 < x.2 ∧ x.2 ≤ n
  | lo, y :: l, ⟨h1, h2, h3, h4⟩, x, hx => by
    rcases List.mem_cons.mp hx with rfl | hx
    · exact ⟨h1, h2, h3⟩
    · obtain ⟨k1, k2, k3⟩ := So.mem h4 x hx
      exact ⟨by omega, k2, k3⟩
/-- the needed nodes -/
def nl (n : Nat) : Nat → List (Nat × Nat) → List (Nat × Nat)
  | lo, [] => nw n lo n
  | lo, x :: l => nw n lo x.1 ++ nl n x.2 l
section
variable {P : Program} {w : World} {K : PySem.W.Frag} {mg : Str → Option Value} {base : Heap}
def spListOf : Sp := fun vs H Q _ => ∃ (p : Addr) (xs : List V) (lo hi : Nat), vs = [.ref p, .int lo, .int hi] ∧ H p = some (.lst xs) ∧ lo ≤ xs.length ∧ xs.length ≤ hi ∧ Q (.bl true) H
theorem ok_is_list_of {f : Addr} {fd : FuncData} (F : Fun K "is_list_of" "is_list_of" sIsListOf f fd) (z_isinstance : mg "isinstance" = none) (z_list : mg "list" = none) (z_len : mg "len" = none) : FnOk P w K mg base CX0 1 f fd ["value", "least", "most"] spListOf := by
  refine F.ok scIsListOf (fun vs H Q E h => ?_) (fun cdv A outer s H vs Q E hr h => ?_)
  · obtain ⟨_, _, _, _, rfl, _⟩ := h
    rfl
  obtain ⟨p, xs, lo, hi, rfl, hp, h1, h2, q⟩ := h
  refine ⟨_, (pss_one (ps_ret (pe_and (pe_callB call_isi (by rfl) z_isinstance (by decide +kernel) (pa_cons (pv 0) (pa_cons (pe_bltn (v := .ty "list") (u := .type "list") (by rfl) z_list (by decide +kernel) rfl) pa_nil))) (pe_one (pe_chain op_le op_le (pv 1) (pe_callB call_len_seq (by rfl) z_len PySem.boot_len (pa_cons (pv 0) pa_nil)) (pv 2)))))), ?_⟩
  refine ⟨_, rfl, _, _, _, _, true, rfl, .ty "list", .base (.lst hp), kit_ty (by decide +kernel), true, rfl, ?_⟩
  refine ⟨_, rfl, _, rfl, p, xs, rfl, .inl (SqL.of hp), _, _, rfl, rfl, true, congrArg V.bl (decide_eq_true (by omega)), _, rfl, _, _, rfl, rfl, ?_⟩
  show Q (.bl (decide (((xs.length : Nat) : Int) ≤ (hi : Int)))) H
  rw [decide_eq_true (show ((xs.length : Nat) : Int) ≤ (hi : Int) by omega)]
  exact q
end
end LT

namespace LT
open PySem PySem.Spec PyProof.Rows L2
def cst (x : Nat × Nat) : Int × Int := (x.1, x.2)
theorem lex_anti (x y : Int × Int) (h1 : SrtO.lexB y x = false) (h2 : SrtO.lexB x y = false) : x = y := by
  unfold SrtO.lexB at h1 h2
  by_cases c : x.1 = y.1
  · rw [if_pos c.symm] at h1
    rw [if_pos c] at h2
    have := of_decide_eq_false h1
    have := of_decide_eq_false h2
    exact Prod.ext c (by omega)
  · rw [if_neg (fun z => c z.symm)] at h1
    rw [if_neg c] at h2
    have := of_decide_eq_false h1
    have := of_decide_eq_false h2
    omega
/-- the key of a pair in the heap -/
def kOf (H : Hp) : V → Int × Int
  | .ref a => match H a with
    | some (.tup [.int i, .int j]) => (i, j)
    | _ => (0, 0)
  | _ => (0, 0)
theorem kOf_nd {H : Hp} {v : V} {x : Nat × Nat} (h : Nd H v x) : kOf H v = cst x := by
  obtain ⟨p, rfl, q⟩ := h
  unfold kOf
  simp only [q]
  rfl
theorem keys_of {H : Hp} : ∀ {vs : List V} {l : List (Nat × Nat)}, All2 (Nd H) vs l → vs.map (kOf H) = l.map cst
  | _, _, .nil => rfl
  | _, _, .cons h t => by rw [List.map_cons, List.map_cons, kOf_nd h, keys_of t]
theorem cst_inj {x y : Nat × Nat} (h : cst x = cst y) : x = y := by
  have h1 := congrArg Prod.fst h
  have h2 := congrArg Prod.snd h
  unfold cst at h1 h2
  simp only at h1 h2
  exact Prod.ext (by omega) (by omega)
theorem of_keys {H : Hp} : ∀ (vs : List V) (l : List (Nat × Nat)), vs.map (kOf H) = l.map cst → (∀ v ∈ vs, ∃ x, Nd H v x) → All2 (Nd H) vs l
  | [], [], _, _ => .nil
  | [], y :: l, h, _ => by cases h
  | v :: vs, [], h, _ => by cases h
  | v :: vs, y :: l, h, k => by
    rw [List.map_cons, List.map_cons, List.cons.injEq] at h
    obtain ⟨x, hx⟩ := k v List.mem_cons_self
    have e : x = y := cst_inj (by rw [← kOf_nd hx]; exact h.1)
    subst e
    exact .cons hx (of_keys vs l h.2 fun u hu => k u (List.mem_cons_of_mem _ hu))
theorem All2.mem {α : Type} {R : V → α → Prop} : ∀ {vs : List V} {xs : List α} {v : V}, All2 R vs xs → v ∈ vs → ∃ x, x ∈ xs ∧ R v x
  | _, _, _, .cons h t, m => by
    rcases List.mem_cons.mp m with rfl | m
    · exact ⟨_, List.mem_cons_self, h⟩
    · obtain ⟨x, k1, k2⟩ := All2.mem t m
      exact ⟨x, List.mem_cons_of_mem _ k1, k2⟩
def leN (x y : Nat × Nat) : Bool := decide (x.1 < y.1) || (decide (x.1 = y.1) && decide (x.2 ≤ y.2))
theorem leN_iff {x y : Nat × Nat} : leN x y = true ↔ x.1 < y.1 ∨ (x.1 = y.1 ∧ x.2 ≤ y.2) := by
  unfold leN
  simp only [Bool.or_eq_true, Bool.and_eq_true, decide_eq_true_eq]
theorem leN_trans (a b c : Nat × Nat) (h1 : leN a b = true) (h2 : leN b c = true) : leN a c = true := by
  rw [leN_iff] at *
  omega
theorem leN_total (a b : Nat × Nat) : (leN a b || leN b a) = true := by
  rw [Bool.or_eq_true, leN_iff, leN_iff]
  omega
/-- the pairs in their order -/
def srt (l : List (Nat × Nat)) : List (Nat × Nat) := l.mergeSort leN
theorem srt_perm (l : List (Nat × Nat)) : (srt l).Perm l := List.mergeSort_perm l leN
theorem srt_pair (l : List (Nat × Nat)) : (srt l).Pairwise (fun x y => leN x y = true) := List.pairwise_mergeSort leN_trans leN_total l
theorem srt_len (l : List (Nat × Nat)) : (srt l).length = l.length := (srt_perm l).length_eq
theorem srt_mem {l : List (Nat × Nat)} {x : Nat × Nat} : x ∈ srt l ↔ x ∈ l := (srt_perm l).mem_iff
theorem leN_anti {x y : Nat × Nat} (h1 : leN x y = true) (h2 : leN y x = true) : x = y := by
  rw [leN_iff] at *
  exact Prod.ext (by omega) (by omega)
theorem srt_id {l : List (Nat × Nat)} (h : l.Pairwise (fun x y => leN x y = true)) : srt l = l :=
  List.Perm.eq_of_pairwise (le := fun x y => leN x y = true) (fun _ _ _ _ h1 h2 => leN_anti h1 h2) (srt_pair l) h (srt_perm l)
theorem srt_eq {l k : List (Nat × Nat)} (h : l.Perm k) : srt l = srt k :=
  List.Perm.eq_of_pairwise (le := fun x y => leN x y = true) (fun _ _ _ _ h1 h2 => leN_anti h1 h2) (srt_pair l) (srt_pair k) ((srt_perm l).trans (h.trans (srt_perm k).symm))
theorem lexB_of {x y : Nat × Nat} (h : leN x y = true) : SrtO.lexB (cst y) (cst x) = false := by
  rw [leN_iff] at h
  show (if ((y.1 : Nat) : Int) = ((x.1 : Nat) : Int) then decide (((y.2 : Nat) : Int) < ((x.2 : Nat) : Int)) else decide (((y.1 : Nat) : Int) < ((x.1 : Nat) : Int))) = false
  by_cases c : y.1 = x.1
  · rw [if_pos (by omega)]; exact decide_eq_false (by omega)
  · rw [if_neg (by omega)]; exact decide_eq_false (by omega)
theorem sorted_srt {H : Hp} {xs ys : List V} {l : List (Nat × Nat)} (hx : All2 (Nd H) xs l) (h : SrtO.Srtd (ltP (kOf H)) ys) (p : ys.Perm xs) : All2 (Nd H) ys (srt l) := by
  refine of_keys ys (srt l) ?_ (fun v hv => ?_)
  · have p1 := (p.map (kOf H))
    rw [keys_of hx] at p1
    refine List.Perm.eq_of_pairwise (le := fun x y => SrtO.lexB y x = false) (fun a b _ _ h1 h2 => lex_anti a b h1 h2) ?_ ?_ (p1.trans ((srt_perm l).map cst).symm)
    · exact List.pairwise_map.mpr h
    · exact List.pairwise_map.mpr ((srt_pair l).imp fun h => lexB_of h)
  · obtain ⟨x, _, k⟩ := hx.mem (p.mem_iff.mp hv)
    exact ⟨x, k⟩
end LT

namespace LT
open PySem PySem.Spec PyProof.Rows L2
/-- the greatest nodes beside stretches that ascend by their begins -/
def nb (n : Nat) : Nat → List (Nat × Nat) → List (Nat × Nat)
  | lo, [] => nw n lo n
  | lo, x :: l => nw n lo x.1 ++ nb n (max lo x.2) l
theorem nb_len {n : Nat} (h : n ≤ 2 ^ 100) : ∀ (l : List (Nat × Nat)) (lo : Nat), (∀ x ∈ l, x.1 ≤ n) → (nb n lo l).length ≤ 202 * (l.length + 1)
  | [], lo, _ => nw_len h
  | x :: l, lo, k => by
    have k1 := k x List.mem_cons_self
    have a := nw_len (n := n) (b := lo) (e := x.1) (by omega)
    have b := nb_len h l (max lo x.2) (fun y hy => k y (List.mem_cons_of_mem _ hy))
    show (nw n lo x.1 ++ nb n (max lo x.2) l).length ≤ 202 * (l.length + 1 + 1)
    rw [List.length_append]
    omega
theorem max_castB (a c : Nat) : (if ((c : Nat) : Int) > (a : Int) then (c : Int) else (a : Int)) = ((max a c : Nat) : Int) := by split <;> omega
section
variable {P : Program} {w : World} {K : PySem.W.Frag} {mg : Str → Option Value} {base : Heap}
def spBeside : Sp := fun vs H Q _ => ∃ (n : Nat) (p : Addr) (xs : List V) (S : List (Nat × Nat)), vs = [.int n, .ref p] ∧ 1 ≤ n ∧ n ≤ 10 ^ 30 ∧ H p = some (.lst xs) ∧ All2 (Nd H) xs S ∧ S.length ≤ 400 ∧ (∀ x ∈ S, x.1 ≤ n) ∧
  ∀ (H' : Hp) (r : Addr) (ys : List V), Same H H' → H r = none → H' r = some (.lst ys) → All2 (Nd H') ys (nb n 0 (srt S)) → Q (.ref r) H'
theorem ok_nodes_beside {f g3 : Addr} {fd d3 : FuncData} (F : Fun K "nodes_beside" "nodes_beside" sNodesBeside f fd)
    (GNodesWithin : FnOk P w K mg base CX0 4 g3 d3 ["size", "begin", "end"] spWithinX) (ANodesWithin : At K mg "nodes_within" g3 d3 ["size", "begin", "end"]) (z_sorted : mg "sorted" = none) (z_max : mg "max" = none) : FnOk P w K mg base CX0 5 f fd ["size", "stretches"] spBeside := by
  refine F.ok scNodesBeside (fun vs H Q E h => ?_) (fun cdv A outer s H vs Q E hr h => ?_)
  · obtain ⟨_, _, _, _, rfl, _⟩ := h
    rfl
  obtain ⟨n, p, xs, S, rfl, n1, h30, hp, hx, l400, hS, q⟩ := h
  refine ⟨_, (pss_cons (ps_set (i := 2) scNodesBeside.nd rfl (Or.inl rfl) (pe_lst pa_nil))
    (pss_cons (ps_set (i := 3) scNodesBeside.nd rfl (Or.inl rfl) pe_int)
    (pss_cons (ps_for PassesOwn.never rfl (pi_list (pe_callB cr_sortedPO (by rfl) z_sorted (by decide +kernel) (pa_cons (pv 1) pa_nil))) (pg_tup (by rfl) (pgs_cons (pg_name (i := 4) scNodesBeside.nd rfl (Or.inl rfl)) (pgs_cons (pg_name (i := 5) scNodesBeside.nd rfl (Or.inl rfl)) pgs_nil)))
    (pss_cons (ps_expr (pe_bm PySem.F.plainAttrs_list PySem.F.slot_list_extend PySem.F.type_list_extend mt_extend (pv 2) (pa_cons (pe_call GNodesWithin (hr.mono (by decide)) rfl ANodesWithin.m ANodesWithin.kp ANodesWithin.b .nil pass0 (pa_cons (pv 0) (pa_cons (pv 3) (pa_cons (pv 4) pa_nil)))) pa_nil)))
    (pss_one (ps_set (i := 3) scNodesBeside.nd rfl (Or.inl rfl) (pe_callB (call_max2 rfl) (by rfl) z_max (by decide +kernel) (pa_cons (pv 3) (pa_cons (pv 5) pa_nil)))))))
    (pss_cons (ps_expr (pe_bm PySem.F.plainAttrs_list PySem.F.slot_list_extend PySem.F.type_list_extend mt_extend (pv 2) (pa_cons (pe_call GNodesWithin (hr.mono (by decide)) rfl ANodesWithin.m ANodesWithin.kp ANodesWithin.b .nil pass0 (pa_cons (pv 0) (pa_cons (pv 3) (pa_cons (pv 0) pa_nil)))) pa_nil)))
    (pss_one (ps_ret (pv 2))))))), ?_⟩
  refine ⟨Nat.zero_le _, fun fa nf => ?_⟩
  have s2 := same_upd (o := .lst []) nf
  have hx2 := hx.mono (fun v x (k : Nd H v x) => k.same s2)
  have hp2 := s2 _ _ hp
  have hf2 : (upd H fa (.lst [])) fa = some (.lst []) := upd_same
  generalize upd H fa (.lst []) = H2 at s2 hx2 hp2 hf2
  refine ⟨_, rfl, p, xs, kOf H2, rfl, SqL.of hp2, fun x hm => ?_, fun ys so hs1 hs2 nso => ?_⟩
  · obtain ⟨y, _, pa, rfl, hpa⟩ := hx2.mem hm
    exact ⟨pa, rfl, by rw [hpa]; simp only [kOf, hpa]⟩
  have s3 := same_upd (o := .lst ys) nso
  have hy0 := (sorted_srt hx2 hs1 hs2.perm).mono (fun v x (k : Nd H2 v x) => k.same s3)
  have hso : (upd H2 so (.lst ys)) so = some (.lst ys) := upd_same
  have hf3 := s3 _ _ hf2
  have sof : so ≠ fa := fun z => by rw [z, hf2] at nso; cases nso
  have s03 := s2.trans s3
  have tot := nb_len (n := n) (by omega) (srt S) 0 (fun x hx => hS x (srt_mem.mp hx))
  have hT : ∀ x ∈ srt S, x.1 ≤ n := fun x hx => hS x (srt_mem.mp hx)
  have tl : (srt S).length ≤ 400 := by rw [srt_len]; exact l400
  generalize srt S = T at q hy0 tot hT tl
  generalize upd H2 so (.lst ys) = H3 at s3 hso hf3 hy0 s03
  have yl := hy0.len
  refine ⟨so, rfl, ⟨_, SqL.of hso⟩, for_list (K := K) (a := so) (xs := ys) (fun i σ H' => ∃ (lo : Nat) (v4 v5 : Option V) (zs : List V) (done : List (Nat × Nat)), σ = [some (.int (n : Int)), some (.ref p), some (.ref fa), some (.int (lo : Int)), v4, v5] ∧ Same H H' ∧ But fa H3 H' ∧ H' fa = some (.lst zs) ∧ All2 (Nd H') zs done ∧ done ++ nb n lo (T.drop i) = nb n 0 T)
    ⟨0, none, none, [], [], rfl, s03, But.refl _ _, hf3, .nil, rfl⟩ (fun i σ H' _ ⟨_, _, _, _, _, _, _, k, _⟩ => SqL.of (k _ _ sof hso)) ?_ ?_⟩
  · rintro i v σ H4 hi ⟨lo, v4, v5, zs, done, rfl, sm, B4, hf, hz, hd⟩
    obtain ⟨x, hxi, pv, rfl, hpv⟩ := hy0.nth hi
    have hdr : T.drop i = x :: T.drop (i + 1) := by
      obtain ⟨hl, hxe⟩ := List.getElem?_eq_some_iff.mp hxi
      rw [List.drop_eq_getElem_cons hl, hxe]
    rw [hdr] at hd
    have xn := hT x (List.mem_of_getElem? hxi)
    have pvf : pv ≠ fa := fun z => by rw [z, hf3] at hpv; cases hpv
    have hpv4 := B4 _ _ pvf hpv
    refine ⟨pv, _, rfl, SqT.of hpv4, rfl, _, _, rfl, _, _, rfl, rfl, ?_⟩
    refine ⟨_, rfl, .inl ⟨rfl, _, SqL.of hf⟩, _, rfl, _, rfl, _, rfl, n, lo, x.1, rfl, n1, by omega, xn, by omega, fun H5 r us s5 nr hr5 hu => ?_⟩
    have hf5 := s5 _ _ hf
    have lz : zs.length + us.length ≤ 100000 := by
      have k := congrArg List.length hd
      rw [List.length_append] at k
      have k2 : (nb n lo (x :: T.drop (i + 1))).length = (nw n lo x.1).length + (nb n (max lo x.2) (T.drop (i + 1))).length := by
        show (nw n lo x.1 ++ _).length = _
        rw [List.length_append]
      rw [hz.len, hu.len]
      omega
    refine ⟨fa, r, zs, us, rfl, rfl, hf5, hr5, szle (by omega), ?_⟩
    refine ⟨_, rfl, _, rfl, _, _, rfl, ?_⟩
    rw [max_castB]
    refine ⟨max lo x.2, _, _, zs ++ us, done ++ nw n lo x.1, rfl, ?_, ?_, upd_same, ?_, ?_⟩
    · exact fun a o k => by rw [upd_ne (ne_of_none k nf)]; exact s5 _ _ (sm _ _ k)
    · exact fun a o n k => by rw [upd_ne n]; exact s5 _ _ (B4 a o n k)
    · exact (hz.mono (fun v x (k : Nd H4 v x) => (k.same s5).upd hf5)).app (hu.mono (fun v x (k : Nd H5 v x) => k.upd hf5))
    · rw [← hd, List.append_assoc]
      rfl
  · rintro σ H4 ⟨lo, v4, v5, zs, done, rfl, sm, B4, hf, hz, hd⟩
    rw [yl, List.drop_length] at hd
    refine ⟨_, rfl, .inl ⟨rfl, _, SqL.of hf⟩, _, rfl, _, rfl, _, rfl, n, lo, n, rfl, n1, by omega, by omega, by omega, fun H5 r us s5 nr hr5 hu => ?_⟩
    have hf5 := s5 _ _ hf
    have lz : zs.length + us.length ≤ 100000 := by
      have k := congrArg List.length hd
      rw [List.length_append] at k
      have k2 : (nb n lo []).length = (nw n lo n).length := rfl
      rw [hz.len, hu.len]
      omega
    refine ⟨fa, r, zs, us, rfl, rfl, hf5, hr5, szle (by omega), ?_⟩
    refine ⟨_, rfl, q _ fa (zs ++ us) ?_ nf upd_same ?_⟩
    · exact fun a o k => by rw [upd_ne (ne_of_none k nf)]; exact s5 _ _ (sm _ _ k)
    · rw [← hd]
      exact (hz.mono (fun v x (k : Nd H4 v x) => (k.same s5).upd hf5)).app (hu.mono (fun v x (k : Nd H5 v x) => k.upd hf5))
end
end LT

namespace LT
open PySem PySem.Spec PyProof.Rows L2
section
variable {P : Program} {w : World} {K : PySem.W.Frag} {mg : Str → Option Value} {base : Heap}
def spBag : Sp := fun vs H Q _ => ∃ c : Int, vs = [.int c] ∧ ∀ (H' : Hp) (p : Addr), Same H H' → H p = none → BagAt H' p → Q (.ref p) H'
theorem ok_law_bag {f : Addr} {fd : FuncData} (F : Fun K "_law_bag" "_law_bag" sLawBag f fd) (z_max : mg "max" = none) : FnOk P w K mg base CX0 1 f fd ["cell"] spBag := by
  refine F.ok scLawBag (fun vs H Q E h => ?_) (fun cdv A outer s H vs Q E hr h => ?_)
  · obtain ⟨_, rfl, _⟩ := h
    rfl
  obtain ⟨c, rfl, q⟩ := h
  refine ⟨_, (pss_one (ps_ret (pe_lst (pa_cons (pe_callB (call_max2 rfl) (by rfl) z_max (by decide +kernel) (pa_cons pe_int (pa_cons (pe_op op_sub (pv 0) (pe_op op_pow pe_int pe_int)) pa_nil))) (pa_cons (pv 0) (pa_cons pe_int pa_nil)))))), ?_⟩
  refine ⟨_, rfl, _, _, rfl, rfl, ⟨by decide, by decide, by decide⟩, _, _, rfl, rfl, _, _, rfl, _, rfl, (by show 3 ≤ sizeLine; decide), fun p np => ?_⟩
  exact q _ p (same_upd np) np ⟨_, _, _, upd_same⟩
theorem fm0 (x : Int) {m : Int} (h : 0 < m) : 0 ≤ x.fmod m := by
  rw [Int.fmod_eq_emod_of_nonneg _ (by omega)]
  exact Int.emod_nonneg _ (by omega)
theorem fm1 (x : Int) {m : Int} (h : 0 < m) : x.fmod m < m := by
  rw [Int.fmod_eq_emod_of_nonneg _ (by omega)]
  exact Int.emod_lt_of_pos _ h
def spPick : Sp := fun vs H Q _ => ∃ (b : Addr) (many : Int), vs = [.ref b, .int many] ∧ 0 < many ∧ many.natAbs < 2 ^ 250 ∧ BagAt H b ∧
  ∀ (r : Int) (H' : Hp), 0 ≤ r → r < many → (∀ a, a ≠ b → H' a = H a) → BagAt H' b → Q (.int r) H'
theorem ok_law_pick {f : Addr} {fd : FuncData} (F : Fun K "_law_pick" "_law_pick" sLawPick f fd) (z_int : mg "int" = none) : FnOk P w K mg base CX0 1 f fd ["bag", "many"] spPick := by
  refine F.ok scLawPick (fun vs H Q E h => ?_) (fun cdv A outer s H vs Q E hr h => ?_)
  · obtain ⟨_, _, rfl, _⟩ := h
    rfl
  obtain ⟨b, many, rfl, hm, hm2, ⟨x, y, z, h0⟩, q⟩ := h
  refine ⟨_, (pss_cons (ps_asg (pe_op op_add (pe_ix ix_list (pv 0) pe_int (fun _ _ => rfl)) pe_int) (pg_sub (pv 0) pe_int set_list))
    (pss_cons (ps_if (pt_cmpR op_gt (pe_ix ix_list (pv 0) pe_int (fun _ _ => rfl)) pe_int (nomark _))
    (pss_cons (ps_set (i := 2) scLawPick.nd rfl (Or.inl rfl) (pe_op op_modN (pe_callTy call_int1 (by rfl) z_int (by decide +kernel) (pa_cons (pe_ix ix_list (pv 0) pe_int (fun _ _ => rfl)) pa_nil)) (pv 1)))
    (pss_cons (ps_asg (pe_op op_fdivW (pe_callTy call_int1 (by rfl) z_int (by decide +kernel) (pa_cons (pe_ix ix_list (pv 0) pe_int (fun _ _ => rfl)) pa_nil)) (pv 1)) (pg_sub (pv 0) pe_int set_list))
    (pss_one (ps_ret (pv 2)))))
    pss_nil)
    (pss_cons (ps_par (i := 3) (j := 4) (by rfl) scLawPick.nd rfl rfl (by decide) rfl rfl (pa_cons (pe_callTy call_int1 (by rfl) z_int (by decide +kernel) (pa_cons (pe_ix ix_list (pv 0) pe_int (fun _ _ => rfl)) pa_nil)) (pa_cons (pe_callTy call_int1 (by rfl) z_int (by decide +kernel) (pa_cons (pe_ix ix_list (pv 0) pe_int (fun _ _ => rfl)) pa_nil)) pa_nil)) (by rfl))
    (pss_cons (ps_set (i := 5) scLawPick.nd rfl (Or.inl rfl) (pe_op op_modN (pe_callTy call_int1 (by rfl) z_int (by decide +kernel) (pa_cons (pe_op op_add (pe_op op_add (pe_op op_mul (pe_op op_modN (pv 3) pe_int) pe_int) (pe_op op_mul (pv 4) pe_int)) pe_int) pa_nil)) pe_int))
    (pss_cons (ps_set (i := 6) scLawPick.nd rfl (Or.inl rfl) (pe_op op_modN (pe_callTy call_int1 (by rfl) z_int (by decide +kernel) (pa_cons (pe_op op_add (pe_op op_mul (pv 5) (pv 5)) (pe_op op_mul (pv 4) pe_int)) pa_nil)) pe_int))
    (pss_cons (ps_set (i := 7) scLawPick.nd rfl (Or.inl rfl) (pe_op op_fdivW (pe_callTy call_int1 (by rfl) z_int (by decide +kernel) (pa_cons (pe_op op_add (pe_op op_mul (pv 5) pe_int) (pv 6)) pa_nil)) pe_int))
    (pss_cons (ps_if (pt_cmpR op_gt (pv 1) (pe_op op_pow pe_int pe_int) (nomark _))
    (pss_one (ps_set (i := 7) scLawPick.nd rfl (Or.inl rfl) (pe_op op_add (pe_op op_pow (pv 7) pe_int) (pv 6))))
    pss_nil)
    (pss_one (ps_ret (pe_op op_modN (pe_callTy call_int1 (by rfl) z_int (by decide +kernel) (pa_cons (pv 7) pa_nil)) (pv 1))))))))))), ?_⟩
  refine ⟨_, rfl, b, _, _, _, rfl, rfl, SqL.of h0, atI_nat (j := 2) rfl, _, _, rfl, rfl, _, rfl, b, _, _, 2, rfl, rfl, h0, rfl, ?_⟩
  dsimp only
  have h1 : (upd H b (.lst ([.int x, .int y, .int z].set 2 (.int (z + 1))))) b = some (.lst [.int x, .int y, .int (z + 1)]) := upd_same
  have k1 : ∀ a, a ≠ b → (upd H b (.lst ([.int x, .int y, .int z].set 2 (.int (z + 1))))) a = H a := fun a ha => upd_ne ha
  generalize upd H b (.lst ([.int x, .int y, .int z].set 2 (.int (z + 1)))) = H1 at h1 k1
  refine ⟨_, rfl, b, _, _, _, rfl, rfl, SqL.of h1, atI_nat (j := 0) rfl, _, _, rfl, rfl, _, rfl, ite2 (fun c => ?_) (fun c => ?_)⟩
  · refine ⟨_, rfl, b, _, _, _, rfl, rfl, SqL.of h1, atI_nat (j := 0) rfl, .inl ⟨_, rfl, _, rfl, _, _, rfl, rfl, by omega, ?_⟩⟩
    refine ⟨_, rfl, b, _, _, _, rfl, rfl, SqL.of h1, atI_nat (j := 0) rfl, .inl ⟨_, rfl, _, rfl, _, _, rfl, rfl, wide_div hm hm2 (by decide) (by decide), _, rfl, b, _, _, 0, rfl, rfl, h1, rfl, ?_⟩⟩
    refine ⟨_, rfl, ?_⟩
    exact q _ _ (fm0 x hm) (fm1 x hm) (fun a ha => by rw [upd_ne ha]; exact k1 a ha) ⟨_, _, _, upd_same⟩
  · refine ⟨_, rfl, b, _, _, _, rfl, rfl, SqL.of h1, atI_nat (j := 1) rfl, .inl ⟨_, rfl, _, rfl, b, _, _, _, rfl, rfl, SqL.of h1, atI_nat (j := 2) rfl, .inl ⟨_, rfl, _, _, rfl, ?_⟩⟩⟩
    refine ⟨_, rfl, _, _, rfl, rfl, (by show (2147483629 : Int) ≠ 0; decide), _, _, rfl, rfl, .inr ⟨by decide, by decide⟩, _, rfl, _, _, rfl, rfl, .inr ⟨by decide, by decide⟩, _, _, rfl, rfl, _, _, rfl, rfl, .inl ⟨_, rfl, _, _, rfl, rfl, (by show (2147483647 : Int) ≠ 0; decide), ?_⟩⟩
    dsimp only
    have a0 := fm0 (y.fmod 2147483629 * 48271 + (z + 1) * 69621 + 12345) (m := 2147483647) (by decide)
    have a1 := fm1 (y.fmod 2147483629 * 48271 + (z + 1) * 69621 + 12345) (m := 2147483647) (by decide)
    generalize (y.fmod 2147483629 * 48271 + (z + 1) * 69621 + 12345).fmod 2147483647 = fi at a0 a1
    refine ⟨_, rfl, _, rfl, _, _, rfl, rfl, .inl ⟨by omega, by omega⟩, _, rfl, _, _, rfl, rfl, .inr ⟨by decide, by decide⟩, _, _, rfl, rfl, .inl ⟨_, rfl, _, _, rfl, rfl, (by show (2147483587 : Int) ≠ 0; decide), ?_⟩⟩
    dsimp only
    have b0 := fm0 (fi * fi + (z + 1) * 40692) (m := 2147483587) (by decide)
    have b1 := fm1 (fi * fi + (z + 1) * 40692) (m := 2147483587) (by decide)
    generalize (fi * fi + (z + 1) * 40692).fmod 2147483587 = se at b0 b1
    refine ⟨_, rfl, _, _, rfl, rfl, .inl ⟨by omega, by omega⟩, _, rfl, _, _, rfl, rfl, .inl ⟨_, rfl, _, _, rfl, rfl, wide_div (b := 6) (by decide) (by decide) (by decide) (by decide), ?_⟩⟩
    dsimp only
    have c0 : 0 ≤ (fi * 2147483587 + se) / 32 := by omega
    have c1 : (fi * 2147483587 + se) / 32 < 2 ^ 62 := by omega
    generalize (fi * 2147483587 + se) / 32 = dr at c0 c1
    refine ⟨_, rfl, _, _, rfl, rfl, ⟨by decide, by decide, by decide⟩, _, _, rfl, rfl, _, rfl, ite2 (fun c => ?_) (fun c => ?_)⟩
    · refine ⟨_, rfl, _, _, rfl, rfl, ⟨by decide, by decide, by omega⟩, _, rfl, _, _, rfl, rfl, ?_⟩
      refine ⟨_, rfl, .inl ⟨_, rfl, _, rfl, _, _, rfl, rfl, by omega, ?_⟩⟩
      exact q _ _ (fm0 _ hm) (fm1 _ hm) k1 ⟨_, _, _, h1⟩
    · refine ⟨_, rfl, .inl ⟨_, rfl, _, rfl, _, _, rfl, rfl, by omega, ?_⟩⟩
      exact q _ _ (fm0 _ hm) (fm1 _ hm) k1 ⟨_, _, _, h1⟩
end
end LT

namespace LT
open PySem PySem.Spec PyProof.Rows L2
section
variable {P : Program} {w : World} {K : PySem.W.Frag} {mg : Str → Option Value} {base : Heap}
theorem But.same {b : Addr} {H H1 H2 : Hp} (x : But b H H1) (y : Same H1 H2) : But b H H2 := fun a o n h => y a o (x a o n h)
theorem But.pick {b : Addr} {H H1 H2 : Hp} (x : But b H H1) (k : ∀ a, a ≠ b → H2 a = H1 a) : But b H H2 := fun a o n h => by rw [k a n]; exact x a o n h
theorem BagAt.ne {H : Hp} {b p : Addr} (h : BagAt H b) (n : H p = none) : p ≠ b := fun z => by
  obtain ⟨_, _, _, e⟩ := h
  rw [← z, n] at e
  cases e
theorem BagAt.upd {H : Hp} {b p : Addr} {o : HO} (h : BagAt H b) (n : p ≠ b) : BagAt (upd H p o) b := by
  obtain ⟨x, y, z, e⟩ := h
  exact ⟨x, y, z, by rw [upd_ne (fun z => n z.symm)]; exact e⟩
def spSizeM : Sp := fun vs H Q _ => ∃ (b : Addr) (most : Nat), vs = [.ref b, .int most] ∧ 1 ≤ most ∧ most ≤ 10 ^ 30 ∧ BagAt H b ∧ ∀ (n : Nat) (H' : Hp), 1 ≤ n → n ≤ most → But b H H' → BagAt H' b → Q (.int n) H'
theorem ok_law_sizeM {f g1 : Addr} {fd d1 : FuncData} (F : Fun K "_law_size" "_law_size" sLawSize f fd) (GLawPick : FnOk P w K mg base CX0 1 g1 d1 ["bag", "many"] spPick) (ALawPick : At K mg "_law_pick" g1 d1 ["bag", "many"]) (z_max : mg "max" = none) (z_min : mg "min" = none) (z_sum : mg "sum" = none) (z_range : mg "range" = none) :
    FnOk P w K mg base CX0 2 f fd ["bag", "most"] spSizeM := by
  refine F.ok scLawSize (fun vs H Q E h => ?_) (fun cdv A outer s H vs Q E hr h => ?_)
  · obtain ⟨_, _, rfl, _⟩ := h
    rfl
  obtain ⟨b, most, rfl, m1, m30, hb, q⟩ := h
  refine' ⟨_, (pss_cons (ps_set (i := 2) scLawSize.nd rfl (Or.inl rfl) (pe_call GLawPick (hr.mono (by decide)) rfl ALawPick.m ALawPick.kp ALawPick.b .nil pass0 (pa_cons (pv 0) (pa_cons pe_int pa_nil))))
    (pss_cons (ps_if (pt_cmpR op_eq (pv 2) pe_int (nomark _))
    (pss_one (ps_ret (pe_op op_add pe_int (pe_call GLawPick (hr.mono (by decide)) rfl ALawPick.m ALawPick.kp ALawPick.b .nil pass0 (pa_cons (pv 0) (pa_cons (pv 1) pa_nil))))))
    pss_nil)
    (pss_cons ?cc1
    (pss_one (ps_ret (pe_callB (call_min2 rfl) (by rfl) z_min (by decide +kernel) (pa_cons (pv 1) (pa_cons (pe_callB (call_max2 rfl) (by rfl) z_max (by decide +kernel) (pa_cons pe_int (pa_cons (pe_op op_sub (pe_op op_add (pe_callB (cr_sum rfl) (by rfl) z_sum (by decide +kernel) (pa_cons (pv 3) pa_nil)) (pe_call GLawPick (hr.mono (by decide)) rfl ALawPick.m ALawPick.kp ALawPick.b .nil pass0 (pa_cons (pv 0) (pa_cons pe_int pa_nil)))) pe_int) pa_nil))) pa_nil)))))))), ?_⟩
  case cc1 => exact (ps_setLc (i := 3) (own := [("turn", 4)]) rfl scLawSize.nd rfl rfl (sw_true rfl rfl rfl (by decide +kernel)) (pi_range1 (by rfl) z_range (pa_cons (pe_ix ix_list (pe_lst (pa_cons pe_int (pa_cons pe_int (pa_cons pe_int (pa_cons pe_int pa_nil))))) (pv 2) (fun _ _ => rfl)) pa_nil)) (blkOk_by (N := ["bag", "most", "way", "powers", "turn"]) (sc := defScope sLawSize) (by decide +kernel)) (fun _ _ _ _ _ => (pg_name (i := 4) scLawSize.nd rfl (Or.inl rfl))) (fun _ _ _ _ _ => pts_nil) (fun _ _ _ _ _ => (pe_op op_shl pe_int (pe_call GLawPick (hr.mono (by decide)) rfl ALawPick.m ALawPick.kp ALawPick.b .nil pass0 (pa_cons (pv 0) (pa_cons (pe_bits (pv 1)) pa_nil))))))
  have fin : ∀ (z : Int) (H5 : Hp), But b H H5 → BagAt H5 b → Q (.int (if (if z > 1 then z else 1) < (most : Int) then (if z > 1 then z else 1) else (most : Int))) H5 := fun z H5 B5 b5 => by
    have z1 : 1 ≤ (if z > 1 then z else 1) := by split <;> omega
    generalize (if z > 1 then z else 1) = y at z1
    have y1 : 1 ≤ (if y < (most : Int) then y else (most : Int)) ∧ (if y < (most : Int) then y else (most : Int)) ≤ most := by split <;> omega
    generalize (if y < (most : Int) then y else (most : Int)) = u at y1
    obtain ⟨un, rfl⟩ := Int.eq_ofNat_of_zero_le (show 0 ≤ u by omega)
    exact q un H5 (by omega) (by omega) B5 b5
  refine ⟨_, rfl, b, 4, rfl, by decide, by decide, hb, fun r H1 r0 r1 k1 b1 => ?_⟩
  have B1 : But b H H1 := (But.refl b H).pick k1
  refine ⟨_, rfl, rfl, _, rfl, ite2 (fun c => ?_) (fun c => ?_)⟩
  · refine ⟨_, rfl, _, rfl, b, most, rfl, by omega, by omega, b1, fun r2 H2 r20 r21 k2 b2 => ⟨_, _, rfl, rfl, ?_⟩⟩
    have B2 := B1.pick k2
    obtain ⟨rn, rfl⟩ := Int.eq_ofNat_of_zero_le r20
    have e : (1 : Int) + (rn : Int) = ((1 + rn : Nat) : Int) := by omega
    have q2 := q (1 + rn) H2 (by omega) (by omega) B2 b2
    rw [← e] at q2
    exact q2
  · have rne : r ≠ 0 := fun z => by
      subst z
      exact c (decide_eq_true rfl)
    have hv : ∃ m : Nat, atI [V.int 1, V.int 1, V.int 3, V.int 6] r = some (.int (m : Int)) ∧ m ≤ 6 := by
      have : r = 1 ∨ r = 2 ∨ r = 3 := by omega
      rcases this with rfl | rfl | rfl
      · exact ⟨1, atI_nat (j := 1) rfl, by decide⟩
      · exact ⟨3, atI_nat (j := 2) rfl, by decide⟩
      · exact ⟨6, atI_nat (j := 3) rfl, by decide⟩
    obtain ⟨m, hm, m6⟩ := hv
    refine ⟨(by show 4 ≤ sizeLine; decide), fun l nl => ?_⟩
    have s2 := same_upd (o := .lst [.int 1, .int 1, .int 3, .int 6]) nl
    have h2 : (upd H1 l (.lst [.int 1, .int 1, .int 3, .int 6])) l = some (.lst [.int 1, .int 1, .int 3, .int 6]) := upd_same
    have B2 := B1.same s2
    have b2 := b1.same s2
    generalize upd H1 l (.lst [.int 1, .int 1, .int 3, .int 6]) = H2 at h2 B2 b2
    refine ⟨_, rfl, l, _, _, _, rfl, rfl, SqL.of h2, hm, ?_⟩
    have bl : ((Builtin.Int.intBits (most : Int) : Nat) : Int) = ((most.log2 + 1 : Nat) : Int) := by rw [bits_nat, if_neg (by omega)]
    have l100 : most.log2 < 100 := (Nat.log2_lt (by omega)).mpr (Nat.lt_of_le_of_lt m30 (by decide))
    refine ⟨(m : Int), rfl, by omega, by omega, fun D nD => ?_⟩
    have Db := b2.ne nD
    refine lc_range (lo := 0) (n := m) (fun i H' => ∃ L : List Int, But b H2 H' ∧ BagAt H' b ∧ H' D = some (.lst (L.map V.int)) ∧ L.length = i) ⟨[], But.of (same_upd nD), b2.upd Db, upd_same, rfl⟩ ?_ ?_
    · rintro j H3 hj ⟨L, B3, b3, hD, hl⟩
      refine ⟨rfl, ?_⟩
      refine ⟨_, rfl, _, rfl, _, rfl, b, _, congrArg (fun z => [V.ref b, V.int z]) bl, by omega, by omega, b3, fun r4 H4 r40 r41 k4 b4 => ?_⟩
      refine ⟨_, _, rfl, rfl, ⟨r40, by omega, by decide⟩, ?_⟩
      have hD4 : H4 D = some (.lst (L.map V.int)) := (k4 D Db).trans hD
      refine ⟨_, hD4, szlt (by rw [List.length_map]; omega), L ++ [(1 : Int) * 2 ^ r4.toNat], ?_, b4.upd Db, ?_, by rw [List.length_append, List.length_singleton, hl]⟩
      · exact fun a o n k => by
          by_cases z : a = D
          · subst z; rw [nD] at k; cases k
          · rw [upd_ne z, k4 a n]; exact B3 a o n k
      · rw [List.map_append]; exact upd_same
    rintro H3 ⟨L, B3, b3, hD, hl⟩
    refine ⟨_, rfl, _, rfl, D, L, rfl, SqL.of hD, _, rfl, b, 3, rfl, by decide, by decide, b3, fun r4 H4 r40 r41 k4 b4 => ?_⟩
    exact ⟨_, _, rfl, rfl, _, _, rfl, rfl, _, _, rfl, _, _, rfl, fin _ H4 ((B2.trans B3).pick k4) b4⟩
end
end LT

namespace LT
open PySem PySem.Spec PyProof.Rows L2
/-- a def with defaults dvs, as it stands behind the top -/
structure FunT (K : PySem.W.Frag) (x qual : Str) (st : Stmt) (its : List Value) (dvs : List V) (f : Addr) (fd : FuncData) : Prop where
  ex : ∃ (oc : Value) (od : Option Addr) (T : Addr) (kV doc pm : Value) (an : Option Addr) (cdv ct : Value) (osl : Array (Option Value)) (o : Obj) (n : Nat),
    fd = PySem.W.fnOf x qual (defArgs st) (defBody st) (defScope st) (.ref T) kV doc pm an cdv ct ∧ K.lookup f = some ⟨oc, od, .func fd, osl⟩ ∧ PySem.W.codeIn K cdv qual = true ∧ K.lookup T = some o ∧ o.data = .seq its.toArray n
  kp : PySem.W.keepIn K (.ref f) = true
  v : Vals dvs its
/-- how it is called with its defaults -/
structure AtT (K : PySem.W.Frag) (mg : Str → Option Value) (x : Str) (f : Addr) (fd : FuncData) (ps : List Str) (ds : List Value) (dvs : List V) : Prop where
  m : mg x = some (.ref f)
  kp : PySem.W.keepIn K (.ref f) = true
  b : Binds K fd ps ds
  v : Vals dvs ds
section
variable {P : Program} {w : World} {K : PySem.W.Frag} {mg : Str → Option Value} {base : Heap}
theorem FunT.ok {x qual : Str} {st : Stmt} {its : List Value} {dvs : List V} {f : Addr} {fd : FuncData} {N ps : List Str} {k : Nat} {sp : Sp} (F : FunT K x qual st its dvs f fd) (S : FnScope N ps (defScope st)) (len : ∀ vs H Q E, sp vs H Q E → vs.length = ps.length)
    (hbody : ∀ (cdv : Value) (A : Around) (outer : List Env) (s : Shared) (H : Hp) (vs : List V) (Q : VK) (E : XK), Room k (A.deeper (envOfC qual (defScope st) s.heap.objs.size f cdv)) → sp vs H Q E →
      ∃ t, PSs (cxOf CX0 P w K mg base N qual (defScope st) f cdv A outer s H E).nox (defBody st) t ∧ t { nx := fun _ H' => Q .non H', rt := Q } (start N vs) H) : FnOk P w K mg base CX0 (k + 1) f fd ps sp := by
  obtain ⟨oc, od, T, kV, doc, pm, an, cdv, ct, osl, o, n, rfl, lk, hcd, lT, oT⟩ := F.ex
  refine fn_of lk hcd S len fun A outer s H vs Q E hr hsp => ?_
  obtain ⟨t, h, q⟩ := hbody cdv A outer s H vs Q E hr hsp
  exact ⟨t, h.nox, q⟩
theorem funT_mk {x qual : Str} {st : Stmt} {f T : Addr} {oc tc : Value} {od an td : Option Addr} {osl tsl : Array (Option Value)} {tits : Array Value} {tn : Nat} {dvs : List V} {kV doc pm cdv ct : Value} (l : K.lookup f = some ⟨oc, od, .func (PySem.W.fnOf x qual (defArgs st) (defBody st) (defScope st) (.ref T) kV doc pm an cdv ct), osl⟩)
    (c : PySem.W.codeIn K cdv qual = true) (k : PySem.W.keepIn K (.ref f) = true) (lT : K.lookup T = some ⟨tc, td, .seq tits tn, tsl⟩) (v : Vals dvs tits.toList) : FunT K x qual st tits.toList dvs f (PySem.W.fnOf x qual (defArgs st) (defBody st) (defScope st) (.ref T) kV doc pm an cdv ct) :=
  ⟨⟨oc, od, T, kV, doc, pm, an, cdv, ct, osl, _, tn, rfl, l, c, lT, by simp⟩, k, v⟩
theorem FunT.binds {x qual : Str} {st : Stmt} {its : List Value} {dvs : List V} {f : Addr} {fd : FuncData} {ps : List Str} {n m : Nat} (F : FunT K x qual st its dvs f fd) (hm : dvs.length = m)
    (h : ∀ (T : Addr) (kV doc pm : Value) (an : Option Addr) (cdv ct : Value) (us its : List Value), us.length = n → its.length = m →
      ∃ k, bindArgs (PySem.W.fnOf x qual (defArgs st) (defBody st) (defScope st) (.ref T) kV doc pm an cdv ct) ⟨us, []⟩ = seqItems? (.ref T) >>= k ∧ k (some its.toArray) = pure (ps.zip (us ++ its))) (hn : n + m = ps.length := by rfl) : Binds K fd ps its := by
  obtain ⟨oc, od, T, kV, doc, pm, an, cdv, ct, osl, o, nn, rfl, lk, hcd, lT, oT⟩ := F.ex
  intro s us X hl
  have e := F.v.length
  rw [List.length_append] at hl
  obtain ⟨k, e1, e2⟩ := h T kV doc pm an cdv ct us its (by omega) (by omega)
  refine BindsTo.of_looks fun M => ?_
  rw [e1]
  exact looks_items X lT oT (.of_pure e2)
end
section
variable {X : Cx} {s : Shared} {H : Hp} {sc : Scope} {ce : Env} {fp : List Addr}
theorem pi_listB {tg l : Expr} {tl : TE} (hl : PE (X.blk s H sc ce fp) l tl) : PI (X.blk s H sc ce fp) tg l (iList X.K tl) := pi_list hl
end
section
variable {K : PySem.W.Frag} {a D : Addr} {xs : List V} {g g1 : TG} {tt tt1 : TT} {te : TE} {wi1 : TI} {vs vs1 : List Nat} {σ : L2.St} {H1 : Hp} {Qd : Hp → Prop}
/-- the inner walk of a comprehension with two for -/
abbrev InT (D : Addr) (wi1 : TI) (g1 : TG) (tt1 : TT) (te : TE) (vs1 : List Nat) (Nx : Hp → Prop) (σ2 : L2.St) (H3 : Hp) : Prop := wi1 σ2 H3 fun J1 H4 => ∃ W1 : Nat → Nat → Hp → Prop, (∃ m, W1 0 m H4) ∧ ∀ j k H, W1 j k H →
  (J1.stop j H ∧ Nx H) ∨ (J1.go j H ∧ ∃ Nx1 : Hp → Prop, (∀ H', Nx1 H' → ∃ k', k' < k ∧ W1 (j + 1) k' H') ∧ ∀ x H', J1.yld j H x H' → g1 x (wipe σ2 vs1) H' fun σ3 H5 => wipe σ3 vs1 = wipe σ2 vs1 ∧ tt1 σ3 H5 fun b H6 =>
    if b = true then te σ3 H6 fun y H7 => ∃ acc, H7 D = some (.lst acc) ∧ acc.length < sizeLine ∧ Nx1 (upd H7 D (.lst (acc ++ [y]))) else Nx1 H6)
theorem lc2_list (Pv : Nat → Hp → Prop) (h0 : Pv 0 (upd H1 D (.lst []))) (hl : ∀ i H, i ≤ xs.length → Pv i H → SqL K H a xs)
    (hs : ∀ i x H, xs[i]? = some x → Pv i H → g x (wipe σ vs) H fun σ2 H2 => wipe σ2 vs = wipe σ vs ∧ tt σ2 H2 fun b H3 => if b = true then InT D wi1 g1 tt1 te vs1 (Pv (i + 1)) σ2 H3 else Pv (i + 1) H3) (hd : ∀ H, Pv xs.length H → Qd H) :
    ∃ W : Nat → Nat → Hp → Prop, (∃ m, W 0 m (upd H1 D (.lst []))) ∧ ∀ i m H, W i m H →
      ((Itl K a).stop i H ∧ Qd H) ∨ ((Itl K a).go i H ∧ ∃ Nx : Hp → Prop, (∀ H', Nx H' → ∃ m', m' < m ∧ W (i + 1) m' H') ∧ ∀ x H', (Itl K a).yld i H x H' → g x (wipe σ vs) H' fun σ2 H2 => wipe σ2 vs = wipe σ vs ∧ tt σ2 H2 fun b H3 =>
        if b = true then InT D wi1 g1 tt1 te vs1 Nx σ2 H3 else Nx H3) := by
  refine ⟨fun i m H => m + i = xs.length ∧ Pv i H, ⟨xs.length, rfl, h0⟩, ?_⟩
  rintro i m H ⟨im, p⟩
  have q := hl i H (by omega) p
  by_cases hlt : i < xs.length
  · refine .inr ⟨⟨xs, xs[i], q, by simp [hlt]⟩, Pv (i + 1), fun H' p' => ⟨m - 1, by omega, by omega, p'⟩, fun x H' y => ?_⟩
    obtain ⟨e, y⟩ := y
    subst e
    exact hs i x _ (y xs q) p
  · have e : i = xs.length := by omega
    subst e
    exact .inl ⟨⟨xs, q, Nat.le_refl _⟩, hd H p⟩
theorem lc_in {σ2 : L2.St} {H4 : Hp} {Nx : Hp → Prop} (Pv : Nat → Hp → Prop) (h0 : Pv 0 H4) (hl : ∀ i H, i ≤ xs.length → Pv i H → SqL K H a xs)
    (hs : ∀ i x H, xs[i]? = some x → Pv i H → g1 x (wipe σ2 vs1) H fun σ3 H5 => wipe σ3 vs1 = wipe σ2 vs1 ∧ tt1 σ3 H5 fun b H6 =>
      if b = true then te σ3 H6 fun y H7 => ∃ acc, H7 D = some (.lst acc) ∧ acc.length < sizeLine ∧ Pv (i + 1) (upd H7 D (.lst (acc ++ [y]))) else Pv (i + 1) H6) (hd : ∀ H, Pv xs.length H → Nx H) :
    ∃ W1 : Nat → Nat → Hp → Prop, (∃ m, W1 0 m H4) ∧ ∀ j k H, W1 j k H →
      ((Itl K a).stop j H ∧ Nx H) ∨ ((Itl K a).go j H ∧ ∃ Nx1 : Hp → Prop, (∀ H', Nx1 H' → ∃ k', k' < k ∧ W1 (j + 1) k' H') ∧ ∀ x H', (Itl K a).yld j H x H' → g1 x (wipe σ2 vs1) H' fun σ3 H5 => wipe σ3 vs1 = wipe σ2 vs1 ∧ tt1 σ3 H5 fun b H6 =>
        if b = true then te σ3 H6 fun y H7 => ∃ acc, H7 D = some (.lst acc) ∧ acc.length < sizeLine ∧ Nx1 (upd H7 D (.lst (acc ++ [y]))) else Nx1 H6) := by
  refine ⟨fun i m H => m + i = xs.length ∧ Pv i H, ⟨xs.length, rfl, h0⟩, ?_⟩
  rintro i m H ⟨im, p⟩
  have q := hl i H (by omega) p
  by_cases hlt : i < xs.length
  · refine .inr ⟨⟨xs, xs[i], q, by simp [hlt]⟩, Pv (i + 1), fun H' p' => ⟨m - 1, by omega, by omega, p'⟩, fun x H' y => ?_⟩
    obtain ⟨e, y⟩ := y
    subst e
    exact hs i x _ (y xs q) p
  · have e : i = xs.length := by omega
    subst e
    exact .inl ⟨⟨xs, q, Nat.le_refl _⟩, hd H p⟩
end
end LT

namespace LT
open PySem PySem.Spec PyProof.Rows L2
/-- the fewest stretches with the same entries as some that ascend -/
def jgo : Nat × Nat → List (Nat × Nat) → List (Nat × Nat)
  | cur, [] => [cur]
  | cur, x :: l => if x.1 ≤ cur.2 then jgo (cur.1, max cur.2 x.2) l else cur :: jgo x l
def jn : List (Nat × Nat) → List (Nat × Nat)
  | [] => []
  | x :: l => jgo x l
theorem jgo_len : ∀ (l : List (Nat × Nat)) (c : Nat × Nat), (jgo c l).length ≤ l.length + 1
  | [], c => Nat.le_refl _
  | x :: l, c => by
    unfold jgo
    split
    · have := jgo_len l (c.1, max c.2 x.2)
      show _ ≤ l.length + 1 + 1
      omega
    · have := jgo_len l x
      show (jgo x l).length + 1 ≤ l.length + 1 + 1
      omega
theorem jn_len (l : List (Nat × Nat)) : (jn l).length ≤ l.length := by
  cases l with
  | nil => exact Nat.le_refl _
  | cons x l => exact jgo_len l x
theorem jgo_mem : ∀ (l : List (Nat × Nat)) (c : Nat × Nat) (n : Nat), c.1 < c.2 → c.2 ≤ n → (∀ x ∈ l, x.1 < x.2 ∧ x.2 ≤ n) → ∀ y ∈ jgo c l, y.1 < y.2 ∧ y.2 ≤ n
  | [], c, n, h1, h2, _, y, hy => by
    rw [List.mem_singleton.mp hy]
    exact ⟨h1, h2⟩
  | x :: l, c, n, h1, h2, h, y, hy => by
    have hx := h x List.mem_cons_self
    unfold jgo at hy
    split at hy
    · exact jgo_mem l (c.1, max c.2 x.2) n (by show c.1 < max c.2 x.2; omega) (by show max c.2 x.2 ≤ n; omega) (fun z hz => h z (List.mem_cons_of_mem _ hz)) y hy
    · rcases List.mem_cons.mp hy with rfl | hy
      · exact ⟨h1, h2⟩
      · exact jgo_mem l x n hx.1 hx.2 (fun z hz => h z (List.mem_cons_of_mem _ hz)) y hy
theorem jn_mem {l : List (Nat × Nat)} {n : Nat} (h : ∀ x ∈ l, x.1 < x.2 ∧ x.2 ≤ n) : ∀ y ∈ jn l, y.1 < y.2 ∧ y.2 ≤ n := by
  cases l with
  | nil => exact fun y hy => absurd hy (by simp [jn])
  | cons x l =>
    have hx := h x List.mem_cons_self
    exact jgo_mem l x n hx.1 hx.2 fun z hz => h z (List.mem_cons_of_mem _ hz)
theorem nds_eqvAll : ∀ l k : List (Nat × Nat), PyData.eqvAll (l.map nd) (k.map nd) = decide (l = k)
  | [], [] => by simp [PyData.eqvAll]
  | [], y :: k => by simp [PyData.eqvAll]
  | x :: l, [] => by simp [PyData.eqvAll]
  | x :: l, y :: k => by
    have e : PyData.eqvAll ((x :: l).map nd) ((y :: k).map nd) = (PyData.eqv (nd x) (nd y) && PyData.eqvAll (l.map nd) (k.map nd)) := by simp only [List.map_cons, PyData.eqvAll]
    rw [e, nds_eqvAll l k]
    unfold nd
    rw [nd_eqv]
    by_cases h : x = y
    · subst h
      simp
    · have : ¬ ((x.1 : Int) = (y.1 : Int) ∧ (x.2 : Int) = (y.2 : Int)) := fun z => h (Prod.ext (by omega) (by omega))
      have e2 : (decide ((x.1 : Int) = (y.1 : Int)) && decide ((x.2 : Int) = (y.2 : Int))) = false := by
        rw [Bool.and_eq_false_iff]
        by_cases h1 : (x.1 : Int) = (y.1 : Int)
        · exact .inr (decide_eq_false fun z => this ⟨h1, z⟩)
        · exact .inl (decide_eq_false h1)
      rw [e2]
      simp [h]
theorem nds_eqv (l k : List (Nat × Nat)) : PyData.eqv (.list (l.map nd)) (.list (k.map nd)) = decide (l = k) := by
  have e : PyData.eqv (.list (l.map nd)) (.list (k.map nd)) = PyData.eqvAll (l.map nd) (k.map nd) := by simp only [PyData.eqv]
  rw [e, nds_eqvAll]
section
variable {P : Program} {w : World} {K : PySem.W.Frag} {mg : Str → Option Value} {base : Heap}
def spCheckNodes : Sp := fun vs H Q _ => ∃ (n : Nat) (p : Addr) (xs : List V) (S : List (Nat × Nat)), vs = [.int n, .ref p, .int 1, .int 60] ∧ 1 ≤ n ∧ n ≤ 10 ^ 30 ∧ H p = some (.lst xs) ∧ All2 (Nd H) xs S ∧ 1 ≤ S.length ∧ S.length ≤ 60 ∧ (∀ x ∈ S, isN n x) ∧ ∀ H', Same H H' → Q .non H'
theorem ok_check_nodes {f g1 g2 : Addr} {fd d1 d2 : FuncData} {its : List Value} {dvs : List V} (F : FunT K "check_nodes" "check_nodes" sCheckNodes its dvs f fd) (GIsListOf : FnOk P w K mg base CX0 1 g1 d1 ["value", "least", "most"] spListOf) (AIsListOf : At K mg "is_list_of" g1 d1 ["value", "least", "most"])
    (GIsTreeNode : FnOk P w K mg base CX0 3 g2 d2 ["size", "value"] (spTreeV K)) (AIsTreeNode : At K mg "is_tree_node" g2 d2 ["size", "value"]) (z_enumerate : mg "enumerate" = none) : FnOk P w K mg base CX0 4 f fd ["size", "nodes", "least", "most"] spCheckNodes := by
  refine F.ok scCheckNodes (fun vs H Q E h => ?_) (fun cdv A outer s H vs Q E hr h => ?_)
  · obtain ⟨_, _, _, _, rfl, _⟩ := h
    rfl
  obtain ⟨n, p, xs, S, rfl, n1, h30, hp, hx, l1, l60, hS, q⟩ := h
  refine ⟨_, (pss_cons (ps_if (pt_not (pt_val (pe_call GIsListOf (hr.mono (by decide)) rfl AIsListOf.m AIsListOf.kp AIsListOf.b .nil pass0 (pa_cons (pv 1) (pa_cons (pv 2) (pa_cons (pv 3) pa_nil))))))
    (pss_one ps_never)
    pss_nil)
    (pss_one (ps_for PassesOwn.never rfl (pi_enum (by rfl) z_enumerate (pa_cons (pv 1) pa_nil)) (pg_tup (by rfl) (pgs_cons (pg_name (i := 4) scCheckNodes.nd rfl (Or.inl rfl)) (pgs_cons (pg_name (i := 5) scCheckNodes.nd rfl (Or.inl rfl)) pgs_nil)))
    (pss_one (ps_if (pt_not (pt_val (pe_call GIsTreeNode (hr.mono (by decide)) rfl AIsTreeNode.m AIsTreeNode.kp AIsTreeNode.b .nil pass0 (pa_cons (pv 0) (pa_cons (pv 5) pa_nil)))))
    (pss_one ps_never)
    pss_nil))))), ?_⟩
  have xl := hx.len
  refine ⟨_, rfl, _, rfl, _, rfl, p, xs, 1, 60, rfl, hp, by omega, by omega, true, rfl, ?_⟩
  refine ⟨_, rfl, p, xs, rfl, SqL.of hp, ?_⟩
  refine for_enum (a := p) (xs := xs) (fun i σ H' => ∃ (v4 v5 : Option V), σ = [some (.int (n : Int)), some (.ref p), some (.int 1), some (.int 60), v4, v5] ∧ Same H H')
    ⟨none, none, rfl, Same.refl _⟩ (fun i σ H' _ ⟨_, _, _, sm⟩ => SqL.of (sm _ _ hp)) ?_ ?_
  · rintro i x σ H2 T hi ⟨v4, v5, rfl, sm⟩ nT
    obtain ⟨y, hyi, hy⟩ := hx.nth hi
    have sT := same_upd (o := .tup [.int ((i : Nat) : Int), x]) nT
    have hy2 := (hy.same sm).same sT
    obtain ⟨yp, rfl, hyp⟩ := id hy2
    refine ⟨T, _, rfl, SqT.of upd_same, rfl, _, _, rfl, _, _, rfl, rfl, ?_⟩
    refine ⟨_, rfl, _, rfl, n, _, true, rfl, n1, by omega, ?_, true, rfl, ?_⟩
    · have e : tnV n (.int (y.1 : Int)) (.int (y.2 : Int)) = true := by
        rw [tn_nat]
        exact decide_eq_true (hS y (List.mem_of_getElem? hyi))
      exact e ▸ Ask.pair (n := n) hyp (.int _) (.int _)
    · exact ⟨_, _, rfl, sm.trans sT⟩
  · rintro σ H2 ⟨v4, v5, rfl, sm⟩
    exact q H2 sm
def spJoined : Sp := fun vs H Q _ => ∃ (p : Addr) (xs : List V) (S : List (Nat × Nat)), vs = [.ref p] ∧ H p = some (.lst xs) ∧ All2 (Nd H) xs S ∧ S.length ≤ 400 ∧
  ∀ (H' : Hp) (r : Addr) (ys : List V), Same H H' → H r = none → H' r = some (.lst ys) → All2 (Nd H') ys (jn (srt S)) → Q (.ref r) H'
theorem ok_joined {f : Addr} {fd : FuncData} (F : Fun K "joined" "joined" sJoined f fd) (z_sorted : mg "sorted" = none) (z_max : mg "max" = none) : FnOk P w K mg base CX0 1 f fd ["stretches"] spJoined := by
  refine F.ok scJoined (fun vs H Q E h => ?_) (fun cdv A outer s H vs Q E hr h => ?_)
  · obtain ⟨_, _, _, rfl, _⟩ := h
    rfl
  obtain ⟨p, xs, S, rfl, hp, hx, l400, q⟩ := h
  refine ⟨_, (pss_cons (ps_set (i := 1) scJoined.nd rfl (Or.inl rfl) (pe_lst pa_nil))
    (pss_cons (ps_for PassesOwn.never rfl (pi_list (pe_callB cr_sortedPO (by rfl) z_sorted (by decide +kernel) (pa_cons (pv 0) pa_nil))) (pg_tup (by rfl) (pgs_cons (pg_name (i := 2) scJoined.nd rfl (Or.inl rfl)) (pgs_cons (pg_name (i := 3) scJoined.nd rfl (Or.inl rfl)) pgs_nil)))
    (pss_one (ps_if (PW.pt (pw_and (pt_truth (pv 1) (fun _ => rfl)) (pw_and1 (pt_cmpR op_le (pv 2) (pe_ix ix_tup (pe_ix ix_list (pv 1) (pe_un un_neg pe_int) (fun _ _ => rfl)) pe_int (fun _ _ => rfl)) (nomark _)))))
    (pss_cons (ps_asg (pe_bm0 PySem.F.plainAttrs_list PySem.F.slot_list_pop PySem.F.type_list_pop mt_pop (pv 1)) (pg_tup (by rfl) (pgs_cons (pg_name (i := 4) scJoined.nd rfl (Or.inl rfl)) (pgs_cons (pg_name (i := 5) scJoined.nd rfl (Or.inl rfl)) pgs_nil))))
    (pss_one (ps_expr (pe_bm PySem.F.plainAttrs_list PySem.F.slot_list_append PySem.F.type_list_append mt_append (pv 1) (pa_cons (pe_tup (pa_cons (pv 4) (pa_cons (pe_callB (call_max2 rfl) (by rfl) z_max (by decide +kernel) (pa_cons (pv 5) (pa_cons (pv 3) pa_nil))) pa_nil))) pa_nil)))))
    (pss_one (ps_expr (pe_bm PySem.F.plainAttrs_list PySem.F.slot_list_append PySem.F.type_list_append mt_append (pv 1) (pa_cons (pe_tup (pa_cons (pv 2) (pa_cons (pv 3) pa_nil))) pa_nil)))))))
    (pss_one (ps_ret (pv 1))))), ?_⟩
  refine ⟨Nat.zero_le _, fun fa nf => ?_⟩
  have s2 := same_upd (o := .lst []) nf
  have hx2 := hx.mono (fun v x (k : Nd H v x) => k.same s2)
  have hp2 := s2 _ _ hp
  have hf2 : (upd H fa (.lst [])) fa = some (.lst []) := upd_same
  generalize upd H fa (.lst []) = H2 at s2 hx2 hp2 hf2
  refine ⟨_, rfl, p, xs, kOf H2, rfl, SqL.of hp2, fun x hm => ?_, fun ys so hs1 hs2 nso => ?_⟩
  · obtain ⟨y, _, pa, rfl, hpa⟩ := hx2.mem hm
    exact ⟨pa, rfl, by rw [hpa]; simp only [kOf, hpa]⟩
  have s3 := same_upd (o := .lst ys) nso
  have hy0 := (sorted_srt hx2 hs1 hs2.perm).mono (fun v x (k : Nd H2 v x) => k.same s3)
  have hso : (upd H2 so (.lst ys)) so = some (.lst ys) := upd_same
  have hf3 := s3 _ _ hf2
  have sof : so ≠ fa := fun z => by rw [z, hf2] at nso; cases nso
  have s03 := s2.trans s3
  have tl : (srt S).length ≤ 400 := by rw [srt_len]; exact l400
  generalize srt S = T at q hy0 tl
  generalize upd H2 so (.lst ys) = H3 at s3 hso hf3 hy0 s03
  have yl := hy0.len
  refine ⟨so, rfl, ⟨_, SqL.of hso⟩, for_list (K := K) (a := so) (xs := ys) (fun i σ H' => ∃ (v2 v3 v4 v5 : Option V) (zs : List V) (D : List (Nat × Nat)), σ = [some (.ref p), some (.ref fa), v2, v3, v4, v5] ∧ Same H H' ∧ But fa H3 H' ∧ H' fa = some (.lst zs) ∧ All2 (Nd H') zs D ∧ D.length ≤ i ∧
      ((i = 0 ∧ D = []) ∨ ∃ (done : List (Nat × Nat)) (c : Nat × Nat), D = done ++ [c] ∧ jn T = done ++ jgo c (T.drop i)))
    ⟨none, none, none, none, [], [], rfl, s03, But.refl _ _, hf3, .nil, Nat.le_refl _, .inl ⟨rfl, rfl⟩⟩ (fun i σ H' _ ⟨_, _, _, _, _, _, _, _, k, _⟩ => SqL.of (k _ _ sof hso)) ?_ ?_⟩
  · rintro i v σ H4 hi ⟨v2, v3, v4, v5, zs, D, rfl, sm, B4, hf, hz, dl, hd⟩
    obtain ⟨x, hxi, pv, rfl, hpv⟩ := hy0.nth hi
    have hdr : T.drop i = x :: T.drop (i + 1) := by
      obtain ⟨hl, hxe⟩ := List.getElem?_eq_some_iff.mp hxi
      rw [List.drop_eq_getElem_cons hl, hxe]
    have il : i < 400 := by
      have := (List.getElem?_eq_some_iff.mp hxi).1
      omega
    have pvf : pv ≠ fa := fun z => by rw [z, hf3] at hpv; cases hpv
    have hpv4 := B4 _ _ pvf hpv
    refine ⟨pv, _, rfl, SqT.of hpv4, rfl, _, _, rfl, _, _, rfl, rfl, ?_⟩
    have two : 2 ≤ sizeLine := by decide
    have step : ∀ (D2 : List (Nat × Nat)) (zs2 : List V) (H5 : Hp) (y : Nat × Nat) (t : Addr), Same H H5 → But fa H3 H5 → H5 fa = some (.lst zs2) → All2 (Nd H5) zs2 D2 → H5 t = none →
        let H6 := upd (upd H5 t (.tup [.int (y.1 : Int), .int (y.2 : Int)])) fa (.lst (zs2 ++ [.ref t]))
        Same H H6 ∧ But fa H3 H6 ∧ H6 fa = some (.lst (zs2 ++ [.ref t])) ∧ All2 (Nd H6) (zs2 ++ [.ref t]) (D2 ++ [y]) := by
      intro D2 zs2 H5 y t a1 a2 a3 a4 a5
      have w1 := same_upd (o := .tup [.int (y.1 : Int), .int (y.2 : Int)]) a5
      have f1 := w1 _ _ a3
      have tf : t ≠ fa := fun z => by rw [z, a3] at a5; cases a5
      refine ⟨fun u o k => by rw [upd_ne (ne_of_none k nf)]; exact w1 _ _ (a1 _ _ k), fun u o n k => by rw [upd_ne n]; exact w1 _ _ (a2 u o n k), upd_same, ?_⟩
      exact (a4.mono (fun v x (k : Nd H5 v x) => (k.same w1).upd f1)).app (.cons ⟨t, rfl, by rw [upd_ne tf, upd_same]⟩ .nil)
    rcases hd with ⟨i0, rfl⟩ | ⟨done, c, rfl, hj⟩
    · cases hz
      refine ⟨_, rfl, false, .inl ⟨[], SqL.of hf, rfl⟩, ?_⟩
      refine ⟨_, rfl, .inl ⟨rfl, _, SqL.of hf⟩, _, rfl, _, rfl, two, fun t nt => ?_⟩
      obtain ⟨b1, b2, b3, b4⟩ := step [] [] H4 x t sm B4 hf .nil nt
      refine ⟨fa, [], _, rfl, rfl, same_upd nt _ _ hf, szlt (by decide), ?_⟩
      refine ⟨_, _, _, _, [] ++ [.ref t], [x], rfl, b1, b2, b3, b4, by show 1 ≤ i + 1; omega, .inr ⟨[], x, rfl, ?_⟩⟩
      subst i0
      rw [List.drop_zero] at hdr
      rw [hdr]
      rfl
    · obtain ⟨zs0, zc, rfl, hz0, hzc⟩ : ∃ (zs0 : List V) (zc : V), zs = zs0 ++ [zc] ∧ All2 (Nd H4) zs0 done ∧ Nd H4 zc c := by
        have := hz.rev
        rw [List.reverse_append] at this
        generalize hzr : zs.reverse = zr at this
        cases this with
        | @cons v _ vs _ h r =>
          refine ⟨vs.reverse, v, ?_, ?_, h⟩
          · rw [← List.reverse_reverse zs, hzr, List.reverse_cons]
          · have r2 : All2 (Nd H4) vs.reverse (done.reverse).reverse := r.rev
            rwa [List.reverse_reverse] at r2
      obtain ⟨cp, rfl, hcp⟩ := hzc
      rw [hdr] at hj
      have hz9 : done.length + 1 ≤ 400 := by
        rw [List.length_append] at dl
        have : ([c] : List (Nat × Nat)).length = 1 := rfl
        omega
      refine ⟨_, rfl, true, .inl ⟨_, SqL.of hf, by cases zs0 <;> rfl⟩, ?_⟩
      refine ⟨_, rfl, _, rfl, _, rfl, fa, _, _, _, rfl, rfl, SqL.of hf, atI_last _ _, cp, _, _, _, rfl, rfl, SqT.of hcp, atI_nat (j := 1) rfl, _, _, rfl, rfl, ?_⟩
      by_cases le : x.1 ≤ c.2
      · refine ⟨true, congrArg V.bl (decide_eq_true (by omega)), ?_⟩
        refine ⟨_, rfl, .inl ⟨rfl, _, SqL.of hf⟩, fa, _, .ref cp, rfl, rfl, hf, by simp, ?_⟩
        have e1 : jn T = done ++ jgo (c.1, max c.2 x.2) (T.drop (i + 1)) := by
          rw [hj]
          show done ++ jgo c (x :: T.drop (i + 1)) = _
          rw [jgo, if_pos le]
        rw [List.dropLast_concat]
        have p1 : Same H (upd H4 fa (.lst zs0)) := fun u o k => by rw [upd_ne (ne_of_none k nf)]; exact sm _ _ k
        have p2 : But fa H3 (upd H4 fa (.lst zs0)) := fun u o n k => by rw [upd_ne n]; exact B4 u o n k
        have p3 : (upd H4 fa (.lst zs0)) fa = some (.lst zs0) := upd_same
        have p4 : All2 (Nd (upd H4 fa (.lst zs0))) zs0 done := hz0.mono (fun v x (k : Nd H4 v x) => k.upd hf)
        have p5 : (upd H4 fa (.lst zs0)) cp = some (.tup [.int (c.1 : Int), .int (c.2 : Int)]) := by
          rw [upd_ne (ne_of hcp hf (by intro z; cases z))]
          exact hcp
        generalize upd H4 fa (.lst zs0) = H5 at p1 p2 p3 p4 p5 ⊢
        refine ⟨cp, _, rfl, SqT.of p5, rfl, _, _, rfl, _, _, rfl, rfl, ?_⟩
        refine ⟨_, rfl, .inl ⟨rfl, _, SqL.of p3⟩, _, rfl, _, rfl, _, rfl, _, _, rfl, two, fun t nt => ?_⟩
        rw [max_castB]
        obtain ⟨b1, b2, b3, b4⟩ := step done zs0 H5 (c.1, max c.2 x.2) t p1 p2 p3 p4 nt
        refine ⟨fa, zs0, _, rfl, rfl, same_upd nt _ _ p3, szlt (by rw [p4.len]; omega), ?_⟩
        refine ⟨_, _, _, _, zs0 ++ [.ref t], done ++ [(c.1, max c.2 x.2)], rfl, b1, b2, b3, b4, ?_, .inr ⟨done, _, rfl, e1⟩⟩
        rw [List.length_append] at dl ⊢
        exact Nat.le_succ_of_le dl
      · refine ⟨false, congrArg V.bl (decide_eq_false (by omega)), ?_⟩
        have e1 : jn T = (done ++ [c]) ++ jgo x (T.drop (i + 1)) := by
          rw [hj, List.append_assoc]
          show done ++ jgo c (x :: T.drop (i + 1)) = _
          rw [jgo, if_neg le]
          rfl
        refine ⟨_, rfl, .inl ⟨rfl, _, SqL.of hf⟩, _, rfl, _, rfl, two, fun t nt => ?_⟩
        obtain ⟨b1, b2, b3, b4⟩ := step _ _ H4 x t sm B4 hf hz nt
        refine ⟨fa, _, _, rfl, rfl, same_upd nt _ _ hf, szlt (by rw [hz.len, List.length_append]; show done.length + 1 < 100000; omega), ?_⟩
        refine ⟨_, _, _, _, _, done ++ [c] ++ [x], rfl, b1, b2, b3, b4, ?_, .inr ⟨done ++ [c], _, rfl, e1⟩⟩
        rw [List.length_append]
        exact Nat.succ_le_succ dl
  · rintro σ H4 ⟨v2, v3, v4, v5, zs, D, rfl, sm, B4, hf, hz, dl, hd⟩
    refine ⟨_, rfl, q H4 fa zs sm nf hf ?_⟩
    rw [yl, List.drop_length] at hd
    rcases hd with ⟨e, rfl⟩ | ⟨done, c, rfl, e⟩
    · have : T = [] := List.eq_nil_of_length_eq_zero (by omega)
      subst this
      exact hz
    · rw [e]
      exact hz
def spCheckK : Sp := fun vs H Q _ => ∃ (n : Nat) (p : Addr) (xs : List V) (S : List (Nat × Nat)), vs = [.int n, .ref p] ∧ 1 ≤ n ∧ n ≤ 10 ^ 30 ∧ H p = some (.lst xs) ∧ All2 (Nd H) xs S ∧ 1 ≤ S.length ∧ S.length ≤ 60 ∧ (∀ x ∈ S, isN n x) ∧ ∀ H', Same H H' → Q .non H'
theorem ok_check {f g1 g2 : Addr} {fd d1 d2 : FuncData} {ds : List Value} (F : Fun K "_check" "_check" sCheck f fd) (GCheckSize : FnOk P w K mg base CX0 3 g1 d1 ["size"] spCheckSize) (ACheckSize : At K mg "check_size" g1 d1 ["size"])
    (GCheckNodes : FnOk P w K mg base CX0 4 g2 d2 ["size", "nodes", "least", "most"] spCheckNodes) (ACheckNodes : AtT K mg "check_nodes" g2 d2 ["size", "nodes", "least", "most"] ds [.int 1, .int 60]) : FnOk P w K mg base CX0 5 f fd ["size", "nodes"] spCheckK := by
  refine F.ok scCheck (fun vs H Q E h => ?_) (fun cdv A outer s H vs Q E hr h => ?_)
  · obtain ⟨_, _, _, _, rfl, _⟩ := h
    rfl
  obtain ⟨n, p, xs, S, rfl, n1, h30, hp, hx, l1, l60, hS, q⟩ := h
  refine ⟨_, (pss_cons (ps_expr (pe_call GCheckSize (hr.mono (by decide)) rfl ACheckSize.m ACheckSize.kp ACheckSize.b .nil pass0 (pa_cons (pv 0) pa_nil)))
    (pss_one (ps_expr (pe_call GCheckNodes (hr.mono (by decide)) rfl ACheckNodes.m ACheckNodes.kp ACheckNodes.b ACheckNodes.v pass0 (pa_cons (pv 0) (pa_cons (pv 1) pa_nil)))))), ?_⟩
  refine ⟨_, rfl, _, rfl, by omega, by omega, _, rfl, _, rfl, n, p, xs, S, rfl, n1, h30, hp, hx, l1, l60, hS, q⟩
def spGives : Sp := fun vs H Q _ => ∃ (n : Nat) (p : Addr) (xs : List V) (S : List (Nat × Nat)), vs = [.int n, .ref p] ∧ 1 ≤ n ∧ n ≤ 10 ^ 30 ∧ H p = some (.lst xs) ∧ All2 (Nd H) xs S ∧ 1 ≤ S.length ∧ S.length ≤ 60 ∧ (∀ x ∈ S, isN n x) ∧ ∀ H', Same H H' → Q (.bl (decide (jn (srt S) = [(0, n)]))) H'
theorem ok_gives_root {f g1 g2 : Addr} {fd d1 d2 : FuncData} (F : Fun K "gives_root" "gives_root" sGivesRoot f fd) (GCheck : FnOk P w K mg base CX0 5 g1 d1 ["size", "nodes"] spCheckK) (ACheck : At K mg "_check" g1 d1 ["size", "nodes"])
    (GJoined : FnOk P w K mg base CX0 1 g2 d2 ["stretches"] spJoined) (AJoined : At K mg "joined" g2 d2 ["stretches"]) : FnOk P w K mg base CX0 6 f fd ["size", "nodes"] spGives := by
  refine F.ok scGivesRoot (fun vs H Q E h => ?_) (fun cdv A outer s H vs Q E hr h => ?_)
  · obtain ⟨_, _, _, _, rfl, _⟩ := h
    rfl
  obtain ⟨n, p, xs, S, rfl, n1, h30, hp, hx, l1, l60, hS, q⟩ := h
  refine ⟨_, (pss_cons (ps_expr (pe_call GCheck (hr.mono (by decide)) rfl ACheck.m ACheck.kp ACheck.b .nil pass0 (pa_cons (pv 0) (pa_cons (pv 1) pa_nil))))
    (pss_one (ps_ret (pe_cmpR (op_eqD hr.units) (pe_call GJoined (hr.mono (by decide)) rfl AJoined.m AJoined.kp AJoined.b .nil pass0 (pa_cons (pv 1) pa_nil)) (pe_lst (pa_cons (pe_tup (pa_cons pe_int (pa_cons (pv 0) pa_nil))) pa_nil)) (nomark _))))), ?_⟩
  refine ⟨_, rfl, _, rfl, n, p, xs, S, rfl, n1, h30, hp, hx, l1, l60, hS, fun H1 s1 => ?_⟩
  refine ⟨_, rfl, p, xs, S, rfl, s1 _ _ hp, hx.mono (fun v x (k : Nd H v x) => k.same s1), by omega, fun H2 r ys s2 nr hr2 hy => ?_⟩
  refine ⟨_, rfl, (by show 2 ≤ sizeLine; decide), fun t nt => ⟨(by show 1 ≤ sizeLine; decide), fun l nl => ?_⟩⟩
  have w1 := same_upd (o := .tup [.int 0, .int (n : Int)]) nt
  have w2 := same_upd (o := .lst [.ref t]) nl
  have len : (jn (srt S)).length ≤ 400 := by
    have := jn_len (srt S)
    rw [srt_len] at this
    omega
  refine ⟨.list ((jn (srt S)).map nd), .list ([(0, n)].map nd), lst_dp (w2 _ _ (w1 _ _ hr2)) (hy.mono fun v x (k : Nd H2 v x) => (k.same w1).same w2), lst_dp (l := [(0, n)]) upd_same (.cons ⟨t, rfl, w2 _ _ upd_same⟩ .nil), nds_shaped _, nds_shaped _, ?_⟩
  rw [nds_eqv]
  exact q _ ((s1.trans s2).trans (w1.trans w2))
/-- the greatest nodes within stretches -/
def tps (n : Nat) (l : List (Nat × Nat)) : List (Nat × Nat) := l.flatMap fun x => nw n x.1 x.2
theorem tps_len {n : Nat} : ∀ (l : List (Nat × Nat)), (∀ x ∈ l, x.2 ≤ 2 ^ 100) → (tps n l).length ≤ 202 * l.length
  | [], _ => Nat.le_refl _
  | x :: l, h => by
    have a := nw_len (n := n) (b := x.1) (h x List.mem_cons_self)
    have b := tps_len (n := n) l fun y hy => h y (List.mem_cons_of_mem _ hy)
    show (nw n x.1 x.2 ++ tps n l).length ≤ 202 * (l.length + 1)
    rw [List.length_append]
    omega
def spMissing : Sp := fun vs H Q _ => ∃ (n : Nat) (p : Addr) (xs : List V) (S : List (Nat × Nat)), vs = [.int n, .ref p] ∧ 1 ≤ n ∧ n ≤ 10 ^ 30 ∧ H p = some (.lst xs) ∧ All2 (Nd H) xs S ∧ 1 ≤ S.length ∧ S.length ≤ 60 ∧ (∀ x ∈ S, isN n x) ∧
  ∀ (H' : Hp) (r : Addr) (ys : List V), Same H H' → H r = none → H' r = some (.lst ys) → All2 (Nd H') ys (nb n 0 (srt S)) → Q (.ref r) H'
theorem ok_missing {f g1 g2 : Addr} {fd d1 d2 : FuncData} (F : Fun K "missing" "missing" sMissing f fd) (GCheck : FnOk P w K mg base CX0 5 g1 d1 ["size", "nodes"] spCheckK) (ACheck : At K mg "_check" g1 d1 ["size", "nodes"])
    (GNodesBeside : FnOk P w K mg base CX0 5 g2 d2 ["size", "stretches"] spBeside) (ANodesBeside : At K mg "nodes_beside" g2 d2 ["size", "stretches"]) : FnOk P w K mg base CX0 6 f fd ["size", "nodes"] spMissing := by
  refine F.ok scMissing (fun vs H Q E h => ?_) (fun cdv A outer s H vs Q E hr h => ?_)
  · obtain ⟨_, _, _, _, rfl, _⟩ := h
    rfl
  obtain ⟨n, p, xs, S, rfl, n1, h30, hp, hx, l1, l60, hS, q⟩ := h
  refine ⟨_, (pss_cons (ps_expr (pe_call GCheck (hr.mono (by decide)) rfl ACheck.m ACheck.kp ACheck.b .nil pass0 (pa_cons (pv 0) (pa_cons (pv 1) pa_nil))))
    (pss_one (ps_ret (pe_call GNodesBeside (hr.mono (by decide)) rfl ANodesBeside.m ANodesBeside.kp ANodesBeside.b .nil pass0 (pa_cons (pv 0) (pa_cons (pv 1) pa_nil)))))), ?_⟩
  refine ⟨_, rfl, _, rfl, n, p, xs, S, rfl, n1, h30, hp, hx, l1, l60, hS, fun H1 s1 => ?_⟩
  refine ⟨_, rfl, _, rfl, n, p, xs, S, rfl, n1, h30, s1 _ _ hp, hx.mono (fun v x (k : Nd H v x) => k.same s1), by omega, fun x hx => ?_, fun H2 r ys s2 nr hr2 hy => ?_⟩
  · obtain ⟨a, b, _⟩ := isN_tree (hS x hx)
    omega
  exact q H2 r ys (s1.trans s2) (s1.free nr) hr2 hy
end
end LT

namespace LT
open PySem PySem.Spec PyProof.Rows L2
def isHalfP (B M : Nat) (x : Nat × Nat) : Prop := x = (B, B + gp M) ∨ x = (B + gp M, B + M)
def wayL (b m : Nat) (x : Nat × Nat) : List (Nat × Nat) :=
  if h : m ≤ 1 then [(b, b + m)] else
    if x = (b, b + m) then [(b, b + m)] else
      if x.1 < b + gp m then (b, b + m) :: wayL b (gp m) x else (b, b + m) :: wayL (b + gp m) (m - gp m) x
termination_by m
decreasing_by
  · exact gp_lt (by omega)
  · have := gp_pos m; omega
theorem wayL_here {b m : Nat} {x : Nat × Nat} (h : x = (b, b + m)) : wayL b m x = [x] := by
  rw [wayL, ← h]
  simp
theorem wayL_low {b m : Nat} {x : Nat × Nat} (h : 2 ≤ m) (c : x ≠ (b, b + m)) (k : x.1 < b + gp m) : wayL b m x = (b, b + m) :: wayL b (gp m) x := by
  rw [wayL, dif_neg (by omega), if_neg c, if_pos k]
theorem wayL_high {b m : Nat} {x : Nat × Nat} (h : 2 ≤ m) (c : x ≠ (b, b + m)) (k : ¬ x.1 < b + gp m) : wayL b m x = (b, b + m) :: wayL (b + gp m) (m - gp m) x := by
  rw [wayL, dif_neg (by omega), if_neg c, if_neg k]
/-- a node within a node of two entries or more that is not it lies in a half -/
theorem in_half {n b m : Nat} {x : Nat × Nat} (hm : 1 ≤ m) (t : tree n b m) (hn : b + m ≤ n) (hx : isN n x) (h1 : b ≤ x.1) (h2 : x.2 ≤ b + m) (c : x ≠ (b, b + m)) :
    2 ≤ m ∧ (x.1 < b + gp m → x.2 ≤ b + gp m) := by
  have k := hx.1
  have m2 : 2 ≤ m := by
    by_cases z : m = 1
    · subst z
      exact absurd (Prod.ext (by show x.1 = b; omega) (by show x.2 = b + 1; omega)) c
    · omega
  refine ⟨m2, fun z => ?_⟩
  rcases node_in m2 t hn hx h1 h2 with y | y | y
  · exact absurd y c
  · exact y
  · omega
theorem wayL_end {n : Nat} {x : Nat × Nat} (hx : isN n x) : ∀ (m b : Nat), 1 ≤ m → tree n b m → b + m ≤ n → b ≤ x.1 → x.2 ≤ b + m → x ≠ (b, b + m) →
    ∃ us B M, wayL b m x = us ++ [(B, B + M), x] ∧ isN n (B, B + M) ∧ 2 ≤ M ∧ tree n B M ∧ isHalfP B M x := by
  intro m
  induction m using Nat.strongRecOn with
  | ind m ih =>
    intro b hm t hn h1 h2 c
    obtain ⟨m2, hh⟩ := in_half hm t hn hx h1 h2 c
    have g1 := gp_lt m2
    have g3 := gp_pos m
    have em : b + gp m + (m - gp m) = b + m := by omega
    by_cases k : x.1 < b + gp m
    · rw [wayL_low m2 c k]
      by_cases c2 : x = (b, b + gp m)
      · rw [wayL_here c2]
        exact ⟨[], b, m, rfl, isN_of hm hn t, m2, t, .inl c2⟩
      · obtain ⟨us, B, M, e, r⟩ := ih (gp m) g1 b g3 (tree_low m2 t) (by omega) h1 (hh k) c2
        exact ⟨(b, b + m) :: us, B, M, by rw [e]; rfl, r⟩
    · rw [wayL_high m2 c k]
      by_cases c2 : x = (b + gp m, b + gp m + (m - gp m))
      · rw [wayL_here c2]
        exact ⟨[], b, m, rfl, isN_of hm hn t, m2, t, .inr (by rw [c2, em])⟩
      · obtain ⟨us, B, M, e, r⟩ := ih (m - gp m) (by omega) (b + gp m) (by omega) (tree_high m2 t) (by omega) (by omega) (by omega) c2
        exact ⟨(b, b + m) :: us, B, M, by rw [e]; rfl, r⟩
theorem wayL_len {n e : Nat} : ∀ (m b : Nat), tree n b m → b ≤ e → e < b + m → b + m ≤ n → (wayL b m (e, e + 1)).length = (sib b m e).length + 1 := by
  refine way_ind (fun b m h h1 h2 _ => ?_) (fun b m h _ h1 k _ ih => ?_) (fun b m h _ h1 k _ _ ih => ?_)
  · rw [wayL_here (Prod.ext (by show e = b; omega) (by show e + 1 = b + m; omega)), sib_one h]
    rfl
  · rw [wayL_low h (fun z => by have := congrArg Prod.fst z; have := congrArg Prod.snd z; simp only at *; omega) k, sib_low h k, List.length_cons, List.length_cons, ih]
  · rw [wayL_high h (fun z => by have := congrArg Prod.fst z; have := congrArg Prod.snd z; simp only at *; omega) k, sib_high h k, List.length_cons, List.length_cons, ih]
theorem wayL_most (x : Nat × Nat) : ∀ (m b : Nat), 1 ≤ m → (wayL b m x).length ≤ lb m + 1 := by
  intro m
  induction m using Nat.strongRecOn with
  | ind m ih =>
    intro b hm
    by_cases c1 : m ≤ 1
    · rw [wayL, dif_pos c1]; simp
    · have m2 : 2 ≤ m := by omega
      have g1 := gp_lt m2
      have g2 := gp_ge m2
      have g3 := gp_pos m
      have e1 := lb_big m2
      by_cases c : x = (b, b + m)
      · rw [wayL_here c]; simp
      · by_cases k : x.1 < b + gp m
        · rw [wayL_low m2 c k, List.length_cons]
          have := ih (gp m) g1 b g3
          have e2 : lb (gp m) = Nat.log2 (m - 1) := by unfold gp; rw [lb_pow]
          omega
        · rw [wayL_high m2 c k, List.length_cons]
          have := ih (m - gp m) (by omega) (b + gp m) (by omega)
          have e2 : lb (m - gp m) ≤ Nat.log2 (m - 1) := lb_le (by unfold gp at g1 g2 ⊢; omega)
          omega
end LT

namespace LT
/-! ### needed nodes -/
def meets (x : Nat × Nat) (S : List (Nat × Nat)) : Bool := S.any fun s => decide (s.1 < x.2) && decide (x.1 < s.2)
theorem meets_iff {x : Nat × Nat} {S : List (Nat × Nat)} : meets x S = true ↔ ∃ s ∈ S, s.1 < x.2 ∧ x.1 < s.2 := by
  unfold meets
  rw [List.any_eq_true]
  constructor
  · rintro ⟨s, hs, h⟩
    rw [Bool.and_eq_true] at h
    exact ⟨s, hs, of_decide_eq_true h.1, of_decide_eq_true h.2⟩
  · rintro ⟨s, hs, h1, h2⟩
    exact ⟨s, hs, by rw [Bool.and_eq_true]; exact ⟨decide_eq_true h1, decide_eq_true h2⟩⟩
theorem meets_no {x : Nat × Nat} {S : List (Nat × Nat)} (h : ∀ s ∈ S, x.2 ≤ s.1 ∨ s.2 ≤ x.1) : meets x S = false := by
  cases e : meets x S with
  | false => rfl
  | true =>
    obtain ⟨s, hs, h1, h2⟩ := meets_iff.mp e
    have := h s hs
    omega
/-- a needed node: none of the told entries in it, some in each node that it is a half of -/
def Due (n : Nat) (S : List (Nat × Nat)) (x : Nat × Nat) : Prop := isN n x ∧ meets x S = false ∧ ∀ B M, isN n (B, B + M) → 2 ≤ M → isHalfP B M x → meets (B, B + M) S = true
theorem gap_due {n lo hi : Nat} {S : List (Nat × Nat)} (hn : hi ≤ n) (hlo : lo ≤ hi) (h1 : lo = 0 ∨ ∃ s ∈ S, s.1 < s.2 ∧ s.2 = lo) (h2 : hi = n ∨ ∃ s ∈ S, s.1 < s.2 ∧ s.1 = hi) (h3 : ∀ s ∈ S, s.2 ≤ lo ∨ hi ≤ s.1) (x : Nat × Nat) (hx : x ∈ nw n lo hi) : Due n S x := by
  obtain ⟨m1, m2, m3⟩ := (nw_ch hn lo hlo).mem x hx
  have x12 := m1.1
  refine ⟨m1, meets_no fun s hs => ?_, fun B M hp hM hh => ?_⟩
  · have := h3 s hs
    omega
  · have g1 := gp_lt hM
    have g3 := gp_pos M
    have pn := hp.2.1
    simp only at pn
    have xin : B ≤ x.1 ∧ x.2 ≤ B + M ∧ x ≠ (B, B + M) := by
      rcases hh with z | z <;> subst z <;> refine ⟨by simp only; omega, by simp only; omega, fun y => ?_⟩
      · have := congrArg Prod.snd y
        simp only at this
        omega
      · have := congrArg Prod.fst y
        simp only at this
        omega
    rw [meets_iff]
    by_cases c1 : B < lo
    · rcases h1 with h1 | ⟨s, hs, s1, s2⟩
      · omega
      · exact ⟨s, hs, by simp only; omega, by simp only; omega⟩
    · by_cases c2 : hi < B + M
      · rcases h2 with h2 | ⟨s, hs, s1, s2⟩
        · omega
        · exact ⟨s, hs, by simp only; omega, by simp only; omega⟩
      · exact absurd (nw_max hn hlo x hx (B, B + M) hp (by simp only; omega) (by simp only; omega) xin.1 xin.2.1).symm xin.2.2
theorem nl_due {n : Nat} : ∀ (S : List (Nat × Nat)) (lo : Nat) (pre : List (Nat × Nat)), So n lo S → (∀ s ∈ pre, s.2 ≤ lo) → (lo = 0 ∨ ∃ s ∈ pre, s.1 < s.2 ∧ s.2 = lo) → ∀ x ∈ nl n lo S, Due n (pre ++ S) x
  | [], lo, pre, hS, h1, h2, x, hx => by
    rw [List.append_nil]
    exact gap_due (Nat.le_refl n) hS h2 (.inl rfl) (fun s hs => .inl (h1 s hs)) x hx
  | y :: S, lo, pre, ⟨k1, k2, k3, k4⟩, h1, h2, x, hx => by
    have hx : x ∈ nw n lo y.1 ++ nl n y.2 S := hx
    rcases List.mem_append.mp hx with hx | hx
    · refine gap_due (by omega) k1 ?_ (.inr ⟨y, List.mem_append_right _ List.mem_cons_self, k2, rfl⟩) (fun s hs => ?_) x hx
      · rcases h2 with h2 | ⟨s, hs, r⟩
        · exact .inl h2
        · exact .inr ⟨s, List.mem_append_left _ hs, r⟩
      · rcases List.mem_append.mp hs with hs | hs
        · exact .inl (h1 s hs)
        · rcases List.mem_cons.mp hs with rfl | hs
          · exact .inr (Nat.le_refl _)
          · have := k4.mem s hs
            exact .inr (by omega)
    · have := nl_due S y.2 (pre ++ [y]) k4 (fun s hs => ?_) (.inr ⟨y, List.mem_append_right _ List.mem_cons_self, k2, rfl⟩) x hx
      · rw [List.append_assoc] at this
        exact this
      · rcases List.mem_append.mp hs with hs | hs
        · have := h1 s hs
          omega
        · rw [List.mem_singleton] at hs
          subst hs
          exact Nat.le_refl _
/-- nodes one behind the other, with gaps -/
def Up : Nat → List (Nat × Nat) → Prop
  | _, [] => True
  | lo, x :: l => lo ≤ x.1 ∧ x.1 < x.2 ∧ Up x.2 l
theorem Up.mono : ∀ {lo lo' : Nat} {l : List (Nat × Nat)}, Up lo l → lo' ≤ lo → Up lo' l
  | _, _, [], _, _ => trivial
  | _, _, _ :: _, ⟨h1, h2, h3⟩, h => ⟨Nat.le_trans h h1, h2, h3⟩
theorem Ch.up {n : Nat} : ∀ {lo hi : Nat} {l r : List (Nat × Nat)}, Ch n lo hi l → Up hi r → Up lo (l ++ r)
  | _, _, [], _, h, k => by
    have h : _ = _ := h
    subst h
    exact k
  | lo, hi, x :: l, r, ⟨h1, h2, h3, h4⟩, k => ⟨by omega, h2.1, Ch.up h4 k⟩
theorem nl_up {n : Nat} : ∀ (S : List (Nat × Nat)) (lo : Nat), So n lo S → Up lo (nl n lo S)
  | [], lo, h => by
    have := (nw_ch (n := n) (Nat.le_refl n) lo h).up (r := []) trivial
    rw [List.append_nil] at this
    exact this
  | y :: S, lo, ⟨k1, k2, k3, k4⟩ => (nw_ch (n := n) (show y.1 ≤ n by omega) lo k1).up ((nl_up S y.2 k4).mono (Nat.le_of_lt k2))
def wid (l : List (Nat × Nat)) : Nat := (l.map fun x => x.2 - x.1).sum
theorem wid_app (l r : List (Nat × Nat)) : wid (l ++ r) = wid l + wid r := by unfold wid; rw [List.map_append, List.sum_append]
theorem nl_wid {n : Nat} : ∀ (S : List (Nat × Nat)) (lo : Nat), So n lo S → wid (nl n lo S) + wid S + lo = n
  | [], lo, h => by
    have h : lo ≤ n := h
    have := (nw_ch (n := n) (Nat.le_refl n) lo h).sum
    show wid (nw n lo n) + 0 + lo = n
    unfold wid
    omega
  | y :: S, lo, ⟨k1, k2, k3, k4⟩ => by
    have a := (nw_ch (n := n) (show y.1 ≤ n by omega) lo k1).sum
    have b := nl_wid S y.2 k4
    show wid (nw n lo y.1 ++ nl n y.2 S) + wid (y :: S) + lo = n
    rw [wid_app]
    have c : wid (y :: S) = (y.2 - y.1) + wid S := rfl
    rw [c]
    unfold wid at a b ⊢
    omega
theorem nl_single {n e : Nat} (h : e < n) : (nl n 0 [(e, e + 1)]).length = (sib 0 n e).length := by
  show (nw n 0 e ++ nw n (e + 1) n).length = _
  rw [List.length_append]
  exact nw_single h
end LT

namespace LT
open PySem PySem.Spec PyProof.Rows L2
/-- stretches with entries, within a log -/
def Wn (n : Nat) (L : List (Nat × Nat)) : Prop := ∀ x ∈ L, x.1 < x.2 ∧ x.2 ≤ n
theorem Wn.app {n : Nat} {L M : List (Nat × Nat)} (h : Wn n L) (k : Wn n M) : Wn n (L ++ M) := fun x hx => (List.mem_append.mp hx).elim (h x) (k x)
theorem Wn.srt {n : Nat} {L : List (Nat × Nat)} (h : Wn n L) : Wn n (srt L) := fun x hx => h x (srt_mem.mp hx)
theorem meets_has {x : Nat × Nat} {S : List (Nat × Nat)} {s : Nat × Nat} (h : s ∈ S) (h1 : s.1 < x.2) (h2 : x.1 < s.2) : meets x S = true := meets_iff.mpr ⟨s, h, h1, h2⟩
theorem meets_same {S T : List (Nat × Nat)} (h : ∀ s, s ∈ S ↔ s ∈ T) (x : Nat × Nat) : meets x S = meets x T := by
  rw [Bool.eq_iff_iff, meets_iff, meets_iff]
  exact ⟨fun ⟨s, a, b⟩ => ⟨s, (h s).mp a, b⟩, fun ⟨s, a, b⟩ => ⟨s, (h s).mpr a, b⟩⟩
theorem due_same {n : Nat} {S T : List (Nat × Nat)} (h : ∀ x, meets x S = meets x T) {x : Nat × Nat} (d : Due n S x) : Due n T x :=
  ⟨d.1, by rw [← h]; exact d.2.1, fun B M a b c => by rw [← h]; exact d.2.2 B M a b c⟩
/-- what lies ahead of a begin has it beside -/
def Beg : List (Nat × Nat) → Prop := List.Pairwise (fun x y => x.1 ≤ y.1)
theorem srt_beg (L : List (Nat × Nat)) : Beg (srt L) := (srt_pair L).imp fun h => by
  have := leN_iff.mp h
  omega
theorem nb_due {n : Nat} : ∀ (l : List (Nat × Nat)) (lo : Nat) (pre : List (Nat × Nat)), Wn n l → Beg l → lo ≤ n → (∀ s ∈ pre, s.2 ≤ lo) → (lo = 0 ∨ ∃ s ∈ pre, s.1 < s.2 ∧ s.2 = lo) → ∀ x ∈ nb n lo l, Due n (pre ++ l) x
  | [], lo, pre, _, _, hlo, h1, h2, x, hx => by
    rw [List.append_nil]
    exact gap_due (Nat.le_refl n) hlo h2 (.inl rfl) (fun s hs => .inl (h1 s hs)) x hx
  | y :: l, lo, pre, hw, hb, hlo, h1, h2, x, hx => by
    obtain ⟨y12, yn⟩ := hw y List.mem_cons_self
    obtain ⟨hb1, hb2⟩ := List.pairwise_cons.mp hb
    rcases List.mem_append.mp (show x ∈ nw n lo y.1 ++ nb n (max lo y.2) l from hx) with hx | hx
    · by_cases c : lo ≤ y.1
      · refine gap_due (S := pre ++ y :: l) (by omega) c (h2.imp id fun ⟨s, a, b⟩ => ⟨s, List.mem_append_left _ a, b⟩) (.inr ⟨y, List.mem_append_right _ List.mem_cons_self, y12, rfl⟩) (fun s hs => ?_) x hx
        rcases List.mem_append.mp hs with hs | hs
        · exact .inl (h1 s hs)
        · rcases List.mem_cons.mp hs with rfl | hs
          · exact .inr (Nat.le_refl _)
          · exact .inr (hb1 s hs)
      · rw [nw_nil (by omega)] at hx
        cases hx
    · have := nb_due l (max lo y.2) (pre ++ [y]) (fun z hz => hw z (List.mem_cons_of_mem _ hz)) hb2 (by omega) (fun s hs => ?_) ?_ x hx
      · rwa [List.append_assoc] at this
      · rcases List.mem_append.mp hs with hs | hs
        · have := h1 s hs
          omega
        · rw [List.mem_singleton.mp hs]
          omega
      · by_cases c : lo ≤ y.2
        · exact .inr ⟨y, List.mem_append_right _ (List.mem_singleton_self _), y12, by omega⟩
        · rcases h2 with h2 | ⟨s, a, b, e⟩
          · omega
          · exact .inr ⟨s, List.mem_append_left _ a, b, by omega⟩
theorem nb_cov {n : Nat} : ∀ (l : List (Nat × Nat)) (lo i : Nat), Wn n l → lo ≤ i → i < n → (∀ s ∈ l, ¬ (s.1 ≤ i ∧ i < s.2)) → ∃ y ∈ nb n lo l, y.1 ≤ i ∧ i < y.2
  | [], lo, i, _, h1, h2, _ => (nw_ch (n := n) (Nat.le_refl n) lo (by omega)).at i h1 h2
  | y :: l, lo, i, hw, h1, h2, h3 => by
    obtain ⟨y12, yn⟩ := hw y List.mem_cons_self
    have hy := h3 y List.mem_cons_self
    by_cases c : i < y.1
    · obtain ⟨z, hz, k⟩ := (nw_ch (n := n) (e := y.1) (by omega) lo (by omega)).at i h1 c
      exact ⟨z, List.mem_append_left _ hz, k⟩
    · obtain ⟨z, hz, k⟩ := nb_cov l (max lo y.2) i (fun z hz => hw z (List.mem_cons_of_mem _ hz)) (by omega) h2 fun s hs => h3 s (List.mem_cons_of_mem _ hs)
      exact ⟨z, List.mem_append_right _ hz, k⟩
theorem nb_up {n : Nat} : ∀ (l : List (Nat × Nat)) (lo : Nat), Wn n l → lo ≤ n → Up lo (nb n lo l)
  | [], lo, _, h => by
    have := (nw_ch (n := n) (Nat.le_refl n) lo h).up (r := []) trivial
    rwa [List.append_nil] at this
  | y :: l, lo, hw, h => by
    obtain ⟨y12, yn⟩ := hw y List.mem_cons_self
    have ih := nb_up l (max lo y.2) (fun z hz => hw z (List.mem_cons_of_mem _ hz)) (by omega)
    show Up lo (nw n lo y.1 ++ nb n (max lo y.2) l)
    by_cases c : lo ≤ y.1
    · exact (nw_ch (n := n) (e := y.1) (by omega) lo c).up (ih.mono (by omega))
    · rw [nw_nil (by omega), List.nil_append]
      exact ih.mono (by omega)
theorem Up.mem : ∀ {lo : Nat} {l : List (Nat × Nat)}, Up lo l → ∀ x ∈ l, lo ≤ x.1 ∧ x.1 < x.2
  | lo, y :: l, ⟨h1, h2, h3⟩, x, hx => by
    rcases List.mem_cons.mp hx with rfl | hx
    · exact ⟨h1, h2⟩
    · have := h3.mem x hx
      exact ⟨by omega, this.2⟩
theorem up_ext : ∀ (l r : List (Nat × Nat)) (lo lo' : Nat), Up lo l → Up lo' r → (∀ x, x ∈ l ↔ x ∈ r) → l = r
  | [], [], _, _, _, _, _ => rfl
  | [], y :: r, _, _, _, _, h => absurd ((h y).mpr List.mem_cons_self) List.not_mem_nil
  | x :: l, [], _, _, _, _, h => absurd ((h x).mp List.mem_cons_self) List.not_mem_nil
  | x :: l, y :: r, lo, lo', ⟨a1, a2, a3⟩, ⟨b1, b2, b3⟩, h => by
    have e : x = y := by
      rcases List.mem_cons.mp ((h x).mp List.mem_cons_self) with e | hx
      · exact e
      · rcases List.mem_cons.mp ((h y).mpr List.mem_cons_self) with e | hy
        · exact e.symm
        · have := b3.mem x hx
          have := a3.mem y hy
          omega
    subst e
    congr 1
    refine up_ext l r x.2 x.2 a3 b3 fun z => ⟨fun hz => ?_, fun hz => ?_⟩
    · rcases List.mem_cons.mp ((h z).mp (List.mem_cons_of_mem _ hz)) with e | k
      · have := a3.mem z hz
        rw [e] at this
        omega
      · exact k
    · rcases List.mem_cons.mp ((h z).mpr (List.mem_cons_of_mem _ hz)) with e | k
      · have := b3.mem z hz
        rw [e] at this
        omega
      · exact k
/-- two nodes that share an entry are nested -/
theorem nested {n i : Nat} {x y : Nat × Nat} (hx : isN n x) (hy : isN n y) (h1 : x.1 ≤ i) (h2 : i < x.2) (h3 : y.1 ≤ i) (h4 : i < y.2) : (x.1 ≤ y.1 ∧ y.2 ≤ x.2) ∨ (y.1 ≤ x.1 ∧ x.2 ≤ y.2) := by
  obtain ⟨x12, xn, xt⟩ := isN_tree (n := n) (b := x.1) (e := x.2) hx
  obtain ⟨y12, yn, yt⟩ := isN_tree (n := n) (b := y.1) (e := y.2) hy
  rcases Nat.lt_trichotomy x.1 y.1 with c | c | c
  · have := lam xt (by omega) yt (by omega) (by omega) c (by omega)
    omega
  · omega
  · have := lam yt (by omega) xt (by omega) (by omega) c (by omega)
    omega
/-- a node within a greater one has its parent within, too -/
theorem par_in {n : Nat} {x : Nat × Nat} (hx : isN n x) : ∀ (m b : Nat), 1 ≤ m → tree n b m → b + m ≤ n → b ≤ x.1 → x.2 ≤ b + m → x ≠ (b, b + m) →
    ∃ B M, isN n (B, B + M) ∧ 2 ≤ M ∧ isHalfP B M x ∧ b ≤ B ∧ B + M ≤ b + m := by
  intro m
  induction m using Nat.strongRecOn with
  | ind m ih =>
    intro b hm t hn h1 h2 c
    obtain ⟨m2, hh⟩ := in_half hm t hn hx h1 h2 c
    have g1 := gp_lt m2
    have g3 := gp_pos m
    have em : b + gp m + (m - gp m) = b + m := by omega
    by_cases k : x.1 < b + gp m
    · by_cases c2 : x = (b, b + gp m)
      · exact ⟨b, m, isN_of hm hn t, m2, .inl c2, Nat.le_refl _, Nat.le_refl _⟩
      · obtain ⟨B, M, r1, r2, r3, r4, r5⟩ := ih (gp m) g1 b g3 (tree_low m2 t) (by omega) h1 (hh k) c2
        exact ⟨B, M, r1, r2, r3, r4, by omega⟩
    · by_cases c2 : x = (b + gp m, b + gp m + (m - gp m))
      · exact ⟨b, m, isN_of hm hn t, m2, .inr (by rw [c2, em]), Nat.le_refl _, Nat.le_refl _⟩
      · obtain ⟨B, M, r1, r2, r3, r4, r5⟩ := ih (m - gp m) (by omega) (b + gp m) (by omega) (tree_high m2 t) (by omega) (by omega) (by omega) c2
        exact ⟨B, M, r1, r2, r3, by omega, by omega⟩
theorem par_in2 {n : Nat} {x y : Nat × Nat} (hx : isN n x) (hy : isN n y) (h1 : y.1 ≤ x.1) (h2 : x.2 ≤ y.2) (c : x ≠ y) :
    ∃ B M, isN n (B, B + M) ∧ 2 ≤ M ∧ isHalfP B M x ∧ y.1 ≤ B ∧ B + M ≤ y.2 := by
  obtain ⟨y12, yn, yt⟩ := isN_tree (n := n) (b := y.1) (e := y.2) hy
  have e : y.1 + (y.2 - y.1) = y.2 := by omega
  obtain ⟨B, M, r1, r2, r3, r4, r5⟩ := par_in hx (y.2 - y.1) y.1 (by omega) yt (by omega) h1 (by omega) (by rw [e]; exact c)
  exact ⟨B, M, r1, r2, r3, r4, by omega⟩
theorem meets_sub {x y : Nat × Nat} {S : List (Nat × Nat)} (h1 : y.1 ≤ x.1) (h2 : x.2 ≤ y.2) (h : meets y S = false) : meets x S = false := by
  cases c : meets x S with
  | false => rfl
  | true =>
    obtain ⟨s, a, b, d⟩ := meets_iff.mp c
    rw [meets_has a (x := y) (by omega) (by omega)] at h
    cases h
/-- two due nodes that share an entry are one -/
theorem due_one {n i : Nat} {S : List (Nat × Nat)} {x y : Nat × Nat} (hx : Due n S x) (hy : Due n S y) (h1 : x.1 ≤ i) (h2 : i < x.2) (h3 : y.1 ≤ i) (h4 : i < y.2) : x = y := by
  by_cases c : x = y
  · exact c
  exfalso
  rcases nested hx.1 hy.1 h1 h2 h3 h4 with ⟨k1, k2⟩ | ⟨k1, k2⟩
  · obtain ⟨B, M, r1, r2, r3, r4, r5⟩ := par_in2 hy.1 hx.1 k1 k2 (fun z => c z.symm)
    have a := hy.2.2 B M r1 r2 r3
    rw [meets_sub (x := (B, B + M)) (y := x) r4 r5 hx.2.1] at a
    cases a
  · obtain ⟨B, M, r1, r2, r3, r4, r5⟩ := par_in2 hx.1 hy.1 k1 k2 c
    have a := hx.2.2 B M r1 r2 r3
    rw [meets_sub (x := (B, B + M)) (y := y) r4 r5 hy.2.1] at a
    cases a
theorem nb_srt_due {n : Nat} {L : List (Nat × Nat)} (hL : Wn n L) {x : Nat × Nat} (hx : x ∈ nb n 0 (srt L)) : Due n L x := by
  have := nb_due (srt L) 0 [] hL.srt (srt_beg L) (Nat.zero_le _) (fun _ h => absurd h List.not_mem_nil) (.inl rfl) x hx
  exact due_same (meets_same fun s => by rw [List.nil_append]; exact srt_mem) this
theorem nb_iff {n : Nat} {L : List (Nat × Nat)} (hL : Wn n L) (x : Nat × Nat) : x ∈ nb n 0 (srt L) ↔ Due n L x := by
  refine ⟨nb_srt_due hL, fun hx => ?_⟩
  obtain ⟨x12, xn, _⟩ := isN_tree (n := n) (b := x.1) (e := x.2) hx.1
  obtain ⟨y, hy, h1, h2⟩ := nb_cov (srt L) 0 x.1 hL.srt (Nat.zero_le _) (by omega) fun s hs k => by
    have := meets_has (x := x) (srt_mem.mp hs) (by omega) (by omega)
    rw [hx.2.1] at this
    cases this
  rw [due_one hx (nb_srt_due hL hy) (Nat.le_refl _) x12 h1 h2]
  exact hy
/-- the list of the due nodes -/
theorem nb_is {n : Nat} {L l : List (Nat × Nat)} (hL : Wn n L) (hu : Up 0 l) (h : ∀ x, x ∈ l ↔ Due n L x) : nb n 0 (srt L) = l :=
  up_ext _ _ 0 0 (nb_up (srt L) 0 hL.srt (Nat.zero_le _)) hu fun x => (nb_iff hL x).trans (h x).symm
theorem nb_same {n : Nat} {L M : List (Nat × Nat)} (hL : Wn n L) (hM : Wn n M) (h : ∀ x, meets x L = meets x M) : nb n 0 (srt L) = nb n 0 (srt M) :=
  nb_is hL (nb_up (srt M) 0 hM.srt (Nat.zero_le _)) fun x => (nb_iff hM x).trans ⟨due_same fun x => (h x).symm, due_same h⟩
/-- covered -/
def cov (L : List (Nat × Nat)) (i : Nat) : Prop := ∃ s ∈ L, s.1 ≤ i ∧ i < s.2
theorem cov_app {L M : List (Nat × Nat)} {i : Nat} : cov (L ++ M) i ↔ cov L i ∨ cov M i :=
  ⟨fun ⟨s, h, k⟩ => (List.mem_append.mp h).elim (fun h => .inl ⟨s, h, k⟩) (fun h => .inr ⟨s, h, k⟩), fun h => h.elim (fun ⟨s, h, k⟩ => ⟨s, List.mem_append_left _ h, k⟩) (fun ⟨s, h, k⟩ => ⟨s, List.mem_append_right _ h, k⟩)⟩
theorem meets_cov {n : Nat} {L : List (Nat × Nat)} (hL : Wn n L) {x : Nat × Nat} (hx : x.1 < x.2) : meets x L = true ↔ ∃ i, x.1 ≤ i ∧ i < x.2 ∧ cov L i := by
  rw [meets_iff]
  constructor
  · rintro ⟨s, h, h1, h2⟩
    have := (hL s h).1
    exact ⟨max x.1 s.1, by omega, by omega, s, h, by omega, by omega⟩
  · rintro ⟨i, h1, h2, s, h, h3, h4⟩
    exact ⟨s, h, by omega, by omega⟩
theorem nb_nil_iff {n : Nat} {L : List (Nat × Nat)} (hL : Wn n L) : nb n 0 (srt L) = [] ↔ ∀ i, i < n → cov L i := by
  constructor
  · intro h i hi
    by_cases c : cov L i
    · exact c
    · obtain ⟨y, hy, _⟩ := nb_cov (srt L) 0 i hL.srt (Nat.zero_le _) hi fun s hs k => c ⟨s, srt_mem.mp hs, k⟩
      rw [h] at hy
      cases hy
  · intro h
    cases e : nb n 0 (srt L) with
    | nil => rfl
    | cons y l =>
      have d := nb_srt_due hL (by rw [e]; exact List.mem_cons_self)
      obtain ⟨y12, yn, _⟩ := isN_tree (n := n) (b := y.1) (e := y.2) d.1
      obtain ⟨s, hs, k⟩ := h y.1 (by omega)
      have := meets_has (x := y) hs (by omega) (by omega)
      rw [d.2.1] at this
      cases this
theorem jgo_ne : ∀ (l : List (Nat × Nat)) (c : Nat × Nat), ∃ e r, jgo c l = (c.1, e) :: r
  | [], c => ⟨c.2, [], rfl⟩
  | x :: l, c => by
    unfold jgo
    split
    · exact jgo_ne l (c.1, max c.2 x.2)
    · exact ⟨c.2, _, rfl⟩
theorem nw_ne {n b e : Nat} (h : b < e) : nw n b e ≠ [] := by
  rw [nw_step h]
  exact List.cons_ne_nil _ _
theorem jgo_nb {n : Nat} : ∀ (l : List (Nat × Nat)) (b : Nat), b ≤ n → (∀ x ∈ l, x.2 ≤ n) → (jgo (0, b) l = [(0, n)] ↔ nb n b l = [])
  | [], b, hb, _ => by
    show [(0, b)] = [(0, n)] ↔ nw n b n = []
    constructor
    · intro h
      have h : (0, b) = (0, n) := (List.cons.inj h).1
      have := congrArg Prod.snd h
      exact nw_nil (by dsimp only at this; omega)
    · intro h
      by_cases c : b < n
      · exact absurd h (nw_ne c)
      · rw [show b = n by omega]
  | x :: l, b, hb, hw => by
    have hx := hw x List.mem_cons_self
    have ih := jgo_nb l (max b x.2) (by omega) fun y hy => hw y (List.mem_cons_of_mem _ hy)
    show (if x.1 ≤ b then jgo (0, max b x.2) l else (0, b) :: jgo x l) = [(0, n)] ↔ nw n b x.1 ++ nb n (max b x.2) l = []
    by_cases c : x.1 ≤ b
    · rw [if_pos c, nw_nil c, List.nil_append]
      exact ih
    · rw [if_neg c]
      obtain ⟨e, r, h⟩ := jgo_ne l x
      rw [h]
      exact ⟨fun z => (by cases z), fun z => absurd (List.append_eq_nil_iff.mp z).1 (nw_ne (by omega))⟩
theorem jn_nb {n : Nat} (n1 : 1 ≤ n) (S : List (Nat × Nat)) (h : ∀ x ∈ S, x.2 ≤ n) : jn S = [(0, n)] ↔ nb n 0 S = [] := by
  cases S with
  | nil =>
    show [] = [(0, n)] ↔ nw n 0 n = []
    exact ⟨fun z => by (cases z), fun z => absurd z (nw_ne (by omega))⟩
  | cons x l =>
    have hx := h x List.mem_cons_self
    show jgo x l = [(0, n)] ↔ nw n 0 x.1 ++ nb n (max 0 x.2) l = []
    by_cases c : x.1 = 0
    · have e : x = (0, x.2) := Prod.ext c rfl
      rw [e, Nat.zero_max]
      dsimp only
      rw [nw_nil (Nat.le_refl 0), List.nil_append]
      exact jgo_nb l x.2 hx fun y hy => h y (List.mem_cons_of_mem _ hy)
    · obtain ⟨e, r, k⟩ := jgo_ne l x
      rw [k]
      exact ⟨fun z => absurd (congrArg Prod.fst (List.cons.inj z).1) c, fun z => absurd (List.append_eq_nil_iff.mp z).1 (nw_ne (by omega))⟩
/-- the root comes just if all is covered -/
theorem jn_cov {n : Nat} (n1 : 1 ≤ n) {L : List (Nat × Nat)} (hL : Wn n L) : jn (srt L) = [(0, n)] ↔ ∀ i, i < n → cov L i :=
  (jn_nb n1 (srt L) fun x hx => (hL.srt x hx).2).trans (nb_nil_iff hL)
theorem jgo_in {i : Nat} : ∀ (l : List (Nat × Nat)) (c y : Nat × Nat), y ∈ jgo c l → y.1 ≤ i → i < y.2 → (c.1 ≤ i ∧ i < c.2) ∨ cov l i
  | [], c, y, h, h1, h2 => by
    rw [List.mem_singleton.mp h] at h1 h2
    exact .inl ⟨h1, h2⟩
  | x :: l, c, y, h, h1, h2 => by
    unfold jgo at h
    split at h
    · rename_i k
      rcases jgo_in l _ y h h1 h2 with ⟨a, b⟩ | ⟨s, a, b⟩
      · dsimp only at a b
        by_cases z : i < c.2
        · exact .inl ⟨a, z⟩
        · exact .inr ⟨x, List.mem_cons_self, by omega, by omega⟩
      · exact .inr ⟨s, List.mem_cons_of_mem _ a, b⟩
    · rcases List.mem_cons.mp h with rfl | h
      · exact .inl ⟨h1, h2⟩
      · rcases jgo_in l x y h h1 h2 with a | ⟨s, a, b⟩
        · exact .inr ⟨x, List.mem_cons_self, a⟩
        · exact .inr ⟨s, List.mem_cons_of_mem _ a, b⟩
theorem jn_in {i : Nat} {S : List (Nat × Nat)} {y : Nat × Nat} (h : y ∈ jn S) (h1 : y.1 ≤ i) (h2 : i < y.2) : cov S i := by
  cases S with
  | nil => cases h
  | cons x l =>
    rcases jgo_in l x y h h1 h2 with a | ⟨s, a, b⟩
    · exact ⟨x, List.mem_cons_self, a⟩
    · exact ⟨s, List.mem_cons_of_mem _ a, b⟩
end LT

namespace LT
open PySem PySem.Spec PyProof.Rows L2
/-- whether all entries lie in one stretch -/
def lies (x : Nat × Nat) (T : List (Nat × Nat)) : Bool := T.any fun s => decide (s.1 ≤ x.1) && decide (x.2 ≤ s.2)
theorem ltc (a b : Nat) : V.bl (decide ((a : Int) < (b : Int))) = V.bl (decide (a < b)) := congrArg V.bl (decide_eq_decide.mpr (by omega))
theorem lec (a b : Nat) : V.bl (decide ((a : Int) ≤ (b : Int))) = V.bl (decide (a ≤ b)) := congrArg V.bl (decide_eq_decide.mpr (by omega))
theorem any_id {α : Type} (f : α → Bool) : ∀ S : List α, (S.map f).any id = S.any f
  | [] => rfl
  | x :: S => by rw [List.map_cons, List.any_cons, List.any_cons, any_id f S]; rfl
theorem all_id {α : Type} (f : α → Bool) : ∀ S : List α, (S.map f).all id = S.all f
  | [] => rfl
  | x :: S => by rw [List.map_cons, List.all_cons, List.all_cons, all_id f S]; rfl
section
variable {P : Program} {w : World} {K : PySem.W.Frag} {mg : Str → Option Value} {base : Heap}
def spLies : Sp := fun vs H Q _ => ∃ (v : V) (x : Nat × Nat) (p : Addr) (xs : List V) (S : List (Nat × Nat)), vs = [v, .ref p] ∧ Nd H v x ∧ H p = some (.lst xs) ∧ All2 (Nd H) xs S ∧ S.length ≤ 400 ∧
  ∀ (H' : Hp), Same H H' → Q (.bl (lies x S)) H'
theorem ok_lies {f : Addr} {fd : FuncData} (F : Fun K "_lies_within" "_lies_within" sLiesWithin f fd) (z_any : mg "any" = none) : FnOk P w K mg base CX0 1 f fd ["node", "stretches"] spLies := by
  refine F.ok scLiesWithin (fun vs H Q E h => ?_) (fun cdv A outer s H vs Q E hr h => ?_)
  · obtain ⟨_, _, _, _, _, rfl, _⟩ := h
    rfl
  obtain ⟨v, x, p, xs, S, rfl, hv, hp, hxs, hl, q⟩ := h
  have hlen := hxs.len
  obtain ⟨vp, rfl, hvp⟩ := hv
  refine ⟨_, (pss_cons (ps_asg (pv 0) (pg_tup (by rfl) (pgs_cons (pg_name (i := 2) scLiesWithin.nd rfl (Or.inr rfl)) (pgs_cons (pg_name (i := 3) scLiesWithin.nd rfl (Or.inr rfl)) pgs_nil))))
    (pss_one (ps_ret (pe_callB (cr_any rfl) (by rfl) z_any (by decide +kernel) (pa_cons (pe_lc (own := [("first", 4), ("last", 5)]) rfl scLiesWithin.nd (pi_list (pv 1)) (blkOk_by (N := ["node", "stretches", "begin", "end", "first", "last"]) (sc := defScope sLiesWithin) (by decide +kernel)) (fun _ _ _ _ _ => (pg_tupB (n := 2) rfl (pgs_cons (pg_name (i := 4) scLiesWithin.nd rfl (Or.inl rfl)) (pgs_cons (pg_name (i := 5) scLiesWithin.nd rfl (Or.inl rfl)) pgs_nil)))) (fun _ _ _ _ _ => pts_nil) (fun _ _ _ _ _ => (pe_and (pe_cmpR op_le (pv 4) (pv 2) (nomark _)) (pe_one (pe_cmpR op_le (pv 3) (pv 5) (nomark _)))))) pa_nil))))), ?_⟩
  refine ⟨_, rfl, vp, _, rfl, SqT.of hvp, rfl, _, _, rfl, _, _, rfl, rfl, ?_⟩
  refine ⟨_, rfl, p, rfl, ⟨_, SqL.of hp⟩, fun D nD => ?_⟩
  refine lc_list (K := K) (a := p) (xs := xs) (fun j H' => Same H H' ∧ H' D = some (.lst (((S.take j).map fun s => decide (s.1 ≤ x.1) && decide (x.2 ≤ s.2)).map V.bl))) ⟨same_upd nD, upd_same⟩ (fun j H' _ ⟨s5, _⟩ => SqL.of (s5 _ _ hp)) ?_ ?_
  · rintro j v H1 hj ⟨s1, hD⟩
    obtain ⟨y, hyj, pv, rfl, hpv⟩ := hxs.nth hj
    have jl := (List.getElem?_eq_some_iff.mp hyj).1
    refine ⟨pv, _, rfl, SqT.of (s1 _ _ hpv), rfl, _, _, rfl, _, _, rfl, rfl, rfl, ?_⟩
    refine ⟨_, rfl, _, rfl, _, _, rfl, rfl, decide (y.1 ≤ x.1), lec y.1 x.1, ?_⟩
    have key : ∀ (b : Bool), b = (decide (y.1 ≤ x.1) && decide (x.2 ≤ y.2)) → ∃ acc, H1 D = some (.lst acc) ∧ acc.length < sizeLine ∧ Same H (upd H1 D (.lst (acc ++ [V.bl b]))) ∧ (upd H1 D (.lst (acc ++ [V.bl b]))) D = some (.lst (((S.take (j + 1)).map fun s => decide (s.1 ≤ x.1) && decide (x.2 ≤ s.2)).map V.bl)) := fun b hb => by
      refine ⟨_, hD, szlt (by rw [List.length_map, List.length_map, List.length_take]; omega), fun u o k => by rw [upd_ne (ne_of_none k nD)]; exact s1 _ _ k, ?_⟩
      rw [take_more hyj, List.map_append, List.map_append, hb]
      exact upd_same
    cases h : decide (y.1 ≤ x.1) with
    | true =>
      refine ⟨_, rfl, _, rfl, _, _, rfl, rfl, ?_⟩
      dsimp only
      rw [lec x.2 y.2]
      exact key _ (by rw [h, Bool.true_and])
    | false => exact key false (by rw [h, Bool.false_and])
  · rintro H1 ⟨s1, hD⟩
    rw [hlen, List.take_length] at hD
    refine ⟨D, _, rfl, SqL.of hD, ?_⟩
    rw [any_id]
    exact q H1 s1
end
end LT

namespace LT
open PySem PySem.Spec PyProof.Rows L2
theorem cut_take (xs : List V) (b : Nat) : cutV xs none (some (b : Int)) = xs.take b := by
  unfold cutV
  rw [HT.sIx_nat, HT.sIx_none, List.drop_zero, Nat.sub_zero, ← List.take_eq_take_min]
theorem cut_mid (xs : List V) (a b : Nat) : cutV xs (some (a : Int)) (some (b : Int)) = (xs.drop a).take (b - a) := by
  unfold cutV
  rw [HT.sIx_nat, HT.sIx_nat]
  by_cases h : a ≤ xs.length
  · rw [Nat.min_eq_left h, List.take_eq_take_min (l := xs.drop a) (i := b - a), List.length_drop, List.take_eq_take_min (l := xs.drop a) (i := min b xs.length - a), List.length_drop]
    congr 1
    omega
  · rw [show min a xs.length = xs.length by omega, List.drop_length, List.drop_of_length_le (show xs.length ≤ a by omega), List.take_nil, List.take_nil]
theorem cut_drop (xs : List V) (a : Nat) : cutV xs (some (a : Int)) none = xs.drop a := by
  unfold cutV
  rw [HT.sIx_nat, HT.sIx_none]
  by_cases h : a ≤ xs.length
  · rw [Nat.min_eq_left h]
    exact List.take_of_length_le (by rw [List.length_drop]; exact Nat.le_refl _)
  · rw [Nat.min_eq_right (by omega), List.drop_length, List.drop_of_length_le (by omega), List.take_nil]
theorem All2.takeN {α : Type} {R : V → α → Prop} : ∀ {vs : List V} {xs : List α}, All2 R vs xs → ∀ k, All2 R (vs.take k) (xs.take k)
  | _, _, .nil, k => by rw [List.take_nil, List.take_nil]; exact .nil
  | _, _, .cons h t, 0 => .nil
  | _, _, .cons h t, k + 1 => .cons h (t.takeN k)
theorem All2.dropN {α : Type} {R : V → α → Prop} : ∀ {vs : List V} {xs : List α}, All2 R vs xs → ∀ k, All2 R (vs.drop k) (xs.drop k)
  | _, _, .nil, k => by rw [List.drop_nil, List.drop_nil]; exact .nil
  | _, _, .cons h t, 0 => .cons h t
  | _, _, .cons h t, k + 1 => t.dropN k
theorem So.wn {n : Nat} {S : List (Nat × Nat)} (h : So n 0 S) : Wn n S := fun x hx => (h.mem x hx).2
theorem nodes_wn {n : Nat} {W : List (Nat × Nat)} (h : ∀ x ∈ W, isN n x) : Wn n W := fun x hx => by
  have := isN_tree (n := n) (b := x.1) (e := x.2) (h x hx)
  exact ⟨this.1, this.2.1⟩
/-- the index of the first node with an entry of spans -/
def fw (S W : List (Nat × Nat)) : Option Nat := (List.range W.length).find? fun i => meets (W.getD i (0, 0)) S
def fwV (S W : List (Nat × Nat)) : V := match fw S W with
  | some i => .int (i : Int)
  | none => .non
/-- the indexes of needless nodes -/
def ndl (W : List (Nat × Nat)) (k : Nat) : List Nat := (List.range k).filter fun i => lies (W.getD i (0, 0)) (jn (srt (W.take i ++ W.drop (i + 1))))
theorem ndl_more (W : List (Nat × Nat)) (k : Nat) : ndl W (k + 1) = ndl W k ++ (if lies (W.getD k (0, 0)) (jn (srt (W.take k ++ W.drop (k + 1)))) then [k] else []) := by
  unfold ndl
  rw [List.range_succ, List.filter_append]
  congr 1
  by_cases h : lies (W.getD k (0, 0)) (jn (srt (W.take k ++ W.drop (k + 1)))) = true
  · rw [if_pos h]
    exact List.filter_cons_of_pos (l := []) h
  · rw [if_neg h]
    exact List.filter_cons_of_neg (l := []) h
theorem ndl_len (W : List (Nat × Nat)) (k : Nat) : (ndl W k).length ≤ k := by
  have := List.length_filter_le (fun i => lies (W.getD i (0, 0)) (jn (srt (W.take i ++ W.drop (i + 1))))) (List.range k)
  rw [List.length_range] at this
  exact this
theorem getD_at {W : List (Nat × Nat)} {i : Nat} {x : Nat × Nat} (h : W[i]? = some x) : W.getD i (0, 0) = x := by
  rw [List.getD_eq_getElem?_getD, h]
  rfl
end LT

namespace LT
open PySem PySem.Spec PyProof.Rows L2
section
variable {P : Program} {w : World} {K : PySem.W.Frag} {mg : Str → Option Value} {base : Heap}
def spNeedless : Sp := fun vs H Q _ => ∃ (n : Nat) (p : Addr) (xs : List V) (W : List (Nat × Nat)), vs = [.int n, .ref p] ∧ 1 ≤ n ∧ n ≤ 10 ^ 30 ∧ H p = some (.lst xs) ∧ All2 (Nd H) xs W ∧ 1 ≤ W.length ∧ W.length ≤ 60 ∧ (∀ x ∈ W, isN n x) ∧
  ∀ (H' : Hp) (r : Addr), Same H H' → H r = none → H' r = some (.lst ((ndl W W.length).map fun i : Nat => V.int (i : Int))) → Q (.ref r) H'
theorem ok_needless {f g1 g2 g3 : Addr} {fd d1 d2 d3 : FuncData} (F : Fun K "needless" "needless" sNeedless f fd) (GCheck : FnOk P w K mg base CX0 5 g1 d1 ["size", "nodes"] spCheckK) (ACheck : At K mg "_check" g1 d1 ["size", "nodes"])
    (GJoined : FnOk P w K mg base CX0 1 g2 d2 ["stretches"] spJoined) (AJoined : At K mg "joined" g2 d2 ["stretches"])
    (GLiesWithin : FnOk P w K mg base CX0 1 g3 d3 ["node", "stretches"] spLies) (ALiesWithin : At K mg "_lies_within" g3 d3 ["node", "stretches"]) (z_enumerate : mg "enumerate" = none) : FnOk P w K mg base CX0 6 f fd ["size", "nodes"] spNeedless := by
  refine F.ok scNeedless (fun vs H Q E h => ?_) (fun cdv A outer s H vs Q E hr h => ?_)
  · obtain ⟨_, _, _, _, rfl, _⟩ := h
    rfl
  obtain ⟨n, p, xs, W, rfl, n1, h30, hp, hx, w1, w60, hW, q⟩ := h
  refine ⟨_, (pss_cons (ps_expr (pe_call GCheck (hr.mono (by decide)) rfl ACheck.m ACheck.kp ACheck.b .nil pass0 (pa_cons (pv 0) (pa_cons (pv 1) pa_nil))))
    (pss_cons (ps_set (i := 2) scNeedless.nd rfl (Or.inl rfl) (pe_lst pa_nil))
    (pss_cons (ps_for PassesOwn.never rfl (pi_enum (by rfl) z_enumerate (pa_cons (pv 1) pa_nil)) (pg_tup (by rfl) (pgs_cons (pg_name (i := 3) scNeedless.nd rfl (Or.inl rfl)) (pgs_cons (pg_name (i := 4) scNeedless.nd rfl (Or.inl rfl)) pgs_nil)))
    (pss_cons (ps_set (i := 5) scNeedless.nd rfl (Or.inl rfl) (pe_op op_cat (pe_slice sl_list (pv 1) po_none (po_some (pv 3))) (pe_slice sl_list (pv 1) (po_some (pe_op op_add (pv 3) pe_int)) po_none)))
    (pss_one (ps_if (pt_val (pe_call GLiesWithin (hr.mono (by decide)) rfl ALiesWithin.m ALiesWithin.kp ALiesWithin.b .nil pass0 (pa_cons (pv 4) (pa_cons (pe_call GJoined (hr.mono (by decide)) rfl AJoined.m AJoined.kp AJoined.b .nil pass0 (pa_cons (pv 5) pa_nil)) pa_nil))))
    (pss_one (ps_expr (pe_bm PySem.F.plainAttrs_list PySem.F.slot_list_append PySem.F.type_list_append mt_append (pv 2) (pa_cons (pv 3) pa_nil))))
    pss_nil))))
    (pss_one (ps_ret (pv 2)))))), ?_⟩
  refine ⟨_, rfl, _, rfl, n, p, xs, W, rfl, n1, h30, hp, hx, w1, w60, hW, fun H1 s1 => ⟨Nat.zero_le _, fun fa nf => ?_⟩⟩
  have wf := same_upd (o := .lst []) nf
  have hf : (upd H1 fa (.lst [])) fa = some (.lst []) := upd_same
  have s2 := s1.trans wf
  have hp2 := s2 _ _ hp
  have hx2 := hx.mono fun v x (k : Nd H v x) => k.same s2
  have nfH := s1.free nf
  generalize upd H1 fa (.lst []) = H2 at hf s2 hp2 hx2 ⊢
  have xl := hx.len
  have pf : p ≠ fa := ne_of_none hp nfH
  refine ⟨_, rfl, p, xs, rfl, SqL.of hp2, ?_⟩
  refine for_enum (a := p) (xs := xs) (fun i σ H' => ∃ (v3 v4 v5 : Option V), σ = [some (.int (n : Int)), some (.ref p), some (.ref fa), v3, v4, v5] ∧ Same H H' ∧ H' fa = some (.lst ((ndl W i).map fun i : Nat => V.int (i : Int))))
    ⟨none, none, none, rfl, s2, hf⟩ (fun i σ H' _ ⟨_, _, _, _, sm, _⟩ => SqL.of (sm _ _ hp)) ?_ ?_
  · rintro i x σ H3 T hi ⟨v3, v4, v5, rfl, sm, hfa⟩ nT
    obtain ⟨y, hyi, hy⟩ := hx.nth hi
    have il : i < W.length := (List.getElem?_eq_some_iff.mp hyi).1
    have sT := same_upd (o := .tup [.int ((i : Nat) : Int), x]) nT
    have s13 := sm.trans sT
    have hfT := sT _ _ hfa
    have hTT : (upd H3 T (.tup [.int ((i : Nat) : Int), x])) T = some (.tup [.int ((i : Nat) : Int), x]) := upd_same
    generalize upd H3 T (.tup [.int ((i : Nat) : Int), x]) = H4 at sT s13 hfT hTT ⊢
    have hp4 := s13 _ _ hp
    have hx4 := hx.mono fun v x (k : Nd H v x) => k.same s13
    refine ⟨T, _, rfl, SqT.of hTT, rfl, _, _, rfl, _, _, rfl, rfl, ?_⟩
    refine ⟨_, rfl, _, rfl, (i : Int), rfl, p, _, rfl, SqL.of hp4, fun c nc => ?_⟩
    rw [cut_take]
    have wc := same_upd (o := .lst (xs.take i)) nc
    have hc := upd_same (H := H4) (a := c) (o := .lst (xs.take i))
    have hfc := wc _ _ hfT
    have sc := s13.trans wc
    generalize upd H4 c (.lst (xs.take i)) = H5 at wc hc hfc sc ⊢
    refine ⟨_, rfl, _, rfl, _, _, rfl, rfl, ((i + 1 : Nat) : Int), congrArg V.int (by omega), p, _, rfl, SqL.of (sc _ _ hp), fun c2 nc2 => ?_⟩
    rw [cut_drop]
    have wc2 := same_upd (o := .lst (xs.drop (i + 1))) nc2
    refine ⟨c, c2, _, _, rfl, rfl, wc2 _ _ hc, upd_same, szle (by rw [List.length_take, List.length_drop, xl]; omega), fun r nr => ?_⟩
    have wr := same_upd (o := .lst (xs.take i ++ xs.drop (i + 1))) nr
    have hr6 : (upd (upd H5 c2 (.lst (xs.drop (i + 1)))) r (.lst (xs.take i ++ xs.drop (i + 1)))) r = some (.lst (xs.take i ++ xs.drop (i + 1))) := upd_same
    have s6 := sc.trans (wc2.trans wr)
    have hf6 := (wc2.trans wr) _ _ hfc
    generalize upd (upd H5 c2 (.lst (xs.drop (i + 1)))) r (.lst (xs.take i ++ xs.drop (i + 1))) = H6 at hr6 s6 hf6 ⊢
    have hx6 := hx.mono fun v x (k : Nd H v x) => k.same s6
    have lj := jn_len (srt (W.take i ++ W.drop (i + 1)))
    have lj2 : (W.take i ++ W.drop (i + 1)).length ≤ 60 := by rw [List.length_append, List.length_take, List.length_drop]; omega
    rw [srt_len] at lj
    refine ⟨_, rfl, _, rfl, r, _, W.take i ++ W.drop (i + 1), rfl, hr6, (hx6.takeN i).app (hx6.dropN (i + 1)), by omega, fun H7 r7 z7 s7 nr7 hr7 hz7 => ?_⟩
    refine ⟨x, y, r7, z7, _, rfl, (hy.same s6).same s7, hr7, hz7, by omega, fun H8 s8 => ?_⟩
    have hf8 := (s7.trans s8) _ _ hf6
    have sE := s6.trans (s7.trans s8)
    have nm := ndl_more W i
    rw [getD_at hyi] at nm
    refine ⟨_, rfl, ite2 (fun c => ?_) (fun c => ?_)⟩
    · rw [if_pos c] at nm
      refine ⟨_, rfl, .inl ⟨rfl, _, SqL.of hf8⟩, _, rfl, fa, _, _, rfl, rfl, hf8, szlt (by rw [List.length_map]; have := ndl_len W i; omega), ?_⟩
      refine ⟨_, _, _, rfl, fun u o k => by rw [upd_ne (ne_of_none k nfH)]; exact sE _ _ k, ?_⟩
      rw [nm, List.map_append]
      exact upd_same
    · rw [if_neg c, List.append_nil] at nm
      refine ⟨_, _, _, rfl, sE, ?_⟩
      rw [nm]
      exact hf8
  · rintro σ H3 ⟨v3, v4, v5, rfl, sm, hfa⟩
    rw [xl] at hfa
    exact ⟨_, rfl, q H3 fa sm nfH hfa⟩
end
end LT

namespace LT
open PySem PySem.Spec PyProof.Rows L2
theorem up_of_pair : ∀ (l : List (Nat × Nat)) (lo : Nat), l.Pairwise (fun x y => x.2 ≤ y.1) → (∀ x ∈ l, lo ≤ x.1 ∧ x.1 < x.2) → Up lo l
  | [], _, _, _ => trivial
  | x :: l, lo, h, k => by
    obtain ⟨a, b⟩ := List.pairwise_cons.mp h
    have kx := k x List.mem_cons_self
    exact ⟨kx.1, kx.2, up_of_pair l x.2 b fun y hy => ⟨a y hy, (k y (List.mem_cons_of_mem _ hy)).2⟩⟩
theorem up_of {l : List (Nat × Nat)} (h : l.Pairwise (fun x y => leN x y = true)) (nd' : l.Nodup) (k : ∀ x ∈ l, x.1 < x.2) (ap : ∀ x ∈ l, ∀ y ∈ l, x ≠ y → x.2 ≤ y.1 ∨ y.2 ≤ x.1) : Up 0 l := by
  refine up_of_pair l 0 ?_ fun x hx => ⟨Nat.zero_le _, k x hx⟩
  have h2 := h.and nd'
  refine List.Pairwise.imp_of_mem (fun {x y} hx hy c => ?_) h2
  have := leN_iff.mp c.1
  have := k x hx
  have := k y hy
  rcases ap x hx y hy c.2 with e | e
  · exact e
  · omega
/-- the joined stretches stand apart -/
theorem jgo_sep : ∀ (l : List (Nat × Nat)) (c : Nat × Nat), c.1 < c.2 → Beg l → (∀ y ∈ l, c.1 ≤ y.1 ∧ y.1 < y.2) → (jgo c l).Pairwise (fun x y => x.2 < y.1) ∧ ∀ y ∈ jgo c l, c.1 ≤ y.1 ∧ y.1 < y.2
  | [], c, h, _, _ => ⟨List.pairwise_singleton _ _, fun y hy => by rw [List.mem_singleton.mp hy]; exact ⟨Nat.le_refl _, h⟩⟩
  | x :: l, c, h, hb, k => by
    obtain ⟨b1, b2⟩ := List.pairwise_cons.mp hb
    have kx := k x List.mem_cons_self
    unfold jgo
    by_cases z : x.1 ≤ c.2
    · rw [if_pos z]
      exact jgo_sep l (c.1, max c.2 x.2) (by show c.1 < max c.2 x.2; omega) b2 fun y hy => k y (List.mem_cons_of_mem _ hy)
    · rw [if_neg z]
      obtain ⟨p, q⟩ := jgo_sep l x kx.2 b2 fun y hy => ⟨b1 y hy, (k y (List.mem_cons_of_mem _ hy)).2⟩
      refine ⟨List.pairwise_cons.mpr ⟨fun y hy => by have := (q y hy).1; omega, p⟩, fun y hy => ?_⟩
      rcases List.mem_cons.mp hy with rfl | hy
      · exact ⟨Nat.le_refl _, h⟩
      · have := q y hy
        omega
theorem jn_sep {n : Nat} {W : List (Nat × Nat)} (h : Wn n W) : (jn (srt W)).Pairwise (fun x y => x.2 < y.1) := by
  have hb := srt_beg W
  have hw := h.srt
  cases e : srt W with
  | nil => exact .nil
  | cons x l =>
    rw [e] at hb hw
    obtain ⟨b1, b2⟩ := List.pairwise_cons.mp hb
    exact (jgo_sep l x (hw x List.mem_cons_self).1 b2 fun y hy => ⟨b1 y hy, (hw y (List.mem_cons_of_mem _ hy)).1⟩).1
theorem jgo_has {i : Nat} : ∀ (l : List (Nat × Nat)) (c : Nat × Nat), (∀ y ∈ l, c.1 ≤ y.1) → Beg l → (c.1 ≤ i ∧ i < c.2) ∨ cov l i → cov (jgo c l) i
  | [], c, _, _, h => by
    rcases h with h | ⟨s, hs, _⟩
    · exact ⟨c, List.mem_singleton_self _, h⟩
    · cases hs
  | x :: l, c, k, hb, h => by
    obtain ⟨b1, b2⟩ := List.pairwise_cons.mp hb
    have kx := k x List.mem_cons_self
    unfold jgo
    by_cases z : x.1 ≤ c.2
    · rw [if_pos z]
      refine jgo_has l (c.1, max c.2 x.2) (fun y hy => k y (List.mem_cons_of_mem _ hy)) b2 ?_
      rcases h with h | ⟨s, hs, h1, h2⟩
      · exact .inl ⟨h.1, by show i < max c.2 x.2; omega⟩
      · rcases List.mem_cons.mp hs with rfl | hs
        · exact .inl ⟨by show c.1 ≤ i; omega, by show i < max c.2 s.2; omega⟩
        · exact .inr ⟨s, hs, h1, h2⟩
    · rw [if_neg z]
      have ih := jgo_has (i := i) l x b1 b2
      rcases h with h | ⟨s, hs, h1, h2⟩
      · exact ⟨c, List.mem_cons_self, h⟩
      · have : cov (jgo x l) i := by
          rcases List.mem_cons.mp hs with rfl | hs
          · exact ih (.inl ⟨h1, h2⟩)
          · exact ih (.inr ⟨s, hs, h1, h2⟩)
        obtain ⟨t, ht, r⟩ := this
        exact ⟨t, List.mem_cons_of_mem _ ht, r⟩
theorem jn_has {i : Nat} {W : List (Nat × Nat)} (h : cov W i) : cov (jn (srt W)) i := by
  have hb := srt_beg W
  obtain ⟨s, hs, k⟩ := h
  have hs := srt_mem.mpr hs
  cases e : srt W with
  | nil => rw [e] at hs; cases hs
  | cons x l =>
    rw [e] at hb hs
    obtain ⟨b1, b2⟩ := List.pairwise_cons.mp hb
    refine jgo_has l x b1 b2 ?_
    rcases List.mem_cons.mp hs with rfl | hs
    · exact .inl k
    · exact .inr ⟨s, hs, k⟩
/-- what is covered without a gap lies in one stretch -/
theorem in_one {J : List (Nat × Nat)} (h : J.Pairwise (fun x y => x.2 < y.1)) {a b : Nat} (ab : a < b) (hc : ∀ i, a ≤ i → i < b → cov J i) : ∃ s ∈ J, s.1 ≤ a ∧ b ≤ s.2 := by
  obtain ⟨s, hs, s1, s2⟩ := hc a (Nat.le_refl _) ab
  refine ⟨s, hs, s1, ?_⟩
  by_cases z : b ≤ s.2
  · exact z
  exfalso
  obtain ⟨t, ht, t1, t2⟩ := hc s.2 (by omega) (by omega)
  have key : ∀ {l : List (Nat × Nat)}, l.Pairwise (fun x y => x.2 < y.1) → s ∈ l → t ∈ l → s = t ∨ s.2 < t.1 ∨ t.2 < s.1 := by
    intro l
    induction l with
    | nil => intro _ h; cases h
    | cons x l ih =>
      intro hp h1 h2
      obtain ⟨p1, p2⟩ := List.pairwise_cons.mp hp
      rcases List.mem_cons.mp h1 with e1 | h1
      · rcases List.mem_cons.mp h2 with e2 | h2
        · exact .inl (by rw [e1, e2])
        · exact .inr (.inl (by rw [e1]; exact p1 t h2))
      · rcases List.mem_cons.mp h2 with e2 | h2
        · exact .inr (.inr (by rw [e2]; exact p1 s h1))
        · exact ih p2 h1 h2
  rcases key h hs ht with e | e | e
  · rw [← e] at t2
    omega
  · omega
  · omega
theorem lies_cov {n : Nat} {W : List (Nat × Nat)} (hW : Wn n W) {x : Nat × Nat} (hx : x.1 < x.2) (h : ∀ i, x.1 ≤ i → i < x.2 → cov W i) : lies x (jn (srt W)) = true := by
  obtain ⟨s, hs, a, b⟩ := in_one (jn_sep hW) hx fun i h1 h2 => jn_has (h i h1 h2)
  exact List.any_eq_true.mpr ⟨s, hs, by rw [decide_eq_true a, decide_eq_true b]; rfl⟩
end LT

namespace LT
open PySem PySem.Spec PyProof.Rows L2
theorem Up.filter {p : Nat × Nat → Bool} : ∀ {lo : Nat} {l : List (Nat × Nat)}, Up lo l → Up lo (l.filter p)
  | lo, [], _ => trivial
  | lo, x :: l, ⟨h1, h2, h3⟩ => by
    cases h : p x with
    | true =>
      rw [List.filter_cons_of_pos h]
      exact ⟨h1, h2, h3.filter⟩
    | false =>
      rw [List.filter_cons_of_neg (by rw [h]; decide)]
      exact h3.filter.mono (by omega)
theorem Up.pair : ∀ {lo : Nat} {l : List (Nat × Nat)}, Up lo l → l.Pairwise (fun x y => x.2 ≤ y.1)
  | lo, [], _ => .nil
  | lo, x :: l, ⟨h1, h2, h3⟩ => .cons (fun y hy => (h3.mem y hy).1) h3.pair
theorem Up.srt {lo : Nat} {l : List (Nat × Nat)} (h : Up lo l) : srt l = l := by
  refine srt_id ?_
  have p := h.pair
  have m := h.mem
  clear h
  induction l with
  | nil => exact .nil
  | cons x l ih =>
    obtain ⟨a, b⟩ := List.pairwise_cons.mp p
    refine .cons (fun y hy => leN_iff.mpr ?_) (ih b fun z hz => m z (List.mem_cons_of_mem _ hz))
    have := a y hy
    have := (m x List.mem_cons_self).2
    have := (m y (List.mem_cons_of_mem _ hy)).2
    omega
/-- nothing is needless in a list whose items share no entry -/
theorem ndl_none {W : List (Nat × Nat)} (h : Up 0 W) (k : Nat) (hk : k ≤ W.length) : ndl W k = [] := by
  unfold ndl
  refine List.filter_eq_nil_iff.mpr fun i hi => ?_
  have il : i < W.length := Nat.lt_of_lt_of_le (List.mem_range.mp hi) hk
  have e := List.getElem?_eq_getElem il
  rw [getD_at e]
  intro k
  obtain ⟨s, hs, k2⟩ := List.any_eq_true.mp k
  rw [Bool.and_eq_true, decide_eq_true_eq, decide_eq_true_eq] at k2
  have x12 := (h.mem _ (List.getElem_mem il)).2
  obtain ⟨y, hy, y1, y2⟩ := jn_in (i := (W[i]).1) hs k2.1 (by omega)
  have hy := srt_mem.mp hy
  have p := h.pair
  have split : W = W.take i ++ W[i] :: W.drop (i + 1) := by
    rw [← List.drop_eq_getElem_cons il, List.take_append_drop]
  rw [split] at p
  obtain ⟨_, p2, p3⟩ := List.pairwise_append.mp p
  obtain ⟨p4, _⟩ := List.pairwise_cons.mp p2
  rcases List.mem_append.mp hy with hy | hy
  · have := p3 y hy (W[i]) List.mem_cons_self
    omega
  · have := p4 y hy
    omega
end LT

namespace LT
open PySem PySem.Spec PyProof.Rows L2
/-- a node with the one above -/
abbrev Tw := (Nat × Nat) × Option (Nat × Nat)
def twF : Nat → Nat → Nat → Option (Nat × Nat) → List Tw
  | 0, _, _, _ => []
  | k + 1, b, m, a => ((b, b + m), a) :: (if m ≤ 1 then [] else twF k (b + gp m) (m - gp m) (some (b, b + m)) ++ twF k b (gp m) (some (b, b + m)))
theorem twF_one {k b m : Nat} {a : Option (Nat × Nat)} (h : m ≤ 1) : twF (k + 1) b m a = [((b, b + m), a)] := by
  show _ :: (if m ≤ 1 then [] else _) = _
  rw [if_pos h]
theorem twF_two {k b m : Nat} {a : Option (Nat × Nat)} (h : ¬ m ≤ 1) : twF (k + 1) b m a = ((b, b + m), a) :: (twF k (b + gp m) (m - gp m) (some (b, b + m)) ++ twF k b (gp m) (some (b, b + m))) := by
  show _ :: (if m ≤ 1 then [] else _) = _
  rw [if_neg h]
theorem twF_fuel : ∀ (i b m : Nat) (a : Option (Nat × Nat)), 1 ≤ m → 2 * m ≤ 2 ^ i → twF (i + 1) b m a = twF i b m a
  | 0, _, m, _, h1, h2 => by simp at h2; omega
  | i + 1, b, m, a, h1, h2 => by
    by_cases c : m ≤ 1
    · rw [twF_one c, twF_one c]
    · have g1 := gp_lt (m := m) (by omega)
      have g3 := gp_pos m
      obtain ⟨k1, k2⟩ := gp_half (by omega) h2
      rw [twF_two c, twF_two c, twF_fuel i b (gp m) _ g3 k1, twF_fuel i (b + gp m) (m - gp m) _ (by omega) k2]
/-- a node with all below -/
def tw8 (x : Tw) : List Tw := twF 8 x.1.1 (x.1.2 - x.1.1) x.2
theorem tw8_one {b m : Nat} {a : Option (Nat × Nat)} (h : m ≤ 1) : tw8 ((b, b + m), a) = [((b, b + m), a)] := by
  unfold tw8
  rw [show ((b, b + m), a).1.2 - ((b, b + m), a).1.1 = m by show b + m - b = m; omega]
  exact twF_one h
theorem tw8_two {b m : Nat} {a : Option (Nat × Nat)} (h : 2 ≤ m) (h2 : m ≤ 70) : tw8 ((b, b + m), a) = ((b, b + m), a) :: (tw8 ((b + gp m, b + m), some (b, b + m)) ++ tw8 ((b, b + gp m), some (b, b + m))) := by
  have g1 := gp_lt (m := m) h
  have g3 := gp_pos m
  obtain ⟨k1, k2⟩ := gp_half (i := 7) h (by omega)
  have e1 : twF 7 b (gp m) (some (b, b + m)) = twF 8 b (gp m) (some (b, b + m)) := (twF_fuel 7 b (gp m) _ g3 k1).symm
  have e2 : twF 7 (b + gp m) (m - gp m) (some (b, b + m)) = twF 8 (b + gp m) (m - gp m) (some (b, b + m)) := (twF_fuel 7 (b + gp m) (m - gp m) _ (by omega) k2).symm
  show twF 8 b (b + m - b) a = _ :: (twF 8 (b + gp m) (b + m - (b + gp m)) _ ++ twF 8 b (b + gp m - b) _)
  rw [show b + m - b = m by omega, show b + m - (b + gp m) = m - gp m by omega, show b + gp m - b = gp m by omega, twF_two (by omega), e1, e2]
theorem twF_in : ∀ (i b m : Nat) (a : Option (Nat × Nat)) (x : Tw), 1 ≤ m → x ∈ twF i b m a → b ≤ x.1.1 ∧ x.1.1 < x.1.2 ∧ x.1.2 ≤ b + m
  | 0, _, _, _, _, _, h => by cases h
  | i + 1, b, m, a, x, h1, h => by
    by_cases c : m ≤ 1
    · rw [twF_one c, List.mem_singleton] at h
      subst h
      exact ⟨Nat.le_refl _, by show b < b + m; omega, Nat.le_refl _⟩
    · rw [twF_two c, List.mem_cons, List.mem_append] at h
      have g1 := gp_lt (m := m) (by omega)
      have g3 := gp_pos m
      rcases h with h | h | h
      · subst h; exact ⟨Nat.le_refl _, by show b < b + m; omega, Nat.le_refl _⟩
      · have := twF_in i (b + gp m) (m - gp m) _ x (by omega) h
        omega
      · have := twF_in i b (gp m) _ x g3 h
        omega
theorem twF_len : ∀ (i b m : Nat) (a : Option (Nat × Nat)), 1 ≤ m → (twF i b m a).length ≤ 2 * m - 1
  | 0, _, _, _, _ => Nat.zero_le _
  | i + 1, b, m, a, h1 => by
    by_cases c : m ≤ 1
    · rw [twF_one c]
      show 1 ≤ _
      omega
    · have g1 := gp_lt (m := m) (by omega)
      have g3 := gp_pos m
      have := twF_len i (b + gp m) (m - gp m) (some (b, b + m)) (by omega)
      have := twF_len i b (gp m) (some (b, b + m)) g3
      rw [twF_two c, List.length_cons, List.length_append]
      omega
theorem twF_nodup : ∀ (i b m : Nat) (a : Option (Nat × Nat)), 1 ≤ m → ((twF i b m a).map (·.1)).Nodup
  | 0, _, _, _, _ => List.nodup_nil
  | i + 1, b, m, a, h => by
    by_cases c : m ≤ 1
    · rw [twF_one c]; simp
    · have g1 := gp_lt (m := m) (by omega)
      have g3 := gp_pos m
      rw [twF_two c, List.map_cons, List.map_append, List.nodup_cons, List.nodup_append]
      refine ⟨fun z => ?_, twF_nodup i (b + gp m) (m - gp m) _ (by omega), twF_nodup i b (gp m) _ g3, fun x hx y hy z => ?_⟩
      · rcases List.mem_append.mp z with z | z
        · obtain ⟨y, hy, e⟩ := List.mem_map.mp z
          have := twF_in i (b + gp m) (m - gp m) _ y (by omega) hy
          rw [e] at this
          dsimp only at this
          omega
        · obtain ⟨y, hy, e⟩ := List.mem_map.mp z
          have := twF_in i b (gp m) _ y g3 hy
          rw [e] at this
          dsimp only at this
          omega
      · subst z
        obtain ⟨y1, hy1, e1⟩ := List.mem_map.mp hx
        obtain ⟨y2, hy2, e2⟩ := List.mem_map.mp hy
        have k1 := twF_in i (b + gp m) (m - gp m) _ y1 (by omega) hy1
        have k2 := twF_in i b (gp m) _ y2 g3 hy2
        rw [e1] at k1
        rw [e2] at k2
        omega
/-- all nodes of the tree, each with the one above -/
theorem twF_mem {n : Nat} : ∀ (i b m : Nat) (a : Option (Nat × Nat)) (x : Tw), 1 ≤ m → tree n b m → b + m ≤ n → x ∈ twF i b m a →
    isN n x.1 ∧ (x = ((b, b + m), a) ∨ ∃ B M, x.2 = some (B, B + M) ∧ isN n (B, B + M) ∧ 2 ≤ M ∧ isHalfP B M x.1)
  | 0, _, _, _, _, _, _, _, h => by cases h
  | i + 1, b, m, a, x, h1, t, hn, h => by
    by_cases c : m ≤ 1
    · rw [twF_one c, List.mem_singleton] at h
      subst h
      exact ⟨isN_of h1 hn t, .inl rfl⟩
    · have m2 : 2 ≤ m := by omega
      rw [twF_two c, List.mem_cons, List.mem_append] at h
      have g1 := gp_lt (m := m) m2
      have g3 := gp_pos m
      have em : b + gp m + (m - gp m) = b + m := by omega
      rcases h with h | h | h
      · subst h
        exact ⟨isN_of h1 hn t, .inl rfl⟩
      · obtain ⟨k1, k2⟩ := twF_mem i (b + gp m) (m - gp m) _ x (by omega) (tree_high m2 t) (by omega) h
        refine ⟨k1, .inr ?_⟩
        rcases k2 with rfl | k2
        · exact ⟨b, m, rfl, isN_of h1 hn t, m2, .inr (by rw [em])⟩
        · exact k2
      · obtain ⟨k1, k2⟩ := twF_mem i b (gp m) _ x g3 (tree_low m2 t) (by omega) h
        refine ⟨k1, .inr ?_⟩
        rcases k2 with rfl | k2
        · exact ⟨b, m, rfl, isN_of h1 hn t, m2, .inl rfl⟩
        · exact k2
theorem twF_all {n : Nat} : ∀ (i b m : Nat) (a : Option (Nat × Nat)) (x : Nat × Nat), 1 ≤ m → 2 * m ≤ 2 ^ i → tree n b m → b + m ≤ n → isN n x → b ≤ x.1 → x.2 ≤ b + m → ∃ c, (x, c) ∈ twF i b m a
  | 0, _, m, _, _, h1, h2, _, _, _, _, _ => by simp at h2; omega
  | i + 1, b, m, a, x, h1, h2, t, hn, hx, k1, k2 => by
    by_cases c : x = (b, b + m)
    · rw [c]
      by_cases k : m ≤ 1
      · rw [twF_one k]
        exact ⟨a, List.mem_cons_self⟩
      · rw [twF_two k]
        exact ⟨a, List.mem_cons_self⟩
    · obtain ⟨m2, hh⟩ := in_half h1 t hn hx k1 k2 c
      have g1 := gp_lt m2
      have g3 := gp_pos m
      obtain ⟨l1, l2⟩ := gp_half (by omega) h2
      rw [twF_two (by omega)]
      by_cases k : x.1 < b + gp m
      · obtain ⟨z, hz⟩ := twF_all i b (gp m) (some (b, b + m)) x g3 l1 (tree_low m2 t) (by omega) hx k1 (hh k)
        exact ⟨z, List.mem_cons_of_mem _ (List.mem_append_right _ hz)⟩
      · obtain ⟨z, hz⟩ := twF_all i (b + gp m) (m - gp m) (some (b, b + m)) x (by omega) l2 (tree_high m2 t) (by omega) hx (by omega) (by omega)
        exact ⟨z, List.mem_cons_of_mem _ (List.mem_append_left _ hz)⟩
def TW (n : Nat) : List Tw := twF 8 0 n none
theorem TW_len {n : Nat} (h : 1 ≤ n) : (TW n).length ≤ 2 * n - 1 := twF_len 8 0 n none h
theorem TW_nodup {n : Nat} (h : 1 ≤ n) : ((TW n).map (·.1)).Nodup := twF_nodup 8 0 n none h
theorem TW_mem {n : Nat} (h : 1 ≤ n) {x : Tw} (hx : x ∈ TW n) : isN n x.1 ∧ (x = ((0, n), none) ∨ ∃ B M, x.2 = some (B, B + M) ∧ isN n (B, B + M) ∧ 2 ≤ M ∧ isHalfP B M x.1) := by
  have := twF_mem (n := n) 8 0 n none x h (tree_root n) (by omega) hx
  rwa [Nat.zero_add] at this
theorem TW_all {n : Nat} (h : 1 ≤ n) (h2 : n ≤ 70) {x : Nat × Nat} (hx : isN n x) : ∃ c, (x, c) ∈ TW n :=
  twF_all 8 0 n none x h (by omega) (tree_root n) (by omega) hx (Nat.zero_le _) (by have := (isN_tree (n := n) (b := x.1) (e := x.2) hx).2.1; omega)
theorem TW_ne {n : Nat} : TW n ≠ [] := by
  unfold TW twF
  exact List.cons_ne_nil _ _
end LT

namespace LT
open PySem PySem.Spec PyProof.Rows L2
/-- what stands above a node -/
def Ab (H : Hp) (v : V) : Option (Nat × Nat) → Prop
  | none => v = .non
  | some y => Nd H v y
def Pa (H : Hp) (v : V) (x : Tw) : Prop := ∃ (p : Addr) (u1 u2 : V), v = .ref p ∧ H p = some (.tup [u1, u2]) ∧ Nd H u1 x.1 ∧ Ab H u2 x.2
theorem Ab.same {H H' : Hp} {v : V} {a : Option (Nat × Nat)} (h : Ab H v a) (s : Same H H') : Ab H' v a := by
  cases a with
  | none => exact h
  | some y => exact Nd.same h s
theorem Ab.upd {H : Hp} {v : V} {a : Option (Nat × Nat)} {s : Addr} {xs : List V} {o : HO} (h : Ab H v a) (hs : H s = some (.lst xs)) : Ab (upd H s o) v a := by
  cases a with
  | none => exact h
  | some y => exact Nd.upd h hs
theorem Pa.same {H H' : Hp} {v : V} {x : Tw} (h : Pa H v x) (s : Same H H') : Pa H' v x := by
  obtain ⟨p, u1, u2, e, hp, h1, h2⟩ := h
  exact ⟨p, u1, u2, e, s _ _ hp, h1.same s, h2.same s⟩
theorem Pa.upd {H : Hp} {v : V} {x : Tw} {s : Addr} {xs : List V} {o : HO} (h : Pa H v x) (hs : H s = some (.lst xs)) : Pa (upd H s o) v x := by
  obtain ⟨p, u1, u2, e, hp, h1, h2⟩ := h
  exact ⟨p, u1, u2, e, by rw [upd_ne (ne_of hp hs (fun z => by cases z))]; exact hp, h1.upd hs, h2.upd hs⟩
def twd (x : Tw) : PyData := .tuple [nd x.1, match x.2 with
  | none => .none
  | some y => nd y]
theorem tws_lay : ∀ l : List Tw, PyData.canLayAll0 (l.map twd) = true
  | [] => by simp [PyData.canLayAll0]
  | (x, none) :: l => by simp [PyData.canLayAll0, twd, nd, PyData.canLay0, tws_lay l]
  | (x, some y) :: l => by simp [PyData.canLayAll0, twd, nd, PyData.canLay0, tws_lay l]
theorem tws_depth : ∀ l : List Tw, PyData.depthAll (l.map twd) ≤ 3
  | [] => by simp [PyData.depthAll]
  | (x, none) :: l => by
    have := tws_depth l
    simp only [List.map_cons, PyData.depthAll, twd, nd, PyData.depth]
    omega
  | (x, some y) :: l => by
    have := tws_depth l
    simp only [List.map_cons, PyData.depthAll, twd, nd, PyData.depth]
    omega
theorem tws_shaped (l : List Tw) : SeqAt.shaped (.list (l.map twd)) = true := by
  have h := tws_depth l
  have h2 : PyData.depth (.list (l.map twd)) ≤ 64 := by
    simp only [PyData.depth]
    omega
  show (PyData.canLay0 (.list (l.map twd)) && decide (PyData.depth (.list (l.map twd)) ≤ 64)) = true
  rw [Bool.and_eq_true]
  exact ⟨by simp only [PyData.canLay0]; exact tws_lay l, decide_eq_true h2⟩
theorem Pa.dp {K : PySem.W.Frag} {H : Hp} {v : V} {x : Tw} (h : Pa H v x) : Dp K H v (twd x) := by
  obtain ⟨p, u1, u2, rfl, hp, h1, h2⟩ := h
  obtain ⟨x, a⟩ := x
  refine .tup (SqT.of hp) (.cons h1.dp (.cons ?_ .nil))
  cases a with
  | none =>
    have e : u2 = .non := h2
    rw [e]
    exact .non
  | some y => exact Nd.dp h2
theorem tws_dp {K : PySem.W.Frag} {H : Hp} : ∀ {vs : List V} {l : List Tw}, All2 (Pa H) vs l → DpAll K H vs (l.map twd)
  | _, _, .nil => .nil
  | _, _, .cons h t => .cons h.dp (tws_dp t)
theorem tws_nil (l : List Tw) : PyData.eqv (.list (l.map twd)) (.list []) = l.isEmpty := by
  cases l with
  | nil => simp [PyData.eqv, PyData.eqvAll]
  | cons x l => simp [PyData.eqv, PyData.eqvAll]
theorem splitEnd {α : Type} {R : V → α → Prop} : ∀ {vs : List V} {us : List α} {x : α}, All2 R vs (us ++ [x]) → ∃ vs' v, vs = vs' ++ [v] ∧ All2 R vs' us ∧ R v x
  | _, [], _, .cons h .nil => ⟨[], _, rfl, .nil, h⟩
  | _, u :: us, x, .cons h t => by
    obtain ⟨vs', v, e, a, r⟩ := splitEnd t
    exact ⟨_ :: vs', v, by rw [e]; rfl, .cons h a, r⟩
section
variable {P : Program} {w : World} {K : PySem.W.Frag} {mg : Str → Option Value} {base : Heap}
def spParted : Sp := fun vs H Q _ => ∃ (x y : Nat) (v : V), vs = [v] ∧ Nd H v (x, y) ∧ x + 2 ≤ y ∧ y ≤ 10 ^ 30 ∧
  ∀ (H' : Hp) (q : Addr) (l h : V), Same H H' → H q = none → H' q = some (.tup [l, h]) → Nd H' l (x, x + gp (y - x)) → Nd H' h (x + gp (y - x), y) → Q (.ref q) H'
theorem ok_law_parted {f : Addr} {fd : FuncData} (F : Fun K "_law_parted" "_law_parted" sLawParted f fd) : FnOk P w K mg base CX0 1 f fd ["node"] spParted := by
  refine F.ok scLawParted (fun vs H Q E h => ?_) (fun cdv A outer s H vs Q E hr h => ?_)
  · obtain ⟨_, _, _, rfl, _⟩ := h
    rfl
  obtain ⟨x, y, v, rfl, ⟨p, rfl, hp⟩, hxy, y30, q⟩ := h
  have two : 2 ≤ sizeLine := by decide
  have q0 : atI [V.int (x : Int), V.int (y : Int)] 0 = some (.int (x : Int)) := atI_nat (j := 0) rfl
  have q1 : atI [V.int (x : Int), V.int (y : Int)] 1 = some (.int (y : Int)) := atI_nat (j := 1) rfl
  refine ⟨_, (pss_cons (ps_set (i := 1) scLawParted.nd rfl (Or.inl rfl) pe_int)
    (pss_cons (ps_while PassesOwn.never (pt_cmpR op_lt (pe_op op_mul pe_int (pv 1)) (pe_op op_sub (pe_ix ix_tup (pv 0) pe_int (fun _ _ => rfl)) (pe_ix ix_tup (pv 0) pe_int (fun _ _ => rfl))) (nomark _))
    (pss_one (ps_set (i := 1) scLawParted.nd rfl (Or.inl rfl) (pe_op op_mul pe_int (pv 1)))))
    (pss_one (ps_ret (pe_tup (pa_cons (pe_tup (pa_cons (pe_ix ix_tup (pv 0) pe_int (fun _ _ => rfl)) (pa_cons (pe_op op_add (pe_ix ix_tup (pv 0) pe_int (fun _ _ => rfl)) (pv 1)) pa_nil))) (pa_cons (pe_tup (pa_cons (pe_op op_add (pe_ix ix_tup (pv 0) pe_int (fun _ _ => rfl)) (pv 1)) (pa_cons (pe_ix ix_tup (pv 0) pe_int (fun _ _ => rfl)) pa_nil))) pa_nil))))))), ?_⟩
  refine ⟨fun mu σ H' => ∃ j : Nat, σ = [some (.ref p), some (.int ((2 ^ j : Nat) : Int))] ∧ H' = H ∧ 2 ^ j < y - x ∧ mu = y - x - 2 ^ j, ⟨y - x - 1, 0, rfl, rfl, by simp; omega, by simp⟩, ?_⟩
  rintro m σ H1 ⟨j, rfl, rfl, hj, rfl⟩
  refine ⟨_, rfl, _, _, rfl, rfl, .inl ⟨by decide, by decide⟩, _, rfl, p, _, _, _, rfl, rfl, SqT.of hp, q1, _, rfl, p, _, _, _, rfl, rfl, SqT.of hp, q0, _, _, rfl, rfl, _, _, rfl, rfl, _, rfl, ite2 (fun c => ?_) (fun c => ?_)⟩
  · have c1 : 2 * ((2 ^ j : Nat) : Int) < (y : Int) - (x : Int) := of_decide_eq_true c
    have pj : 0 < 2 ^ j := Nat.pow_pos (by decide)
    refine ⟨_, fun σ' H' h => h, _, rfl, _, _, rfl, rfl, .inl ⟨by decide, by decide⟩, ?_⟩
    refine ⟨y - x - 2 ^ (j + 1), by rw [Nat.pow_succ]; omega, j + 1, ?_, rfl, by rw [Nat.pow_succ]; omega, rfl⟩
    have e : (2 : Int) * ((2 ^ j : Nat) : Int) = ((2 ^ (j + 1) : Nat) : Int) := by rw [Nat.pow_succ]; omega
    rw [← e]
    rfl
  · have c1 : ¬ 2 * ((2 ^ j : Nat) : Int) < (y : Int) - (x : Int) := of_decide_eq_false (Bool.eq_false_iff.mpr c)
    have g : gp (y - x) = 2 ^ j := gp_eq hj (by omega)
    rw [g] at q
    refine ⟨_, rfl, p, _, _, _, rfl, rfl, SqT.of hp, q0, _, rfl, p, _, _, _, rfl, rfl, SqT.of hp, q0, _, rfl, _, _, rfl, rfl, two, fun t1 n1 => ?_⟩
    have s1 := same_upd (o := .tup [.int (x : Int), .int ((x : Int) + ((2 ^ j : Nat) : Int))]) n1
    refine ⟨_, rfl, p, _, _, _, rfl, rfl, SqT.of (s1 _ _ hp), q0, _, rfl, _, _, rfl, rfl, _, rfl, p, _, _, _, rfl, rfl, SqT.of (s1 _ _ hp), q1, two, fun t2 n2 => ⟨two, fun t3 n3 => ?_⟩⟩
    have s2 := same_upd (o := .tup [.int ((x : Int) + ((2 ^ j : Nat) : Int)), .int (y : Int)]) n2
    have s3 := same_upd (o := .tup [.ref t1, .ref t2]) n3
    exact q _ t3 (.ref t1) (.ref t2) (s1.trans (s2.trans s3)) ((s1.trans s2).free n3) upd_same ⟨t1, rfl, s3 _ _ (s2 _ _ upd_same)⟩ ⟨t2, rfl, s3 _ _ upd_same⟩
def spTreeL : Sp := fun vs H Q _ => ∃ (n : Nat), vs = [.int n] ∧ 1 ≤ n ∧ n ≤ 70 ∧ ∀ (H' : Hp) (p : Addr) (xs : List V), Same H H' → H p = none → H' p = some (.lst xs) → All2 (Pa H') xs (TW n) → Q (.ref p) H'
theorem ok_law_tree {f g1 : Addr} {fd d1 : FuncData} (F : Fun K "_law_tree" "_law_tree" sLawTree f fd)
    (GLawParted : FnOk P w K mg base CX0 1 g1 d1 ["node"] spParted) (ALawParted : At K mg "_law_parted" g1 d1 ["node"]) : FnOk P w K mg base CX0 2 f fd ["size"] spTreeL := by
  refine F.ok scLawTree (fun vs H Q E h => ?_) (fun cdv A outer s H vs Q E hr h => ?_)
  · obtain ⟨_, rfl, _⟩ := h
    rfl
  obtain ⟨n, rfl, n1, n70, q⟩ := h
  refine ⟨_, (pss_cons (ps_par (i := 1) (j := 2) (by rfl) scLawTree.nd rfl rfl (by decide) rfl rfl (pa_cons (pe_lst pa_nil) (pa_cons (pe_lst (pa_cons (pe_tup (pa_cons (pe_tup (pa_cons pe_int (pa_cons (pv 0) pa_nil))) (pa_cons pe_non pa_nil))) pa_nil)) pa_nil)) (by rfl))
    (pss_cons (ps_while PassesOwn.never (pt_cmpR (op_neD hr.units) (pv 2) (pe_lst pa_nil) (nomark _))
    (pss_cons (ps_asg (pe_bm0 PySem.F.plainAttrs_list PySem.F.slot_list_pop PySem.F.type_list_pop mt_pop (pv 2)) (pg_tup (by rfl) (pgs_cons (pg_name (i := 3) scLawTree.nd rfl (Or.inr rfl)) (pgs_cons (pg_name (i := 4) scLawTree.nd rfl (Or.inl rfl)) pgs_nil))))
    (pss_cons (ps_expr (pe_bm PySem.F.plainAttrs_list PySem.F.slot_list_append PySem.F.type_list_append mt_append (pv 1) (pa_cons (pe_tup (pa_cons (pv 3) (pa_cons (pv 4) pa_nil))) pa_nil)))
    (pss_one (ps_if (pt_cmpR op_gt (pe_op op_sub (pe_ix ix_tup (pv 3) pe_int (fun _ _ => rfl)) (pe_ix ix_tup (pv 3) pe_int (fun _ _ => rfl))) pe_int (nomark _))
    (pss_one (ps_expr (pe_bm PySem.F.plainAttrs_list PySem.F.slot_list_extend PySem.F.type_list_extend mt_extend (pv 2) (pa_cons (pe_lc (own := [("half", 5)]) rfl scLawTree.nd (pi_tup (pe_call GLawParted (hr.mono (by decide)) rfl ALawParted.m ALawParted.kp ALawParted.b .nil pass0 (pa_cons (pv 3) pa_nil))) (blkOk_by (N := ["size", "found", "left", "node", "above", "half"]) (sc := defScope sLawTree) (by decide +kernel)) (fun _ _ _ _ _ => (pg_name (i := 5) scLawTree.nd rfl (Or.inl rfl))) (fun _ _ _ _ _ => pts_nil) (fun _ _ _ _ _ => (pe_tup (pa_cons (pv 5) (pa_cons (pv 3) pa_nil))))) pa_nil))))
    pss_nil)))))
    (pss_one (ps_ret (pv 1))))), ?_⟩
  have two : 2 ≤ sizeLine := by decide
  have one1 : 1 ≤ sizeLine := by decide
  refine ⟨Nat.zero_le _, fun fa nf => ⟨_, rfl, two, fun t1 m1 => ⟨two, fun t2 m2 => ⟨one1, fun la nl => ⟨_, _, rfl, ?_⟩⟩⟩⟩⟩
  have s1 := same_upd (o := .lst []) nf
  have s2 := same_upd (o := .tup [.int 0, .int (n : Int)]) m1
  have s3 := same_upd (o := .tup [.ref t1, .non]) m2
  have s4 := same_upd (o := .lst [.ref t2]) nl
  have s0 := s1.trans (s2.trans (s3.trans s4))
  have hf0 := (s2.trans (s3.trans s4)) _ _ (upd_same (H := H) (a := fa) (o := .lst []))
  have hl0 := upd_same (H := upd (upd (upd H fa (.lst [])) t1 (.tup [.int 0, .int n])) t2 (.tup [.ref t1, .non])) (a := la) (o := .lst [.ref t2])
  have hp0 : Pa (upd (upd (upd (upd H fa (.lst [])) t1 (.tup [.int 0, .int n])) t2 (.tup [.ref t1, .non])) la (.lst [.ref t2])) (.ref t2) ((0, n), none) := ⟨t2, _, _, rfl, s4 _ _ upd_same, ⟨t1, rfl, (s3.trans s4) _ _ upd_same⟩, rfl⟩
  have nlH : H la = none := (s1.trans (s2.trans s3)).free nl
  have fl : fa ≠ la := ne_of_none ((s2.trans s3) _ _ (upd_same (H := H) (a := fa) (o := .lst []))) nl
  dsimp only at hf0 hl0 ⊢
  generalize (upd (upd (upd (upd H fa (.lst [])) t1 (.tup [.int 0, .int n])) t2 (.tup [.ref t1, .non])) la (.lst [.ref t2])) = H0 at s0 hf0 hl0 hp0
  clear s1 s2 s3 s4 m1 m2 nl
  refine ⟨fun mu σ H' => ∃ (T S : List Tw) (fs ls : List V) (v3 v4 v5 : Option V), σ = [some (.int n), some (.ref fa), some (.ref la), v3, v4, v5] ∧ Same H H' ∧ H' fa = some (.lst fs) ∧ H' la = some (.lst ls) ∧ All2 (Pa H') fs T ∧ All2 (Pa H') ls S ∧
      T ++ S.reverse.flatMap tw8 = TW n ∧ (∀ x ∈ S, x.1.1 < x.1.2 ∧ x.1.2 ≤ n) ∧ S.length ≤ T.length + 1 ∧ mu = (S.reverse.flatMap tw8).length + 0,
    ⟨_, [], [((0, n), none)], [], [.ref t2], none, none, none, rfl, s0, hf0, hl0, .nil, .cons hp0 .nil, ?_, fun x hx => by rw [List.mem_singleton] at hx; subst hx; exact ⟨by show 0 < n; omega, Nat.le_refl _⟩, Nat.le_refl _, rfl⟩, ?_⟩
  · show [] ++ (tw8 ((0, n), none) ++ []) = TW n
    rw [List.append_nil]
    rfl
  rintro mu σ H1 ⟨T, S, fs, ls, v3, v4, v5, rfl, sm, hf, hl, hT, hS, eT, hin, hlen, hmu⟩
  have lenT : T.length ≤ 139 := by
    have a := congrArg List.length eT
    have b := TW_len n1
    rw [List.length_append] at a
    omega
  have tl := hT.len
  have sl := hS.len
  refine ⟨_, rfl, Nat.zero_le _, fun em nem => ⟨.list (S.map twd), .list [], ?_, .lst (SqL.of upd_same) .nil, tws_shaped _, nil_shaped, ?_⟩⟩
  · have se := same_upd (o := .lst []) nem
    exact .lst (SqL.of (se _ _ hl)) (tws_dp (hS.mono fun v x (k : Pa H1 v x) => k.same se))
  rw [tws_nil]
  have se := same_upd (o := .lst []) nem
  replace sm := sm.trans se
  replace hf := se _ _ hf
  replace hl := se _ _ hl
  replace hT := hT.mono fun v x (k : Pa H1 v x) => k.same se
  replace hS := hS.mono fun v x (k : Pa H1 v x) => k.same se
  generalize upd H1 em (.lst []) = H2 at sm hf hl hT hS
  clear se nem
  rcases S.eq_nil_or_concat with rfl | ⟨S', x, et⟩
  · refine ⟨false, rfl, ?_⟩
    rw [List.reverse_nil, List.flatMap_nil, List.append_nil] at eT
    rw [eT] at hT
    exact ⟨_, rfl, q _ _ _ sm nf hf hT⟩
  rw [List.concat_eq_append] at et
  subst et
  obtain ⟨ls', v, rfl, hS', hv⟩ := splitEnd hS
  have hb : (!(S' ++ [x]).isEmpty) = true := by cases S' <;> rfl
  obtain ⟨⟨x1, x2⟩, ab⟩ := x
  obtain ⟨vp, u1, u2, rfl, hvp, hu1, hu2⟩ := hv
  obtain ⟨x12, x2n⟩ := hin ((x1, x2), ab) (by simp)
  dsimp only at x12 x2n hu1 hu2
  have ixe : (ls' ++ [V.ref vp])[(ls' ++ [V.ref vp]).length - 1]? = some (.ref vp) := by rw [List.length_append, List.length_singleton, Nat.add_sub_cancel]; exact List.getElem?_concat_length
  refine ⟨true, congrArg V.bl hb, _, fun σ' H' h => h, ?_⟩
  refine ⟨_, rfl, .inl ⟨rfl, _, SqL.of hl⟩, la, _, _, rfl, rfl, hl, ixe, ?_⟩
  rw [List.dropLast_concat]
  have vl : vp ≠ la := ne_of hvp hl (fun z => by cases z)
  have sm1 : Same H (upd H2 la (.lst ls')) := fun a o k => by rw [upd_ne (ne_of_none k nlH)]; exact sm _ _ k
  have hf1 : (upd H2 la (.lst ls')) fa = some (.lst fs) := by rw [upd_ne fl]; exact hf
  have hl1 : (upd H2 la (.lst ls')) la = some (.lst ls') := upd_same
  have hT1 := hT.mono fun v x (k : Pa H2 v x) => k.upd (o := .lst ls') hl
  have hS1 := hS'.mono fun v x (k : Pa H2 v x) => k.upd (o := .lst ls') hl
  have hu11 := hu1.upd (o := .lst ls') hl
  have hu21 := hu2.upd (o := .lst ls') hl
  have hvp1 : (upd H2 la (.lst ls')) vp = some (.tup [u1, u2]) := by rw [upd_ne vl]; exact hvp
  generalize upd H2 la (.lst ls') = H3 at sm1 hf1 hl1 hT1 hS1 hu11 hu21 hvp1
  refine ⟨vp, _, rfl, SqT.of hvp1, rfl, _, _, rfl, _, _, rfl, rfl, ?_⟩
  obtain ⟨up, rfl, hup⟩ := id hu11
  refine ⟨_, rfl, .inl ⟨rfl, _, SqL.of hf1⟩, _, rfl, _, rfl, two, fun tn ntn => ⟨fa, _, _, rfl, rfl, same_upd ntn _ _ hf1, szlt (by omega), ?_⟩⟩
  have wn := same_upd (o := .tup [.ref up, u2]) ntn
  have ntH : tn ≠ fa := fun z => by rw [z] at ntn; rw [hf1] at ntn; cases ntn
  have hf2 := wn _ _ hf1
  have sm2 : Same H (upd (upd H3 tn (.tup [.ref up, u2])) fa (.lst (fs ++ [.ref tn]))) := fun a o k => by rw [upd_ne (ne_of_none k nf)]; exact wn _ _ (sm1 _ _ k)
  have hfB : (upd (upd H3 tn (.tup [.ref up, u2])) fa (.lst (fs ++ [.ref tn]))) fa = some (.lst (fs ++ [.ref tn])) := upd_same
  have hlB : (upd (upd H3 tn (.tup [.ref up, u2])) fa (.lst (fs ++ [.ref tn]))) la = some (.lst ls') := by rw [upd_ne (fun z => fl z.symm)]; exact wn _ _ hl1
  have hTB : All2 (Pa (upd (upd H3 tn (.tup [.ref up, u2])) fa (.lst (fs ++ [.ref tn])))) (fs ++ [.ref tn]) (T ++ [((x1, x2), ab)]) := by
    refine (hT1.mono fun v x (k : Pa H3 v x) => (k.same wn).upd hf2).app (.cons ?_ .nil)
    exact ⟨tn, _, _, rfl, by rw [upd_ne ntH]; exact upd_same, (hu11.same wn).upd hf2, (hu21.same wn).upd hf2⟩
  have hSB := hS1.mono fun v x (k : Pa H3 v x) => (k.same wn).upd (o := .lst (fs ++ [.ref tn])) hf2
  have huB := (hu11.same wn).upd (o := .lst (fs ++ [.ref tn])) hf2
  have hupB : (upd (upd H3 tn (.tup [.ref up, u2])) fa (.lst (fs ++ [.ref tn]))) up = some (.tup [.int (x1 : Int), .int (x2 : Int)]) := by
    obtain ⟨_, e, k⟩ := huB
    cases e
    exact k
  generalize upd (upd H3 tn (.tup [.ref up, u2])) fa (.lst (fs ++ [.ref tn])) = H4 at sm2 hfB hlB hTB hSB huB hupB
  have q0 : atI [V.int (x1 : Int), V.int (x2 : Int)] 0 = some (.int (x1 : Int)) := atI_nat (j := 0) rfl
  have q1 : atI [V.int (x1 : Int), V.int (x2 : Int)] 1 = some (.int (x2 : Int)) := atI_nat (j := 1) rfl
  have hin' : ∀ x ∈ S', x.1.1 < x.1.2 ∧ x.1.2 ≤ n := fun x hx => hin x (by simp [hx])
  rw [List.length_append, List.length_singleton] at hlen
  rw [List.reverse_append, List.reverse_singleton, List.singleton_append, List.flatMap_cons] at eT hmu
  obtain ⟨m, rfl⟩ : ∃ m, x2 = x1 + m := ⟨x2 - x1, by omega⟩
  refine ⟨_, rfl, up, _, _, _, rfl, rfl, SqT.of hupB, q1, _, rfl, up, _, _, _, rfl, rfl, SqT.of hupB, q0, _, _, rfl, rfl, _, _, rfl, rfl, _, rfl, ite2 (fun c => ?_) (fun c => ?_)⟩
  · have c1 : (1 : Int) < ((x1 + m : Nat) : Int) - (x1 : Int) := of_decide_eq_true c
    have m2 : 2 ≤ m := by omega
    have g1 := gp_lt m2
    have g3 := gp_pos m
    have emm : x1 + m - x1 = m := by omega
    rw [tw8_two m2 (by omega), List.cons_append] at eT hmu
    refine ⟨_, rfl, .inl ⟨rfl, _, SqL.of hlB⟩, _, rfl, x1, x1 + m, _, rfl, huB, by omega, Nat.le_trans (show x1 + m ≤ 70 by omega) (by decide), fun H5 qa l h s5 nqa hqa hl5 hh5 => ?_⟩
    rw [emm] at hl5 hh5
    refine ⟨qa, rfl, ⟨_, SqT.of hqa⟩, fun D nD => ?_⟩
    have hs5 : All2 (Nd H5) [l, h] [(x1, x1 + gp m), (x1 + gp m, x1 + m)] := .cons hl5 (.cons hh5 .nil)
    generalize ehs : [(x1, x1 + gp m), (x1 + gp m, x1 + m)] = HL at hs5
    generalize eus : [l, h] = us at hqa hs5
    have hll : HL.length = 2 := by rw [← ehs]; rfl
    have ull := hs5.len
    have huS := huB.same s5
    refine lc_tup (K := K) (a := qa) (xs := us) (fun i H' => ∃ zs : List V, Same H5 H' ∧ H' D = some (.lst zs) ∧ All2 (Pa H') zs ((HL.take i).map fun y => ((y, some (x1, x1 + m)) : Tw))) ⟨[], same_upd nD, upd_same, .nil⟩ (fun i H' _ ⟨_, s6, _⟩ => SqT.of (s6 _ _ hqa)) ?_ ?_
    · rintro i v H6 hi ⟨zs, s6, hD, hz⟩
      obtain ⟨y, hyi, hy⟩ := hs5.nth hi
      have il := (List.getElem?_eq_some_iff.mp hyi).1
      have zl := hz.len
      refine ⟨rfl, _, rfl, _, rfl, two, fun tt ntt => ?_⟩
      have wt := same_upd (o := .tup [v, .ref up]) ntt
      have hD2 := wt _ _ hD
      have tD : tt ≠ D := fun z => by rw [z, hD] at ntt; cases ntt
      refine ⟨zs, hD2, szlt (by rw [zl, List.length_map, List.length_take]; omega), zs ++ [.ref tt], ?_, upd_same, ?_⟩
      · exact fun a o k => by rw [upd_ne (ne_of_none k nD)]; exact wt _ _ (s6 _ _ k)
      · rw [take_more hyi, List.map_append]
        refine (hz.mono fun v x (k : Pa H6 v x) => (k.same wt).upd hD2).app (.cons ?_ .nil)
        exact ⟨tt, _, _, rfl, by rw [upd_ne tD]; exact upd_same, ((hy.same s6).same wt).upd hD2, Nd.upd ((huS.same s6).same wt) hD2⟩
    · rintro H6 ⟨zs, s6, hD, hz⟩
      rw [ull, List.take_length] at hz
      have zl := hz.len
      rw [List.length_map] at zl
      have lls : ls'.length = S'.length := hSB.len
      have hl6 := s6 _ _ (s5 _ _ hlB)
      have hf6 := s6 _ _ (s5 _ _ hfB)
      have sB := s5.trans s6
      refine ⟨la, D, _, zs, rfl, rfl, hl6, hD, szle (by rw [zl, hll, lls]; omega), ?_⟩
      refine ⟨_, ?_, T ++ [((x1, x1 + m), ab)], S' ++ HL.map fun y => ((y, some (x1, x1 + m)) : Tw), fs ++ [.ref tn], ls' ++ zs, _, _, _, rfl, ?_, ?_, upd_same, ?_, ?_, ?_, ?_, ?_, rfl⟩
      · rw [hmu, ← ehs]
        simp only [List.map_cons, List.map_nil, List.reverse_append, List.reverse_cons, List.reverse_nil, List.nil_append, List.singleton_append, List.cons_append, List.flatMap_cons, List.length_append, List.length_cons]
        omega
      · exact fun a o k => by rw [upd_ne (ne_of_none k nlH)]; exact sB _ _ (sm2 _ _ k)
      · rw [upd_ne fl]; exact hf6
      · exact hTB.mono fun v x (k : Pa H4 v x) => (k.same sB).upd hl6
      · exact (hSB.mono fun v x (k : Pa H4 v x) => (k.same sB).upd hl6).app (hz.mono fun v x (k : Pa H6 v x) => k.upd hl6)
      · rw [← eT, ← ehs]
        simp only [List.map_cons, List.map_nil, List.reverse_append, List.reverse_cons, List.reverse_nil, List.nil_append, List.singleton_append, List.cons_append, List.flatMap_cons, List.append_assoc]
      · rw [← ehs]
        intro x hx
        rcases List.mem_append.mp hx with hx | hx
        · exact hin' x hx
        · simp only [List.map_cons, List.map_nil, List.mem_cons, List.not_mem_nil, or_false] at hx
          rcases hx with rfl | rfl
          · exact ⟨by show x1 < x1 + gp m; omega, by show x1 + gp m ≤ n; omega⟩
          · exact ⟨by show x1 + gp m < x1 + m; omega, by show x1 + m ≤ n; omega⟩
      · rw [List.length_append, List.length_append, List.length_map, List.length_singleton, hll]
        omega
  · have m1 : m ≤ 1 := by
      have c1 : ¬ (1 : Int) < ((x1 + m : Nat) : Int) - (x1 : Int) := of_decide_eq_false (Bool.eq_false_iff.mpr c)
      omega
    rw [tw8_one m1, List.singleton_append] at eT hmu
    refine ⟨_, by rw [hmu]; exact Nat.lt_succ_self _, T ++ [((x1, x1 + m), ab)], S', _, ls', _, _, _, rfl, sm2, hfB, hlB, hTB, hSB, by rw [List.append_assoc]; exact eT, hin', by rw [List.length_append, List.length_singleton]; omega, rfl⟩
end
end LT

namespace LT
open PySem PySem.Spec PyProof.Rows L2
def covB (L : List (Nat × Nat)) (i : Nat) : Bool := L.any fun s => decide (s.1 ≤ i) && decide (i < s.2)
theorem covB_iff {L : List (Nat × Nat)} {i : Nat} : covB L i = true ↔ cov L i := by
  unfold covB
  rw [List.any_eq_true]
  exact ⟨fun ⟨s, h, k⟩ => ⟨s, h, by rw [Bool.and_eq_true, decide_eq_true_eq, decide_eq_true_eq] at k; exact k⟩, fun ⟨s, h, k1, k2⟩ => ⟨s, h, by rw [Bool.and_eq_true, decide_eq_true_eq, decide_eq_true_eq]; exact ⟨k1, k2⟩⟩⟩
/-- for each entry whether it is in a node -/
def mks (n : Nat) (L : List (Nat × Nat)) : List Bool := (List.range n).map (covB L)
theorem mks_len (n : Nat) (L : List (Nat × Nat)) : (mks n L).length = n := by unfold mks; rw [List.length_map, List.length_range]
theorem bools_lay : ∀ bs : List Bool, PyData.canLayAll0 (bs.map PyData.bool) = true
  | [] => by simp [PyData.canLayAll0]
  | b :: bs => by simp [PyData.canLayAll0, PyData.canLay0, bools_lay bs]
theorem bools_depth : ∀ bs : List Bool, PyData.depthAll (bs.map PyData.bool) ≤ 1
  | [] => by simp [PyData.depthAll]
  | b :: bs => by
    have := bools_depth bs
    simp only [List.map_cons, PyData.depthAll, PyData.depth]
    omega
theorem bools_shaped (bs : List Bool) : SeqAt.shaped (.list (bs.map PyData.bool)) = true := by
  have h := bools_depth bs
  have h2 : PyData.depth (.list (bs.map PyData.bool)) ≤ 64 := by
    simp only [PyData.depth]
    omega
  show (PyData.canLay0 (.list (bs.map PyData.bool)) && decide (PyData.depth (.list (bs.map PyData.bool)) ≤ 64)) = true
  rw [Bool.and_eq_true]
  exact ⟨by simp only [PyData.canLay0]; exact bools_lay bs, decide_eq_true h2⟩
theorem bool_shaped (b : Bool) : SeqAt.shaped (.bool b) = true := by
  cases b <;> rfl
theorem bools_in (c : Bool) : ∀ bs : List Bool, ((bs.map PyData.bool).any fun z => PyData.eqv z (.bool c)) = bs.any fun b => b == c
  | [] => rfl
  | b :: bs => by
    rw [List.map_cons, List.any_cons, List.any_cons, bools_in c bs]
    congr 1
    skip
/-- a stretch of the marks -/
theorem mks_cut {n a b : Nat} {L : List (Nat × Nat)} (h : b ≤ n) (c : Bool) : (((mks n L).drop a).take (b - a)).any (fun x => x == c) = true ↔ ∃ i, a ≤ i ∧ i < b ∧ covB L i = c := by
  rw [List.any_eq_true]
  constructor
  · rintro ⟨x, hx, e⟩
    obtain ⟨j, hj⟩ := List.mem_iff_getElem?.mp hx
    rw [List.getElem?_take] at hj
    split at hj
    · rename_i jl
      rw [List.getElem?_drop] at hj
      unfold mks at hj
      rw [List.getElem?_map, List.getElem?_range (by omega)] at hj
      have hj := Option.some.inj hj
      exact ⟨a + j, by omega, by omega, by rw [hj]; exact eq_of_beq e⟩
    · cases hj
  · rintro ⟨i, h1, h2, e⟩
    refine ⟨c, List.mem_iff_getElem?.mpr ⟨i - a, ?_⟩, beq_self_eq_true c⟩
    rw [List.getElem?_take, if_pos (by omega), List.getElem?_drop]
    unfold mks
    rw [show a + (i - a) = i by omega, List.getElem?_map, List.getElem?_range (by omega), ← e]
    rfl
theorem mks_start (n : Nat) : List.replicate n (V.bl false) = (mks n []).map V.bl := by
  unfold mks
  rw [List.map_map]
  refine List.ext_getElem? fun i => ?_
  rw [List.getElem?_map, List.getElem?_replicate]
  by_cases c : i < n
  · rw [if_pos c, List.getElem?_range c]
    rfl
  · rw [if_neg c, List.getElem?_eq_none (by rw [List.length_range]; omega)]
    rfl
/-- one more mark -/
theorem mks_set {n b e : Nat} {L : List (Nat × Nat)} (h : e < n) (k : b ≤ e) : ((mks n (L ++ [(b, e)])).map V.bl).set e (V.bl true) = (mks n (L ++ [(b, e + 1)])).map V.bl := by
  unfold mks
  rw [List.map_map, List.map_map]
  refine List.ext_getElem? fun i => ?_
  by_cases c : i < n
  · rw [List.getElem?_set]
    by_cases z : e = i
    · subst z
      rw [if_pos rfl, if_pos (by rw [List.length_map, List.length_range]; exact h), List.getElem?_map, List.getElem?_range h]
      have : covB (L ++ [(b, e + 1)]) e = true := covB_iff.mpr ⟨(b, e + 1), List.mem_append_right _ (List.mem_singleton_self _), k, Nat.lt_succ_self _⟩
      show some (V.bl true) = some (V.bl (covB _ e))
      rw [this]
    · rw [if_neg z, List.getElem?_map, List.getElem?_map, List.getElem?_range c]
      have : covB (L ++ [(b, e)]) i = covB (L ++ [(b, e + 1)]) i := by
        unfold covB
        rw [List.any_append, List.any_append, List.any_cons, List.any_cons]
        congr 2
        congr 1
        exact decide_eq_decide.mpr (by dsimp only; omega)
      show some (V.bl (covB _ i)) = some (V.bl (covB _ i))
      rw [this]
  · rw [List.getElem?_eq_none (by rw [List.length_set, List.length_map, List.length_range]; omega), List.getElem?_eq_none (by rw [List.length_map, List.length_range]; omega)]
theorem mks_none {n b : Nat} {L : List (Nat × Nat)} : mks n (L ++ [(b, b)]) = mks n L := by
  unfold mks
  refine List.map_congr_left fun i _ => ?_
  unfold covB
  rw [List.any_append, List.any_cons, List.any_nil, Bool.or_false]
  have : (decide ((b, b).1 ≤ i) && decide (i < (b, b).2)) = false := by
    by_cases c : b ≤ i
    · rw [decide_eq_false (show ¬ i < (b, b).2 by dsimp only; omega), Bool.and_false]
    · rw [decide_eq_false (show ¬ (b, b).1 ≤ i by dsimp only; omega), Bool.false_and]
  rw [this, Bool.or_false]
section
variable {P : Program} {w : World} {K : PySem.W.Frag} {mg : Str → Option Value} {base : Heap}
def spMarked : Sp := fun vs H Q _ => ∃ (n : Nat) (p : Addr) (xs : List V) (W : List (Nat × Nat)), vs = [.int n, .ref p] ∧ n ≤ 70 ∧ H p = some (.lst xs) ∧ All2 (Nd H) xs W ∧ (∀ x ∈ W, x.1 < x.2 ∧ x.2 ≤ n) ∧
  ∀ (H' : Hp) (r : Addr), Same H H' → H r = none → H' r = some (.lst ((mks n W).map V.bl)) → Q (.ref r) H'
theorem ok_law_marked {f : Addr} {fd : FuncData} (F : Fun K "_law_marked" "_law_marked" sLawMarked f fd) (z_range : mg "range" = none) : FnOk P w K mg base CX0 1 f fd ["size", "nodes"] spMarked := by
  refine F.ok scLawMarked (fun vs H Q E h => ?_) (fun cdv A outer s H vs Q E hr h => ?_)
  · obtain ⟨_, _, _, _, rfl, _⟩ := h
    rfl
  obtain ⟨n, p, xs, W, rfl, n70, hp, hx, hW, q⟩ := h
  refine ⟨_, (pss_cons (ps_set (i := 2) scLawMarked.nd rfl (Or.inl rfl) (pe_op op_rep (pe_lst (pa_cons pe_bl pa_nil)) (pv 0)))
    (pss_cons (ps_for PassesOwn.never rfl (pi_list (pv 1)) (pg_tup (by rfl) (pgs_cons (pg_name (i := 3) scLawMarked.nd rfl (Or.inl rfl)) (pgs_cons (pg_name (i := 4) scLawMarked.nd rfl (Or.inl rfl)) pgs_nil)))
    (pss_one (ps_for PassesOwn.never rfl (pi_range2 (by rfl) z_range (pa_cons (pv 3) (pa_cons (pv 4) pa_nil))) (pg_name (i := 5) scLawMarked.nd rfl (Or.inl rfl))
    (pss_one (ps_asg pe_bl (pg_sub (pv 2) (pv 5) set_list))))))
    (pss_one (ps_ret (pv 2))))), ?_⟩
  have one1 : 1 ≤ sizeLine := by decide
  refine ⟨one1, fun t0 nt0 => ⟨_, rfl, t0, (n : Int), _, rfl, rfl, upd_same, by omega, by omega, szle (by rw [Int.toNat_natCast]; simp only [List.length_cons, List.length_nil]; omega), fun fa nf => ?_⟩⟩
  have w0 := same_upd (o := .lst [.bl false]) nt0
  have e0 : (List.replicate (n : Int).toNat [V.bl false]).flatten = (mks n []).map V.bl := by
    rw [Int.toNat_natCast, List.flatten_replicate_singleton, mks_start]
  rw [e0]
  have wf := same_upd (o := .lst ((mks n []).map V.bl)) nf
  have s0 := w0.trans wf
  have hf : (upd (upd H t0 (.lst [.bl false])) fa (.lst ((mks n []).map V.bl))) fa = some (.lst ((mks n []).map V.bl)) := upd_same
  have nfH := w0.free nf
  generalize upd (upd H t0 (.lst [.bl false])) fa (.lst ((mks n []).map V.bl)) = H0 at s0 hf ⊢
  have xl := hx.len
  refine ⟨_, rfl, p, rfl, ⟨_, SqL.of (s0 _ _ hp)⟩, ?_⟩
  refine for_list (K := K) (a := p) (xs := xs) (fun i σ H' => ∃ (v3 v4 v5 : Option V), σ = [some (.int (n : Int)), some (.ref p), some (.ref fa), v3, v4, v5] ∧ Same H H' ∧ H' fa = some (.lst ((mks n (W.take i)).map V.bl)))
    ⟨none, none, none, rfl, s0, hf⟩ (fun i σ H' _ ⟨_, _, _, _, sm, _⟩ => SqL.of (sm _ _ hp)) ?_ ?_
  · rintro i v σ H1 hi ⟨v3, v4, v5, rfl, sm, hfa⟩
    obtain ⟨y, hyi, hy⟩ := hx.nth hi
    obtain ⟨y12, yn⟩ := hW y (List.mem_of_getElem? hyi)
    obtain ⟨b, e⟩ := y
    dsimp only at y12 yn
    obtain ⟨yp, rfl, hyp⟩ := hy.same sm
    refine ⟨yp, _, rfl, SqT.of hyp, rfl, _, _, rfl, _, _, rfl, rfl, ?_⟩
    rw [take_more hyi]
    refine ⟨_, rfl, _, rfl, (b : Int), (e : Int), rfl, ⟨by omega, by omega, by omega, by omega⟩, ?_⟩
    rw [show ((e : Int) - (b : Int)).toNat = e - b by omega]
    refine for_range (lo := (b : Int)) (n := e - b) (fun j σ H' => ∃ v5 : Option V, σ = [some (.int (n : Int)), some (.ref p), some (.ref fa), some (.int (b : Int)), some (.int (e : Int)), v5] ∧ Same H H' ∧ H' fa = some (.lst ((mks n (W.take i ++ [(b, b + j)])).map V.bl)))
      ⟨v5, rfl, sm, by rw [Nat.add_zero, mks_none]; exact hfa⟩ ?_ ?_
    · rintro j σ H2 hj ⟨v5, rfl, sm2, hf2⟩
      have ix : ixN ((mks n (W.take i ++ [(b, b + j)])).map V.bl).length ((b : Int) + (j : Int)) = some (b + j) := by
        rw [List.length_map, mks_len]
        unfold ixN
        rw [if_pos (by omega), if_pos (by omega)]
        congr 1
      refine ⟨_, rfl, _, rfl, fa, _, _, _, rfl, rfl, hf2, ix, ?_⟩
      rw [mks_set (by omega) (by omega)]
      exact ⟨_, rfl, fun a o k => by rw [upd_ne (ne_of_none k nfH)]; exact sm2 _ _ k, upd_same⟩
    · rintro σ H2 ⟨v5, rfl, sm2, hf2⟩
      rw [show b + (e - b) = e by omega] at hf2
      exact ⟨_, _, _, rfl, sm2, hf2⟩
  · rintro σ H1 ⟨v3, v4, v5, rfl, sm, hfa⟩
    rw [xl, List.take_length] at hfa
    exact ⟨_, rfl, q H1 fa sm nfH hfa⟩
end
end LT

namespace LT
open PySem PySem.Spec PyProof.Rows L2
theorem par_le {n B M B' M' : Nat} {x : Nat × Nat} (p : isN n (B, B + M)) (m2 : 2 ≤ M) (h : isHalfP B M x) (p' : isN n (B', B' + M')) (m2' : 2 ≤ M') (h' : isHalfP B' M' x) (k1 : B ≤ B') (k2 : B' + M' ≤ B + M) : B = B' ∧ M = M' := by
  by_cases c : ((B', B' + M') : Nat × Nat) = (B, B + M)
  · have e1 := congrArg Prod.fst c
    have e2 := congrArg Prod.snd c
    dsimp only at e1 e2
    omega
  · exfalso
    obtain ⟨a1, a2, t⟩ := isN_tree p
    rw [show B + M - B = M by omega] at t
    obtain ⟨_, hh⟩ := in_half (b := B) (m := M) (by omega) t a2 p' k1 k2 c
    have g1 := gp_lt m2
    have g3 := gp_pos M
    have g4 := gp_lt m2'
    have g5 := gp_pos M'
    dsimp only at hh
    rcases h with rfl | rfl
    · rcases h' with h' | h'
      · have e1 := congrArg Prod.fst h'
        have e2 := congrArg Prod.snd h'
        dsimp only at e1 e2
        have := hh (by omega)
        omega
      · have e1 := congrArg Prod.fst h'
        dsimp only at e1
        omega
    · rcases h' with h' | h'
      · have e1 := congrArg Prod.fst h'
        have e2 := congrArg Prod.snd h'
        dsimp only at e1 e2
        omega
      · have e1 := congrArg Prod.fst h'
        have e2 := congrArg Prod.snd h'
        dsimp only at e1 e2
        by_cases z : B' < B + gp M
        · have := hh z
          omega
        · omega
theorem half_in {B M : Nat} {x : Nat × Nat} (m2 : 2 ≤ M) (h : isHalfP B M x) : B ≤ x.1 ∧ x.1 < x.2 ∧ x.2 ≤ B + M := by
  have g1 := gp_lt m2
  have g3 := gp_pos M
  rcases h with rfl | rfl <;> dsimp only <;> omega
theorem par_unique {n B M B' M' : Nat} {x : Nat × Nat} (p : isN n (B, B + M)) (m2 : 2 ≤ M) (h : isHalfP B M x) (p' : isN n (B', B' + M')) (m2' : 2 ≤ M') (h' : isHalfP B' M' x) : B = B' ∧ M = M' := by
  have a := half_in m2 h
  have b := half_in m2' h'
  rcases nested (i := x.1) p p' (by dsimp only; omega) (by dsimp only; omega) (by dsimp only; omega) (by dsimp only; omega) with ⟨k1, k2⟩ | ⟨k1, k2⟩
  · exact par_le p m2 h p' m2' h' k1 k2
  · obtain ⟨e1, e2⟩ := par_le p' m2' h' p m2 h k1 k2
    exact ⟨e1.symm, e2.symm⟩
/-- the nodes without marks whose node above has some -/
def dueF (W : List (Nat × Nat)) (x : Tw) : Bool := match x.2 with
  | none => false
  | some y => !meets x.1 W && meets y W
theorem dueF_iff {n : Nat} (n1 : 1 ≤ n) (n70 : n ≤ 70) {W : List (Nat × Nat)} (w1 : W ≠ []) (hW : Wn n W) (x : Nat × Nat) : x ∈ ((TW n).filter (dueF W)).map (·.1) ↔ Due n W x := by
  constructor
  · intro h
    obtain ⟨⟨y, a⟩, hy, rfl⟩ := List.mem_map.mp h
    obtain ⟨h1, h2⟩ := List.mem_filter.mp hy
    obtain ⟨k1, k2⟩ := TW_mem n1 h1
    rcases k2 with k2 | ⟨B, M, e, k2, m2, hh⟩
    · cases k2
      cases h2
    · dsimp only at e k1 hh
      subst e
      have h2 : (!meets y W && meets (B, B + M) W) = true := h2
      rw [Bool.and_eq_true, Bool.not_eq_true'] at h2
      refine ⟨k1, h2.1, fun B' M' p2 m2' hh' => ?_⟩
      obtain ⟨e1, e2⟩ := par_unique k2 m2 hh p2 m2' hh'
      rw [← e1, ← e2]
      exact h2.2
  · intro d
    obtain ⟨c, hc⟩ := TW_all n1 n70 d.1
    refine List.mem_map.mpr ⟨(x, c), List.mem_filter.mpr ⟨hc, ?_⟩, rfl⟩
    obtain ⟨k1, k2⟩ := TW_mem n1 hc
    rcases k2 with k2 | ⟨B, M, e, k2, m2, hh⟩
    · exfalso
      cases k2
      obtain ⟨s, l, rfl⟩ := List.exists_cons_of_ne_nil w1
      have hs := hW s List.mem_cons_self
      have := meets_has (x := (0, n)) (S := s :: l) List.mem_cons_self (by show s.1 < n; omega) (by show 0 < s.2; omega)
      rw [d.2.1] at this
      cases this
    · dsimp only at e hh
      subst e
      show (!meets x W && meets (B, B + M) W) = true
      rw [d.2.1, d.2.2 B M k2 m2 hh]
      rfl
theorem due32_is {n : Nat} (n1 : 1 ≤ n) (n70 : n ≤ 70) {W : List (Nat × Nat)} (w1 : W ≠ []) (hW : Wn n W) : srt (((TW n).filter (dueF W)).map (·.1)) = nb n 0 (srt W) := by
  have iff := dueF_iff n1 n70 w1 hW
  have nd' : (((TW n).filter (dueF W)).map (·.1)).Nodup := (List.filter_sublist.map _).nodup (TW_nodup n1)
  refine (nb_is hW (up_of (srt_pair _) ((srt_perm _).nodup_iff.mpr nd') (fun x hx => ?_) fun x hx y hy c => ?_) fun x => srt_mem.trans (iff x)).symm
  · exact (isN_tree (n := n) (b := x.1) (e := x.2) ((iff x).mp (srt_mem.mp hx)).1).1
  · have dx := (iff x).mp (srt_mem.mp hx)
    have dy := (iff y).mp (srt_mem.mp hy)
    have x12 := (isN_tree (n := n) (b := x.1) (e := x.2) dx.1).1
    have y12 := (isN_tree (n := n) (b := y.1) (e := y.2) dy.1).1
    by_cases k : x.2 ≤ y.1 ∨ y.2 ≤ x.1
    · exact k
    · exact absurd (due_one (i := max x.1 y.1) dx dy (by omega) (by omega) (by omega) (by omega)) c
theorem cut_meets {n : Nat} {W : List (Nat × Nat)} (hW : Wn n W) {x : Nat × Nat} (h : x.1 < x.2) (k : x.2 ≤ n) : (((mks n W).drop x.1).take (x.2 - x.1)).any (fun b => b == true) = meets x W := by
  rw [Bool.eq_iff_iff, mks_cut k, meets_cov hW h]
  exact ⟨fun ⟨i, a, b, c⟩ => ⟨i, a, b, covB_iff.mp c⟩, fun ⟨i, a, b, c⟩ => ⟨i, a, b, covB_iff.mpr c⟩⟩
section
variable {P : Program} {w : World} {K : PySem.W.Frag} {mg : Str → Option Value} {base : Heap}
theorem Nd.butL {b : Addr} {H H' : Hp} {v : V} {x : Nat × Nat} {zs : List V} (h : Nd H v x) (B : But b H H') (hb : H b = some (.lst zs)) : Nd H' v x := by
  obtain ⟨p, e, hp⟩ := h
  exact ⟨p, e, B p _ (ne_of hp hb (fun z => by cases z)) hp⟩
theorem Pa.butL {b : Addr} {H H' : Hp} {v : V} {x : Tw} {zs : List V} (h : Pa H v x) (B : But b H H') (hb : H b = some (.lst zs)) : Pa H' v x := by
  obtain ⟨p, u1, u2, e, hp, h1, h2⟩ := h
  refine ⟨p, u1, u2, e, B p _ (ne_of hp hb (fun z => by cases z)) hp, h1.butL B hb, ?_⟩
  cases hx : x.2 with
  | none =>
    rw [hx] at h2
    exact h2
  | some y =>
    rw [hx] at h2
    exact Nd.butL h2 B hb
def spDueL : Sp := fun vs H Q _ => ∃ (n : Nat) (p : Addr) (xs : List V) (W : List (Nat × Nat)), vs = [.int n, .ref p] ∧ 1 ≤ n ∧ n ≤ 70 ∧ H p = some (.lst xs) ∧ All2 (Nd H) xs W ∧ W ≠ [] ∧ Wn n W ∧
  ∀ (H' : Hp) (r : Addr) (ys : List V), Same H H' → H r = none → H' r = some (.lst ys) → All2 (Nd H') ys (nb n 0 (srt W)) → Q (.ref r) H'
theorem ok_law_due {f g1 g2 : Addr} {fd d1 d2 : FuncData} (F : Fun K "_law_due" "_law_due" sLawDue f fd)
    (GLawMarked : FnOk P w K mg base CX0 1 g1 d1 ["size", "nodes"] spMarked) (ALawMarked : At K mg "_law_marked" g1 d1 ["size", "nodes"])
    (GLawTree : FnOk P w K mg base CX0 2 g2 d2 ["size"] spTreeL) (ALawTree : At K mg "_law_tree" g2 d2 ["size"]) (z_sorted : mg "sorted" = none) : FnOk P w K mg base CX0 3 f fd ["size", "nodes"] spDueL := by
  refine F.ok scLawDue (fun vs H Q E h => ?_) (fun cdv A outer s H vs Q E hr h => ?_)
  · obtain ⟨_, _, _, _, rfl, _⟩ := h
    rfl
  obtain ⟨n, p, xs, W, rfl, n1, n70, hp, hx, w1, hW, q⟩ := h
  refine ⟨_, (pss_cons (ps_set (i := 2) scLawDue.nd rfl (Or.inl rfl) (pe_call GLawMarked (hr.mono (by decide)) rfl ALawMarked.m ALawMarked.kp ALawMarked.b .nil pass0 (pa_cons (pv 0) (pa_cons (pv 1) pa_nil))))
    (pss_cons (ps_set (i := 3) scLawDue.nd rfl (Or.inl rfl) (pe_lst pa_nil))
    (pss_cons (ps_for PassesOwn.never rfl (pi_list (pe_call GLawTree (hr.mono (by decide)) rfl ALawTree.m ALawTree.kp ALawTree.b .nil pass0 (pa_cons (pv 0) pa_nil))) (pg_tup (by rfl) (pgs_cons (pg_name (i := 4) scLawDue.nd rfl (Or.inl rfl)) (pgs_cons (pg_name (i := 5) scLawDue.nd rfl (Or.inl rfl)) pgs_nil)))
    (pss_one (ps_if (PW.pt (pw_and (pt_cmpR op_notN (pv 5) pe_non (nomark _)) (pw_and (pt_cmpR (op_notInD (units1 hr)) pe_bl (pe_slice sl_list (pv 2) (po_some (pe_ix ix_tup (pv 4) pe_int (fun _ _ => rfl))) (po_some (pe_ix ix_tup (pv 4) pe_int (fun _ _ => rfl)))) (by rfl)) (pw_and1 (pt_cmpR (op_inD (units1 hr)) pe_bl (pe_slice sl_list (pv 2) (po_some (pe_ix ix_tup (pv 5) pe_int (fun _ _ => rfl))) (po_some (pe_ix ix_tup (pv 5) pe_int (fun _ _ => rfl)))) (by rfl))))))
    (pss_one (ps_expr (pe_bm PySem.F.plainAttrs_list PySem.F.slot_list_append PySem.F.type_list_append mt_append (pv 3) (pa_cons (pv 4) pa_nil))))
    pss_nil)))
    (pss_one (ps_ret (pe_callB cr_sortedPO (by rfl) z_sorted (by decide +kernel) (pa_cons (pv 3) pa_nil))))))), ?_⟩
  refine ⟨_, rfl, _, rfl, n, p, xs, W, rfl, n70, hp, hx, hW, fun H1 mr s1 nmr hmr => ?_⟩
  refine ⟨Nat.zero_le _, fun fa nf => ?_⟩
  have wf := same_upd (o := .lst []) nf
  have hf : (upd H1 fa (.lst [])) fa = some (.lst []) := upd_same
  have s2 := s1.trans wf
  have hmr2 := wf _ _ hmr
  have nfH := s1.free nf
  generalize upd H1 fa (.lst []) = H2 at hf s2 hmr2 ⊢
  refine ⟨_, rfl, n, rfl, n1, n70, fun H3 tr ts s3 ntr htr hts => ?_⟩
  have s03 := s2.trans s3
  have hf3 := s3 _ _ hf
  have hmr3 := s3 _ _ hmr2
  have tl := hts.len
  have Tl := TW_len n1
  refine ⟨tr, rfl, ⟨_, SqL.of htr⟩, ?_⟩
  have trf : tr ≠ fa := fun z => by rw [z, hf] at ntr; cases ntr
  have mrf : mr ≠ fa := ne_of_none hmr nf
  refine for_list (K := K) (a := tr) (xs := ts) (fun i σ H' => ∃ (v4 v5 : Option V) (zs : List V), σ = [some (.int (n : Int)), some (.ref p), some (.ref mr), some (.ref fa), v4, v5] ∧ Same H H' ∧ But fa H3 H' ∧ H' fa = some (.lst zs) ∧ All2 (Nd H') zs ((((TW n).take i).filter (dueF W)).map (·.1)))
    ⟨none, none, [], rfl, s03, But.refl _ _, hf3, .nil⟩ (fun i σ H' _ ⟨_, _, _, _, _, B, _⟩ => SqL.of (B _ _ trf htr)) ?_ ?_
  · rintro i v σ H4 hi ⟨v4, v5, zs, rfl, sm, B4, hf4, hz⟩
    obtain ⟨⟨y, a⟩, hyi, hy⟩ := hts.nth hi
    have il := (List.getElem?_eq_some_iff.mp hyi).1
    have hyT := List.mem_of_getElem? hyi
    obtain ⟨yN, yk⟩ := TW_mem n1 hyT
    obtain ⟨tp, u1, u2, rfl, htp, hu1, hu2⟩ := hy.butL B4 hf3
    have hmr4 := B4 _ _ mrf hmr3
    have zl := hz.len
    have z200 : zs.length ≤ 200 := by
      have := List.length_filter_le (dueF W) ((TW n).take i)
      rw [zl, List.length_map]
      rw [List.length_take] at this
      omega
    refine ⟨tp, _, rfl, SqT.of htp, rfl, _, _, rfl, _, _, rfl, rfl, ?_⟩
    rw [take_more hyi, List.filter_append, List.map_append]
    have cutm : ∀ (x1 x2 : Nat), cutV ((mks n W).map V.bl) (some (x1 : Int)) (some (x2 : Int)) = (((mks n W).drop x1).take (x2 - x1)).map V.bl := fun x1 x2 => by
      rw [cut_mid, List.map_take, List.map_drop]
    have skip : dueF W (y, a) = false → ∀ (H5 : Hp), Same H4 H5 → ∃ (v4 v5 : Option V) (zs : List V), [some (.int (n : Int)), some (.ref p), some (.ref mr), some (.ref fa), some u1, some u2] = [some (.int (n : Int)), some (.ref p), some (.ref mr), some (.ref fa), v4, v5] ∧ Same H H5 ∧ But fa H3 H5 ∧ H5 fa = some (.lst zs) ∧ All2 (Nd H5) zs ((((TW n).take i).filter (dueF W)).map (·.1) ++ ([(y, a)].filter (dueF W)).map (·.1)) := fun hd H5 s5 => by
      refine ⟨_, _, zs, rfl, sm.trans s5, B4.trans (But.of s5), s5 _ _ hf4, ?_⟩
      rw [List.filter_cons_of_neg (by rw [hd]; decide)]
      simp only [List.filter_nil, List.map_nil, List.append_nil]
      exact hz.mono fun v x (k : Nd H4 v x) => k.same s5
    cases a with
    | none =>
      have e : u2 = .non := hu2
      subst e
      exact ⟨_, rfl, rfl, false, rfl, skip rfl H4 (Same.refl H4)⟩
    | some z =>
      obtain ⟨z1, z2⟩ := z
      obtain ⟨y1, y2⟩ := y
      obtain ⟨up, rfl, hup⟩ := hu1
      obtain ⟨zp, rfl, hzp⟩ := (hu2 : Nd H4 u2 (z1, z2))
      have zN : isN n (z1, z2) := by
        rcases yk with e | ⟨B, M, e, k, _⟩
        · cases e
        · cases e
          exact k
      obtain ⟨y12, yn, _⟩ := isN_tree yN
      obtain ⟨z12, zn, _⟩ := isN_tree zN
      have y0 : atI [V.int (y1 : Int), V.int (y2 : Int)] 0 = some (.int (y1 : Int)) := atI_nat (j := 0) rfl
      have y1' : atI [V.int (y1 : Int), V.int (y2 : Int)] 1 = some (.int (y2 : Int)) := atI_nat (j := 1) rfl
      have z0 : atI [V.int (z1 : Int), V.int (z2 : Int)] 0 = some (.int (z1 : Int)) := atI_nat (j := 0) rfl
      have z1' : atI [V.int (z1 : Int), V.int (z2 : Int)] 1 = some (.int (z2 : Int)) := atI_nat (j := 1) rfl
      refine ⟨_, rfl, rfl, true, rfl, ?_⟩
      refine ⟨_, rfl, _, rfl, up, _, _, _, rfl, rfl, SqT.of hup, y0, (y1 : Int), rfl, _, rfl, up, _, _, _, rfl, rfl, SqT.of hup, y1', (y2 : Int), rfl, mr, _, rfl, SqL.of hmr4, fun c nc => ?_⟩
      rw [cutm]
      have wc := same_upd (o := .lst ((((mks n W).drop y1).take (y2 - y1)).map V.bl)) nc
      refine ⟨.bool true, (((mks n W).drop y1).take (y2 - y1)).map PyData.bool, .bl true, .lst (SqL.of upd_same) (bools_dp _), bool_shaped true, bools_shaped _, ?_⟩
      rw [bools_in, cut_meets (x := (y1, y2)) hW y12 yn]
      generalize upd H4 c (.lst ((((mks n W).drop y1).take (y2 - y1)).map V.bl)) = H5 at wc ⊢
      have hd : dueF W ((y1, y2), some (z1, z2)) = (!meets (y1, y2) W && meets (z1, z2) W) := rfl
      cases hm : meets (y1, y2) W with
      | true =>
        refine ⟨false, rfl, skip (by rw [hd, hm]; rfl) H5 wc⟩
      | false =>
        refine ⟨true, rfl, ?_⟩
        refine ⟨_, rfl, _, rfl, zp, _, _, _, rfl, rfl, SqT.of (wc _ _ hzp), z0, (z1 : Int), rfl, _, rfl, zp, _, _, _, rfl, rfl, SqT.of (wc _ _ hzp), z1', (z2 : Int), rfl, mr, _, rfl, SqL.of (wc _ _ hmr4), fun c2 nc2 => ?_⟩
        rw [cutm]
        have wc2 := same_upd (o := .lst ((((mks n W).drop z1).take (z2 - z1)).map V.bl)) nc2
        refine ⟨.bool true, (((mks n W).drop z1).take (z2 - z1)).map PyData.bool, .bl true, .lst (SqL.of upd_same) (bools_dp _), bool_shaped true, bools_shaped _, ?_⟩
        rw [bools_in, cut_meets (x := (z1, z2)) hW z12 zn]
        have s6 := wc.trans wc2
        generalize upd H5 c2 (.lst ((((mks n W).drop z1).take (z2 - z1)).map V.bl)) = H6 at s6 ⊢
        cases hm2 : meets (z1, z2) W with
        | false => exact ⟨false, rfl, skip (by rw [hd, hm, hm2]; rfl) H6 s6⟩
        | true =>
          refine ⟨true, rfl, ?_⟩
          have hf6 := s6 _ _ hf4
          refine ⟨_, rfl, .inl ⟨rfl, _, SqL.of hf6⟩, _, rfl, fa, _, _, rfl, rfl, hf6, szlt (by omega), ?_⟩
          refine ⟨_, _, zs ++ [.ref up], rfl, fun a o k => by rw [upd_ne (ne_of_none k nfH)]; exact s6 _ _ (sm _ _ k), (B4.trans (But.of s6)).trans fun a o na k => by rw [upd_ne na]; exact k, upd_same, ?_⟩
          rw [List.filter_cons_of_pos (by rw [hd, hm, hm2]; rfl)]
          refine (hz.mono fun v x (k : Nd H4 v x) => (k.same s6).upd hf6).app (.cons ?_ .nil)
          exact Nd.upd (xs := zs) ⟨up, rfl, s6 _ _ hup⟩ hf6
  · rintro σ H4 ⟨v4, v5, zs, rfl, sm, B4, hf4, hz⟩
    rw [tl, List.take_length] at hz
    refine ⟨_, rfl, fa, zs, kOf H4, rfl, SqL.of hf4, fun x hx => ?_, fun ys r srtd stb nr => ?_⟩
    · obtain ⟨z, _, pz, e, hz'⟩ := hz.mem hx
      refine ⟨pz, e, ?_⟩
      rw [kOf_nd ⟨pz, e, hz'⟩]
      exact hz'
    · have wr := same_upd (o := .lst ys) nr
      have hy := sorted_srt hz srtd stb.perm
      rw [due32_is n1 n70 w1 hW] at hy
      exact q _ r ys (sm.trans wr) (sm.free nr) upd_same (hy.mono fun v x (k : Nd H4 v x) => k.same wr)
end
end LT

namespace LT
open PySem PySem.Spec PyProof.Rows L2
theorem lies_iff {n : Nat} {W : List (Nat × Nat)} (hW : Wn n W) {x : Nat × Nat} (hx : x.1 < x.2) : lies x (jn (srt W)) = true ↔ ∀ i, x.1 ≤ i → i < x.2 → cov W i := by
  constructor
  · intro h i h1 h2
    obtain ⟨s, hs, k⟩ := List.any_eq_true.mp h
    rw [Bool.and_eq_true, decide_eq_true_eq, decide_eq_true_eq] at k
    obtain ⟨y, hy, y1, y2⟩ := jn_in hs (i := i) (by omega) (by omega)
    exact ⟨y, srt_mem.mp hy, y1, y2⟩
  · exact lies_cov hW hx
theorem cut_lies {n : Nat} {W : List (Nat × Nat)} (hW : Wn n W) {x : Nat × Nat} (h : x.1 < x.2) (k : x.2 ≤ n) : (!(((mks n W).drop x.1).take (x.2 - x.1)).any (fun b => b == false)) = lies x (jn (srt W)) := by
  rw [Bool.eq_iff_iff, lies_iff hW h, Bool.not_eq_true', Bool.eq_false_iff, Ne, mks_cut k]
  constructor
  · intro z i h1 h2
    cases c : covB W i with
    | true => exact covB_iff.mp c
    | false => exact absurd ⟨i, h1, h2, c⟩ z
  · rintro z ⟨i, h1, h2, c⟩
    rw [covB_iff.mpr (z i h1 h2)] at c
    cases c
section
variable {P : Program} {w : World} {K : PySem.W.Frag} {mg : Str → Option Value} {base : Heap}
def spNeedlL : Sp := fun vs H Q _ => ∃ (n : Nat) (p : Addr) (xs : List V) (W : List (Nat × Nat)), vs = [.int n, .ref p] ∧ n ≤ 70 ∧ H p = some (.lst xs) ∧ All2 (Nd H) xs W ∧ W.length ≤ 60 ∧ Wn n W ∧
  ∀ (H' : Hp) (r : Addr), Same H H' → H r = none → H' r = some (.lst ((ndl W W.length).map fun i : Nat => V.int (i : Int))) → Q (.ref r) H'
theorem ok_law_needless {f g1 : Addr} {fd d1 : FuncData} (F : Fun K "_law_needless" "_law_needless" sLawNeedless f fd) (GLawMarked : FnOk P w K mg base CX0 1 g1 d1 ["size", "nodes"] spMarked) (ALawMarked : At K mg "_law_marked" g1 d1 ["size", "nodes"])
    (z_enumerate : mg "enumerate" = none) : FnOk P w K mg base CX0 2 f fd ["size", "nodes"] spNeedlL := by
  refine F.ok scLawNeedless (fun vs H Q E h => ?_) (fun cdv A outer s H vs Q E hr h => ?_)
  · obtain ⟨_, _, _, _, rfl, _⟩ := h
    rfl
  obtain ⟨n, p, xs, W, rfl, n70, hp, hx, w60, hW, q⟩ := h
  refine ⟨_, (pss_cons (ps_set (i := 2) scLawNeedless.nd rfl (Or.inl rfl) (pe_lst pa_nil))
    (pss_cons (ps_for PassesOwn.never rfl (pi_enum (by rfl) z_enumerate (pa_cons (pv 1) pa_nil)) (pg_tup (by rfl) (pgs_cons (pg_name (i := 3) scLawNeedless.nd rfl (Or.inl rfl)) (pgs_cons (pg_name (i := 4) scLawNeedless.nd rfl (Or.inl rfl)) pgs_nil)))
    (pss_cons (ps_set (i := 5) scLawNeedless.nd rfl (Or.inl rfl) (pe_call GLawMarked (hr.mono (by decide)) rfl ALawMarked.m ALawMarked.kp ALawMarked.b .nil pass0 (pa_cons (pv 0) (pa_cons (pe_op op_cat (pe_slice sl_list (pv 1) po_none (po_some (pv 3))) (pe_slice sl_list (pv 1) (po_some (pe_op op_add (pv 3) pe_int)) po_none)) pa_nil))))
    (pss_one (ps_if (pt_cmpR (op_notInD (units1 hr)) pe_bl (pe_slice sl_list (pv 5) (po_some (pe_ix ix_tup (pv 4) pe_int (fun _ _ => rfl))) (po_some (pe_ix ix_tup (pv 4) pe_int (fun _ _ => rfl)))) (by rfl))
    (pss_one (ps_expr (pe_bm PySem.F.plainAttrs_list PySem.F.slot_list_append PySem.F.type_list_append mt_append (pv 2) (pa_cons (pv 3) pa_nil))))
    pss_nil))))
    (pss_one (ps_ret (pv 2))))), ?_⟩
  refine ⟨Nat.zero_le _, fun fa nf => ?_⟩
  have s2 := same_upd (o := .lst []) nf
  have hf : (upd H fa (.lst [])) fa = some (.lst []) := upd_same
  have nfH := nf
  generalize upd H fa (.lst []) = H2 at hf s2 ⊢
  have hp2 := s2 _ _ hp
  have xl := hx.len
  refine ⟨_, rfl, p, xs, rfl, SqL.of hp2, ?_⟩
  refine for_enum (a := p) (xs := xs) (fun i σ H' => ∃ (v3 v4 v5 : Option V), σ = [some (.int (n : Int)), some (.ref p), some (.ref fa), v3, v4, v5] ∧ Same H H' ∧ H' fa = some (.lst ((ndl W i).map fun i : Nat => V.int (i : Int))))
    ⟨none, none, none, rfl, s2, hf⟩ (fun i σ H' _ ⟨_, _, _, _, sm, _⟩ => SqL.of (sm _ _ hp)) ?_ ?_
  · rintro i x σ H3 T hi ⟨v3, v4, v5, rfl, sm, hfa⟩ nT
    obtain ⟨y, hyi, hy⟩ := hx.nth hi
    have il : i < W.length := (List.getElem?_eq_some_iff.mp hyi).1
    have sT := same_upd (o := .tup [.int ((i : Nat) : Int), x]) nT
    have s13 := sm.trans sT
    have hfT := sT _ _ hfa
    have hTT : (upd H3 T (.tup [.int ((i : Nat) : Int), x])) T = some (.tup [.int ((i : Nat) : Int), x]) := upd_same
    generalize upd H3 T (.tup [.int ((i : Nat) : Int), x]) = H4 at sT s13 hfT hTT ⊢
    have hp4 := s13 _ _ hp
    refine ⟨T, _, rfl, SqT.of hTT, rfl, _, _, rfl, _, _, rfl, rfl, ?_⟩
    refine ⟨_, rfl, _, rfl, _, rfl, (i : Int), rfl, p, _, rfl, SqL.of hp4, fun c nc => ?_⟩
    rw [cut_take]
    have wc := same_upd (o := .lst (xs.take i)) nc
    have hc := upd_same (H := H4) (a := c) (o := .lst (xs.take i))
    have hfc := wc _ _ hfT
    have sc := s13.trans wc
    generalize upd H4 c (.lst (xs.take i)) = H5 at wc hc hfc sc ⊢
    refine ⟨_, rfl, _, rfl, _, _, rfl, rfl, ((i + 1 : Nat) : Int), congrArg V.int (by omega), p, _, rfl, SqL.of (sc _ _ hp), fun c2 nc2 => ?_⟩
    rw [cut_drop]
    have wc2 := same_upd (o := .lst (xs.drop (i + 1))) nc2
    refine ⟨c, c2, _, _, rfl, rfl, wc2 _ _ hc, upd_same, szle (by rw [List.length_take, List.length_drop, xl]; omega), fun r nr => ?_⟩
    have wr := same_upd (o := .lst (xs.take i ++ xs.drop (i + 1))) nr
    have hr6 : (upd (upd H5 c2 (.lst (xs.drop (i + 1)))) r (.lst (xs.take i ++ xs.drop (i + 1)))) r = some (.lst (xs.take i ++ xs.drop (i + 1))) := upd_same
    have s6 := sc.trans (wc2.trans wr)
    have hf6 := (wc2.trans wr) _ _ hfc
    generalize upd (upd H5 c2 (.lst (xs.drop (i + 1)))) r (.lst (xs.take i ++ xs.drop (i + 1))) = H6 at hr6 s6 hf6 ⊢
    have hx6 := hx.mono fun v x (k : Nd H v x) => k.same s6
    have hW6 : Wn n (W.take i ++ W.drop (i + 1)) := Wn.app (fun z hz => hW z (List.mem_of_mem_take hz)) (fun z hz => hW z (List.mem_of_mem_drop hz))
    refine ⟨n, r, _, W.take i ++ W.drop (i + 1), rfl, n70, hr6, (hx6.takeN i).app (hx6.dropN (i + 1)), hW6, fun H7 m7 s7 nm7 hm7 => ?_⟩
    obtain ⟨y12, yn⟩ := hW y (List.mem_of_getElem? hyi)
    obtain ⟨y1, y2⟩ := y
    obtain ⟨yp, rfl, hyp⟩ := (hy.same s6).same s7
    have y0 : atI [V.int (y1 : Int), V.int (y2 : Int)] 0 = some (.int (y1 : Int)) := atI_nat (j := 0) rfl
    have y1' : atI [V.int (y1 : Int), V.int (y2 : Int)] 1 = some (.int (y2 : Int)) := atI_nat (j := 1) rfl
    have cutm : cutV ((mks n (W.take i ++ W.drop (i + 1))).map V.bl) (some (y1 : Int)) (some (y2 : Int)) = (((mks n (W.take i ++ W.drop (i + 1))).drop y1).take (y2 - y1)).map V.bl := by
      rw [cut_mid, List.map_take, List.map_drop]
    refine ⟨_, rfl, _, rfl, yp, _, _, _, rfl, rfl, SqT.of hyp, y0, (y1 : Int), rfl, _, rfl, yp, _, _, _, rfl, rfl, SqT.of hyp, y1', (y2 : Int), rfl, m7, _, rfl, SqL.of hm7, fun c3 nc3 => ?_⟩
    rw [cutm]
    have wc3 := same_upd (o := .lst ((((mks n (W.take i ++ W.drop (i + 1))).drop y1).take (y2 - y1)).map V.bl)) nc3
    refine ⟨.bool false, (((mks n (W.take i ++ W.drop (i + 1))).drop y1).take (y2 - y1)).map PyData.bool, .bl false, .lst (SqL.of upd_same) (bools_dp _), bool_shaped false, bools_shaped _, ?_⟩
    rw [bools_in, cut_lies (x := (y1, y2)) hW6 y12 yn]
    have hf8 := (s7.trans wc3) _ _ hf6
    have sE := s6.trans (s7.trans wc3)
    generalize upd H7 c3 (.lst ((((mks n (W.take i ++ W.drop (i + 1))).drop y1).take (y2 - y1)).map V.bl)) = H8 at hf8 sE ⊢
    have nm := ndl_more W i
    rw [getD_at hyi] at nm
    refine ⟨_, rfl, ite2 (fun c => ?_) (fun c => ?_)⟩
    · rw [if_pos c] at nm
      refine ⟨_, rfl, .inl ⟨rfl, _, SqL.of hf8⟩, _, rfl, fa, _, _, rfl, rfl, hf8, szlt (by rw [List.length_map]; have := ndl_len W i; omega), ?_⟩
      refine ⟨_, _, _, rfl, fun u o k => by rw [upd_ne (ne_of_none k nfH)]; exact sE _ _ k, ?_⟩
      rw [nm, List.map_append]
      exact upd_same
    · rw [if_neg c, List.append_nil] at nm
      refine ⟨_, _, _, rfl, sE, ?_⟩
      rw [nm]
      exact hf8
  · rintro σ H3 ⟨v3, v4, v5, rfl, sm, hfa⟩
    rw [xl] at hfa
    exact ⟨_, rfl, q H3 fa sm nfH hfa⟩
end
end LT

namespace LT
open PySem PySem.Spec PyProof.Rows L2
theorem pig {α β : Type} [DecidableEq β] (R : α → β → Prop) : ∀ (D : List α) (F : List β), D.Nodup → (∀ d ∈ D, ∃ f ∈ F, R d f) → (∀ d ∈ D, ∀ d' ∈ D, ∀ f ∈ F, R d f → R d' f → d = d') → F.length ≤ D.length →
    (∀ f ∈ F, ∃ d ∈ D, R d f) ∧ ∀ d ∈ D, ∀ f ∈ F, ∀ f' ∈ F, R d f → R d f' → f = f'
  | [], F, _, _, _, h4 => by
    have : F = [] := List.eq_nil_of_length_eq_zero (by simp only [List.length_nil] at h4; omega)
    subst this
    exact ⟨fun f hf => absurd hf List.not_mem_nil, fun d hd => absurd hd List.not_mem_nil⟩
  | d :: D, F, h1, h2, h3, h4 => by
    obtain ⟨nd1, nd2⟩ := List.nodup_cons.mp h1
    obtain ⟨f0, hf0, r0⟩ := h2 d List.mem_cons_self
    have ne0 : ∀ d' ∈ D, ∀ f ∈ F, R d' f → f ≠ f0 := fun d' hd' f hf r z => by
      subst z
      have := h3 d List.mem_cons_self d' (List.mem_cons_of_mem _ hd') f hf r0 r
      subst this
      exact nd1 hd'
    have el := List.length_erase_of_mem hf0
    rw [List.length_cons] at h4
    obtain ⟨k1, k2⟩ := pig R D (F.erase f0) nd2 (fun d' hd' => by
      obtain ⟨f, hf, r⟩ := h2 d' (List.mem_cons_of_mem _ hd')
      exact ⟨f, (List.mem_erase_of_ne (ne0 d' hd' f hf r)).mpr hf, r⟩)
      (fun a ha b hb f hf => h3 a (List.mem_cons_of_mem _ ha) b (List.mem_cons_of_mem _ hb) f (List.mem_of_mem_erase hf)) (by omega)
    have only : ∀ f ∈ F, R d f → f = f0 := fun f hf r => by
      by_cases c : f = f0
      · exact c
      · exfalso
        obtain ⟨d', hd', r'⟩ := k1 f ((List.mem_erase_of_ne c).mpr hf)
        have := h3 d List.mem_cons_self d' (List.mem_cons_of_mem _ hd') f hf r r'
        subst this
        exact nd1 hd'
    refine ⟨fun f hf => ?_, fun a ha f hf f' hf' r r' => ?_⟩
    · by_cases c : f = f0
      · subst c
        exact ⟨d, List.mem_cons_self, r0⟩
      · obtain ⟨d', hd', r'⟩ := k1 f ((List.mem_erase_of_ne c).mpr hf)
        exact ⟨d', List.mem_cons_of_mem _ hd', r'⟩
    · rcases List.mem_cons.mp ha with e | ha
      · subst e
        rw [only f hf r, only f' hf' r']
      · exact k2 a ha f ((List.mem_erase_of_ne (ne0 a ha f hf r)).mpr hf) f' ((List.mem_erase_of_ne (ne0 a ha f' hf' r')).mpr hf') r r'
/-- no fewer nodes give the root -/
theorem fewest {n : Nat} {W F : List (Nat × Nat)} (hW : ∀ x ∈ W, isN n x) (hF : ∀ x ∈ F, isN n x ∧ meets x W = false) (nd' : F.Nodup) (hl : F.length ≤ (nb n 0 (srt W)).length) (hc : ∀ i, i < n → cov (W ++ F) i) : srt F = nb n 0 (srt W) := by
  have wW : Wn n W := nodes_wn hW
  have Dm := nb_iff wW
  have Dup := nb_up (n := n) (srt W) 0 wW.srt (Nat.zero_le _)
  have Dc : ∀ i, i < n → ¬ cov W i → ∃ y ∈ nb n 0 (srt W), y.1 ≤ i ∧ i < y.2 := fun i hi c => nb_cov (srt W) 0 i wW.srt (Nat.zero_le _) hi fun s hs k => c ⟨s, srt_mem.mp hs, k⟩
  have is : ∀ l, Up 0 l → (∀ x, x ∈ l ↔ Due n W x) → nb n 0 (srt W) = l := fun l hu h => nb_is wW hu h
  generalize nb n 0 (srt W) = D at Dm Dup Dc hl is ⊢
  have pos : ∀ {x : Nat × Nat}, isN n x → x.1 < x.2 ∧ x.2 ≤ n := fun {x} h => by
    obtain ⟨a, b, _⟩ := isN_tree (n := n) (b := x.1) (e := x.2) h
    exact ⟨a, b⟩
  have noW : ∀ {x : Nat × Nat} {i : Nat}, meets x W = false → x.1 ≤ i → i < x.2 → ¬ cov W i := fun {x i} h a b ⟨s, hs, c, d⟩ => by
    have := meets_has (x := x) hs (by omega) (by omega)
    rw [h] at this
    cases this
  have fin : ∀ f ∈ F, ∀ d ∈ D, ∀ i, f.1 ≤ i → i < f.2 → d.1 ≤ i → i < d.2 → d.1 ≤ f.1 ∧ f.2 ≤ d.2 := fun f hf d hd i a1 a2 b1 b2 => by
    obtain ⟨fN, fm⟩ := hF f hf
    have dd := (Dm d).mp hd
    rcases nested dd.1 fN b1 b2 a1 a2 with k | ⟨k1, k2⟩
    · exact k
    · by_cases c : d = f
      · rw [c]; exact ⟨Nat.le_refl _, Nat.le_refl _⟩
      · exfalso
        obtain ⟨B, M, r1, r2, r3, r4, r5⟩ := par_in2 dd.1 fN k1 k2 c
        have := dd.2.2 B M r1 r2 r3
        rw [meets_sub (x := (B, B + M)) (y := f) r4 r5 fm] at this
        cases this
  have hasD : ∀ f ∈ F, ∃ d ∈ D, d.1 ≤ f.1 ∧ f.2 ≤ d.2 := fun f hf => by
    obtain ⟨fN, fm⟩ := hF f hf
    obtain ⟨f12, fn⟩ := pos fN
    obtain ⟨d, hd, k1, k2⟩ := Dc f.1 (by omega) (noW fm (Nat.le_refl _) f12)
    exact ⟨d, hd, fin f hf d hd f.1 (Nat.le_refl _) f12 k1 k2⟩
  have covF : ∀ d ∈ D, ∀ i, d.1 ≤ i → i < d.2 → ∃ f ∈ F, f.1 ≤ i ∧ i < f.2 := fun d hd i a b => by
    have dd := (Dm d).mp hd
    obtain ⟨d12, dn⟩ := pos dd.1
    rcases cov_app.mp (hc i (by omega)) with k | k
    · exact absurd k (noW dd.2.1 a b)
    · exact k
  obtain ⟨p1, p2⟩ := pig (fun (d f : Nat × Nat) => f.1 ≤ d.1 ∧ d.1 < f.2) D F (by
      have := Dup.pair
      have m := Dup.mem
      refine List.Pairwise.imp_of_mem (fun {x y} hx hy h e => ?_) this
      subst e
      have := (m x hx).2
      omega)
    (fun d hd => by
      have d12 := (pos ((Dm d).mp hd).1).1
      exact covF d hd d.1 (Nat.le_refl _) d12)
    (fun d hd d' hd' f hf a b => by
      obtain ⟨e, he, k1, k2⟩ := hasD f hf
      have d12 := (pos ((Dm d).mp hd).1).1
      have d12' := (pos ((Dm d').mp hd').1).1
      rw [due_one (i := d.1) ((Dm d).mp hd) ((Dm e).mp he) (Nat.le_refl _) d12 (by omega) (by omega), due_one (i := d'.1) ((Dm d').mp hd') ((Dm e).mp he) (Nat.le_refl _) d12' (by omega) (by omega)]) hl
  have same : ∀ f ∈ F, ∀ d ∈ D, f.1 ≤ d.1 → d.1 < f.2 → f = d := fun f hf d hd a b => by
    have dd := (Dm d).mp hd
    have d12 := (pos dd.1).1
    obtain ⟨k1, k2⟩ := fin f hf d hd d.1 a b (Nat.le_refl _) d12
    obtain ⟨f', hf', c1, c2⟩ := covF d hd (d.2 - 1) (by omega) (by omega)
    obtain ⟨d1, hd1, e1, e2⟩ := p1 f' hf'
    obtain ⟨m1, m2⟩ := fin f' hf' d hd (d.2 - 1) c1 c2 (by omega) (by omega)
    have d112 := (pos ((Dm d1).mp hd1).1).1
    have ed : d1 = d := due_one (i := d1.1) ((Dm d1).mp hd1) dd (Nat.le_refl _) d112 (by omega) (by omega)
    rw [ed] at e1 e2
    have ef := p2 d hd f hf f' hf' ⟨a, b⟩ ⟨e1, e2⟩
    rw [← ef] at c1 c2
    exact Prod.ext (by omega) (by omega)
  have mem : ∀ x, x ∈ F ↔ x ∈ D := fun x => by
    constructor
    · intro hx
      obtain ⟨d, hd, a, b⟩ := p1 x hx
      rw [same x hx d hd a b]
      exact hd
    · intro hx
      have x12 := (pos ((Dm x).mp hx).1).1
      obtain ⟨f, hf, a, b⟩ := covF x hx x.1 (Nat.le_refl _) x12
      rw [← same f hf x hx a b]
      exact hf
  refine (is (srt F) (up_of (srt_pair _) ((srt_perm _).nodup_iff.mpr nd') (fun x hx => (pos (hF x (srt_mem.mp hx)).1).1) fun x hx y hy c => ?_) fun x => srt_mem.trans ((mem x).trans (Dm x))).symm
  have dx := (Dm x).mp ((mem x).mp (srt_mem.mp hx))
  have dy := (Dm y).mp ((mem y).mp (srt_mem.mp hy))
  have x12 := (pos dx.1).1
  have y12 := (pos dy.1).1
  by_cases k : x.2 ≤ y.1 ∨ y.2 ≤ x.1
  · exact k
  · exact absurd (due_one (i := max x.1 y.1) dx dy (by omega) (by omega) (by omega) (by omega)) c
end LT

namespace LT
open PySem PySem.Spec PyProof.Rows L2
section
variable {X : Cx} {s : Shared} {H : Hp} {sc : Scope} {ce : Env} {fp : List Addr}
theorem sl_listB : SlR (X.blk s H sc ce fp) (rSlL X.K) := sl_list (X := X.blk s H sc ce fp)
theorem sl_tupB : SlR (X.blk s H sc ce fp) (rSlT X.K) := sl_tup (X := X.blk s H sc ce fp)
end
end LT

namespace LT
open PySem PySem.Spec PyProof.Rows L2
theorem BagAt.tup {H : Hp} {b p : Addr} {xs : List V} (h : BagAt H b) (e : H p = some (.tup xs)) : p ≠ b := fun z => by
  obtain ⟨_, _, _, k⟩ := h
  rw [← z, e] at k
  cases k
theorem Nd.but {b : Addr} {H H' : Hp} {v : V} {x : Nat × Nat} (h : Nd H v x) (B : But b H H') (hb : BagAt H b) : Nd H' v x := by
  obtain ⟨p, e, hp⟩ := h
  exact ⟨p, e, B p _ (hb.tup hp) hp⟩
theorem But.at {b p : Addr} {o : HO} {H H' : Hp} (B : But b H H') (n : p ≠ b) (h : H p = some o) : H' p = some o := B p o n h
theorem TW_len1 {n : Nat} : 1 ≤ (TW n).length := by
  unfold TW twF
  rw [List.length_cons]
  omega
section
variable {P : Program} {w : World} {K : PySem.W.Frag} {mg : Str → Option Value} {base : Heap}
def spFewest : Sp := fun vs H Q _ => ∃ (bg : Addr), vs = [.ref bg] ∧ BagAt H bg ∧ ∀ H', But bg H H' → BagAt H' bg → Q (.bl true) H'
theorem ok_law_fewest {f g1 g2 g3 g4 g5 : Addr} {fd d1 d2 d3 d4 d5 : FuncData} (F : Fun K "_law_fewest_right" "_law_fewest_right" sLawFewestRight f fd)
    (GLawPick : FnOk P w K mg base CX0 1 g1 d1 ["bag", "many"] spPick) (ALawPick : At K mg "_law_pick" g1 d1 ["bag", "many"])
    (GLawTree : FnOk P w K mg base CX0 2 g2 d2 ["size"] spTreeL) (ALawTree : At K mg "_law_tree" g2 d2 ["size"])
    (GLawMarked : FnOk P w K mg base CX0 1 g3 d3 ["size", "nodes"] spMarked) (ALawMarked : At K mg "_law_marked" g3 d3 ["size", "nodes"])
    (GMissing : FnOk P w K mg base CX0 6 g4 d4 ["size", "nodes"] spMissing) (AMissing : At K mg "missing" g4 d4 ["size", "nodes"])
    (GGivesRoot : FnOk P w K mg base CX0 6 g5 d5 ["size", "nodes"] spGives) (AGivesRoot : At K mg "gives_root" g5 d5 ["size", "nodes"])
    (z_range : mg "range" = none) (z_len : mg "len" = none) (z_enumerate : mg "enumerate" = none) (z_sorted : mg "sorted" = none) : FnOk P w K mg base CX0 7 f fd ["bag"] spFewest := by
  refine F.ok scLawFewestRight (fun vs H Q E h => ?_) (fun cdv A outer s H vs Q E hr h => ?_)
  · obtain ⟨_, rfl, _⟩ := h
    rfl
  obtain ⟨bg, rfl, hb, q⟩ := h
  refine' ⟨_, (pss_cons (ps_set (i := 1) scLawFewestRight.nd rfl (Or.inl rfl) (pe_op op_add pe_int (pe_call GLawPick (hr.mono (by decide)) rfl ALawPick.m ALawPick.kp ALawPick.b .nil pass0 (pa_cons (pv 0) (pa_cons pe_int pa_nil)))))
    (pss_cons (ps_set (i := 2) scLawFewestRight.nd rfl (Or.inr rfl) (pe_lc (own := [("node", 9), ("above", 10)]) rfl scLawFewestRight.nd (pi_list (pe_call GLawTree (hr.mono (by decide)) rfl ALawTree.m ALawTree.kp ALawTree.b .nil pass0 (pa_cons (pv 1) pa_nil))) (blkOk_by (N := ["bag", "size", "some", "nodes", "marked", "due", "free", "way", "found", "node", "above", "turn", "spot"]) (sc := defScope sLawFewestRight) (by decide +kernel)) (fun _ _ _ _ _ => (pg_tupB (n := 2) rfl (pgs_cons (pg_name (i := 9) scLawFewestRight.nd rfl (Or.inl rfl)) (pgs_cons (pg_name (i := 10) scLawFewestRight.nd rfl (Or.inl rfl)) pgs_nil)))) (fun _ _ _ _ _ => pts_nil) (fun _ _ _ _ _ => (pv 9))))
    (pss_cons ?cc1
    (pss_cons (ps_asg (pe_tup (pa_cons (pe_call GLawMarked (hr.mono (by decide)) rfl ALawMarked.m ALawMarked.kp ALawMarked.b .nil pass0 (pa_cons (pv 1) (pa_cons (pv 3) pa_nil))) (pa_cons (pe_call GMissing (hr.mono (by decide)) rfl AMissing.m AMissing.kp AMissing.b .nil pass0 (pa_cons (pv 1) (pa_cons (pv 3) pa_nil))) pa_nil))) (pg_tup (by rfl) (pgs_cons (pg_name (i := 4) scLawFewestRight.nd rfl (Or.inr rfl)) (pgs_cons (pg_name (i := 5) scLawFewestRight.nd rfl (Or.inl rfl)) pgs_nil))))
    (pss_cons ?cc2
    (pss_cons (ps_for PassesOwn.never rfl (pi_range1 (by rfl) z_range (pa_cons (pe_op op_shl pe_int (pe_callB call_len_seq (by rfl) z_len PySem.boot_len (pa_cons (pv 6) pa_nil))) pa_nil)) (pg_name (i := 7) scLawFewestRight.nd rfl (Or.inr rfl))
    (pss_cons ?cc3
    (pss_one (ps_if (PW.pt (pw_and (pt_cmpR op_le (pe_callB call_len_seq (by rfl) z_len PySem.boot_len (pa_cons (pv 8) pa_nil)) (pe_callB call_len_seq (by rfl) z_len PySem.boot_len (pa_cons (pv 5) pa_nil)) (nomark _)) (pw_and (pt_cmpR (op_neD hr.units) (pe_callB cr_sortedPO (by rfl) z_sorted (by decide +kernel) (pa_cons (pv 8) pa_nil)) (pv 5) (nomark _)) (pw_and1 (pt_val (pe_call GGivesRoot (hr.mono (by decide)) rfl AGivesRoot.m AGivesRoot.kp AGivesRoot.b .nil pass0 (pa_cons (pv 1) (pa_cons (pe_op op_cat (pv 3) (pv 8)) pa_nil))))))))
    (pss_one (ps_ret pe_bl))
    pss_nil))))
    (pss_one (ps_ret (pe_call GGivesRoot (hr.mono (by decide)) rfl AGivesRoot.m AGivesRoot.kp AGivesRoot.b .nil pass0 (pa_cons (pv 1) (pa_cons (pe_op op_cat (pv 3) (pv 5)) pa_nil))))))))))), ?_⟩
  case cc1 => exact (ps_setLc (i := 3) (own := [("turn", 11)]) rfl scLawFewestRight.nd rfl rfl (sw_true rfl rfl rfl (by decide +kernel)) (pi_range1 (by rfl) z_range (pa_cons (pe_op op_add pe_int (pe_call GLawPick (hr.mono (by decide)) rfl ALawPick.m ALawPick.kp ALawPick.b .nil pass0 (pa_cons (pv 0) (pa_cons pe_int pa_nil)))) pa_nil)) (blkOk_by (N := ["bag", "size", "some", "nodes", "marked", "due", "free", "way", "found", "node", "above", "turn", "spot"]) (sc := defScope sLawFewestRight) (by decide +kernel)) (fun _ _ _ _ _ => (pg_name (i := 11) scLawFewestRight.nd rfl (Or.inl rfl))) (fun _ _ _ _ _ => pts_nil) (fun _ _ _ _ _ => (pe_ix ix_listB (pv 2) (pe_call GLawPick (hr.mono (by decide)) rfl ALawPick.m ALawPick.kp ALawPick.b .nil pass0 (pa_cons (pv 0) (pa_cons (pe_callB call_len_seqB (by rfl) z_len PySem.boot_len (pa_cons (pv 2) pa_nil)) pa_nil))) (fun _ _ => rfl))))
  case cc2 => exact (ps_setLc (i := 6) (own := [("node", 9)]) rfl scLawFewestRight.nd rfl rfl (sw_true rfl rfl rfl (by decide +kernel)) (pi_list (pv 2)) (blkOk_by (N := ["bag", "size", "some", "nodes", "marked", "due", "free", "way", "found", "node", "above", "turn", "spot"]) (sc := defScope sLawFewestRight) (by decide +kernel)) (fun _ _ _ _ _ => (pg_name (i := 9) scLawFewestRight.nd rfl (Or.inl rfl))) (fun _ _ _ _ _ => pts_one (pt_cmpR (op_notInDB (units1 hr)) pe_bl (pe_slice sl_listB (pv 4) (po_some (pe_ix ix_tupB (pv 9) pe_int (fun _ _ => rfl))) (po_some (pe_ix ix_tupB (pv 9) pe_int (fun _ _ => rfl)))) (by rfl))) (fun _ _ _ _ _ => (pv 9)))
  case cc3 => exact (ps_setLc (i := 8) (own := [("spot", 12), ("node", 9)]) rfl scLawFewestRight.nd rfl rfl (sw_true rfl rfl rfl (by decide +kernel)) (pi_enum (by rfl) z_enumerate (pa_cons (pv 6) pa_nil)) (blkOk_by (N := ["bag", "size", "some", "nodes", "marked", "due", "free", "way", "found", "node", "above", "turn", "spot"]) (sc := defScope sLawFewestRight) (by decide +kernel)) (fun _ _ _ _ _ => (pg_tupB (n := 2) rfl (pgs_cons (pg_name (i := 12) scLawFewestRight.nd rfl (Or.inl rfl)) (pgs_cons (pg_name (i := 9) scLawFewestRight.nd rfl (Or.inl rfl)) pgs_nil)))) (fun _ _ _ _ _ => pts_one (pt_cmpR op_eq (pe_op op_and (pe_op op_shr (pv 7) (pv 12)) pe_int) pe_int (nomark _))) (fun _ _ _ _ _ => (pv 9)))
  have one1 : 1 ≤ sizeLine := by decide
  have two : 2 ≤ sizeLine := by decide
  refine ⟨_, rfl, bg, 6, rfl, by decide, by decide, hb, fun r H1 r0 r1 k1 hb1 => ⟨_, _, rfl, rfl, ?_⟩⟩
  obtain ⟨m, rfl⟩ : ∃ m : Nat, r = (m : Int) := ⟨r.toNat, by omega⟩
  have B1 : But bg H H1 := (But.refl bg H).pick k1
  dsimp only
  rw [show (1 : Int) + (m : Int) = ((1 + m : Nat) : Int) by omega]
  have n1 : 1 ≤ 1 + m := by omega
  have n6 : 1 + m ≤ 6 := by omega
  generalize 1 + m = n at n1 n6
  refine ⟨_, rfl, n, rfl, n1, by omega, fun H2 tr ts s2 ntr htr hts => ⟨tr, rfl, ⟨_, SqL.of htr⟩, fun D nD => ?_⟩⟩
  have tl := hts.len
  have Tl := TW_len n1
  refine lc_list (K := K) (a := tr) (xs := ts) (fun j H' => ∃ zs : List V, Same H2 H' ∧ H' D = some (.lst zs) ∧ All2 (Nd H') zs (((TW n).take j).map (·.1))) ⟨[], same_upd nD, upd_same, .nil⟩ (fun j H' _ ⟨_, s5, _⟩ => SqL.of (s5 _ _ htr)) ?_ ?_
  · rintro j v H3 hj ⟨zs, s3, hD, hz⟩
    obtain ⟨y, hyj, hy⟩ := hts.nth hj
    obtain ⟨tp, u1, u2, rfl, htp, hu1, hu2⟩ := hy.same s3
    have jl := (List.getElem?_eq_some_iff.mp hyj).1
    have zl := hz.len
    refine ⟨tp, _, rfl, SqT.of htp, rfl, _, _, rfl, _, _, rfl, rfl, rfl, ?_⟩
    refine ⟨_, rfl, zs, hD, szlt (by rw [zl, List.length_map, List.length_take]; omega), zs ++ [u1], ?_, upd_same, ?_⟩
    · exact fun a o k => by rw [upd_ne (ne_of_none k nD)]; exact s3 _ _ k
    · rw [take_more hyj, List.map_append]
      exact (hz.mono fun v x (k : Nd H3 v x) => k.upd hD).app (.cons (hu1.upd hD) .nil)
  rintro H3 ⟨ss, s3, hD, hss⟩
  rw [tl, List.take_length] at hss
  have N1 : ∀ x ∈ (TW n).map (·.1), isN n x := fun x hx => by
    obtain ⟨y, hy, rfl⟩ := List.mem_map.mp hx
    exact (TW_mem n1 hy).1
  have Nl : ((TW n).map (·.1)).length ≤ 11 := by rw [List.length_map]; omega
  have Nl1 : 1 ≤ ((TW n).map (·.1)).length := by rw [List.length_map]; exact TW_len1
  have Nnd := TW_nodup n1
  generalize (TW n).map (·.1) = N at hss N1 Nl Nl1 Nnd
  clear tl Tl hts
  have s13 := s2.trans s3
  have hb3 := hb1.same s13
  have B3 := B1.trans (But.of (b := bg) s13)
  have Db : D ≠ bg := (hb1.same s2).ne nD
  refine ⟨_, rfl, bg, 2, rfl, by decide, by decide, hb3, fun r H4 r0 r1 k4 hb4 => ?_⟩
  obtain ⟨m, rfl⟩ : ∃ m : Nat, r = (m : Int) := ⟨r.toNat, by omega⟩
  have B34 : But bg H3 H4 := (But.refl bg H3).pick k4
  have hD4 := B34.at Db hD
  have hss4 := hss.mono fun v x (k : Nd H3 v x) => k.but B34 hb3
  have B4 := B3.trans B34
  refine ⟨_, _, rfl, rfl, ((1 + m : Nat) : Int), congrArg (fun z => [V.int z]) (by omega), by omega, by omega, fun Dn nDn => ?_⟩
  have Dnb := hb4.ne nDn
  have sl := hss.len
  refine lc_range (lo := 0) (n := 1 + m) (fun i H' => ∃ (ws : List V) (W : List (Nat × Nat)), But bg H4 H' ∧ BagAt H' bg ∧ H' Dn = some (.lst ws) ∧ All2 (Nd H') ws W ∧ (∀ x ∈ W, isN n x) ∧ W.length = i)
    ⟨[], [], But.of (same_upd nDn), hb4.upd Dnb, upd_same, .nil, (fun _ h => absurd h List.not_mem_nil), rfl⟩ ?_ ?_
  · rintro j H5 hj ⟨ws, W, B5, hb5, hDn, hws, hW, lW⟩
    refine ⟨rfl, ?_⟩
    have hD5 := B5.at Db hD4
    have hss5 := hss4.mono fun v x (k : Nd H4 v x) => k.but B5 hb4
    refine ⟨_, rfl, _, rfl, _, rfl, D, ss, rfl, .inl (SqL.of hD5), bg, ((ss.length : Nat) : Int), rfl, by omega, Nat.lt_of_le_of_lt (show (((ss.length : Nat) : Int)).natAbs ≤ 11 by omega) (by decide), hb5, fun r H6 r0 r1 k6 hb6 => ?_⟩
    obtain ⟨t, rfl⟩ : ∃ t : Nat, r = (t : Int) := ⟨r.toNat, by omega⟩
    have B56 : But bg H5 H6 := (But.refl bg H5).pick k6
    have tl : t < N.length := by omega
    obtain ⟨v, hv, hN⟩ := hss5.nth2 (List.getElem?_eq_getElem tl)
    have hDn6 := B56.at Dnb hDn
    refine ⟨D, _, _, _, rfl, rfl, SqL.of (B56.at Db hD5), atI_nat (j := t) hv, ?_⟩
    refine ⟨ws, hDn6, szlt (by rw [hws.len, lW]; omega), ws ++ [v], W ++ [N[t]], ?_, hb6.upd Dnb, upd_same, ?_, ?_, by rw [List.length_append, List.length_singleton, lW]⟩
    · exact fun a o z k => by rw [upd_ne (ne_of_none k nDn)]; exact B56 a o z (B5 a o z k)
    · exact ((hws.mono fun v x (k : Nd H5 v x) => k.but B56 hb5).mono fun v x (k : Nd H6 v x) => k.upd hDn6).app (.cons ((hN.but B56 hb5).upd hDn6) .nil)
    · intro y hy
      rcases List.mem_append.mp hy with hy | hy
      · exact hW y hy
      · rw [List.mem_singleton.mp hy]
        exact N1 _ (List.getElem_mem tl)
  rintro H5 ⟨ws, W, B5, hb5, hDn, hws, hW, lW⟩
  have hD5 := B5.at Db hD4
  have hss5 := hss4.mono fun v x (k : Nd H4 v x) => k.but B5 hb4
  have BH5 := B4.trans B5
  have wl := hws.len
  have wW := nodes_wn hW
  have h30 : n ≤ 10 ^ 30 := Nat.le_trans n6 (by decide)
  clear hD hD4 hss hss4 hb3 hb4 B3 B4 B5 k4 B34
  refine ⟨_, rfl, _, rfl, n, Dn, ws, W, rfl, by omega, hDn, hws, wW, fun H6 mr s6 nmr hmr => ?_⟩
  refine ⟨_, rfl, _, rfl, n, Dn, ws, W, rfl, n1, h30, s6 _ _ hDn, hws.mono (fun v x (k : Nd H5 v x) => k.same s6), by omega, by omega, hW, fun H7 dr ds s7 ndr hdr hds => ⟨two, fun tt ntt => ?_⟩⟩
  have wt := same_upd (o := .tup [.ref mr, .ref dr]) ntt
  refine ⟨tt, _, rfl, SqT.of upd_same, rfl, _, _, rfl, _, _, rfl, rfl, ?_⟩
  have s58 := s6.trans (s7.trans wt)
  have hmr8 := (s7.trans wt) _ _ hmr
  have hdr8 := wt _ _ hdr
  have hds8 := hds.mono fun v x (k : Nd H7 v x) => k.same wt
  generalize upd H7 tt (.tup [.ref mr, .ref dr]) = H8 at s58 hmr8 hdr8 hds8 ⊢
  have hD8 := s58 _ _ hD5
  have hss8 := hss5.mono fun v x (k : Nd H5 v x) => k.same s58
  have hDn8 := s58 _ _ hDn
  have hws8 := hws.mono fun v x (k : Nd H5 v x) => k.same s58
  have hb8 := hb5.same s58
  have B8 := BH5.trans (But.of (b := bg) s58)
  refine ⟨_, rfl, D, rfl, ⟨_, SqL.of hD8⟩, fun D3 nD3 => ?_⟩
  refine lc_list (K := K) (a := D) (xs := ss) (fun j H' => ∃ zs : List V, Same H8 H' ∧ H' D3 = some (.lst zs) ∧ All2 (Nd H') zs ((N.take j).filter fun x => !meets x W)) ⟨[], same_upd nD3, upd_same, .nil⟩ (fun j H' _ ⟨_, s9, _⟩ => SqL.of (s9 _ _ hD8)) ?_ ?_
  · rintro j v H9 hj ⟨zs, s9, hD3, hz⟩
    obtain ⟨y, hyj, hy⟩ := hss8.nth hj
    have jl := (List.getElem?_eq_some_iff.mp hyj).1
    obtain ⟨y12, yn, _⟩ := isN_tree (n := n) (b := y.1) (e := y.2) (N1 y (List.mem_of_getElem? hyj))
    obtain ⟨y1, y2⟩ := y
    obtain ⟨up, rfl, hup⟩ := hy.same s9
    have y0 : atI [V.int (y1 : Int), V.int (y2 : Int)] 0 = some (.int (y1 : Int)) := atI_nat (j := 0) rfl
    have y1' : atI [V.int (y1 : Int), V.int (y2 : Int)] 1 = some (.int (y2 : Int)) := atI_nat (j := 1) rfl
    have zl := hz.len
    have z200 : zs.length ≤ 11 := by
      have := List.length_filter_le (fun x => !meets x W) (N.take j)
      rw [List.length_take] at this
      omega
    refine ⟨rfl, ?_⟩
    refine ⟨_, rfl, _, rfl, up, _, _, _, rfl, rfl, SqT.of hup, y0, (y1 : Int), rfl, _, rfl, up, _, _, _, rfl, rfl, SqT.of hup, y1', (y2 : Int), rfl, mr, _, rfl, SqL.of (s9 _ _ hmr8), fun c nc => ?_⟩
    rw [cut_mid, ← List.map_drop, ← List.map_take]
    have wc := same_upd (o := .lst ((((mks n W).drop y1).take (y2 - y1)).map V.bl)) nc
    refine ⟨.bool true, (((mks n W).drop y1).take (y2 - y1)).map PyData.bool, .bl true, .lst (SqL.of upd_same) (bools_dp _), bool_shaped true, bools_shaped _, ?_⟩
    rw [bools_in, cut_meets (x := (y1, y2)) wW y12 yn]
    have hD3c := wc _ _ hD3
    have s10 := s9.trans wc
    generalize upd H9 c (.lst ((((mks n W).drop y1).take (y2 - y1)).map V.bl)) = H10 at wc hD3c s10 ⊢
    rw [take_more hyj, List.filter_append]
    cases hm : meets (y1, y2) W with
    | true =>
      refine ⟨false, rfl, zs, s10, hD3c, ?_⟩
      rw [List.filter_cons_of_neg (by rw [hm]; decide), List.filter_nil, List.append_nil]
      exact hz.mono fun v x (k : Nd H9 v x) => k.same wc
    | false =>
      refine ⟨true, rfl, _, rfl, zs, hD3c, szlt (by omega), zs ++ [.ref up], ?_, upd_same, ?_⟩
      · exact fun a o k => by rw [upd_ne (ne_of_none k nD3)]; exact s10 _ _ k
      · rw [List.filter_cons_of_pos (by rw [hm]; rfl), List.filter_nil]
        exact (hz.mono fun v x (k : Nd H9 v x) => (k.same wc).upd hD3c).app (.cons (Nd.upd (xs := zs) ⟨up, rfl, wc _ _ hup⟩ hD3c) .nil)
  rintro H9 ⟨fs, s9, hD3, hfs⟩
  rw [hss8.len, List.take_length] at hfs
  have FN : ∀ x ∈ N.filter (fun x => !meets x W), isN n x ∧ meets x W = false := fun x hx => by
    obtain ⟨a, b⟩ := List.mem_filter.mp hx
    exact ⟨N1 x a, by rw [Bool.not_eq_true'] at b; exact b⟩
  have Fnd : (N.filter (fun x => !meets x W)).Nodup := List.filter_sublist.nodup Nnd
  have Fl : (N.filter (fun x => !meets x W)).length ≤ 11 := Nat.le_trans (List.length_filter_le _ _) Nl
  generalize N.filter (fun x => !meets x W) = FR at hfs FN Fnd Fl
  have fl := hfs.len
  have hDn9 := s9 _ _ hDn8
  have hws9 := hws8.mono fun v x (k : Nd H8 v x) => k.same s9
  have hdr9 := s9 _ _ hdr8
  have hds9 := hds8.mono fun v x (k : Nd H8 v x) => k.same s9
  have hb9 := hb8.same s9
  have B9 := B8.trans (But.of (b := bg) s9)
  clear hDn8 hws8 hdr8 hds8 hb8 B8 hD8 hss8 hmr8 hD5 hss5 hDn hws hb5 hmr hdr hds
  refine ⟨_, rfl, D3, fs, rfl, .inl (SqL.of hD3), _, _, rfl, rfl, ⟨Int.natCast_nonneg _, by omega, by decide⟩, ?_⟩
  have ep : (1 : Int) * 2 ^ ((fs.length : Nat) : Int).toNat = ((2 ^ fs.length : Nat) : Int) := by rw [Int.one_mul, Int.toNat_natCast]; exact (Int.natCast_pow 2 _).symm
  have pb : 2 ^ fs.length ≤ 2 ^ 11 := Nat.pow_le_pow_right (by decide) (by omega)
  have p11 : (2 : Nat) ^ 11 = 2048 := by decide
  rw [p11] at pb
  have Dc : ∀ i, i < n → ¬ cov W i → ∃ y ∈ nb n 0 (srt W), y.1 ≤ i ∧ i < y.2 := fun i hi c => nb_cov (srt W) 0 i wW.srt (Nat.zero_le _) hi fun s hs k => c ⟨s, srt_mem.mp hs, k⟩
  have DN : ∀ x ∈ nb n 0 (srt W), isN n x := fun x hx => (nb_srt_due wW hx).1
  have Dl : (nb n 0 (srt W)).length ≤ 11 := by
    rw [← due32_is n1 (by omega) (fun z => by rw [z, List.length_nil] at lW; omega) wW, srt_len, List.length_map]
    have := List.length_filter_le (dueF W) (TW n)
    have := TW_len n1
    omega
  have few : ∀ S : List (Nat × Nat), S.Sublist FR → S.length ≤ (nb n 0 (srt W)).length → srt S ≠ nb n 0 (srt W) → ¬ jn (srt (W ++ S)) = [(0, n)] := fun S hS hl hne hj => by
    have hSm : ∀ x ∈ S, isN n x ∧ meets x W = false := fun x hx => FN x (hS.mem hx)
    exact hne (fewest hW hSm (hS.nodup Fnd) hl ((jn_cov n1 (wW.app (nodes_wn fun x hx => (hSm x hx).1))).mp hj))
  generalize nb n 0 (srt W) = DL at hds9 Dc DN Dl few
  have dl := hds9.len
  obtain ⟨PW, hPW⟩ : ∃ PW, 2 ^ fs.length = PW := ⟨_, rfl⟩
  rw [hPW] at ep pb
  refine ⟨((PW : Nat) : Int), congrArg (fun z => [V.int z]) ep, by omega, by omega, ?_⟩
  refine for_range (lo := 0) (n := PW) (fun i σ H' => ∃ v7 v8 : Option V, σ = [some (.ref bg), some (.int (n : Int)), some (.ref D), some (.ref Dn), some (.ref mr), some (.ref dr), some (.ref D3), v7, v8, none, none, none, none] ∧ Same H9 H') ⟨_, _, rfl, Same.refl _⟩ ?_ ?_
  · rintro i σ H10 im ⟨v7, v8, rfl, s10⟩
    have hD10 := s10 _ _ hD3
    refine ⟨_, rfl, D3, fs, rfl, SqL.of hD10, fun D4 nD4 => ?_⟩
    refine lc_enum (K := K) (a := D3) (xs := fs) (fun j H' => ∃ (zs : List V) (S : List (Nat × Nat)), Same H10 H' ∧ H' D4 = some (.lst zs) ∧ All2 (Nd H') zs S ∧ S.Sublist (FR.take j)) ⟨[], [], same_upd nD4, upd_same, .nil, List.nil_sublist _⟩ (fun j H' ⟨_, _, s11, _⟩ => SqL.of (s11 _ _ hD10)) ?_ ?_
    · rintro j x t H11 hj ⟨zs, S, s11, hD4, hz, hS⟩ nt
      obtain ⟨y, hyj, hy⟩ := hfs.nth hj
      have wt := same_upd (o := .tup [.int ((j : Nat) : Int), x]) nt
      have hD4t := wt _ _ hD4
      have htt : (upd H11 t (.tup [.int ((j : Nat) : Int), x])) t = some (.tup [.int ((j : Nat) : Int), x]) := upd_same
      have hzt := hz.mono fun v x (k : Nd H11 v x) => k.same wt
      have s12 := s11.trans wt
      have hyt := (hy.same s10).same s12
      generalize upd H11 t (.tup [.int ((j : Nat) : Int), x]) = H12 at hD4t htt hzt s12 hyt ⊢
      have zl := hz.len
      have sl' := hS.length_le
      rw [List.length_take] at sl'
      refine ⟨t, _, rfl, SqT.of htt, rfl, _, _, rfl, _, _, rfl, rfl, rfl, ?_⟩
      refine ⟨_, rfl, _, rfl, _, _, rfl, rfl, Int.natCast_nonneg _, _, _, rfl, rfl, rfl, _, rfl, ?_⟩
      rw [take_more hyj]
      dsimp only
      split
      · refine ⟨_, rfl, zs, hD4t, szlt (by omega), zs ++ [x], S ++ [y], ?_, upd_same, ?_, hS.append (List.Sublist.refl _)⟩
        · exact fun a o k => by rw [upd_ne (ne_of_none k nD4)]; exact s12 _ _ k
        · exact (hzt.mono fun v x (k : Nd H12 v x) => k.upd hD4t).app (.cons (hyt.upd hD4t) .nil)
      · exact ⟨zs, S, s12, hD4t, hzt, hS.trans (List.sublist_append_left _ _)⟩
    rintro H11 ⟨zs, S, s11, hD4, hz, hS⟩
    rw [fl, List.take_length] at hS
    have zl := hz.len
    have sl' := hS.length_le
    have s911 := s10.trans s11
    have skip : ∀ H', Same H9 H' → ∃ v7' v8' : Option V, [some (.ref bg), some (.int (n : Int)), some (.ref D), some (.ref Dn), some (.ref mr), some (.ref dr), some (.ref D3), some (.int ((0 : Int) + (i : Int))), some (.ref D4), none, none, none, none] = [some (.ref bg), some (.int (n : Int)), some (.ref D), some (.ref Dn), some (.ref mr), some (.ref dr), some (.ref D3), v7', v8', none, none, none, none] ∧ Same H9 H' := fun H' k => ⟨_, _, rfl, k⟩
    have hdr11 := s911 _ _ hdr9
    refine ⟨_, rfl, D4, zs, rfl, .inl (SqL.of hD4), _, rfl, dr, ds, rfl, .inl (SqL.of hdr11), _, _, rfl, rfl, decide (zs.length ≤ ds.length), lec _ _, ?_⟩
    cases hl : decide (zs.length ≤ ds.length) with
    | false => exact ⟨_, _, rfl, s911⟩
    | true =>
      have hl := of_decide_eq_true hl
      refine ⟨_, rfl, D4, zs, kOf H11, rfl, SqL.of hD4, fun x hx => ?_, fun ys r srtd stb nr => ?_⟩
      · obtain ⟨z, _, pz, e, hz'⟩ := hz.mem hx
        refine ⟨pz, e, ?_⟩
        rw [kOf_nd ⟨pz, e, hz'⟩]
        exact hz'
      have wr := same_upd (o := .lst ys) nr
      have hy := (sorted_srt hz srtd stb.perm).mono fun v x (k : Nd H11 v x) => k.same wr
      have s12 := s911.trans wr
      refine ⟨_, rfl, .list ((srt S).map nd), .list (DL.map nd), lst_dp upd_same hy, lst_dp (s12 _ _ hdr9) (hds9.mono fun v x (k : Nd H9 v x) => k.same s12), nds_shaped _, nds_shaped _, ?_⟩
      rw [nds_eqv]
      have hD412 := wr _ _ hD4
      have hz12 := hz.mono fun v x (k : Nd H11 v x) => k.same wr
      generalize upd H11 r (.lst ys) = H12 at s12 hD412 hz12 ⊢
      by_cases c : srt S = DL
      · rw [decide_eq_true c]
        exact ⟨false, rfl, _, _, rfl, s12⟩
      · rw [decide_eq_false c]
        refine ⟨true, rfl, ?_⟩
        refine ⟨_, rfl, _, rfl, _, rfl, Dn, D4, ws, zs, rfl, rfl, s12 _ _ hDn9, hD412, szle (by omega), fun cc ncc => ?_⟩
        have wcc := same_upd (o := .lst (ws ++ zs)) ncc
        have s13 := s12.trans wcc
        refine ⟨n, cc, ws ++ zs, W ++ S, rfl, n1, h30, upd_same, (hws9.mono fun v x (k : Nd H9 v x) => k.same s13).app (hz12.mono fun v x (k : Nd H12 v x) => k.same wcc), by rw [List.length_append]; omega, by rw [List.length_append]; omega, fun x hx => (List.mem_append.mp hx).elim (hW x) (fun k => (FN x (hS.mem k)).1), fun H14 s14 => ?_⟩
        rw [decide_eq_false (few S hS (by omega) c)]
        exact ⟨false, rfl, _, _, rfl, s13.trans s14⟩
  · rintro σ H10 ⟨v7, v8, rfl, s10⟩
    refine ⟨_, rfl, _, rfl, _, rfl, Dn, dr, ws, ds, rfl, rfl, s10 _ _ hDn9, s10 _ _ hdr9, szle (by omega), fun cc ncc => ?_⟩
    have wcc := same_upd (o := .lst (ws ++ ds)) ncc
    have s13 := s10.trans wcc
    refine ⟨n, cc, ws ++ ds, W ++ DL, rfl, n1, h30, upd_same, (hws9.mono fun v x (k : Nd H9 v x) => k.same s13).app (hds9.mono fun v x (k : Nd H9 v x) => k.same s13), by rw [List.length_append]; omega, by rw [List.length_append]; omega, fun x hx => (List.mem_append.mp hx).elim (hW x) (DN x), fun H14 s14 => ?_⟩
    rw [decide_eq_true ((jn_cov n1 (wW.app (nodes_wn DN))).mpr fun i hi => ?_)]
    · exact q H14 (B9.trans (But.of (b := bg) (s13.trans s14))) (hb9.same (s13.trans s14))
    · by_cases k : cov W i
      · exact cov_app.mpr (.inl k)
      · obtain ⟨y, hy, k1, k2⟩ := Dc i hi k
        exact cov_app.mpr (.inr ⟨y, hy, k1, k2⟩)
end
end LT

namespace LT
open PySem PySem.Spec PyProof.Rows L2
/-! ### what is shown fits -/
def small (x : Nat × Nat) : Prop := x.1 ≤ 1000 ∧ x.2 ≤ 1000
theorem int_short {a : Nat} (h : a ≤ 1000000) : (PyData.shown (.int ((a : Nat) : Int))).length ≤ 13 := PyData.shown_int_le (by show a < 10 ^ 12; omega)
theorem int_weight {a : Nat} (h : a ≤ 1000000) : PyData.weight (.int ((a : Nat) : Int)) ≤ 20 := by
  show (if ((a : Nat) : Int) == 0 then 0 else ((a : Nat) : Int).natAbs.log2 + 1) ≤ 20
  split
  · omega
  · rename_i z
    have : ((a : Nat) : Int).natAbs = a := rfl
    rw [this]
    have a0 : a ≠ 0 := fun e => z (by subst e; rfl)
    have := (Nat.log2_lt (k := 20) a0).mpr (by omega)
    omega
theorem nds_short : ∀ l : List (Nat × Nat), (∀ x ∈ l, small x) → PyData.intsShortAll 13 (l.map nd) = true
  | [], _ => rfl
  | x :: l, h => by
    have hx := h x List.mem_cons_self
    simp only [List.map_cons, PyData.intsShortAll, nd, PyData.intsShort, Bool.and_eq_true, decide_eq_true_eq, Bool.and_true]
    exact ⟨⟨int_short (by have := hx.1; omega), int_short (by have := hx.2; omega)⟩, nds_short l fun y hy => h y (List.mem_cons_of_mem _ hy)⟩
theorem nds_weight : ∀ l : List (Nat × Nat), (∀ x ∈ l, small x) → PyData.weightAll (l.map nd) ≤ 43 * l.length
  | [], _ => Nat.le_refl _
  | x :: l, h => by
    have hx := h x List.mem_cons_self
    have ih := nds_weight l fun y hy => h y (List.mem_cons_of_mem _ hy)
    have w1 := int_weight (a := x.1) (by have := hx.1; omega)
    have w2 := int_weight (a := x.2) (by have := hx.2; omega)
    have e : PyData.weightAll ((x :: l).map nd) = (PyData.weight (.int ((x.1 : Nat) : Int)) + 1 + (PyData.weight (.int ((x.2 : Nat) : Int)) + 1 + 0)) + 1 + PyData.weightAll (l.map nd) := by
      simp only [List.map_cons, PyData.weightAll, nd, PyData.weight]
    rw [e, List.length_cons]
    omega
theorem nds_fits (l : List (Nat × Nat)) (h : ∀ x ∈ l, small x) (hl : l.length ≤ 1000) : (PyData.list (l.map nd)).shown.length ≤ sizeLine := by
  have w := nds_weight l h
  refine PyData.shown_fits (B := 13) (by decide) (by decide) (PyData.leavesShort_of_canLay0 13 _ ?_ ?_) ?_
  · simp only [PyData.canLay0]
    exact nds_lay l
  · simp only [PyData.intsShort]
    exact nds_short l h
  · show PyData.weightAll (l.map nd) ≤ 2 ^ 20
    omega
theorem nds_showable : ∀ l : List (Nat × Nat), (∀ x ∈ l, small x) → PyData.showableAll (l.map nd) = true
  | [], _ => rfl
  | x :: l, h => by
    have hx := h x List.mem_cons_self
    simp only [List.map_cons, PyData.showableAll, nd, PyData.showable, Bool.and_eq_true, Bool.and_true]
    exact ⟨⟨decide_eq_true (Nat.lt_of_le_of_lt (Nat.log2_le_self _) (by have := hx.1; show ((x.1 : Nat) : Int).natAbs < 1920; omega)), decide_eq_true (Nat.lt_of_le_of_lt (Nat.log2_le_self _) (by have := hx.2; show ((x.2 : Nat) : Int).natAbs < 1920; omega))⟩, nds_showable l fun y hy => h y (List.mem_cons_of_mem _ hy)⟩
def nats (l : List Nat) : List PyData := l.map fun a => .int ((a : Nat) : Int)
theorem nats_short : ∀ l : List Nat, (∀ x ∈ l, x ≤ 1000) → PyData.intsShortAll 13 (nats l) = true
  | [], _ => rfl
  | x :: l, h => by
    have hx := h x List.mem_cons_self
    simp only [nats, List.map_cons, PyData.intsShortAll, PyData.intsShort, Bool.and_eq_true, decide_eq_true_eq]
    exact ⟨int_short (by omega), nats_short l fun y hy => h y (List.mem_cons_of_mem _ hy)⟩
theorem nats_weight : ∀ l : List Nat, (∀ x ∈ l, x ≤ 1000) → PyData.weightAll (nats l) ≤ 21 * l.length
  | [], _ => Nat.le_refl _
  | x :: l, h => by
    have hx := h x List.mem_cons_self
    have ih := nats_weight l fun y hy => h y (List.mem_cons_of_mem _ hy)
    have w1 := int_weight (a := x) (by omega)
    have e : PyData.weightAll (nats (x :: l)) = PyData.weight (.int ((x : Nat) : Int)) + 1 + PyData.weightAll (nats l) := by
      simp only [nats, List.map_cons, PyData.weightAll]
    rw [e, List.length_cons]
    omega
theorem nats_lay (l : List Nat) : PyData.canLayAll0 (nats l) = true := by
  unfold nats
  have := ints_lay (l.map fun a => ((a : Nat) : Int))
  rw [List.map_map] at this
  exact this
theorem nats_shaped (l : List Nat) : SeqAt.shaped (.list (nats l)) = true := by
  have := ints_shaped (l.map fun a => ((a : Nat) : Int))
  rw [List.map_map] at this
  exact this
theorem nats_dp {K : PySem.W.Frag} {H : Hp} (l : List Nat) : DpAll K H (l.map fun a => V.int ((a : Nat) : Int)) (nats l) := by
  have := ints_dp (K := K) (H := H) (l.map fun a => ((a : Nat) : Int))
  rw [List.map_map, List.map_map] at this
  exact this
theorem nats_fits (l : List Nat) (h : ∀ x ∈ l, x ≤ 1000) (hl : l.length ≤ 1000) : (PyData.list (nats l)).shown.length ≤ sizeLine := by
  have w := nats_weight l h
  refine PyData.shown_fits (B := 13) (by decide) (by decide) (PyData.leavesShort_of_canLay0 13 _ ?_ ?_) ?_
  · simp only [PyData.canLay0]
    exact nats_lay l
  · simp only [PyData.intsShort]
    exact nats_short l h
  · show PyData.weightAll (nats l) ≤ 2 ^ 20
    omega
theorem nats_showable : ∀ l : List Nat, (∀ x ∈ l, x ≤ 1000) → PyData.showableAll (nats l) = true
  | [], _ => rfl
  | x :: l, h => by
    have hx := h x List.mem_cons_self
    simp only [nats, List.map_cons, PyData.showableAll, PyData.showable, Bool.and_eq_true]
    exact ⟨decide_eq_true (Nat.lt_of_le_of_lt (Nat.log2_le_self _) (by show ((x : Nat) : Int).natAbs < 1920; omega)), nats_showable l fun y hy => h y (List.mem_cons_of_mem _ hy)⟩
/-- a whole number and a pair of them -/
def numPair (a b c : Nat) : PyData := .list [.int ((a : Nat) : Int), .tuple [.int ((b : Nat) : Int), .int ((c : Nat) : Int)]]
theorem numPair_shaped (a b c : Nat) : SeqAt.shaped (numPair a b c) = true := by
  show (PyData.canLay0 _ && decide (PyData.depth _ ≤ 64)) = true
  simp [numPair, PyData.canLay0, PyData.canLayAll0, PyData.depth, PyData.depthAll]
theorem numPair_showable {a b c : Nat} (h1 : a ≤ 1000000) (h2 : b ≤ 1000) (h3 : c ≤ 1000) : (numPair a b c).showable = true := by
  simp only [numPair, PyData.showable, PyData.showableAll, Bool.and_eq_true, Bool.and_true]
  have big : ∀ x : Nat, x ≤ 1000000 → decide (((x : Nat) : Int).natAbs.log2 < 1920) = true := fun x hx => decide_eq_true (by
    show x.log2 < 1920
    by_cases z : x = 0
    · subst z; decide
    · have := (Nat.log2_lt (k := 20) z).mpr (by omega)
      omega)
  exact ⟨big a h1, big b (by omega), big c (by omega)⟩
theorem numPair_fits {a b c : Nat} (h1 : a ≤ 1000000) (h2 : b ≤ 1000) (h3 : c ≤ 1000) : (numPair a b c).shown.length ≤ sizeLine := by
  have w1 := int_weight h1
  have w2 := int_weight (a := b) (by omega)
  have w3 := int_weight (a := c) (by omega)
  refine PyData.shown_fits (B := 13) (by decide) (by decide) (PyData.leavesShort_of_canLay0 13 _ ?_ ?_) ?_
  · simp [numPair, PyData.canLay0, PyData.canLayAll0]
  · simp only [numPair, PyData.intsShort, PyData.intsShortAll, Bool.and_eq_true, decide_eq_true_eq, Bool.and_true]
    exact ⟨int_short h1, int_short (by omega), int_short (by omega)⟩
  · have e : (numPair a b c).weight = PyData.weight (.int ((a : Nat) : Int)) + 1 + ((PyData.weight (.int ((b : Nat) : Int)) + 1 + (PyData.weight (.int ((c : Nat) : Int)) + 1 + 0)) + 1 + 0) := by
      simp only [numPair, PyData.weight, PyData.weightAll]
    rw [e]
    omega
/-! ### repr of single values -/
def reprS : V → Str
  | .int i => toString i
  | .bl b => if b then "True" else "False"
  | _ => "None"
def reprOk : V → Prop
  | .int i => i.natAbs.log2 < 1920
  | .bl _ => True
  | .non => True
  | _ => False
theorem call_reprS {X : Cx} : CallR X (.builtin "repr") (fun xs H Q => ∃ v, xs = [v] ∧ reprOk v ∧ Q (.str (reprS v)) H) := by
  intro pins s σ H xs us Q I r h
  obtain ⟨v, rfl, ok, q⟩ := h
  cases v with
  | int i =>
    obtain ⟨u, rfl, t, rfl⟩ := vals1 r
    exact PySem.P.repr_of_int ok ⟨.str _, H, I.tok _, ⟨_, rfl⟩, q⟩
  | bl b =>
    obtain ⟨u, rfl, e⟩ := vals1 r
    cases (show u = Value.bool b from e)
    exact PySem.P.repr_of_bool ⟨.str _, H, I.tok _, ⟨_, rfl⟩, q⟩
  | non =>
    obtain ⟨u, rfl, e⟩ := vals1 r
    cases (show u = Value.none from e)
    exact PySem.P.repr_of_none ⟨.str _, H, I.tok _, ⟨_, rfl⟩, q⟩
  | str _ => exact ok.elim
  | byt _ => exact ok.elim
  | flt _ => exact ok.elim
  | ref _ => exact ok.elim
  | ty _ => exact ok.elim
end LT

namespace LT
open PySem PySem.Spec PyProof.Rows L2
/-! ### promises of defs that show things: what is being shown around them is told to be nothing -/
structure GOk (P : Program) (w : World) (K : PySem.W.Frag) (mg : Str → Option Value) (base : Heap) (k : Nat) (f : Addr) (fd : FuncData) (ps : List Str) (sp : Sp) : Prop where
  len : ∀ vs H Q E, sp vs H Q E → vs.length = ps.length
  run : ∀ (A : Around) (outer : List Env) (s : Shared) (H : Hp) (args : Args) (us : List Value) (vs : List V) (Q : VK), A.guards = some [] → Room k A → Env0 P w K mg base A outer s H → BindsTo s fd args (ps.zip us) → Vals vs us → sp vs H Q E0 →
    codeAny (model P w) A (.call (.ref f) args) (CR CX0 outer P w H s Q E0) s
section
variable {P : Program} {w : World} {K : PySem.W.Frag} {mg : Str → Option Value} {base : Heap} {k : Nat} {f : Addr} {fd : FuncData} {ps : List Str} {sp : Sp}
theorem GOk.of (F : FnOk P w K mg base CX0 k f fd ps sp) : GOk P w K mg base k f fd ps sp := by
  refine ⟨F.len, ?_⟩
  intro A outer s H args us vs Q _
  exact F.run A outer s H args us vs Q E0
theorem GOk.mono {j : Nat} (F : GOk P w K mg base j f fd ps sp) (h : j ≤ k) : GOk P w K mg base k f fd ps sp := by
  refine ⟨F.len, ?_⟩
  intro A outer s H args us vs Q hg hr
  exact F.run A outer s H args us vs Q hg (hr.mono h)
/-- a def by its body, as Fun.ok -/
theorem okG {x qual : Str} {st : Stmt} {N : List Str} (F : Fun K x qual st f fd) (S : FnScope N ps (defScope st)) (len : ∀ vs H Q E, sp vs H Q E → vs.length = ps.length)
    (body : ∀ (cdv : Value) (A : Around) (outer : List Env) (s : Shared) (H : Hp) (vs : List V) (Q : VK), A.guards = some [] → Room k (A.deeper (envOfC qual (defScope st) s.heap.objs.size f cdv)) → sp vs H Q E0 →
      ∃ t, PSs (cxOf CX0 P w K mg base N qual (defScope st) f cdv A outer s H E0).nox (defBody st) t ∧ t { nx := fun _ H' => Q .non H', rt := Q } (start N vs) H) : GOk P w K mg base (k + 1) f fd ps sp := by
  obtain ⟨oc, od, kV, doc, pm, an, cdv, ct, osl, e, lk, hcd⟩ := F.ex
  subst e
  refine ⟨len, ?_⟩
  intro A outer s H args us vs Q hg hr ev hb rv hsp
  have nvs := len _ _ _ _ hsp
  have there : K.In s.heap := ev.mod.kin.keeps (fun b o q => (ev.bs b o q).1)
  have noLim : s.heap.NoLimit := ev.mod.nolimit.keeps (fun b o q => (ev.bs b o q).1)
  have kinds : ∀ y ∈ ps.zip us, (defScope st).names.lookup y.1 = some .local ∨ ((defScope st).names.lookup y.1 = some .cell ∧ ((cellsFrom (s.heap.objs.size + 1) (defScope st).names []).lookup y.1).isSome = true) := by
    intro y hy
    rcases S.par y.1 (List.of_mem_zip hy).1 with q | q
    · exact Or.inl q
    · exact Or.inr ⟨q, PySem.W.cellsFrom_some _ _ _ (Or.inl q)⟩
  apply codeAny_call_function hr.depth (there _ _ lk) rfl S.co S.gen rfl (PySem.W.codeRec_of there hcd)
  apply hb
  apply wpAny_newFunctionEnv_cells S.kind kinds
  intro env he s1 made
  subst he
  refine ⟨noLim.keeps made.toInCall.keep, codeAny_func ?_⟩
  obtain ⟨t, ht, hq⟩ := body cdv A outer s H vs Q hg (hr.deeper _) hsp
  have I : Inv (cxOf CX0 P w K mg base N qual (defScope st) f cdv A outer s H E0) [] (start N vs) H s1 := inv_start S hr.hd ev nvs rv made
  have ran := ht.nox.run [] s1 (start N vs) H _ I hq
  apply wpAny_mono ran
  · intro fl s' hs
    have fin : ∀ {σ' : L2.St} {H' : Hp} {v : V} {u : Value}, Inv (cxOf CX0 P w K mg base N qual (defScope st) f cdv A outer s H E0) [] σ' H' s' → RelV v u → Q v H' → CE outer P w H s Q u s' := by
      intro σ' H' v u J r q
      exact ⟨v, H', J.os, J.bare, J.base, J.hok, r, q⟩
    match fl, hs with
    | .ret u, ⟨v, σ', H', J, r, q⟩ => exact fin J r q
    | .next, ⟨σ', H', J, q⟩ => exact fin (v := V.non) (u := Value.none) J rfl q
    | .brk, ⟨_, _, _, q⟩ => exact False.elim q
    | .cont, ⟨_, _, _, q⟩ => exact False.elim q
  · intro e s' hs
    exact hs
end
section
variable {X : Cx} {k : Nat} {f : Addr} {fd : FuncData} {ps : List Str} {sp : Sp} {x : Str} {p pos : Pos} {e : Expr} {es : List Expr} {t : TA}
theorem runG {pins : List (Addr × Obj)} {σ : L2.St} {H : Hp} {s : Shared} {Q : VK} {us : List Value} {vs : List V} (F : GOk X.prog X.w X.K X.mg X.base k f fd ps sp) (hg : X.A.guards = some []) (hr : Room k X.A) (hb : Binds X.K fd ps [])
    (I : Inv X pins σ H s) (rv : Vals vs us) (h : sp vs H Q E0) : wpAny (model X.prog X.w) X.A (call (.ref f) us) (EP X pins σ Q) X.xe s := by
  have n : (us ++ []).length = ps.length := by
    rw [List.append_nil, ← rv.length]
    exact F.len _ _ _ _ h
  have b := hb s us I.kIn n
  rw [List.append_nil] at b
  apply wpAny_call
  apply codeAny_mono (F.run X.A X.stack s H ⟨us, []⟩ us vs Q hg hr I.env0 b rv h)
  intro res s' hq
  match res, hq with
  | .error _, hq => exact False.elim hq
  | .ok (.ret u), hq => exact I.after hq
  | .ok .next, hq => exact False.elim hq
  | .ok .brk, hq => exact False.elim hq
  | .ok .cont, hq => exact False.elim hq
theorem pe_callG (F : GOk X.prog X.w X.K X.mg X.base k f fd ps sp) (hgd : X.A.guards = some []) (hr : Room k X.A) (hg : Gl X x) (hm : X.mg x = some (.ref f)) (hk : PySem.W.keepIn X.K (.ref f) = true) (hb : Binds X.K fd ps [])
    (ha : PA X (e :: es) t) (hdb : (x == ("__debug__" : Str)) = false := by decide) (he : starEach (e :: es) X.env = (false, eval e X.env) :: starEach es X.env := by rfl) (hpl : (backTo pos (starEach es X.env)).any (·.1) = false := by rfl) :
    PE X (.Call (.Name x p) (e :: es) [] pos) (tCall sp [] E0 t) := by
  constructor
  intro pins s σ H Q I h
  apply wpAny_Call_Name_kw
  refine ld_glob I hg hm ?_ hdb
  apply PySem.W.callWith_K (h₀ := X.base) I.ok.mod.kin hk _ he hpl
  apply thn (ha.run pos pins s σ H _ I h)
  intro us s1 hh
  obtain ⟨vs, H1, I1, rv, q⟩ := hh
  rw [List.append_nil] at q
  exact ⟨I1.kIn, runG F hgd hr hb I1 rv q⟩
/-- repr of lists and tuples of plain data -/
theorem call_repr (hg : X.A.guards = some []) (hu : X.A.units + 65 < cLine) :
    CallR X (.builtin "repr") (fun xs H Q => ∃ y d, xs = [y] ∧ Dp X.K H y d ∧ PyProof.Rows.isDisplay d = true ∧ SeqAt.shaped d = true ∧ d.showable = true ∧ d.shown.length ≤ sizeLine ∧ Q (.str d.shown) H) := by
  intro pins s σ H xs us Q I r h
  obtain ⟨y, d, rfl, hd, hi, hsh, hs, hl, q⟩ := h
  obtain ⟨u, rfl, r1⟩ := vals1 r
  obtain ⟨as, r2⟩ := Dp.reads I d y u hd r1
  obtain ⟨a, rfl⟩ := PyProof.Rows.isRef_of_reads r2 hi
  have dp := SeqAt.depth_of_shaped hsh
  refine repr_of_reads' r2 hs (PyData.noDict_hsm (PyData.hasDict_of_canLay d (SeqAt.canLay_of_shaped hsh))) hg (by omega) (fun _ _ q => q) ?_ hl
  intro h' u tk kept
  exact ⟨.str d.shown, H, I.kept kept, ⟨_, rfl⟩, q⟩
theorem call_reprB {s : Shared} {H : Hp} {sc : Scope} {ce : Env} {fp : List Addr} (hg : X.A.guards = some []) (hu : X.A.units + 65 < cLine) :
    CallR (X.blk s H sc ce fp) (.builtin "repr") (fun xs H Q => ∃ y d, xs = [y] ∧ Dp X.K H y d ∧ PyProof.Rows.isDisplay d = true ∧ SeqAt.shaped d = true ∧ d.showable = true ∧ d.shown.length ≤ sizeLine ∧ Q (.str d.shown) H) := call_repr (X := X.blk s H sc ce fp) hg hu
end
end LT

namespace LT
open PySem PySem.Spec PyProof.Rows L2
section
variable {P : Program} {w : World} {K : PySem.W.Frag} {mg mb : Str → Option Value} {k : Nat} {fa a : Addr} {fd : FuncData} {x : Str} {sp : Sp} {s₁ : Shared} {vs : List Value} {ns : List Int}
/-- what is told of the heap ahead of the law's call: the script alone, where it is no object of the top -/
def told (K : PySem.W.Frag) (a : Addr) (ob : Obj) (ns : List Int) : Hp := fun b => if b = a ∧ K.lookup a = none then some (.frz ob (.lst (ns.map V.int))) else none
theorem told_at {ob : Obj} {b : Addr} {u : HO} (h : told K a ob ns b = some u) : b = a ∧ K.lookup a = none ∧ u = .frz ob (.lst (ns.map V.int)) := by
  unfold told at h
  by_cases c : b = a ∧ K.lookup a = none
  · rw [if_pos c] at h
    exact ⟨c.1, c.2, (Option.some.inj h).symm⟩
  · rw [if_neg c] at h
    cases h
/-- the law's call, from a promise that asks that nothing is being shown -/
theorem lawG (there : K.In s₁.heap) (globs : s₁.heap.Ns mainGlobals mg) (blts : s₁.heap.Ns builtinsNs mb) (boot : ∀ y : Str, y ≠ "__name__" → mb y = bootBuiltins y) (noLim : s₁.heap.NoLimit) (noGens : s₁.gens = #[])
    (obj : s₁.heap.get? a = some { cls := .type "list", data := .seq vs.toArray }) (areI : IntsAre vs ns) (few : ns.length ≤ sizeLine) (hr : Room k callerA)
    (F : ∀ base : Heap, K.In base → base.Ns mainGlobals mg → GOk P w K mg base k fa fd [x] sp) (binds : ∀ (s : Shared) (u : Value), BindsTo s fd ⟨[u], []⟩ [(x, u)])
    (keeps : ∀ H : Hp, Only H → SqL K H a (ns.map V.int) → sp [.ref a] H (fun v _ => v = .bl true) E0) :
    codeAny (model P w) callerA (.call (.ref fa) ⟨[.ref a], []⟩) (fun r s' => r = .ok (.ret (.bool true)) ∧ OldK s₁.heap s'.heap ∧ s'.os = s₁.os ∧ AllBare s'.gens) s₁ := by
  generalize ho : ({ cls := .type "list", data := .seq vs.toArray } : Obj) = ob at obj
  have items := vals_ints areI
  have only : Only (told K a ob ns) := by
    intro b
    cases q : told K a ob ns b with
    | none => exact Or.inl rfl
    | some u => exact Or.inr ⟨ob, ns.map V.int, by rw [(told_at q).2.2]⟩
  have sq : SqL K (told K a ob ns) a (ns.map V.int) := by
    cases q : K.lookup a with
    | none => exact Or.inl (Or.inr ⟨ob, if_pos ⟨rfl, q⟩⟩)
    | some o =>
      have same : o = ob := Option.some.inj ((there a o q).symm.trans obj)
      subst same
      subst ho
      refine Or.inr ⟨_, vs.toArray, _, q, rfl, rfl, rfl, ?_, by simpa using items⟩
      rw [List.size_toArray, areI.length]
      exact few
  have fits : HOk P w (told K a ob ns) s₁.heap := by
    intro b u q
    obtain ⟨rfl, _, rfl⟩ := told_at q
    subst ho
    exact ⟨obj, by rw [List.length_map]; exact few, vs, _, items, obj⟩
  have behind : ∀ {b : Addr} {o : Obj}, s₁.heap.get? b = some o → told K a ob ns b = none → (hidT s₁.heap (told K a ob ns)).get? b = some o := fun q n => hidT_get q n
  have nsp : ∀ {b : Addr} {m : Str → Option Value}, s₁.heap.Ns b m → (hidT s₁.heap (told K a ob ns)).Ns b m := by
    rintro b m ⟨o, es, ep, q, d, r⟩
    refine ⟨o, es, ep, behind q ?_, d, r⟩
    cases z : told K a ob ns b with
    | none => rfl
    | some u =>
      obtain ⟨rfl, _, _⟩ := told_at z
      rw [obj] at q
      cases q
      subst ho
      cases (show Data.seq vs.toArray _ = Data.dict es ep from d)
  have inB : K.In (hidT s₁.heap (told K a ob ns)) := by
    intro b o q
    refine behind (there b o q) ?_
    cases z : told K a ob ns b with
    | none => rfl
    | some u =>
      obtain ⟨rfl, n, _⟩ := told_at z
      rw [n] at q
      cases q
  have M : Mod K mg (hidT s₁.heap (told K a ob ns)) := by
    obtain ⟨mc, c1, c2⟩ := noLim
    exact ⟨inB, nsp globs, ⟨mb, nsp blts, boot⟩, ⟨mc, nsp c1, c2⟩⟩
  have ev : Env0 P w K mg (hidT s₁.heap (told K a ob ns)) callerA [] s₁ (told K a ob ns) :=
    { frames := rfl, mod := M, bs := fun _ _ q => of_hidT q, bsz := Nat.le_of_eq (hidT_size _ _), funs := trivial, frf := fun b q => absurd (show b ∈ ([] : List Addr) from q) List.not_mem_nil, hok := fits, bare := .of_eq noGens }
  have ran := (F _ inB (nsp globs)).run callerA [] s₁ (told K a ob ns) ⟨[.ref a], []⟩ [.ref a] [.ref a] _ rfl hr ev (binds s₁ (.ref a)) (.cons rfl .nil) (keeps _ only sq)
  apply codeAny_mono ran
  intro res s' h
  match res, h with
  | .error _, h => exact False.elim h
  | .ok .next, h => exact False.elim h
  | .ok .brk, h => exact False.elim h
  | .ok .cont, h => exact False.elim h
  | .ok (.ret u), ⟨v, H', os, bare, un, hok', rv, q⟩ =>
    have qv : v = .bl true := q
    subst qv
    have qu : u = Value.bool true := rv
    subst qu
    refine ⟨rfl, OldK.of_keep ?_, os, bare⟩
    intro b o q1
    cases z : told K a ob ns b with
    | none => exact un.keep b o q1 z (fun m => absurd (show b ∈ ([] : List Addr) from m) List.not_mem_nil) List.not_mem_nil
    | some c =>
      obtain ⟨rfl, n, rfl⟩ := told_at z
      obtain ⟨e1, _⟩ := fits _ _ z
      obtain ⟨e2, _⟩ := hok' _ _ (un.frzs _ _ _ z)
      rw [q1] at e1
      cases e1
      exact e2
end
theorem walkG {l : PySem.W.OpenLaw} {n k : Nat} {q : Program} {loose : List Str} {XP : (Str → Option Value) → Heap → Prop} {YP : World → Heap → Prop} {d : DefRec} {K : Params → PySem.W.Frag} {sp : World → Sp} {x : Str}
    (hn : l.most = some n) (hn2 : n ≤ sizeLine) (hdf : d.params.defaults = []) (hr : Room k callerA) (hY : ∀ (w : World) (h : Heap), YP w h → (K w.params).In h)
    (F : ∀ (w : World) (mg : Str → Option Value) (fa : Addr) (h : Heap), (K w.params).In h → h.Ns mainGlobals mg → mg d.name = some (.ref fa) →
      ∃ fd : FuncData, (∀ (s : Shared) (u : Value), BindsTo s fd ⟨[u], []⟩ [(x, u)]) ∧ ∀ base : Heap, (K w.params).In base → base.Ns mainGlobals mg → GOk l.prog w (K w.params) mg base k fa fd [x] (sp w))
    (keeps : ∀ (w : World) (H : Hp) (a : Addr) (ns : List Int), ns.length ≤ n → Only H → SqL (K w.params) H a (ns.map V.int) → sp w [.ref a] H (fun v _ => v = .bl true) E0) :
    PySem.W.WalkO q loose XP YP l.row.toRowW d [] (fun f vs => PySem.call f vs) := by
  apply Att.attach_call hn hdf
  intro w s₀ s₁ mg mb fa o pm cd doc a vs ns G Y ho hd hcd hmg hobj hints hlen hg
  obtain ⟨fd, hb, hF⟩ := F w mg fa _ (hY w _ Y) G.T.g hmg
  exact lawG (hY w _ Y) G.T.g G.T.b G.T.builtins G.T.nolimit hg hobj hints (Nat.le_trans hlen hn2) hr hF hb (fun H hO hS => keeps w H a ns hlen hO hS)
end LT

namespace LT
open PySem PySem.Spec PyProof.Rows L2
theorem cut_last (xs : List V) : cutV xs none (some (-1)) = xs.dropLast := by
  unfold cutV
  have e : HT.sIx xs.length xs.length (some (-1)) = xs.length - 1 := by
    show (if (-1 : Int) < 0 then ((-1 : Int) + (xs.length : Int)).toNat else min (-1 : Int).toNat xs.length) = _
    rw [if_pos (by decide)]
    omega
  rw [e, HT.sIx_none, List.drop_zero, Nat.sub_zero, List.dropLast_eq_take]
theorem ne_no {x y : V} (h : x = y) : V.bl (!decide (x = y)) = V.bl false := by rw [decide_eq_true h]; rfl
theorem nats_refl (l : List Nat) : PyData.eqv (.list (nats l)) (.list (nats l)) = true := by
  have : ∀ l : List Nat, PyData.eqvAll (nats l) (nats l) = true := by
    intro l
    induction l with
    | nil => simp only [nats, List.map_nil, PyData.eqvAll]
    | cons a t ih =>
      unfold nats at ih ⊢
      simp only [List.map_cons, PyData.eqvAll, PyData.eqv, ih, Bool.and_true, beq_self_eq_true]
  simp only [PyData.eqv, this]
section
variable {P : Program} {w : World} {K : PySem.W.Frag} {mg : Str → Option Value} {base : Heap}
def spRight : Sp := fun vs H Q _ => ∃ (bg : Addr) (n : Nat), vs = [.ref bg, .int n] ∧ 1 ≤ n ∧ n ≤ 60 ∧ BagAt H bg ∧ ∀ H', But bg H H' → BagAt H' bg → Q (.bl true) H'
theorem ok_law_right {f g1 g2 g3 g4 g5 g6 : Addr} {fd d1 d2 d3 d4 d5 d6 : FuncData} (F : Fun K "_law_right" "_law_right" sLawRight f fd)
    (GLawPick : FnOk P w K mg base CX0 1 g1 d1 ["bag", "many"] spPick) (ALawPick : At K mg "_law_pick" g1 d1 ["bag", "many"])
    (GLawTree : FnOk P w K mg base CX0 2 g2 d2 ["size"] spTreeL) (ALawTree : At K mg "_law_tree" g2 d2 ["size"])
    (GMissing : FnOk P w K mg base CX0 6 g3 d3 ["size", "nodes"] spMissing) (AMissing : At K mg "missing" g3 d3 ["size", "nodes"])
    (GLawDue : FnOk P w K mg base CX0 3 g4 d4 ["size", "nodes"] spDueL) (ALawDue : At K mg "_law_due" g4 d4 ["size", "nodes"])
    (GNeedless : FnOk P w K mg base CX0 6 g5 d5 ["size", "nodes"] spNeedless) (ANeedless : At K mg "needless" g5 d5 ["size", "nodes"])
    (GLawNeedless : FnOk P w K mg base CX0 2 g6 d6 ["size", "nodes"] spNeedlL) (ALawNeedless : At K mg "_law_needless" g6 d6 ["size", "nodes"])
    (z_range : mg "range" = none) (z_len : mg "len" = none) (z_list : mg "list" = none) (z_repr : mg "repr" = none) : GOk P w K mg base 8 f fd ["bag", "size"] spRight := by
  refine okG F scLawRight (fun vs H Q E h => ?_) (fun cdv A outer s H vs Q hg hr h => ?_)
  · obtain ⟨_, _, rfl, _⟩ := h
    rfl
  obtain ⟨bg, n, rfl, n1, n60, hb, q⟩ := h
  refine' ⟨_, (pss_cons (ps_set (i := 2) scLawRight.nd rfl (Or.inr rfl) (pe_lc (own := [("node", 7), ("above", 8)]) rfl scLawRight.nd (pi_list (pe_call GLawTree (hr.mono (by decide)) rfl ALawTree.m ALawTree.kp ALawTree.b .nil pass0 (pa_cons (pv 1) pa_nil))) (blkOk_by (N := ["bag", "size", "some", "nodes", "passed", "told", "more", "node", "above", "turn"]) (sc := defScope sLawRight) (by decide +kernel)) (fun _ _ _ _ _ => (pg_tupB (n := 2) rfl (pgs_cons (pg_name (i := 7) scLawRight.nd rfl (Or.inl rfl)) (pgs_cons (pg_name (i := 8) scLawRight.nd rfl (Or.inl rfl)) pgs_nil)))) (fun _ _ _ _ _ => pts_nil) (fun _ _ _ _ _ => (pv 7))))
    (pss_cons ?cc1
    (pss_cons (ps_set (i := 4) scLawRight.nd rfl (Or.inl rfl) (pe_callTy call_list_of (by rfl) z_list (by decide +kernel) (pa_cons (pv 3) pa_nil)))
    (pss_cons (ps_set (i := 5) scLawRight.nd rfl (Or.inl rfl) (pe_call GMissing (hr.mono (by decide)) rfl AMissing.m AMissing.kp AMissing.b .nil pass0 (pa_cons (pv 1) (pa_cons (pv 4) pa_nil))))
    (pss_cons (ps_if (PW.pt (pw_or (pt_cmpR op_ne (pe_callB (call_repr hg (units1 hr)) (by rfl) z_repr (by decide +kernel) (pa_cons (pv 5) pa_nil)) (pe_callB (call_repr hg (units1 hr)) (by rfl) z_repr (by decide +kernel) (pa_cons (pe_call GLawDue (hr.mono (by decide)) rfl ALawDue.m ALawDue.kp ALawDue.b .nil pass0 (pa_cons (pv 1) (pa_cons (pv 3) pa_nil))) pa_nil)) (nomark _)) (pw_or1 (pt_cmpR op_ne (pe_callB (call_repr hg (units1 hr)) (by rfl) z_repr (by decide +kernel) (pa_cons (pe_call GNeedless (hr.mono (by decide)) rfl ANeedless.m ANeedless.kp ANeedless.b .nil pass0 (pa_cons (pv 1) (pa_cons (pv 4) pa_nil))) pa_nil)) (pe_callB (call_repr hg (units1 hr)) (by rfl) z_repr (by decide +kernel) (pa_cons (pe_call GLawNeedless (hr.mono (by decide)) rfl ALawNeedless.m ALawNeedless.kp ALawNeedless.b .nil pass0 (pa_cons (pv 1) (pa_cons (pv 3) pa_nil))) pa_nil)) (nomark _)))))
    (pss_one (ps_ret pe_bl))
    pss_nil)
    (pss_cons (ps_expr (pe_bm PySem.F.plainAttrs_list PySem.F.slot_list_append PySem.F.type_list_append mt_append (pv 5) (pa_cons pe_non pa_nil)))
    (pss_cons (ps_set (i := 6) scLawRight.nd rfl (Or.inl rfl) (pe_call GNeedless (hr.mono (by decide)) rfl ANeedless.m ANeedless.kp ANeedless.b .nil pass0 (pa_cons (pv 1) (pa_cons (pv 4) pa_nil))))
    (pss_cons (ps_expr (pe_bm PySem.F.plainAttrs_list PySem.F.slot_list_append PySem.F.type_list_append mt_append (pv 6) (pa_cons pe_non pa_nil)))
    (pss_cons (ps_if (pt_cmpR (op_neD hr.units) (pe_call GNeedless (hr.mono (by decide)) rfl ANeedless.m ANeedless.kp ANeedless.b .nil pass0 (pa_cons (pv 1) (pa_cons (pv 4) pa_nil))) (pe_slice sl_list (pv 6) po_none (po_some (pe_un un_neg pe_int))) (nomark _))
    (pss_one (ps_ret pe_bl))
    pss_nil)
    (pss_one (ps_ret (pe_and (pe_cmpR (op_eqD hr.units) (pv 4) (pv 3) (nomark _)) (pe_one (pe_cmpR (op_eqD hr.units) (pe_call GMissing (hr.mono (by decide)) rfl AMissing.m AMissing.kp AMissing.b .nil pass0 (pa_cons (pv 1) (pa_cons (pv 4) pa_nil))) (pe_slice sl_list (pv 5) po_none (po_some (pe_un un_neg pe_int))) (nomark _))))))))))))))), ?_⟩
  case cc1 => exact (ps_setLc (i := 3) (own := [("turn", 9)]) rfl scLawRight.nd rfl rfl (sw_true rfl rfl rfl (by decide +kernel)) (pi_range1 (by rfl) z_range (pa_cons (pe_op op_add pe_int (pe_call GLawPick (hr.mono (by decide)) rfl ALawPick.m ALawPick.kp ALawPick.b .nil pass0 (pa_cons (pv 0) (pa_cons (pe_ix ix_list (pe_lst (pa_cons pe_int (pa_cons pe_int pa_nil))) (pe_call GLawPick (hr.mono (by decide)) rfl ALawPick.m ALawPick.kp ALawPick.b .nil pass0 (pa_cons (pv 0) (pa_cons pe_int pa_nil))) (fun _ _ => rfl)) pa_nil)))) pa_nil)) (blkOk_by (N := ["bag", "size", "some", "nodes", "passed", "told", "more", "node", "above", "turn"]) (sc := defScope sLawRight) (by decide +kernel)) (fun _ _ _ _ _ => (pg_name (i := 9) scLawRight.nd rfl (Or.inl rfl))) (fun _ _ _ _ _ => pts_nil) (fun _ _ _ _ _ => (pe_ix ix_listB (pv 2) (pe_call GLawPick (hr.mono (by decide)) rfl ALawPick.m ALawPick.kp ALawPick.b .nil pass0 (pa_cons (pv 0) (pa_cons (pe_callB call_len_seqB (by rfl) z_len PySem.boot_len (pa_cons (pv 2) pa_nil)) pa_nil))) (fun _ _ => rfl))))
  have one1 : 1 ≤ sizeLine := by decide
  have two : 2 ≤ sizeLine := by decide
  refine ⟨_, rfl, n, rfl, n1, by omega, fun H2 tr ts s2 ntr htr hts => ⟨tr, rfl, ⟨_, SqL.of htr⟩, fun D nD => ?_⟩⟩
  have tl := hts.len
  have Tl := TW_len n1
  refine lc_list (K := K) (a := tr) (xs := ts) (fun j H' => ∃ zs : List V, Same H2 H' ∧ H' D = some (.lst zs) ∧ All2 (Nd H') zs (((TW n).take j).map (·.1))) ⟨[], same_upd nD, upd_same, .nil⟩ (fun j H' _ ⟨_, s5, _⟩ => SqL.of (s5 _ _ htr)) ?_ ?_
  · rintro j v H3 hj ⟨zs, s3, hD, hz⟩
    obtain ⟨y, hyj, hy⟩ := hts.nth hj
    obtain ⟨tp, u1, u2, rfl, htp, hu1, hu2⟩ := hy.same s3
    have jl := (List.getElem?_eq_some_iff.mp hyj).1
    have zl := hz.len
    refine ⟨tp, _, rfl, SqT.of htp, rfl, _, _, rfl, _, _, rfl, rfl, rfl, ?_⟩
    refine ⟨_, rfl, zs, hD, szlt (by rw [zl, List.length_map, List.length_take]; omega), zs ++ [u1], ?_, upd_same, ?_⟩
    · exact fun a o k => by rw [upd_ne (ne_of_none k nD)]; exact s3 _ _ k
    · rw [take_more hyj, List.map_append]
      exact (hz.mono fun v x (k : Nd H3 v x) => k.upd hD).app (.cons (hu1.upd hD) .nil)
  rintro H3 ⟨ss, s3, hD, hss⟩
  rw [tl, List.take_length] at hss
  have N1 : ∀ x ∈ (TW n).map (·.1), isN n x := fun x hx => by
    obtain ⟨y, hy, rfl⟩ := List.mem_map.mp hx
    exact (TW_mem n1 hy).1
  have Nl : ((TW n).map (·.1)).length ≤ 119 := by rw [List.length_map]; omega
  have Nl1 : 1 ≤ ((TW n).map (·.1)).length := by rw [List.length_map]; exact TW_len1
  generalize (TW n).map (·.1) = N at hss N1 Nl Nl1
  clear tl Tl hts
  have s13 := s2.trans s3
  have hb3 := hb.same s13
  have B3 : But bg H H3 := But.of (b := bg) s13
  have Db : D ≠ bg := (hb.same s2).ne nD
  have sl := hss.len
  refine ⟨_, rfl, two, fun lp nlp => ?_⟩
  have wl := same_upd (o := .lst [.int 3, .int 20]) nlp
  have hb3l := hb3.same wl
  have lpb := hb3.ne nlp
  have hlp : (upd H3 lp (.lst [.int 3, .int 20])) lp = some (.lst [.int 3, .int 20]) := upd_same
  have hDl := wl _ _ hD
  have hssl := hss.mono fun v x (k : Nd H3 v x) => k.same wl
  have B3l := B3.trans (But.of (b := bg) wl)
  generalize upd H3 lp (.lst [.int 3, .int 20]) = H3l at hb3l hlp hDl hssl B3l ⊢
  clear wl hD hss B3
  refine ⟨_, rfl, bg, 2, rfl, by decide, by decide, hb3l, fun r H4 r0 r1 k4 hb4 => ?_⟩
  have B34 : But bg H3l H4 := (But.refl bg H3l).pick k4
  have hD4 := B34.at Db hDl
  have hss4 := hssl.mono fun v x (k : Nd H3l v x) => k.but B34 hb3l
  have B4 := B3l.trans B34
  obtain ⟨many, hat, m1, m20⟩ : ∃ many : Nat, atI [V.int 3, V.int 20] r = some (.int (many : Int)) ∧ 1 ≤ many ∧ many ≤ 20 := by
    rcases (show r = 0 ∨ r = 1 by omega) with rfl | rfl
    · exact ⟨3, rfl, by decide, by decide⟩
    · exact ⟨20, rfl, by decide, by decide⟩
  refine ⟨lp, _, _, _, rfl, rfl, SqL.of (B34.at lpb hlp), hat, ?_⟩
  refine ⟨bg, (many : Int), rfl, by omega, Nat.lt_of_le_of_lt (show ((many : Int)).natAbs ≤ 20 by omega) (by decide), hb4, fun r2 H5 r20 r21 k5 hb5 => ?_⟩
  obtain ⟨m, rfl⟩ : ∃ m : Nat, r2 = (m : Int) := ⟨r2.toNat, by omega⟩
  have B45 : But bg H4 H5 := (But.refl bg H4).pick k5
  have hD5 := B45.at Db hD4
  have hss5 := hss4.mono fun v x (k : Nd H4 v x) => k.but B45 hb4
  have B5 := B4.trans B45
  clear hD4 hss4 hDl hssl B4 B3l B34 k4 k5 hb3l hb4 hb3
  refine ⟨_, _, rfl, rfl, ((1 + m : Nat) : Int), congrArg (fun z => [V.int z]) (by omega), by omega, by omega, fun Dn nDn => ?_⟩
  have Dnb := hb5.ne nDn
  refine lc_range (lo := 0) (n := 1 + m) (fun i H' => ∃ (ws : List V) (W : List (Nat × Nat)), But bg H5 H' ∧ BagAt H' bg ∧ H' Dn = some (.lst ws) ∧ All2 (Nd H') ws W ∧ (∀ x ∈ W, isN n x) ∧ W.length = i)
    ⟨[], [], But.of (same_upd nDn), hb5.upd Dnb, upd_same, .nil, (fun _ h => absurd h List.not_mem_nil), rfl⟩ ?_ ?_
  · rintro j H6 hj ⟨ws, W, B6, hb6, hDn, hws, hW, lW⟩
    refine ⟨rfl, ?_⟩
    have hD6 := B6.at Db hD5
    have hss6 := hss5.mono fun v x (k : Nd H5 v x) => k.but B6 hb5
    refine ⟨_, rfl, _, rfl, _, rfl, D, ss, rfl, .inl (SqL.of hD6), bg, ((ss.length : Nat) : Int), rfl, by omega, Nat.lt_of_le_of_lt (show (((ss.length : Nat) : Int)).natAbs ≤ 119 by omega) (by decide), hb6, fun r H7 r0 r1 k7 hb7 => ?_⟩
    obtain ⟨t, rfl⟩ : ∃ t : Nat, r = (t : Int) := ⟨r.toNat, by omega⟩
    have B67 : But bg H6 H7 := (But.refl bg H6).pick k7
    have tl : t < N.length := by omega
    obtain ⟨v, hv, hN⟩ := hss6.nth2 (List.getElem?_eq_getElem tl)
    have hDn7 := B67.at Dnb hDn
    refine ⟨D, _, _, _, rfl, rfl, SqL.of (B67.at Db hD6), atI_nat (j := t) hv, ?_⟩
    refine ⟨ws, hDn7, szlt (by rw [hws.len, lW]; omega), ws ++ [v], W ++ [N[t]], ?_, hb7.upd Dnb, upd_same, ?_, ?_, by rw [List.length_append, List.length_singleton, lW]⟩
    · exact fun a o z k => by rw [upd_ne (ne_of_none k nDn)]; exact B67 a o z (B6 a o z k)
    · exact ((hws.mono fun v x (k : Nd H6 v x) => k.but B67 hb6).mono fun v x (k : Nd H7 v x) => k.upd hDn7).app (.cons ((hN.but B67 hb6).upd hDn7) .nil)
    · intro y hy
      rcases List.mem_append.mp hy with hy | hy
      · exact hW y hy
      · rw [List.mem_singleton.mp hy]
        exact N1 _ (List.getElem_mem tl)
  rintro H6 ⟨ws, W, B6, hb6, hDn, hws, hW, lW⟩
  have BH6 := B5.trans B6
  have wl := hws.len
  have wW := nodes_wn hW
  have h30 : n ≤ 10 ^ 30 := Nat.le_trans n60 (by decide)
  clear hD5 hss5 hb5 B5 B6
  have w1 : 1 ≤ W.length := by omega
  have w20 : W.length ≤ 20 := by omega
  refine ⟨_, rfl, Dn, ws, rfl, .inl (SqL.of hDn), fun pa npa => ?_⟩
  have wp := same_upd (o := .lst ws) npa
  have hpa : (upd H6 pa (.lst ws)) pa = some (.lst ws) := upd_same
  have hDn7 := wp _ _ hDn
  have hws7 := hws.mono fun v x (k : Nd H6 v x) => k.same wp
  have hb7 := hb6.same wp
  have B7 := BH6.trans (But.of (b := bg) wp)
  generalize upd H6 pa (.lst ws) = H7 at hpa hDn7 hws7 hb7 B7 ⊢
  clear wp hDn hws hb6 BH6 npa
  refine ⟨_, rfl, _, rfl, n, pa, ws, W, rfl, n1, h30, hpa, hws7, w1, by omega, hW, fun H8 dr ds s8 ndr hdr hds => ?_⟩
  have iss := due32_is n1 (by omega) (fun z => by rw [z] at w1; exact absurd w1 (by decide)) wW
  have Dl : (nb n 0 (srt W)).length ≤ 119 := by
    rw [← iss, srt_len, List.length_map]
    have := List.length_filter_le (dueF W) (TW n)
    have := TW_len n1
    omega
  have DN : ∀ x ∈ nb n 0 (srt W), small x := fun x hx => by
    obtain ⟨a, b, _⟩ := isN_tree (n := n) (b := x.1) (e := x.2) (nb_srt_due wW hx).1
    exact ⟨by omega, by omega⟩
  have dl := hds.len
  have Lm : ∀ x ∈ ndl W W.length, x ≤ 1000 := fun x hx => by
    have := List.mem_range.mp (List.mem_filter.mp hx).1
    omega
  have Ll : (ndl W W.length).length ≤ 1000 := by
    have := ndl_len W W.length
    omega
  generalize hDL : nb n 0 (srt W) = DL at hds Dl DN dl
  generalize hLN : ndl W W.length = LN at Lm Ll
  have shD : (PyData.list (DL.map nd)).showable = true := by
    simp only [PyData.showable]
    exact nds_showable DL DN
  have fiD := nds_fits DL DN (by omega)
  have shL : (PyData.list (nats LN)).showable = true := by
    simp only [PyData.showable]
    exact nats_showable LN Lm
  have fiL := nats_fits LN Lm Ll
  have hDn8 := s8 _ _ hDn7
  have hws8 := hws7.mono fun v x (k : Nd H7 v x) => k.same s8
  refine ⟨_, rfl, _, .list (DL.map nd), rfl, lst_dp hdr hds, rfl, nds_shaped _, shD, fiD, ?_⟩
  refine ⟨_, rfl, _, rfl, n, Dn, ws, W, rfl, n1, by omega, hDn8, hws8, (fun z => by rw [z] at w1; exact absurd w1 (by decide)), wW, fun H9 r9 y9 s9 nr9 hr9 hy9 => ?_⟩
  rw [hDL] at hy9
  refine ⟨_, .list (DL.map nd), rfl, lst_dp hr9 hy9, rfl, nds_shaped _, shD, fiD, rfl, false, ne_no rfl, ?_⟩
  have s79 := s8.trans s9
  have hpa9 := s79 _ _ hpa
  have hws9 := hws7.mono fun v x (k : Nd H7 v x) => k.same s79
  refine ⟨_, rfl, _, rfl, n, pa, ws, W, rfl, n1, h30, hpa9, hws9, w1, by omega, hW, fun H10 q10 s10 nq10 hq10 => ?_⟩
  rw [hLN] at hq10
  refine ⟨_, .list (nats LN), rfl, .lst (SqL.of hq10) (nats_dp LN), rfl, nats_shaped _, shL, fiL, ?_⟩
  have s710 := s79.trans s10
  have hDn10 := s710 _ _ hDn7
  have hws10 := hws7.mono fun v x (k : Nd H7 v x) => k.same s710
  refine ⟨_, rfl, _, rfl, n, Dn, ws, W, rfl, by omega, hDn10, hws10, by omega, wW, fun H11 q11 s11 nq11 hq11 => ?_⟩
  rw [hLN] at hq11
  refine ⟨_, .list (nats LN), rfl, .lst (SqL.of hq11) (nats_dp LN), rfl, nats_shaped _, shL, fiL, rfl, false, ne_no rfl, ?_⟩
  have s711 := s710.trans s11
  have hdr11 := ((s9.trans s10).trans s11) _ _ hdr
  have hds11 := hds.mono fun v x (k : Nd H8 v x) => k.same ((s9.trans s10).trans s11)
  refine ⟨_, rfl, .inl ⟨rfl, _, SqL.of hdr11⟩, dr, _, _, rfl, rfl, hdr11, szlt (by omega), ?_⟩
  have s712 : Same H7 (upd H11 dr (.lst (ds ++ [.non]))) := fun a o k => by rw [upd_ne (ne_of_none k ndr)]; exact s711 _ _ k
  have hdr12 : (upd H11 dr (.lst (ds ++ [.non]))) dr = some (.lst (ds ++ [.non])) := upd_same
  have hds12 := hds11.mono fun v x (k : Nd H11 v x) => k.upd (o := .lst (ds ++ [.non])) hdr11
  generalize upd H11 dr (.lst (ds ++ [.non])) = H12 at s712 hdr12 hds12 ⊢
  clear hdr11 hds11 hds hdr hq10 hq11 hDn10 hws10 hpa9 hws9 hy9 hr9
  have hpa12 := s712 _ _ hpa
  have hws12 := hws7.mono fun v x (k : Nd H7 v x) => k.same s712
  refine ⟨_, rfl, _, rfl, n, pa, ws, W, rfl, n1, h30, hpa12, hws12, w1, by omega, hW, fun H13 mo s13 nmo hmo => ?_⟩
  rw [hLN] at hmo
  refine ⟨_, rfl, .inl ⟨rfl, _, SqL.of hmo⟩, mo, _, _, rfl, rfl, hmo, szlt (by rw [List.length_map]; omega), ?_⟩
  have s1214 : Same H12 (upd H13 mo (.lst ((LN.map fun i : Nat => V.int (i : Int)) ++ [.non]))) := fun a o k => by rw [upd_ne (ne_of_none k nmo)]; exact s13 _ _ k
  have hmo14 : (upd H13 mo (.lst ((LN.map fun i : Nat => V.int (i : Int)) ++ [.non]))) mo = some (.lst ((LN.map fun i : Nat => V.int (i : Int)) ++ [.non])) := upd_same
  generalize upd H13 mo (.lst ((LN.map fun i : Nat => V.int (i : Int)) ++ [.non])) = H14 at s1214 hmo14 ⊢
  have s714 := s712.trans s1214
  have hpa14 := s714 _ _ hpa
  have hws14 := hws7.mono fun v x (k : Nd H7 v x) => k.same s714
  refine ⟨_, rfl, _, rfl, n, pa, ws, W, rfl, n1, h30, hpa14, hws14, w1, by omega, hW, fun H15 q15 s15 nq15 hq15 => ?_⟩
  rw [hLN] at hq15
  have hmo15 := s15 _ _ hmo14
  refine ⟨_, rfl, 1, rfl, -1, rfl, mo, _, rfl, SqL.of hmo15, fun c nc => ?_⟩
  rw [cut_last, List.dropLast_concat]
  have wc := same_upd (o := .lst (LN.map fun i : Nat => V.int (i : Int))) nc
  refine ⟨.list (nats LN), .list (nats LN), .lst (SqL.of (wc _ _ hq15)) (nats_dp LN), .lst (SqL.of upd_same) (nats_dp LN), nats_shaped _, nats_shaped _, ?_⟩
  rw [nats_refl]
  refine ⟨false, rfl, ?_⟩
  have s1216 := s1214.trans (s15.trans wc)
  generalize upd H15 c (.lst (LN.map fun i : Nat => V.int (i : Int))) = H16 at s1216 ⊢
  have s716 := s712.trans s1216
  have hpa16 := s716 _ _ hpa
  have hDn16 := s716 _ _ hDn7
  have hws16 := hws7.mono fun v x (k : Nd H7 v x) => k.same s716
  have hdr16 := s1216 _ _ hdr12
  refine ⟨_, rfl, _, rfl, .list (W.map nd), .list (W.map nd), lst_dp hpa16 hws16, lst_dp hDn16 hws16, nds_shaped _, nds_shaped _, ?_⟩
  rw [nds_eqv, decide_eq_true rfl]
  refine ⟨true, rfl, ?_⟩
  refine ⟨_, rfl, _, rfl, n, pa, ws, W, rfl, n1, h30, hpa16, hws16, w1, by omega, hW, fun H17 q17 y17 s17 nq17 hq17 hy17 => ?_⟩
  rw [hDL] at hy17
  have hdr17 := s17 _ _ hdr16
  refine ⟨_, rfl, 1, rfl, -1, rfl, dr, _, rfl, SqL.of hdr17, fun c2 nc2 => ?_⟩
  rw [cut_last, List.dropLast_concat]
  have wc2 := same_upd (o := .lst ds) nc2
  refine ⟨.list (DL.map nd), .list (DL.map nd), lst_dp (wc2 _ _ hq17) (hy17.mono fun v x (k : Nd H17 v x) => k.same wc2), lst_dp upd_same (hds12.mono fun v x (k : Nd H12 v x) => ((k.same s1216).same s17).same wc2), nds_shaped _, nds_shaped _, ?_⟩
  rw [nds_eqv, decide_eq_true rfl]
  have sE := s716.trans (s17.trans wc2)
  exact q _ (B7.trans (But.of (b := bg) sE)) (hb7.same sE)
end
end LT

namespace LT
open PySem PySem.Spec PyProof.Rows L2
theorem script_at {ns : List Int} {lo hi : Option Int} {i : Nat} {x : V} (h : (cutV (ns.map V.int) lo hi ++ [.int 0])[i]? = some x) : ∃ c : Int, x = .int c := by
  have m := List.mem_of_getElem? h
  rcases List.mem_append.mp m with m | m
  · unfold cutV at m
    have m2 := List.mem_of_mem_drop (List.mem_of_mem_take m)
    obtain ⟨c, _, e⟩ := List.mem_map.mp m2
    exact ⟨c, e.symm⟩
  · exact ⟨0, List.mem_singleton.mp m⟩
theorem sqSame {K : PySem.W.Frag} {H H' : Hp} {a : Addr} {xs : List V} (h : SqL K H a xs) (e : Same H H') : SqL K H' a xs :=
  h.elim (fun h => .inl (h.elim (fun h => .inl (e _ _ h)) fun ⟨o, h⟩ => .inr ⟨o, e _ _ h⟩)) fun h => .inr h
def spLaw (K : PySem.W.Frag) : Sp := fun vs H Q _ => ∃ (a : Addr) (ns : List Int), vs = [.ref a] ∧ SqL K H a (ns.map V.int) ∧ ns.length ≤ 63 ∧ ∀ H', Q (.bl true) H'
end LT

namespace LT
open PySem PySem.Spec PyProof.Rows L2
theorem side1 : nb 7 0 (srt [(5, 6)]) = [(0, 4), (4, 5), (6, 7)] := by decide +kernel
theorem side2 : nb 7 0 (srt [(0, 7)]) = [] := by decide +kernel
theorem side4 : ndl [(0, 1)] 1 = [] := by decide +kernel
theorem side3 : ndl [(0, 4), (2, 3), (4, 7), (4, 7)] 4 = [1, 2, 3] := by
  have h0 : lies (0, 4) (jn (srt [(2, 3), (4, 7), (4, 7)])) = false := by
    rw [← cut_lies (n := 7) (by unfold Wn; decide) (by decide) (by decide)]
    decide +kernel
  have h1 : lies (2, 3) (jn (srt [(0, 4), (4, 7), (4, 7)])) = true := by
    rw [← cut_lies (n := 7) (by unfold Wn; decide) (by decide) (by decide)]
    decide +kernel
  have h2 : lies (4, 7) (jn (srt [(0, 4), (2, 3), (4, 7)])) = true := by
    rw [← cut_lies (n := 7) (by unfold Wn; decide) (by decide) (by decide)]
    decide +kernel
  rw [ndl_more, ndl_more, ndl_more, ndl_more]
  show [] ++ (if lies (0, 4) (jn (srt [(2, 3), (4, 7), (4, 7)])) then [0] else []) ++ (if lies (2, 3) (jn (srt [(0, 4), (4, 7), (4, 7)])) then [1] else []) ++ (if lies (4, 7) (jn (srt [(0, 4), (2, 3), (4, 7)])) then [2] else []) ++ (if lies (4, 7) (jn (srt [(0, 4), (2, 3), (4, 7)])) then [3] else []) = _
  rw [h0, h1, h2]
  rfl
theorem side_nodes : ∀ x ∈ [(5, 6), (0, 7), (0, 4), (2, 3), (4, 7)], isN 7 x := by
  unfold isN tree
  decide +kernel
theorem side_one : isN 1 (0, 1) := by
  unfold isN tree
  decide +kernel
section
variable {P : Program} {w : World} {K : PySem.W.Frag} {mg : Str → Option Value} {base : Heap}
theorem ok_law {f g1 g2 g3 g4 g5 g6 : Addr} {fd d1 d2 d3 d4 d5 d6 : FuncData} (F : Fun K "law" "law" sLaw f fd)
    (GLawBag : FnOk P w K mg base CX0 1 g1 d1 ["cell"] spBag) (ALawBag : At K mg "_law_bag" g1 d1 ["cell"])
    (GLawSize : FnOk P w K mg base CX0 2 g2 d2 ["bag", "most"] spSizeM) (ALawSize : At K mg "_law_size" g2 d2 ["bag", "most"])
    (GLawRight : GOk P w K mg base 8 g3 d3 ["bag", "size"] spRight) (ALawRight : At K mg "_law_right" g3 d3 ["bag", "size"])
    (GLawFewestRight : FnOk P w K mg base CX0 7 g4 d4 ["bag"] spFewest) (ALawFewestRight : At K mg "_law_fewest_right" g4 d4 ["bag"])
    (GMissing : FnOk P w K mg base CX0 6 g5 d5 ["size", "nodes"] spMissing) (AMissing : At K mg "missing" g5 d5 ["size", "nodes"])
    (GNeedless : FnOk P w K mg base CX0 6 g6 d6 ["size", "nodes"] spNeedless) (ANeedless : At K mg "needless" g6 d6 ["size", "nodes"])
    (z_range : mg "range" = none) : GOk P w K mg base 9 f fd ["script"] (spLaw K) := by
  refine okG F scLaw (fun vs H Q E h => ?_) (fun cdv A outer s H vs Q hg hr h => ?_)
  · obtain ⟨_, _, rfl, _⟩ := h
    rfl
  obtain ⟨a, ns, rfl, hs, hn, q⟩ := h
  refine ⟨_, (pss_cons (ps_for PassesOwn.never rfl (pi_list (pe_op op_cat (pe_slice sl_list (pv 0) po_none (po_some pe_int)) (pe_lst (pa_cons pe_int pa_nil)))) (pg_name (i := 1) scLaw.nd rfl (Or.inl rfl))
    (pss_cons (ps_set (i := 2) scLaw.nd rfl (Or.inl rfl) (pe_call GLawBag (hr.mono (by decide)) rfl ALawBag.m ALawBag.kp ALawBag.b .nil pass0 (pa_cons (pv 1) pa_nil)))
    (pss_cons (ps_for PassesOwn.never rfl (pi_range1 (by rfl) z_range (pa_cons pe_int pa_nil)) (pg_name (i := 3) scLaw.nd rfl (Or.inl rfl))
    (pss_one (ps_if (pt_not (pt_val (pe_callG GLawRight hg (hr.mono (by decide)) rfl ALawRight.m ALawRight.kp ALawRight.b (pa_cons (pv 2) (pa_cons (pe_call GLawSize (hr.mono (by decide)) rfl ALawSize.m ALawSize.kp ALawSize.b .nil pass0 (pa_cons (pv 2) (pa_cons pe_int pa_nil))) pa_nil)))))
    (pss_one (ps_ret pe_bl))
    pss_nil)))
    (pss_one (ps_if (pt_not (pt_val (pe_call GLawFewestRight (hr.mono (by decide)) rfl ALawFewestRight.m ALawFewestRight.kp ALawFewestRight.b .nil pass0 (pa_cons (pv 2) pa_nil))))
    (pss_one (ps_ret pe_bl))
    pss_nil)))))
    (pss_cons (ps_if (PW.pt (pw_or (pt_cmpR (op_neD hr.units) (pe_call GMissing (hr.mono (by decide)) rfl AMissing.m AMissing.kp AMissing.b .nil pass0 (pa_cons pe_int (pa_cons (pe_lst (pa_cons (pe_tup (pa_cons pe_int (pa_cons pe_int pa_nil))) pa_nil)) pa_nil))) (pe_lst (pa_cons (pe_tup (pa_cons pe_int (pa_cons pe_int pa_nil))) (pa_cons (pe_tup (pa_cons pe_int (pa_cons pe_int pa_nil))) (pa_cons (pe_tup (pa_cons pe_int (pa_cons pe_int pa_nil))) pa_nil)))) (nomark _)) (pw_or1 (pt_cmpR (op_neD hr.units) (pe_call GMissing (hr.mono (by decide)) rfl AMissing.m AMissing.kp AMissing.b .nil pass0 (pa_cons pe_int (pa_cons (pe_lst (pa_cons (pe_tup (pa_cons pe_int (pa_cons pe_int pa_nil))) pa_nil)) pa_nil))) (pe_lst pa_nil) (nomark _)))))
    (pss_one (ps_ret pe_bl))
    pss_nil)
    (pss_one (ps_ret (pe_and (pe_cmpR (op_eqD hr.units) (pe_call GNeedless (hr.mono (by decide)) rfl ANeedless.m ANeedless.kp ANeedless.b .nil pass0 (pa_cons pe_int (pa_cons (pe_lst (pa_cons (pe_tup (pa_cons pe_int (pa_cons pe_int pa_nil))) (pa_cons (pe_tup (pa_cons pe_int (pa_cons pe_int pa_nil))) (pa_cons (pe_tup (pa_cons pe_int (pa_cons pe_int pa_nil))) (pa_cons (pe_tup (pa_cons pe_int (pa_cons pe_int pa_nil))) pa_nil))))) pa_nil))) (pe_lst (pa_cons pe_int (pa_cons pe_int (pa_cons pe_int pa_nil)))) (nomark _)) (pe_one (pe_cmpR (op_eqD hr.units) (pe_call GNeedless (hr.mono (by decide)) rfl ANeedless.m ANeedless.kp ANeedless.b .nil pass0 (pa_cons pe_int (pa_cons (pe_lst (pa_cons (pe_tup (pa_cons pe_int (pa_cons pe_int pa_nil))) pa_nil)) pa_nil))) (pe_lst pa_nil) (nomark _)))))))), ?_⟩
  have one1 : 1 ≤ sizeLine := by decide
  have two : 2 ≤ sizeLine := by decide
  refine ⟨_, rfl, 6, rfl, a, _, rfl, hs, fun c nc => ⟨one1, fun z nz => ?_⟩⟩
  have s1 := same_upd (o := .lst (cutV (ns.map V.int) none (some 6))) nc
  have s2 := same_upd (o := .lst [.int 0]) nz
  have hcl := cutV_length (ns.map V.int) none (some 6)
  rw [List.length_map] at hcl
  refine ⟨c, z, _, _, rfl, rfl, s2 _ _ upd_same, upd_same, szle (by rw [List.length_singleton]; omega), fun r nr => ?_⟩
  have hr0 : (upd (upd (upd H c (.lst (cutV (ns.map V.int) none (some 6)))) z (.lst [.int 0])) r (.lst (cutV (ns.map V.int) none (some 6) ++ [.int 0]))) r = some (.lst (cutV (ns.map V.int) none (some 6) ++ [.int 0])) := upd_same
  generalize upd (upd (upd H c (.lst (cutV (ns.map V.int) none (some 6)))) z (.lst [.int 0])) r (.lst (cutV (ns.map V.int) none (some 6) ++ [.int 0])) = H0 at hr0
  refine ⟨r, rfl, ⟨_, SqL.of hr0⟩, for_list (K := K) (a := r) (xs := cutV (ns.map V.int) none (some 6) ++ [.int 0]) (fun i σ H' => ∃ v1 v2 v3 : Option V, σ = [some (.ref a), v1, v2, v3] ∧ Same H0 H')
    ⟨none, none, none, rfl, Same.refl _⟩ (fun i σ H' _ ⟨_, _, _, _, s5⟩ => SqL.of (s5 _ _ hr0)) ?_ ?_⟩
  · rintro i x σ H1 hi ⟨v1, v2, v3, rfl, sm1⟩
    obtain ⟨cell, rfl⟩ := script_at hi
    refine ⟨_, rfl, cell, rfl, fun H2 b sm2 nb hb => ?_⟩
    have nb0 : H0 b = none := sm1.free nb
    have B2 : But b H0 H2 := But.of (sm1.trans sm2)
    refine ⟨4, rfl, by decide, by decide, ?_⟩
    refine for_range (lo := 0) (n := 4) (fun j σ H' => ∃ v3 : Option V, σ = [some (.ref a), some (.int cell), some (.ref b), v3] ∧ But b H0 H' ∧ BagAt H' b) ⟨v3, rfl, B2, hb⟩ ?_ ?_
    · rintro j σ H3 hj ⟨v3, rfl, B3, b3⟩
      refine ⟨_, rfl, _, rfl, b, 60, rfl, by decide, by decide, b3, fun n H4 n1 n60 B4 b4 => ?_⟩
      refine ⟨b, n, rfl, n1, n60, b4, fun H5 B5 b5 => ⟨true, rfl, ?_⟩⟩
      exact ⟨_, rfl, (B3.trans B4).trans B5, b5⟩
    · rintro σ H3 ⟨v3, rfl, B3, b3⟩
      refine ⟨_, rfl, b, rfl, b3, fun H5 B5 b5 => ⟨true, rfl, ?_⟩⟩
      exact ⟨_, _, _, rfl, fun u o k => (B3.trans B5) u o (ne_of_none k nb0) k⟩
  · rintro σ H1 ⟨v1, v2, v3, rfl, sm1⟩
    have three : 3 ≤ sizeLine := by decide
    have four : 4 ≤ sizeLine := by decide
    refine ⟨two, fun t1 m1 => ⟨one1, fun l1 k1 => ?_⟩⟩
    have wl1 := same_upd (o := .lst [.ref t1]) k1
    refine ⟨7, l1, [.ref t1], [(5, 6)], rfl, by decide, by decide, upd_same, .cons ⟨t1, rfl, wl1 _ _ upd_same⟩ .nil, by decide, by decide, (fun x hx => side_nodes x (by rw [List.mem_singleton.mp hx]; decide)), fun H2 r2 y2 sm2 nr2 hr2 hy2 => ?_⟩
    rw [side1] at hy2
    refine ⟨two, fun t2 m2 => ⟨two, fun t3 m3 => ⟨two, fun t4 m4 => ⟨three, fun l2 k2 => ?_⟩⟩⟩⟩
    have w2 := same_upd (o := .tup [.int 0, .int 4]) m2
    have w3 := same_upd (o := .tup [.int 4, .int 5]) m3
    have w4 := same_upd (o := .tup [.int 6, .int 7]) m4
    have wl2 := same_upd (o := .lst [.ref t2, .ref t3, .ref t4]) k2
    have wA := w2.trans (w3.trans (w4.trans wl2))
    refine ⟨.list ([(0, 4), (4, 5), (6, 7)].map nd), .list ([(0, 4), (4, 5), (6, 7)].map nd), lst_dp (wA _ _ hr2) (hy2.mono fun v x (k : Nd H2 v x) => k.same wA), lst_dp (l := [(0, 4), (4, 5), (6, 7)]) upd_same (.cons ⟨t2, rfl, (w3.trans (w4.trans wl2)) _ _ upd_same⟩ (.cons ⟨t3, rfl, (w4.trans wl2) _ _ upd_same⟩ (.cons ⟨t4, rfl, wl2 _ _ upd_same⟩ .nil))), nds_shaped _, nds_shaped _, ?_⟩
    rw [nds_eqv, decide_eq_true rfl]
    refine ⟨false, rfl, ?_⟩
    generalize upd (upd (upd (upd H2 t2 (.tup [.int 0, .int 4])) t3 (.tup [.int 4, .int 5])) t4 (.tup [.int 6, .int 7])) l2 (.lst [.ref t2, .ref t3, .ref t4]) = H3
    clear wA w2 w3 w4 wl2 wl1 m1 k1 m2 m3 m4 k2 sm2 nr2 hr2 hy2
    refine ⟨two, fun t1 m1 => ⟨one1, fun l1 k1 => ?_⟩⟩
    have wl1 := same_upd (o := .lst [.ref t1]) k1
    refine ⟨7, l1, [.ref t1], [(0, 7)], rfl, by decide, by decide, upd_same, .cons ⟨t1, rfl, wl1 _ _ upd_same⟩ .nil, by decide, by decide, (fun x hx => side_nodes x (by rw [List.mem_singleton.mp hx]; decide)), fun H2 r2 y2 sm2 nr2 hr2 hy2 => ?_⟩
    rw [side2] at hy2
    refine ⟨Nat.zero_le _, fun l2 k2 => ?_⟩
    have wl2 := same_upd (o := .lst []) k2
    refine ⟨.list (([] : List (Nat × Nat)).map nd), .list (([] : List (Nat × Nat)).map nd), lst_dp (wl2 _ _ hr2) (hy2.mono fun v x (k : Nd H2 v x) => k.same wl2), lst_dp (l := []) upd_same .nil, nds_shaped _, nds_shaped _, ?_⟩
    rw [nds_eqv, decide_eq_true rfl]
    refine ⟨false, rfl, ?_⟩
    generalize upd H2 l2 (.lst []) = H4
    clear wl1 m1 k1 k2 wl2 sm2 nr2 hr2 hy2
    refine ⟨two, fun t1 m1 => ⟨two, fun t2 m2 => ⟨two, fun t3 m3 => ⟨two, fun t4 m4 => ⟨four, fun l1 k1 => ?_⟩⟩⟩⟩⟩
    have w2 := same_upd (o := .tup [.int 2, .int 3]) m2
    have w3 := same_upd (o := .tup [.int 4, .int 7]) m3
    have w4 := same_upd (o := .tup [.int 4, .int 7]) m4
    have wl1 := same_upd (o := .lst [.ref t1, .ref t2, .ref t3, .ref t4]) k1
    refine ⟨7, l1, [.ref t1, .ref t2, .ref t3, .ref t4], [(0, 4), (2, 3), (4, 7), (4, 7)], rfl, by decide, by decide, upd_same, .cons ⟨t1, rfl, (w2.trans (w3.trans (w4.trans wl1))) _ _ upd_same⟩ (.cons ⟨t2, rfl, (w3.trans (w4.trans wl1)) _ _ upd_same⟩ (.cons ⟨t3, rfl, (w4.trans wl1) _ _ upd_same⟩ (.cons ⟨t4, rfl, wl1 _ _ upd_same⟩ .nil))), by decide, by decide, (fun x hx => side_nodes x (by
      simp only [List.mem_cons, List.not_mem_nil, or_false] at hx
      rcases hx with rfl | rfl | rfl | rfl <;> decide)), fun H2 r2 sm2 nr2 hr2 => ?_⟩
    have e3 : (ndl [(0, 4), (2, 3), (4, 7), (4, 7)] [(0, 4), (2, 3), (4, 7), (4, 7)].length) = [1, 2, 3] := side3
    rw [e3] at hr2
    refine ⟨three, fun l2 k2 => ?_⟩
    have wl2 := same_upd (o := .lst [.int 1, .int 2, .int 3]) k2
    refine ⟨.list (nats [1, 2, 3]), .list (nats [1, 2, 3]), .lst (SqL.of (wl2 _ _ hr2)) (nats_dp _), .lst (SqL.of upd_same) (nats_dp [1, 2, 3]), nats_shaped _, nats_shaped _, ?_⟩
    rw [nats_refl]
    refine ⟨true, rfl, ?_⟩
    generalize upd H2 l2 (.lst [.int 1, .int 2, .int 3]) = H5
    clear wl1 m1 k1 k2 wl2 sm2 nr2 hr2 w2 w3 w4 m2 m3 m4
    refine ⟨two, fun t1 m1 => ⟨one1, fun l1 k1 => ?_⟩⟩
    have wl1 := same_upd (o := .lst [.ref t1]) k1
    refine ⟨1, l1, [.ref t1], [(0, 1)], rfl, by decide, by decide, upd_same, .cons ⟨t1, rfl, wl1 _ _ upd_same⟩ .nil, by decide, by decide, (fun x hx => by rw [List.mem_singleton.mp hx]; exact side_one), fun H2 r2 sm2 nr2 hr2 => ?_⟩
    have e4 : (ndl [(0, 1)] [(0, 1)].length) = [] := side4
    rw [e4] at hr2
    refine ⟨Nat.zero_le _, fun l2 k2 => ?_⟩
    have wl2 := same_upd (o := .lst []) k2
    refine ⟨.list (nats []), .list (nats []), .lst (SqL.of (wl2 _ _ hr2)) (nats_dp []), .lst (SqL.of upd_same) (nats_dp []), nats_shaped _, nats_shaped _, ?_⟩
    rw [nats_refl]
    exact q _
end
end LT

namespace LT
open PySem PySem.Spec PyProof.Rows L2
theorem all_mk {l : PySem.W.OpenLaw} {w : World} {K : PySem.W.Frag} {h : Heap} {mg : Str → Option Value} {fa f0 f1 f2 f3 f4 f5 f6 f7 f8 f9 f10 f11 f12 f13 f14 f15 f16 f17 f18 f19 f20 f21 f22 f23 f24 f25 f26 : Addr} (X : K.In h) (G : h.Ns mainGlobals mg) (hfa : mg "law" = some (.ref fa))
    {od0 an0 od1 an1 od2 an2 od3 an3 od4 an4 od5 an5 od6 an6 od7 an7 od8 an8 od9 an9 od10 an10 od11 an11 od12 an12 od13 an13 od14 an14 od15 an15 od16 an16 od17 an17 od18 an18 od19 an19 od20 an20 od21 an21 od22 an22 od23 an23 od24 an24 od25 an25 od26 an26 : Option Addr} {sl0 sl1 sl2 sl3 sl4 sl5 sl6 sl7 sl8 sl9 sl10 sl11 sl12 sl13 sl14 sl15 sl16 sl17 sl18 sl19 sl20 sl21 sl22 sl23 sl24 sl25 sl26 : Array (Option Value)} {oc0 kV0 dc0 pm0 cd0 ct0 oc1 kV1 dc1 pm1 cd1 ct1 oc2 kV2 dc2 pm2 cd2 ct2 oc3 kV3 dc3 pm3 cd3 ct3 oc4 kV4 dc4 pm4 cd4 ct4 oc5 kV5 dc5 pm5 cd5 ct5 oc6 kV6 dc6 pm6 cd6 ct6 oc7 kV7 dc7 pm7 cd7 ct7 oc8 kV8 dc8 pm8 cd8 ct8 oc9 kV9 dc9 pm9 cd9 ct9 oc10 kV10 dc10 pm10 cd10 ct10 oc11 kV11 dc11 pm11 cd11 ct11 oc12 kV12 dc12 pm12 cd12 ct12 oc13 kV13 dc13 pm13 cd13 ct13 oc14 kV14 dc14 pm14 cd14 ct14 oc15 kV15 dc15 pm15 cd15 ct15 oc16 kV16 dc16 pm16 cd16 ct16 oc17 kV17 dc17 pm17 cd17 ct17 oc18 kV18 dc18 pm18 cd18 ct18 oc19 kV19 dc19 pm19 cd19 ct19 oc20 kV20 dc20 pm20 cd20 ct20 oc21 kV21 dc21 pm21 cd21 ct21 oc22 kV22 dc22 pm22 cd22 ct22 oc23 kV23 dc23 pm23 cd23 ct23 oc24 kV24 dc24 pm24 cd24 ct24 oc25 kV25 dc25 pm25 cd25 ct25 oc26 kV26 dc26 pm26 cd26 ct26 : Value}
    (a0 : PySem.W.nsIn K mainGlobals "is_whole" = some (some (.ref f0))) (l0 : K.lookup f0 = some ⟨oc0, od0, .func (PySem.W.fnOf "is_whole" "is_whole" (defArgs sIsWhole) (defBody sIsWhole) (defScope sIsWhole) .none kV0 dc0 pm0 an0 cd0 ct0), sl0⟩) (c0 : PySem.W.codeIn K cd0 "is_whole" = true) (k0 : PySem.W.keepIn K (.ref f0) = true)
    (a1 : PySem.W.nsIn K mainGlobals "is_between" = some (some (.ref f1))) (l1 : K.lookup f1 = some ⟨oc1, od1, .func (PySem.W.fnOf "is_between" "is_between" (defArgs sIsBetween) (defBody sIsBetween) (defScope sIsBetween) .none kV1 dc1 pm1 an1 cd1 ct1), sl1⟩) (c1 : PySem.W.codeIn K cd1 "is_between" = true) (k1 : PySem.W.keepIn K (.ref f1) = true)
    (a2 : PySem.W.nsIn K mainGlobals "is_tree_node" = some (some (.ref f2))) (l2 : K.lookup f2 = some ⟨oc2, od2, .func (PySem.W.fnOf "is_tree_node" "is_tree_node" (defArgs sIsTreeNode) (defBody sIsTreeNode) (defScope sIsTreeNode) .none kV2 dc2 pm2 an2 cd2 ct2), sl2⟩) (c2 : PySem.W.codeIn K cd2 "is_tree_node" = true) (k2 : PySem.W.keepIn K (.ref f2) = true)
    (a3 : PySem.W.nsIn K mainGlobals "is_list_of" = some (some (.ref f3))) (l3 : K.lookup f3 = some ⟨oc3, od3, .func (PySem.W.fnOf "is_list_of" "is_list_of" (defArgs sIsListOf) (defBody sIsListOf) (defScope sIsListOf) .none kV3 dc3 pm3 an3 cd3 ct3), sl3⟩) (c3 : PySem.W.codeIn K cd3 "is_list_of" = true) (k3 : PySem.W.keepIn K (.ref f3) = true)
    (a4 : PySem.W.nsIn K mainGlobals "check_size" = some (some (.ref f4))) (l4 : K.lookup f4 = some ⟨oc4, od4, .func (PySem.W.fnOf "check_size" "check_size" (defArgs sCheckSize) (defBody sCheckSize) (defScope sCheckSize) .none kV4 dc4 pm4 an4 cd4 ct4), sl4⟩) (c4 : PySem.W.codeIn K cd4 "check_size" = true) (k4 : PySem.W.keepIn K (.ref f4) = true)
    {dT5 : Addr} {tc5 : Value} {td5 : Option Addr} {tits5 : Array Value} {tn5 : Nat} {tsl5 : Array (Option Value)}
    (a5 : PySem.W.nsIn K mainGlobals "check_nodes" = some (some (.ref f5))) (l5 : K.lookup f5 = some ⟨oc5, od5, .func (PySem.W.fnOf "check_nodes" "check_nodes" (defArgs sCheckNodes) (defBody sCheckNodes) (defScope sCheckNodes) (.ref dT5) kV5 dc5 pm5 an5 cd5 ct5), sl5⟩) (c5 : PySem.W.codeIn K cd5 "check_nodes" = true) (k5 : PySem.W.keepIn K (.ref f5) = true)
    (lT5 : K.lookup dT5 = some ⟨tc5, td5, .seq tits5 tn5, tsl5⟩) (vT5 : Vals [.int 1, .int 60] tits5.toList)
    (a6 : PySem.W.nsIn K mainGlobals "power_within" = some (some (.ref f6))) (l6 : K.lookup f6 = some ⟨oc6, od6, .func (PySem.W.fnOf "power_within" "power_within" (defArgs sPowerWithin) (defBody sPowerWithin) (defScope sPowerWithin) .none kV6 dc6 pm6 an6 cd6 ct6), sl6⟩) (c6 : PySem.W.codeIn K cd6 "power_within" = true) (k6 : PySem.W.keepIn K (.ref f6) = true)
    (a7 : PySem.W.nsIn K mainGlobals "_first_full" = some (some (.ref f7))) (l7 : K.lookup f7 = some ⟨oc7, od7, .func (PySem.W.fnOf "_first_full" "_first_full" (defArgs sFirstFull) (defBody sFirstFull) (defScope sFirstFull) .none kV7 dc7 pm7 an7 cd7 ct7), sl7⟩) (c7 : PySem.W.codeIn K cd7 "_first_full" = true) (k7 : PySem.W.keepIn K (.ref f7) = true)
    (a8 : PySem.W.nsIn K mainGlobals "nodes_within" = some (some (.ref f8))) (l8 : K.lookup f8 = some ⟨oc8, od8, .func (PySem.W.fnOf "nodes_within" "nodes_within" (defArgs sNodesWithin) (defBody sNodesWithin) (defScope sNodesWithin) .none kV8 dc8 pm8 an8 cd8 ct8), sl8⟩) (c8 : PySem.W.codeIn K cd8 "nodes_within" = true) (k8 : PySem.W.keepIn K (.ref f8) = true)
    (a9 : PySem.W.nsIn K mainGlobals "nodes_beside" = some (some (.ref f9))) (l9 : K.lookup f9 = some ⟨oc9, od9, .func (PySem.W.fnOf "nodes_beside" "nodes_beside" (defArgs sNodesBeside) (defBody sNodesBeside) (defScope sNodesBeside) .none kV9 dc9 pm9 an9 cd9 ct9), sl9⟩) (c9 : PySem.W.codeIn K cd9 "nodes_beside" = true) (k9 : PySem.W.keepIn K (.ref f9) = true)
    (a10 : PySem.W.nsIn K mainGlobals "joined" = some (some (.ref f10))) (l10 : K.lookup f10 = some ⟨oc10, od10, .func (PySem.W.fnOf "joined" "joined" (defArgs sJoined) (defBody sJoined) (defScope sJoined) .none kV10 dc10 pm10 an10 cd10 ct10), sl10⟩) (c10 : PySem.W.codeIn K cd10 "joined" = true) (k10 : PySem.W.keepIn K (.ref f10) = true)
    (a11 : PySem.W.nsIn K mainGlobals "_check" = some (some (.ref f11))) (l11 : K.lookup f11 = some ⟨oc11, od11, .func (PySem.W.fnOf "_check" "_check" (defArgs sCheck) (defBody sCheck) (defScope sCheck) .none kV11 dc11 pm11 an11 cd11 ct11), sl11⟩) (c11 : PySem.W.codeIn K cd11 "_check" = true) (k11 : PySem.W.keepIn K (.ref f11) = true)
    (a12 : PySem.W.nsIn K mainGlobals "gives_root" = some (some (.ref f12))) (l12 : K.lookup f12 = some ⟨oc12, od12, .func (PySem.W.fnOf "gives_root" "gives_root" (defArgs sGivesRoot) (defBody sGivesRoot) (defScope sGivesRoot) .none kV12 dc12 pm12 an12 cd12 ct12), sl12⟩) (c12 : PySem.W.codeIn K cd12 "gives_root" = true) (k12 : PySem.W.keepIn K (.ref f12) = true)
    (a13 : PySem.W.nsIn K mainGlobals "missing" = some (some (.ref f13))) (l13 : K.lookup f13 = some ⟨oc13, od13, .func (PySem.W.fnOf "missing" "missing" (defArgs sMissing) (defBody sMissing) (defScope sMissing) .none kV13 dc13 pm13 an13 cd13 ct13), sl13⟩) (c13 : PySem.W.codeIn K cd13 "missing" = true) (k13 : PySem.W.keepIn K (.ref f13) = true)
    (a14 : PySem.W.nsIn K mainGlobals "_lies_within" = some (some (.ref f14))) (l14 : K.lookup f14 = some ⟨oc14, od14, .func (PySem.W.fnOf "_lies_within" "_lies_within" (defArgs sLiesWithin) (defBody sLiesWithin) (defScope sLiesWithin) .none kV14 dc14 pm14 an14 cd14 ct14), sl14⟩) (c14 : PySem.W.codeIn K cd14 "_lies_within" = true) (k14 : PySem.W.keepIn K (.ref f14) = true)
    (a15 : PySem.W.nsIn K mainGlobals "needless" = some (some (.ref f15))) (l15 : K.lookup f15 = some ⟨oc15, od15, .func (PySem.W.fnOf "needless" "needless" (defArgs sNeedless) (defBody sNeedless) (defScope sNeedless) .none kV15 dc15 pm15 an15 cd15 ct15), sl15⟩) (c15 : PySem.W.codeIn K cd15 "needless" = true) (k15 : PySem.W.keepIn K (.ref f15) = true)
    (a16 : PySem.W.nsIn K mainGlobals "_law_bag" = some (some (.ref f16))) (l16 : K.lookup f16 = some ⟨oc16, od16, .func (PySem.W.fnOf "_law_bag" "_law_bag" (defArgs sLawBag) (defBody sLawBag) (defScope sLawBag) .none kV16 dc16 pm16 an16 cd16 ct16), sl16⟩) (c16 : PySem.W.codeIn K cd16 "_law_bag" = true) (k16 : PySem.W.keepIn K (.ref f16) = true)
    (a17 : PySem.W.nsIn K mainGlobals "_law_pick" = some (some (.ref f17))) (l17 : K.lookup f17 = some ⟨oc17, od17, .func (PySem.W.fnOf "_law_pick" "_law_pick" (defArgs sLawPick) (defBody sLawPick) (defScope sLawPick) .none kV17 dc17 pm17 an17 cd17 ct17), sl17⟩) (c17 : PySem.W.codeIn K cd17 "_law_pick" = true) (k17 : PySem.W.keepIn K (.ref f17) = true)
    (a18 : PySem.W.nsIn K mainGlobals "_law_size" = some (some (.ref f18))) (l18 : K.lookup f18 = some ⟨oc18, od18, .func (PySem.W.fnOf "_law_size" "_law_size" (defArgs sLawSize) (defBody sLawSize) (defScope sLawSize) .none kV18 dc18 pm18 an18 cd18 ct18), sl18⟩) (c18 : PySem.W.codeIn K cd18 "_law_size" = true) (k18 : PySem.W.keepIn K (.ref f18) = true)
    (a19 : PySem.W.nsIn K mainGlobals "_law_parted" = some (some (.ref f19))) (l19 : K.lookup f19 = some ⟨oc19, od19, .func (PySem.W.fnOf "_law_parted" "_law_parted" (defArgs sLawParted) (defBody sLawParted) (defScope sLawParted) .none kV19 dc19 pm19 an19 cd19 ct19), sl19⟩) (c19 : PySem.W.codeIn K cd19 "_law_parted" = true) (k19 : PySem.W.keepIn K (.ref f19) = true)
    (a20 : PySem.W.nsIn K mainGlobals "_law_tree" = some (some (.ref f20))) (l20 : K.lookup f20 = some ⟨oc20, od20, .func (PySem.W.fnOf "_law_tree" "_law_tree" (defArgs sLawTree) (defBody sLawTree) (defScope sLawTree) .none kV20 dc20 pm20 an20 cd20 ct20), sl20⟩) (c20 : PySem.W.codeIn K cd20 "_law_tree" = true) (k20 : PySem.W.keepIn K (.ref f20) = true)
    (a21 : PySem.W.nsIn K mainGlobals "_law_marked" = some (some (.ref f21))) (l21 : K.lookup f21 = some ⟨oc21, od21, .func (PySem.W.fnOf "_law_marked" "_law_marked" (defArgs sLawMarked) (defBody sLawMarked) (defScope sLawMarked) .none kV21 dc21 pm21 an21 cd21 ct21), sl21⟩) (c21 : PySem.W.codeIn K cd21 "_law_marked" = true) (k21 : PySem.W.keepIn K (.ref f21) = true)
    (a22 : PySem.W.nsIn K mainGlobals "_law_due" = some (some (.ref f22))) (l22 : K.lookup f22 = some ⟨oc22, od22, .func (PySem.W.fnOf "_law_due" "_law_due" (defArgs sLawDue) (defBody sLawDue) (defScope sLawDue) .none kV22 dc22 pm22 an22 cd22 ct22), sl22⟩) (c22 : PySem.W.codeIn K cd22 "_law_due" = true) (k22 : PySem.W.keepIn K (.ref f22) = true)
    (a23 : PySem.W.nsIn K mainGlobals "_law_needless" = some (some (.ref f23))) (l23 : K.lookup f23 = some ⟨oc23, od23, .func (PySem.W.fnOf "_law_needless" "_law_needless" (defArgs sLawNeedless) (defBody sLawNeedless) (defScope sLawNeedless) .none kV23 dc23 pm23 an23 cd23 ct23), sl23⟩) (c23 : PySem.W.codeIn K cd23 "_law_needless" = true) (k23 : PySem.W.keepIn K (.ref f23) = true)
    (a24 : PySem.W.nsIn K mainGlobals "_law_fewest_right" = some (some (.ref f24))) (l24 : K.lookup f24 = some ⟨oc24, od24, .func (PySem.W.fnOf "_law_fewest_right" "_law_fewest_right" (defArgs sLawFewestRight) (defBody sLawFewestRight) (defScope sLawFewestRight) .none kV24 dc24 pm24 an24 cd24 ct24), sl24⟩) (c24 : PySem.W.codeIn K cd24 "_law_fewest_right" = true) (k24 : PySem.W.keepIn K (.ref f24) = true)
    (a25 : PySem.W.nsIn K mainGlobals "_law_right" = some (some (.ref f25))) (l25 : K.lookup f25 = some ⟨oc25, od25, .func (PySem.W.fnOf "_law_right" "_law_right" (defArgs sLawRight) (defBody sLawRight) (defScope sLawRight) .none kV25 dc25 pm25 an25 cd25 ct25), sl25⟩) (c25 : PySem.W.codeIn K cd25 "_law_right" = true) (k25 : PySem.W.keepIn K (.ref f25) = true)
    (a26 : PySem.W.nsIn K mainGlobals "law" = some (some (.ref f26))) (l26 : K.lookup f26 = some ⟨oc26, od26, .func (PySem.W.fnOf "law" "law" (defArgs sLaw) (defBody sLaw) (defScope sLaw) .none kV26 dc26 pm26 an26 cd26 ct26), sl26⟩) (c26 : PySem.W.codeIn K cd26 "law" = true) (k26 : PySem.W.keepIn K (.ref f26) = true)
    (z_any : PySem.W.nsIn K mainGlobals "any" = some none)
    (z_bool : PySem.W.nsIn K mainGlobals "bool" = some none)
    (z_enumerate : PySem.W.nsIn K mainGlobals "enumerate" = some none)
    (z_int : PySem.W.nsIn K mainGlobals "int" = some none)
    (z_isinstance : PySem.W.nsIn K mainGlobals "isinstance" = some none)
    (z_len : PySem.W.nsIn K mainGlobals "len" = some none)
    (z_list : PySem.W.nsIn K mainGlobals "list" = some none)
    (z_max : PySem.W.nsIn K mainGlobals "max" = some none)
    (z_min : PySem.W.nsIn K mainGlobals "min" = some none)
    (z_range : PySem.W.nsIn K mainGlobals "range" = some none)
    (z_repr : PySem.W.nsIn K mainGlobals "repr" = some none)
    (z_sorted : PySem.W.nsIn K mainGlobals "sorted" = some none)
    (z_sum : PySem.W.nsIn K mainGlobals "sum" = some none)
    (z_tuple : PySem.W.nsIn K mainGlobals "tuple" = some none)
    {t_MOST_ENTRIES : Tok} (g_MOST_ENTRIES : PySem.W.nsIn K mainGlobals "MOST_ENTRIES" = some (some (.int 1000000000000000000000000000000 t_MOST_ENTRIES)))
    : ∃ fd : FuncData, (∀ (s : Shared) (v : Value), BindsTo s fd ⟨[v], []⟩ [("script", v)]) ∧ ∀ base : Heap, K.In base → base.Ns mainGlobals mg → GOk l.prog w K mg base 9 fa fd ["script"] (spLaw K) := by
  have e := hfa.symm.trans (PySem.W.mg_of X G a26)
  cases e
  have FIsWhole := fun_mk (st := sIsWhole) l0 c0 k0
  have FIsBetween := fun_mk (st := sIsBetween) l1 c1 k1
  have FIsTreeNode := fun_mk (st := sIsTreeNode) l2 c2 k2
  have FIsListOf := fun_mk (st := sIsListOf) l3 c3 k3
  have FCheckSize := fun_mk (st := sCheckSize) l4 c4 k4
  have FCheckNodes := funT_mk (st := sCheckNodes) l5 c5 k5 lT5 vT5
  have FPowerWithin := fun_mk (st := sPowerWithin) l6 c6 k6
  have FFirstFull := fun_mk (st := sFirstFull) l7 c7 k7
  have FNodesWithin := fun_mk (st := sNodesWithin) l8 c8 k8
  have FNodesBeside := fun_mk (st := sNodesBeside) l9 c9 k9
  have FJoined := fun_mk (st := sJoined) l10 c10 k10
  have FCheck := fun_mk (st := sCheck) l11 c11 k11
  have FGivesRoot := fun_mk (st := sGivesRoot) l12 c12 k12
  have FMissing := fun_mk (st := sMissing) l13 c13 k13
  have FLiesWithin := fun_mk (st := sLiesWithin) l14 c14 k14
  have FNeedless := fun_mk (st := sNeedless) l15 c15 k15
  have FLawBag := fun_mk (st := sLawBag) l16 c16 k16
  have FLawPick := fun_mk (st := sLawPick) l17 c17 k17
  have FLawSize := fun_mk (st := sLawSize) l18 c18 k18
  have FLawParted := fun_mk (st := sLawParted) l19 c19 k19
  have FLawTree := fun_mk (st := sLawTree) l20 c20 k20
  have FLawMarked := fun_mk (st := sLawMarked) l21 c21 k21
  have FLawDue := fun_mk (st := sLawDue) l22 c22 k22
  have FLawNeedless := fun_mk (st := sLawNeedless) l23 c23 k23
  have FLawFewestRight := fun_mk (st := sLawFewestRight) l24 c24 k24
  have FLawRight := fun_mk (st := sLawRight) l25 c25 k25
  have FLaw := fun_mk (st := sLaw) l26 c26 k26
  have AIsWhole : At K mg "is_whole" f0 (PySem.W.fnOf "is_whole" "is_whole" (defArgs sIsWhole) (defBody sIsWhole) (defScope sIsWhole) .none kV0 dc0 pm0 an0 cd0 ct0) ["value"] := ⟨PySem.W.mg_of X G a0, k0, FIsWhole.binds (ps := ["value"]) fun _ _ _ _ _ _ us hl => match us, hl with | [_], _ => rfl⟩
  have AIsBetween : At K mg "is_between" f1 (PySem.W.fnOf "is_between" "is_between" (defArgs sIsBetween) (defBody sIsBetween) (defScope sIsBetween) .none kV1 dc1 pm1 an1 cd1 ct1) ["value", "low", "high"] := ⟨PySem.W.mg_of X G a1, k1, FIsBetween.binds (ps := ["value", "low", "high"]) fun _ _ _ _ _ _ us hl => match us, hl with | [_, _, _], _ => rfl⟩
  have AIsTreeNode : At K mg "is_tree_node" f2 (PySem.W.fnOf "is_tree_node" "is_tree_node" (defArgs sIsTreeNode) (defBody sIsTreeNode) (defScope sIsTreeNode) .none kV2 dc2 pm2 an2 cd2 ct2) ["size", "value"] := ⟨PySem.W.mg_of X G a2, k2, FIsTreeNode.binds (ps := ["size", "value"]) fun _ _ _ _ _ _ us hl => match us, hl with | [_, _], _ => rfl⟩
  have AIsListOf : At K mg "is_list_of" f3 (PySem.W.fnOf "is_list_of" "is_list_of" (defArgs sIsListOf) (defBody sIsListOf) (defScope sIsListOf) .none kV3 dc3 pm3 an3 cd3 ct3) ["value", "least", "most"] := ⟨PySem.W.mg_of X G a3, k3, FIsListOf.binds (ps := ["value", "least", "most"]) fun _ _ _ _ _ _ us hl => match us, hl with | [_, _, _], _ => rfl⟩
  have ACheckSize : At K mg "check_size" f4 (PySem.W.fnOf "check_size" "check_size" (defArgs sCheckSize) (defBody sCheckSize) (defScope sCheckSize) .none kV4 dc4 pm4 an4 cd4 ct4) ["size"] := ⟨PySem.W.mg_of X G a4, k4, FCheckSize.binds (ps := ["size"]) fun _ _ _ _ _ _ us hl => match us, hl with | [_], _ => rfl⟩
  have ACheckNodes : AtT K mg "check_nodes" f5 _ ["size", "nodes", "least", "most"] tits5.toList [.int 1, .int 60] := ⟨PySem.W.mg_of X G a5, k5, FCheckNodes.binds (n := 2) (m := 2) rfl (fun _ _ _ _ _ _ _ us its hl hi => match us, hl, its, hi with | [_, _], _, [_, _], _ => ⟨_, rfl, rfl⟩) , vT5⟩
  have APowerWithin : At K mg "power_within" f6 (PySem.W.fnOf "power_within" "power_within" (defArgs sPowerWithin) (defBody sPowerWithin) (defScope sPowerWithin) .none kV6 dc6 pm6 an6 cd6 ct6) ["number"] := ⟨PySem.W.mg_of X G a6, k6, FPowerWithin.binds (ps := ["number"]) fun _ _ _ _ _ _ us hl => match us, hl with | [_], _ => rfl⟩
  have AFirstFull : At K mg "_first_full" f7 (PySem.W.fnOf "_first_full" "_first_full" (defArgs sFirstFull) (defBody sFirstFull) (defScope sFirstFull) .none kV7 dc7 pm7 an7 cd7 ct7) ["begin", "end"] := ⟨PySem.W.mg_of X G a7, k7, FFirstFull.binds (ps := ["begin", "end"]) fun _ _ _ _ _ _ us hl => match us, hl with | [_, _], _ => rfl⟩
  have ANodesWithin : At K mg "nodes_within" f8 (PySem.W.fnOf "nodes_within" "nodes_within" (defArgs sNodesWithin) (defBody sNodesWithin) (defScope sNodesWithin) .none kV8 dc8 pm8 an8 cd8 ct8) ["size", "begin", "end"] := ⟨PySem.W.mg_of X G a8, k8, FNodesWithin.binds (ps := ["size", "begin", "end"]) fun _ _ _ _ _ _ us hl => match us, hl with | [_, _, _], _ => rfl⟩
  have ANodesBeside : At K mg "nodes_beside" f9 (PySem.W.fnOf "nodes_beside" "nodes_beside" (defArgs sNodesBeside) (defBody sNodesBeside) (defScope sNodesBeside) .none kV9 dc9 pm9 an9 cd9 ct9) ["size", "stretches"] := ⟨PySem.W.mg_of X G a9, k9, FNodesBeside.binds (ps := ["size", "stretches"]) fun _ _ _ _ _ _ us hl => match us, hl with | [_, _], _ => rfl⟩
  have AJoined : At K mg "joined" f10 (PySem.W.fnOf "joined" "joined" (defArgs sJoined) (defBody sJoined) (defScope sJoined) .none kV10 dc10 pm10 an10 cd10 ct10) ["stretches"] := ⟨PySem.W.mg_of X G a10, k10, FJoined.binds (ps := ["stretches"]) fun _ _ _ _ _ _ us hl => match us, hl with | [_], _ => rfl⟩
  have ACheck : At K mg "_check" f11 (PySem.W.fnOf "_check" "_check" (defArgs sCheck) (defBody sCheck) (defScope sCheck) .none kV11 dc11 pm11 an11 cd11 ct11) ["size", "nodes"] := ⟨PySem.W.mg_of X G a11, k11, FCheck.binds (ps := ["size", "nodes"]) fun _ _ _ _ _ _ us hl => match us, hl with | [_, _], _ => rfl⟩
  have AGivesRoot : At K mg "gives_root" f12 (PySem.W.fnOf "gives_root" "gives_root" (defArgs sGivesRoot) (defBody sGivesRoot) (defScope sGivesRoot) .none kV12 dc12 pm12 an12 cd12 ct12) ["size", "nodes"] := ⟨PySem.W.mg_of X G a12, k12, FGivesRoot.binds (ps := ["size", "nodes"]) fun _ _ _ _ _ _ us hl => match us, hl with | [_, _], _ => rfl⟩
  have AMissing : At K mg "missing" f13 (PySem.W.fnOf "missing" "missing" (defArgs sMissing) (defBody sMissing) (defScope sMissing) .none kV13 dc13 pm13 an13 cd13 ct13) ["size", "nodes"] := ⟨PySem.W.mg_of X G a13, k13, FMissing.binds (ps := ["size", "nodes"]) fun _ _ _ _ _ _ us hl => match us, hl with | [_, _], _ => rfl⟩
  have ALiesWithin : At K mg "_lies_within" f14 (PySem.W.fnOf "_lies_within" "_lies_within" (defArgs sLiesWithin) (defBody sLiesWithin) (defScope sLiesWithin) .none kV14 dc14 pm14 an14 cd14 ct14) ["node", "stretches"] := ⟨PySem.W.mg_of X G a14, k14, FLiesWithin.binds (ps := ["node", "stretches"]) fun _ _ _ _ _ _ us hl => match us, hl with | [_, _], _ => rfl⟩
  have ANeedless : At K mg "needless" f15 (PySem.W.fnOf "needless" "needless" (defArgs sNeedless) (defBody sNeedless) (defScope sNeedless) .none kV15 dc15 pm15 an15 cd15 ct15) ["size", "nodes"] := ⟨PySem.W.mg_of X G a15, k15, FNeedless.binds (ps := ["size", "nodes"]) fun _ _ _ _ _ _ us hl => match us, hl with | [_, _], _ => rfl⟩
  have ALawBag : At K mg "_law_bag" f16 (PySem.W.fnOf "_law_bag" "_law_bag" (defArgs sLawBag) (defBody sLawBag) (defScope sLawBag) .none kV16 dc16 pm16 an16 cd16 ct16) ["cell"] := ⟨PySem.W.mg_of X G a16, k16, FLawBag.binds (ps := ["cell"]) fun _ _ _ _ _ _ us hl => match us, hl with | [_], _ => rfl⟩
  have ALawPick : At K mg "_law_pick" f17 (PySem.W.fnOf "_law_pick" "_law_pick" (defArgs sLawPick) (defBody sLawPick) (defScope sLawPick) .none kV17 dc17 pm17 an17 cd17 ct17) ["bag", "many"] := ⟨PySem.W.mg_of X G a17, k17, FLawPick.binds (ps := ["bag", "many"]) fun _ _ _ _ _ _ us hl => match us, hl with | [_, _], _ => rfl⟩
  have ALawSize : At K mg "_law_size" f18 (PySem.W.fnOf "_law_size" "_law_size" (defArgs sLawSize) (defBody sLawSize) (defScope sLawSize) .none kV18 dc18 pm18 an18 cd18 ct18) ["bag", "most"] := ⟨PySem.W.mg_of X G a18, k18, FLawSize.binds (ps := ["bag", "most"]) fun _ _ _ _ _ _ us hl => match us, hl with | [_, _], _ => rfl⟩
  have ALawParted : At K mg "_law_parted" f19 (PySem.W.fnOf "_law_parted" "_law_parted" (defArgs sLawParted) (defBody sLawParted) (defScope sLawParted) .none kV19 dc19 pm19 an19 cd19 ct19) ["node"] := ⟨PySem.W.mg_of X G a19, k19, FLawParted.binds (ps := ["node"]) fun _ _ _ _ _ _ us hl => match us, hl with | [_], _ => rfl⟩
  have ALawTree : At K mg "_law_tree" f20 (PySem.W.fnOf "_law_tree" "_law_tree" (defArgs sLawTree) (defBody sLawTree) (defScope sLawTree) .none kV20 dc20 pm20 an20 cd20 ct20) ["size"] := ⟨PySem.W.mg_of X G a20, k20, FLawTree.binds (ps := ["size"]) fun _ _ _ _ _ _ us hl => match us, hl with | [_], _ => rfl⟩
  have ALawMarked : At K mg "_law_marked" f21 (PySem.W.fnOf "_law_marked" "_law_marked" (defArgs sLawMarked) (defBody sLawMarked) (defScope sLawMarked) .none kV21 dc21 pm21 an21 cd21 ct21) ["size", "nodes"] := ⟨PySem.W.mg_of X G a21, k21, FLawMarked.binds (ps := ["size", "nodes"]) fun _ _ _ _ _ _ us hl => match us, hl with | [_, _], _ => rfl⟩
  have ALawDue : At K mg "_law_due" f22 (PySem.W.fnOf "_law_due" "_law_due" (defArgs sLawDue) (defBody sLawDue) (defScope sLawDue) .none kV22 dc22 pm22 an22 cd22 ct22) ["size", "nodes"] := ⟨PySem.W.mg_of X G a22, k22, FLawDue.binds (ps := ["size", "nodes"]) fun _ _ _ _ _ _ us hl => match us, hl with | [_, _], _ => rfl⟩
  have ALawNeedless : At K mg "_law_needless" f23 (PySem.W.fnOf "_law_needless" "_law_needless" (defArgs sLawNeedless) (defBody sLawNeedless) (defScope sLawNeedless) .none kV23 dc23 pm23 an23 cd23 ct23) ["size", "nodes"] := ⟨PySem.W.mg_of X G a23, k23, FLawNeedless.binds (ps := ["size", "nodes"]) fun _ _ _ _ _ _ us hl => match us, hl with | [_, _], _ => rfl⟩
  have ALawFewestRight : At K mg "_law_fewest_right" f24 (PySem.W.fnOf "_law_fewest_right" "_law_fewest_right" (defArgs sLawFewestRight) (defBody sLawFewestRight) (defScope sLawFewestRight) .none kV24 dc24 pm24 an24 cd24 ct24) ["bag"] := ⟨PySem.W.mg_of X G a24, k24, FLawFewestRight.binds (ps := ["bag"]) fun _ _ _ _ _ _ us hl => match us, hl with | [_], _ => rfl⟩
  have ALawRight : At K mg "_law_right" f25 (PySem.W.fnOf "_law_right" "_law_right" (defArgs sLawRight) (defBody sLawRight) (defScope sLawRight) .none kV25 dc25 pm25 an25 cd25 ct25) ["bag", "size"] := ⟨PySem.W.mg_of X G a25, k25, FLawRight.binds (ps := ["bag", "size"]) fun _ _ _ _ _ _ us hl => match us, hl with | [_, _], _ => rfl⟩
  have z_any := PySem.W.mg_none_of X G z_any
  have z_bool := PySem.W.mg_none_of X G z_bool
  have z_enumerate := PySem.W.mg_none_of X G z_enumerate
  have z_int := PySem.W.mg_none_of X G z_int
  have z_isinstance := PySem.W.mg_none_of X G z_isinstance
  have z_len := PySem.W.mg_none_of X G z_len
  have z_list := PySem.W.mg_none_of X G z_list
  have z_max := PySem.W.mg_none_of X G z_max
  have z_min := PySem.W.mg_none_of X G z_min
  have z_range := PySem.W.mg_none_of X G z_range
  have z_repr := PySem.W.mg_none_of X G z_repr
  have z_sorted := PySem.W.mg_none_of X G z_sorted
  have z_sum := PySem.W.mg_none_of X G z_sum
  have z_tuple := PySem.W.mg_none_of X G z_tuple
  have g_MOST_ENTRIES := PySem.W.mg_of X G g_MOST_ENTRIES
  refine ⟨PySem.W.fnOf "law" "law" (defArgs sLaw) (defBody sLaw) (defScope sLaw) .none kV26 dc26 pm26 an26 cd26 ct26, fun s v => .of_eq rfl, fun base _ _ => ?_⟩
  have GIsWholeV := ok_is_wholeV (P := l.prog) (w := w) (base := base) FIsWhole z_isinstance z_int z_bool
  have GIsWhole := ok_is_whole (P := l.prog) (w := w) (base := base) FIsWhole z_isinstance z_int z_bool
  have GIsBetweenV := ok_is_betweenV FIsBetween GIsWholeV AIsWhole
  have GIsBetween := ok_is_between FIsBetween GIsWhole AIsWhole
  have GTreeV := ok_is_tree_nodeV FIsTreeNode GIsBetweenV AIsBetween z_isinstance z_tuple z_len
  have GIsListOf := ok_is_list_of (P := l.prog) (w := w) (base := base) FIsListOf z_isinstance z_list z_len
  have GCheckSize := ok_check_size FCheckSize GIsBetween AIsBetween g_MOST_ENTRIES
  have GCheckNodes := ok_check_nodes (P := l.prog) (w := w) (base := base) FCheckNodes GIsListOf AIsListOf GTreeV AIsTreeNode z_enumerate
  have GPowerWithin := ok_power_within (P := l.prog) (w := w) (mg := mg) (base := base) FPowerWithin
  have GFirstFull := ok_first_full FFirstFull GPowerWithin APowerWithin z_min
  have GNodesWithinX := ok_nodes_withinX FNodesWithin GTreeV AIsTreeNode GFirstFull AFirstFull
  have GNodesBeside := ok_nodes_beside FNodesBeside GNodesWithinX ANodesWithin z_sorted z_max
  have GJoined := ok_joined (P := l.prog) (w := w) (base := base) FJoined z_sorted z_max
  have GCheck := ok_check FCheck GCheckSize ACheckSize GCheckNodes ACheckNodes
  have GGivesRoot := ok_gives_root FGivesRoot GCheck ACheck GJoined AJoined
  have GMissing := ok_missing FMissing GCheck ACheck GNodesBeside ANodesBeside
  have GLiesWithin := ok_lies (P := l.prog) (w := w) (base := base) FLiesWithin z_any
  have GNeedless := ok_needless FNeedless GCheck ACheck GJoined AJoined GLiesWithin ALiesWithin z_enumerate
  have GLawBag := ok_law_bag (P := l.prog) (w := w) (base := base) FLawBag z_max
  have GLawPick := ok_law_pick (P := l.prog) (w := w) (base := base) FLawPick z_int
  have GLawSize := ok_law_sizeM FLawSize GLawPick ALawPick z_max z_min z_sum z_range
  have GLawParted := ok_law_parted (P := l.prog) (w := w) (mg := mg) (base := base) FLawParted
  have GLawTree := ok_law_tree FLawTree GLawParted ALawParted
  have GLawMarked := ok_law_marked (P := l.prog) (w := w) (base := base) FLawMarked z_range
  have GLawDue := ok_law_due FLawDue GLawMarked ALawMarked GLawTree ALawTree z_sorted
  have GLawNeedless := ok_law_needless FLawNeedless GLawMarked ALawMarked z_enumerate
  have GLawFewestRight := ok_law_fewest FLawFewestRight GLawPick ALawPick GLawTree ALawTree GLawMarked ALawMarked GMissing AMissing GGivesRoot AGivesRoot z_range z_len z_enumerate z_sorted
  have GLawRight := ok_law_right FLawRight GLawPick ALawPick GLawTree ALawTree GMissing AMissing GLawDue ALawDue GNeedless ANeedless GLawNeedless ALawNeedless z_range z_len z_list z_repr
  exact ok_law FLaw GLawBag ALawBag GLawSize ALawSize GLawRight ALawRight GLawFewestRight ALawFewestRight GMissing AMissing GNeedless ANeedless z_range
end LT
open PySem PySem.W PyProof.Rows
set_option maxRecDepth 100000 in
set_option maxHeartbeats 0 in
theorem PySem.Challenge.cw_logtrees_k32_missing_and_needless_holds : PySem.Challenge.rw_logtrees_k32_missing_and_needless.Holds := by
  w_on; o_law; k_head; (case hw => w_witness2)
  k_fill
  refine LT.walkG (l := PySem.Challenge.rw_logtrees_k32_missing_and_needless) (n := 63) (k := 9) (x := "script") (sp := fun w => LT.spLaw _) rfl (by decide) rfl ⟨rfl, by decide, by decide⟩ (fun w h Y => PySem.W.kIn_of Y) ?F (fun _ _ a ns hl _ hS => ⟨a, ns, rfl, hS, hl, fun _ => rfl⟩)
  case F =>
    intro w mg fa h KX G hmg
    refine' LT.all_mk KX G hmg ?a0 ?l0 ?c0 ?k0 ?a1 ?l1 ?c1 ?k1 ?a2 ?l2 ?c2 ?k2 ?a3 ?l3 ?c3 ?k3 ?a4 ?l4 ?c4 ?k4 ?a5 ?l5 ?c5 ?k5 ?lT5 ?vT5 ?a6 ?l6 ?c6 ?k6 ?a7 ?l7 ?c7 ?k7 ?a8 ?l8 ?c8 ?k8 ?a9 ?l9 ?c9 ?k9 ?a10 ?l10 ?c10 ?k10 ?a11 ?l11 ?c11 ?k11 ?a12 ?l12 ?c12 ?k12 ?a13 ?l13 ?c13 ?k13 ?a14 ?l14 ?c14 ?k14 ?a15 ?l15 ?c15 ?k15 ?a16 ?l16 ?c16 ?k16 ?a17 ?l17 ?c17 ?k17 ?a18 ?l18 ?c18 ?k18 ?a19 ?l19 ?c19 ?k19 ?a20 ?l20 ?c20 ?k20 ?a21 ?l21 ?c21 ?k21 ?a22 ?l22 ?c22 ?k22 ?a23 ?l23 ?c23 ?k23 ?a24 ?l24 ?c24 ?k24 ?a25 ?l25 ?c25 ?k25 ?a26 ?l26 ?c26 ?k26 ?z_any ?z_bool ?z_enumerate ?z_int ?z_isinstance ?z_len ?z_list ?z_max ?z_min ?z_range ?z_repr ?z_sorted ?z_sum ?z_tuple ?g_MOST_ENTRIES
    (case a0 => k_is)
    (case l0 => k_is)
    (case c0 => k_is)
    (case k0 => k_is)
    (case a1 => k_is)
    (case l1 => k_is)
    (case c1 => k_is)
    (case k1 => k_is)
    (case a2 => k_is)
    (case l2 => k_is)
    (case c2 => k_is)
    (case k2 => k_is)
    (case a3 => k_is)
    (case l3 => k_is)
    (case c3 => k_is)
    (case k3 => k_is)
    (case a4 => k_is)
    (case l4 => k_is)
    (case c4 => k_is)
    (case k4 => k_is)
    (case a5 => k_is)
    (case l5 => k_is)
    (case c5 => k_is)
    (case k5 => k_is)
    (case lT5 => k_is)
    (case vT5 => exact .cons ⟨_, rfl⟩ (.cons ⟨_, rfl⟩ (.nil)))
    (case a6 => k_is)
    (case l6 => k_is)
    (case c6 => k_is)
    (case k6 => k_is)
    (case a7 => k_is)
    (case l7 => k_is)
    (case c7 => k_is)
    (case k7 => k_is)
    (case a8 => k_is)
    (case l8 => k_is)
    (case c8 => k_is)
    (case k8 => k_is)
    (case a9 => k_is)
    (case l9 => k_is)
    (case c9 => k_is)
    (case k9 => k_is)
    (case a10 => k_is)
    (case l10 => k_is)
    (case c10 => k_is)
    (case k10 => k_is)
    (case a11 => k_is)
    (case l11 => k_is)
    (case c11 => k_is)
    (case k11 => k_is)
    (case a12 => k_is)
    (case l12 => k_is)
    (case c12 => k_is)
    (case k12 => k_is)
    (case a13 => k_is)
    (case l13 => k_is)
    (case c13 => k_is)
    (case k13 => k_is)
    (case a14 => k_is)
    (case l14 => k_is)
    (case c14 => k_is)
    (case k14 => k_is)
    (case a15 => k_is)
    (case l15 => k_is)
    (case c15 => k_is)
    (case k15 => k_is)
    (case a16 => k_is)
    (case l16 => k_is)
    (case c16 => k_is)
    (case k16 => k_is)
    (case a17 => k_is)
    (case l17 => k_is)
    (case c17 => k_is)
    (case k17 => k_is)
    (case a18 => k_is)
    (case l18 => k_is)
    (case c18 => k_is)
    (case k18 => k_is)
    (case a19 => k_is)
    (case l19 => k_is)
    (case c19 => k_is)
    (case k19 => k_is)
    (case a20 => k_is)
    (case l20 => k_is)
    (case c20 => k_is)
    (case k20 => k_is)
    (case a21 => k_is)
    (case l21 => k_is)
    (case c21 => k_is)
    (case k21 => k_is)
    (case a22 => k_is)
    (case l22 => k_is)
    (case c22 => k_is)
    (case k22 => k_is)
    (case a23 => k_is)
    (case l23 => k_is)
    (case c23 => k_is)
    (case k23 => k_is)
    (case a24 => k_is)
    (case l24 => k_is)
    (case c24 => k_is)
    (case k24 => k_is)
    (case a25 => k_is)
    (case l25 => k_is)
    (case c25 => k_is)
    (case k25 => k_is)
    (case a26 => k_is)
    (case l26 => k_is)
    (case c26 => k_is)
    (case k26 => k_is)
    (case z_any => k_is)
    (case z_bool => k_is)
    (case z_enumerate => k_is)
    (case z_int => k_is)
    (case z_isinstance => k_is)
    (case z_len => k_is)
    (case z_list => k_is)
    (case z_max => k_is)
    (case z_min => k_is)
    (case z_range => k_is)
    (case z_repr => k_is)
    (case z_sorted => k_is)
    (case z_sum => k_is)
    (case z_tuple => k_is)
    (case g_MOST_ENTRIES => k_is)
