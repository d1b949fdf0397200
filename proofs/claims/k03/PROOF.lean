import PyProof.Rows.All
import Wide.All
import OpenK.AllK
import Wide.FinOn
import HandS.ForMost
import HandS.Wide
import HandS.WideBits
import HandS.IsInst
import HandS.Style
import HandS.Deep
import HandS.RaiseMore
import HandS.Conv
import HandS.Flow
import HandS.SortRule
import PyProof.ReprRoads
import PyProof.Rows.NestShow
import PySem.Challenge.RW_logtrees_k03_great_shapes
set_option Elab.async false
set_option linter.all false
set_option maxRecDepth 100000
set_option maxHeartbeats 4000000
namespace LT
/-- the greatest power of two less than m (m from 2) -/
def gp (m : Nat) : Nat := 2 ^ Nat.log2 (m - 1)
theorem gp_pos (m : Nat) : 0 < gp m := Nat.pow_pos (by decide)
theorem gp_lt {m : Nat} (h : 2 ≤ m) : gp m < m := by
  have := Nat.log2_self_le (n := m - 1) (by omega)
  unfold gp; omega
theorem gp_ge {m : Nat} (h : 2 ≤ m) : m ≤ 2 * gp m := by
  have := Nat.lt_log2_self (n := m - 1)
  unfold gp; rw [Nat.pow_succ] at this; omega
theorem pow_eq_of {i j : Nat} {m : Nat} (h1 : 2 ^ i < m) (h2 : m ≤ 2 * 2 ^ i) (h3 : 2 ^ j < m) (h4 : m ≤ 2 * 2 ^ j) : i = j := by
  have a : 2 ^ i < 2 ^ (j + 1) := by rw [Nat.pow_succ]; omega
  have b : 2 ^ j < 2 ^ (i + 1) := by rw [Nat.pow_succ]; omega
  have a' := (Nat.pow_lt_pow_iff_right (by decide : 1 < 2)).mp a
  have b' := (Nat.pow_lt_pow_iff_right (by decide : 1 < 2)).mp b
  omega
theorem gp_eq {i m : Nat} (h1 : 2 ^ i < m) (h2 : m ≤ 2 * 2 ^ i) : gp m = 2 ^ i := by
  have h : 2 ≤ m := by have := Nat.pow_pos (a := 2) (n := i) (by decide); omega
  have := pow_eq_of (gp_lt h) (gp_ge h) h1 h2
  unfold gp; rw [this]
theorem gp_pow (i : Nat) : gp (2 ^ (i + 1)) = 2 ^ i := gp_eq (by rw [Nat.pow_succ]; have := Nat.pow_pos (a := 2) (n := i) (by decide); omega) (by rw [Nat.pow_succ]; omega)

/-- siblings from the root's half down to the leaf's: nodes as (begin, length-end) pairs -/
def sib (b m e : Nat) : List (Nat × Nat) :=
  if h : m ≤ 1 then [] else
    if e < b + gp m then (b + gp m, b + m) :: sib b (gp m) e
    else (b, b + gp m) :: sib (b + gp m) (m - gp m) e
termination_by m
decreasing_by
  · exact gp_lt (by omega)
  · have := gp_pos m; omega
theorem sib_one {b m e : Nat} (h : m ≤ 1) : sib b m e = [] := by rw [sib]; simp [h]
theorem sib_low {b m e : Nat} (h : 2 ≤ m) (k : e < b + gp m) : sib b m e = (b + gp m, b + m) :: sib b (gp m) e := by
  rw [sib]; rw [dif_neg (by omega), if_pos k]
theorem sib_high {b m e : Nat} (h : 2 ≤ m) (k : ¬ e < b + gp m) : sib b m e = (b, b + gp m) :: sib (b + gp m) (m - gp m) e := by
  rw [sib]; rw [dif_neg (by omega), if_neg k]

/-! ### joining up again -/
def join (x y : Nat × Nat) : Nat × Nat := (min x.1 y.1, max x.2 y.2)
/-- the halves of a node -/
def halv (x : Nat × Nat) : (Nat × Nat) × (Nat × Nat) := ((x.1, x.1 + gp (x.2 - x.1)), (x.1 + gp (x.2 - x.1), x.2))
def ok1 (x y : Nat × Nat) : Prop := (join x y).1 + 2 ≤ (join x y).2 ∧ (halv (join x y) = (x, y) ∨ halv (join x y) = (y, x))
def oks : Nat × Nat → List (Nat × Nat) → Prop
  | _, [] => True
  | x, y :: r => ok1 x y ∧ oks (join x y) r
def top : Nat × Nat → List (Nat × Nat) → Nat × Nat
  | x, [] => x
  | x, y :: r => top (join x y) r
theorem oks_append : ∀ (x : Nat × Nat) (l r : List (Nat × Nat)), oks x l → oks (top x l) r → oks x (l ++ r)
  | _, [], _, _, h => h
  | x, y :: l, r, h1, h2 => ⟨h1.1, oks_append (join x y) l r h1.2 h2⟩
theorem top_append : ∀ (x : Nat × Nat) (l r : List (Nat × Nat)), top x (l ++ r) = top (top x l) r
  | _, [], _ => rfl
  | x, y :: l, r => top_append (join x y) l r
theorem sib_up : ∀ (m b e : Nat), b ≤ e → e < b + m → oks (e, e + 1) (sib b m e).reverse ∧ top (e, e + 1) (sib b m e).reverse = (b, b + m) := by
  intro m
  induction m using Nat.strongRecOn with
  | ind m ih =>
    intro b e h1 h2
    by_cases hm : m ≤ 1
    · have : m = 1 := by omega
      subst this
      rw [sib_one (by omega)]
      have : e = b := by omega
      subst this
      exact ⟨True.intro, rfl⟩
    · have g1 := gp_lt (m := m) (by omega)
      have g2 := gp_pos m
      by_cases k : e < b + gp m
      · rw [sib_low (by omega) k, List.reverse_cons]
        obtain ⟨p, q⟩ := ih (gp m) g1 b e h1 k
        have j : join (b, b + gp m) (b + gp m, b + m) = (b, b + m) := by
          unfold join; simp only []; rw [Nat.min_eq_left (by omega), Nat.max_eq_right (by omega)]
        refine ⟨oks_append _ _ _ p ?_, ?_⟩
        · rw [q]
          refine ⟨⟨?_, .inl ?_⟩, True.intro⟩
          · rw [j]; simp only []; omega
          · rw [j]; unfold halv; simp only []; rw [Nat.add_sub_cancel_left]
        · rw [top_append, q]; exact j
      · rw [sib_high (by omega) k, List.reverse_cons]
        obtain ⟨p, q⟩ := ih (m - gp m) (by omega) (b + gp m) e (by omega) (by omega)
        have e2 : b + gp m + (m - gp m) = b + m := by omega
        rw [e2] at q
        have j : join (b + gp m, b + m) (b, b + gp m) = (b, b + m) := by
          unfold join; simp only []; rw [Nat.min_eq_right (by omega), Nat.max_eq_left (by omega)]
        refine ⟨oks_append _ _ _ p ?_, ?_⟩
        · rw [q]
          refine ⟨⟨?_, .inr ?_⟩, True.intro⟩
          · rw [j]; simp only []; omega
          · rw [j]; unfold halv; simp only []; rw [Nat.add_sub_cancel_left]
        · rw [top_append, q]; exact j
theorem sib_len_pow (i : Nat) : ∀ (b e : Nat), b ≤ e → e < b + 2 ^ i → (sib b (2 ^ i) e).length = i := by
  induction i with
  | zero => intro b e h1 h2; rw [sib_one (by simp)]; rfl
  | succ i ih =>
    intro b e h1 h2
    have h3 : 2 ≤ 2 ^ (i + 1) := by rw [Nat.pow_succ]; have := Nat.pow_pos (a := 2) (n := i) (by decide); omega
    have g := gp_pow i
    have e2 : 2 ^ (i + 1) - 2 ^ i = 2 ^ i := by rw [Nat.pow_succ]; omega
    by_cases k : e < b + gp (2 ^ (i + 1))
    · rw [sib_low h3 k, List.length_cons, g, ih b e h1 (by omega)]
    · rw [sib_high h3 k, List.length_cons, g, e2, ih (b + 2 ^ i) e (by omega) (by rw [Nat.pow_succ] at h2; omega)]
/-! ### the peaks by digits: (begin, height) -/
def pk : Nat → Nat → Nat → List (Nat × Nat)
  | 0, _, _ => []
  | i + 1, n, b => if n.testBit i then (b, i) :: pk i n (b + 2 ^ i) else pk i n b
theorem mod_succ (n i : Nat) : n % 2 ^ (i + 1) = (if n.testBit i then 2 ^ i else 0) + n % 2 ^ i := by
  rw [Nat.mod_pow_succ, Nat.testBit_eq_decide_div_mod_eq, Nat.add_comm]
  have h : n / 2 ^ i % 2 = 0 ∨ n / 2 ^ i % 2 = 1 := by omega
  rcases h with h | h <;> rw [h] <;> simp
theorem pk_nil : ∀ (i n b : Nat), n % 2 ^ i = 0 → pk i n b = []
  | 0, _, _, _ => rfl
  | i + 1, n, b, h => by
    rw [mod_succ] at h
    have p := Nat.pow_pos (a := 2) (n := i) (by decide)
    unfold pk
    cases t : n.testBit i with
    | true => rw [t] at h; simp at h
    | false => rw [t] at h; simp at h; simp; exact pk_nil i n b h
theorem pk_ne : ∀ (i n b : Nat), n % 2 ^ i ≠ 0 → pk i n b ≠ []
  | 0, _, _, h => by simp [Nat.mod_one] at h
  | i + 1, n, b, h => by
    rw [mod_succ] at h
    unfold pk
    cases t : n.testBit i with
    | true => simp
    | false => rw [t] at h; simp at h; simp; exact pk_ne i n b (by omega)
theorem pk_begin : ∀ (i n b : Nat) (x : Nat × Nat), x ∈ pk i n b → b ≤ x.1 ∧ x.2 < i
  | 0, _, _, _, h => by simp [pk] at h
  | i + 1, n, b, x, h => by
    unfold pk at h
    cases t : n.testBit i with
    | true =>
      rw [t] at h; simp at h
      rcases h with h | h
      · subst h; exact ⟨Nat.le_refl _, Nat.lt_succ_self _⟩
      · have := pk_begin i n _ x h; have p := Nat.pow_pos (a := 2) (n := i) (by decide); omega
    | false =>
      rw [t] at h; simp at h
      have := pk_begin i n _ x h; omega
/-- what the law says of the levels: s the place of the first row, of t rows in all -/
def lev (t : Nat) : Nat → List (Nat × Nat) → List (Nat × Nat × Nat)
  | _, [] => []
  | s, x :: r => (x.1, x.1 + 2 ^ x.2, x.2 + min (s + 1) (t - 1)) :: lev t (s + 1) r
def due (e : Nat) (l : List (Nat × Nat × Nat)) : List Nat := (l.filter fun x => decide (x.1 ≤ e) && decide (e < x.2.1)).map fun x => x.2.2
theorem due_none (t e : Nat) : ∀ (l : List (Nat × Nat)) (s : Nat), (∀ x ∈ l, e < x.1) → due e (lev t s l) = []
  | [], _, _ => rfl
  | x :: r, s, h => by
    have h1 := h x (List.mem_cons_self)
    have ih := due_none t e r (s + 1) fun y hy => h y (List.mem_cons_of_mem _ hy)
    show List.map _ (List.filter _ ((x.1, x.1 + 2 ^ x.2, x.2 + min (s + 1) (t - 1)) :: lev t (s + 1) r)) = []
    rw [List.filter_cons, if_neg (by simp; omega)]
    exact ih
theorem due_is (n e : Nat) : ∀ (i b s : Nat), b ≤ e → e < b + n % 2 ^ i → due e (lev (s + (pk i n b).length) s (pk i n b)) = [(sib b (n % 2 ^ i) e).length + min s (s + (pk i n b).length - 1)] := by
  intro i
  induction i with
  | zero => intro b s h1 h2; simp [Nat.mod_one] at h2; omega
  | succ i ih =>
    intro b s h1 h2
    have p := Nat.pow_pos (a := 2) (n := i) (by decide)
    have ml := Nat.mod_lt n p
    cases t : n.testBit i with
    | false =>
      have e1 : n % 2 ^ (i + 1) = n % 2 ^ i := by rw [mod_succ, t]; simp
      have e2 : pk (i + 1) n b = pk i n b := by show (if n.testBit i = true then _ else _) = _; rw [t]; simp
      rw [e1] at h2
      rw [e1, e2]; exact ih b s h1 h2
    | true =>
      have e1 : n % 2 ^ (i + 1) = 2 ^ i + n % 2 ^ i := by rw [mod_succ, t]; simp
      have e2 : pk (i + 1) n b = (b, i) :: pk i n (b + 2 ^ i) := by show (if n.testBit i = true then _ else _) = _; rw [t]; simp
      rw [e1] at h2
      rw [e1, e2, List.length_cons]
      by_cases r0 : n % 2 ^ i = 0
      · rw [pk_nil i n _ r0, r0]
        rw [r0] at h2
        rw [Nat.add_zero] at h2
        rw [Nat.add_zero (2 ^ i), sib_len_pow i b e h1 h2]
        show List.map _ (List.filter _ [(b, b + 2 ^ i, i + min (s + 1) (s + (0 + 1) - 1))]) = _
        rw [List.filter_cons, if_pos (by simp; omega)]
        simp
      · have hne : 1 ≤ (pk i n (b + 2 ^ i)).length := by
          have := pk_ne i n (b + 2 ^ i) r0
          cases hh : pk i n (b + 2 ^ i) with
          | nil => exact absurd hh this
          | cons _ _ => rw [List.length_cons]; omega
        have g : gp (2 ^ i + n % 2 ^ i) = 2 ^ i := gp_eq (by omega) (by omega)
        by_cases k : e < b + 2 ^ i
        · rw [sib_low (by omega) (by rw [g]; exact k), g, List.length_cons, sib_len_pow i b e h1 k]
          have d := due_none (s + ((pk i n (b + 2 ^ i)).length + 1)) e (pk i n (b + 2 ^ i)) (s + 1) fun x hx => by have := pk_begin _ _ _ x hx; omega
          show List.map _ (List.filter _ ((b, b + 2 ^ i, i + min (s + 1) (s + ((pk i n (b + 2 ^ i)).length + 1) - 1)) :: lev (s + ((pk i n (b + 2 ^ i)).length + 1)) (s + 1) (pk i n (b + 2 ^ i)))) = _
          rw [List.filter_cons, if_pos (by simp; omega), List.map_cons]
          have d' : List.map (fun x => x.2.2) (List.filter (fun x => decide (x.1 ≤ e) && decide (e < x.2.1)) (lev (s + ((pk i n (b + 2 ^ i)).length + 1)) (s + 1) (pk i n (b + 2 ^ i)))) = [] := d
          rw [d']
          simp
          omega
        · rw [sib_high (by omega) (by rw [g]; exact k), g, List.length_cons, Nat.add_sub_cancel_left]
          have q := ih (b + 2 ^ i) (s + 1) (by omega) (by omega)
          have e3 : s + 1 + (pk i n (b + 2 ^ i)).length = s + ((pk i n (b + 2 ^ i)).length + 1) := by omega
          rw [e3] at q
          show List.map _ (List.filter _ ((b, b + 2 ^ i, i + min (s + 1) (s + ((pk i n (b + 2 ^ i)).length + 1) - 1)) :: lev (s + ((pk i n (b + 2 ^ i)).length + 1)) (s + 1) (pk i n (b + 2 ^ i)))) = _
          rw [List.filter_cons, if_neg (by simp; omega)]
          refine Eq.trans q ?_
          congr 1
          omega
/-! ### which pairs are nodes -/
/-- the bits of m - 1 -/
def lb (m : Nat) : Nat := if m ≤ 1 then 0 else Nat.log2 (m - 1) + 1
theorem lb_le {x i : Nat} (h : x ≤ 2 ^ i) : lb x ≤ i := by
  unfold lb
  by_cases k : x ≤ 1
  · rw [if_pos k]; omega
  · rw [if_neg k]
    have h1 := Nat.log2_self_le (n := x - 1) (by omega)
    have h2 : 2 ^ Nat.log2 (x - 1) < 2 ^ i := by omega
    exact (Nat.pow_lt_pow_iff_right (by decide : 1 < 2)).mp h2
theorem lb_ge (x : Nat) : x ≤ 2 ^ lb x := by
  unfold lb
  by_cases k : x ≤ 1
  · rw [if_pos k]; omega
  · rw [if_neg k]
    have := Nat.lt_log2_self (n := x - 1)
    omega
theorem lb_pow (i : Nat) : lb (2 ^ i) = i := by
  have h1 := lb_le (Nat.le_refl (2 ^ i))
  have h2 := (Nat.pow_le_pow_iff_right (by decide : 1 < 2)).mp (lb_ge (2 ^ i))
  omega
theorem lb_gp {m : Nat} (h : 2 ≤ m) : 2 ^ lb m = 2 * gp m := by
  unfold lb gp; rw [if_neg (by omega), Nat.pow_succ]; omega
def tree (n b m : Nat) : Prop := 2 ^ lb m ∣ b ∧ (m = 2 ^ lb m ∨ b + m = n)
theorem tree_root (n : Nat) : tree n 0 n := ⟨Nat.dvd_zero _, .inr (Nat.zero_add _)⟩
theorem tree_low {n b m : Nat} (h : 2 ≤ m) (t : tree n b m) : tree n b (gp m) := by
  obtain ⟨d, _⟩ := t
  rw [lb_gp h] at d
  have e : 2 ^ lb (gp m) = gp m := by unfold gp; rw [lb_pow]
  exact ⟨by rw [e]; exact Nat.dvd_trans (Nat.dvd_mul_left _ _) d, .inl e.symm⟩
theorem tree_high {n b m : Nat} (h : 2 ≤ m) (t : tree n b m) : tree n (b + gp m) (m - gp m) := by
  obtain ⟨d, k⟩ := t
  rw [lb_gp h] at d k
  have g1 := gp_lt h
  have g2 := gp_ge h
  have dg : 2 ^ lb (m - gp m) ∣ gp m := by
    have : lb (m - gp m) ≤ Nat.log2 (m - 1) := lb_le (by unfold gp at g1 g2 ⊢; omega)
    exact Nat.pow_dvd_pow 2 this
  refine ⟨Nat.dvd_add (Nat.dvd_trans dg (Nat.dvd_trans (Nat.dvd_mul_left _ _) d)) dg, ?_⟩
  rcases k with k | k
  · left
    have e : m - gp m = gp m := by omega
    rw [e]
    unfold gp; rw [lb_pow]
  · right; omega
theorem sib_len_le : ∀ (m b e : Nat), b ≤ e → e < b + m → (sib b m e).length ≤ lb m := by
  intro m
  induction m using Nat.strongRecOn with
  | ind m ih =>
    intro b e h1 h2
    by_cases hm : m ≤ 1
    · rw [sib_one hm]; exact Nat.zero_le _
    · have g1 := gp_lt (m := m) (by omega)
      have g2 := gp_ge (m := m) (by omega)
      have g3 := gp_pos m
      have e1 : lb m = Nat.log2 (m - 1) + 1 := by unfold lb; rw [if_neg hm]
      by_cases k : e < b + gp m
      · rw [sib_low (by omega) k, List.length_cons]
        have := ih (gp m) g1 b e h1 k
        have e2 : lb (gp m) = Nat.log2 (m - 1) := by unfold gp; rw [lb_pow]
        omega
      · rw [sib_high (by omega) k, List.length_cons]
        have := ih (m - gp m) (by omega) (b + gp m) e (by omega) (by omega)
        have e2 : lb (m - gp m) ≤ Nat.log2 (m - 1) := lb_le (by unfold gp at g1 g2 ⊢; omega)
        omega
end LT
namespace LT
open PySem PySem.Spec PyProof.Rows L2
def topS (i : Nat) : Stmt := PySem.Challenge.pw_logtrees_k03_great_shapes.main.body.getD i (.Pass ⟨0, 0, 0, 0⟩)
abbrev sIsWhole : Stmt := topS 7
theorem scIsWhole : FnScope ["value"] ["value"] (defScope sIsWhole) := ⟨rfl, rfl, rfl, by decide +kernel, rfl, by decide +kernel, by decide +kernel⟩
abbrev sIsBetween : Stmt := topS 8
theorem scIsBetween : FnScope ["value", "low", "high"] ["value", "low", "high"] (defScope sIsBetween) := ⟨rfl, rfl, rfl, by decide +kernel, rfl, by decide +kernel, by decide +kernel⟩
abbrev sIsTreeNode : Stmt := topS 9
theorem scIsTreeNode : FnScope ["size", "value", "begin", "end", "room"] ["size", "value"] (defScope sIsTreeNode) := ⟨rfl, rfl, rfl, by decide +kernel, rfl, by decide +kernel, by decide +kernel⟩
abbrev sCheckSize : Stmt := topS 10
theorem scCheckSize : FnScope ["size"] ["size"] (defScope sCheckSize) := ⟨rfl, rfl, rfl, by decide +kernel, rfl, by decide +kernel, by decide +kernel⟩
abbrev sCheckNode : Stmt := topS 11
theorem scCheckNode : FnScope ["size", "node"] ["size", "node"] (defScope sCheckNode) := ⟨rfl, rfl, rfl, by decide +kernel, rfl, by decide +kernel, by decide +kernel⟩
abbrev sCheckNumber : Stmt := topS 12
theorem scCheckNumber : FnScope ["number"] ["number"] (defScope sCheckNumber) := ⟨rfl, rfl, rfl, by decide +kernel, rfl, by decide +kernel, by decide +kernel⟩
abbrev sPowerWithin : Stmt := topS 14
theorem scPowerWithin : FnScope ["number"] ["number"] (defScope sPowerWithin) := ⟨rfl, rfl, rfl, by decide +kernel, rfl, by decide +kernel, by decide +kernel⟩
abbrev sPeaks : Stmt := topS 15
theorem scPeaks : FnScope ["size", "found", "begin", "end"] ["size"] (defScope sPeaks) := ⟨rfl, rfl, rfl, by decide +kernel, rfl, by decide +kernel, by decide +kernel⟩
abbrev sEdges : Stmt := topS 16
theorem scEdges : FnScope ["size", "begin", "_"] ["size"] (defScope sEdges) := ⟨rfl, rfl, rfl, by decide +kernel, rfl, by decide +kernel, by decide +kernel⟩
abbrev sIsNode : Stmt := topS 17
theorem scIsNode : FnScope ["size", "value"] ["size", "value"] (defScope sIsNode) := ⟨rfl, rfl, rfl, by decide +kernel, rfl, by decide +kernel, by decide +kernel⟩
abbrev sHalves : Stmt := topS 18
theorem scHalves : FnScope ["size", "node", "begin", "end", "middle"] ["size", "node"] (defScope sHalves) := ⟨rfl, rfl, rfl, by decide +kernel, rfl, by decide +kernel, by decide +kernel⟩
abbrev sParent : Stmt := topS 19
theorem scParent : FnScope ["size", "node", "begin", "end", "first", "last", "room"] ["size", "node"] (defScope sParent) := ⟨rfl, rfl, rfl, by decide +kernel, rfl, by decide +kernel, by decide +kernel⟩
abbrev sSibling : Stmt := topS 20
theorem scSibling : FnScope ["size", "node", "above", "low", "high"] ["size", "node"] (defScope sSibling) := ⟨rfl, rfl, rfl, by decide +kernel, rfl, by decide +kernel, by decide +kernel⟩
abbrev sNodeCount : Stmt := topS 21
theorem scNodeCount : FnScope ["size", "cut"] ["size"] (defScope sNodeCount) := ⟨rfl, rfl, rfl, by decide +kernel, rfl, by decide +kernel, by decide +kernel⟩
abbrev sCommonCount : Stmt := topS 22
theorem scCommonCount : FnScope ["size", "other", "full", "cut"] ["size", "other"] (defScope sCommonCount) := ⟨rfl, rfl, rfl, by decide +kernel, rfl, by decide +kernel, by decide +kernel⟩
abbrev sHeightCount : Stmt := topS 23
theorem scHeightCount : FnScope ["size", "number", "beside"] ["size", "number"] (defScope sHeightCount) := ⟨rfl, rfl, rfl, by decide +kernel, rfl, by decide +kernel, by decide +kernel⟩
abbrev sLawBag : Stmt := topS 25
theorem scLawBag : FnScope ["cell"] ["cell"] (defScope sLawBag) := ⟨rfl, rfl, rfl, by decide +kernel, rfl, by decide +kernel, by decide +kernel⟩
abbrev sLawPick : Stmt := topS 26
theorem scLawPick : FnScope ["bag", "many", "told", "seed", "turn", "first", "second", "drawn"] ["bag", "many"] (defScope sLawPick) := ⟨rfl, rfl, rfl, by decide +kernel, rfl, by decide +kernel, by decide +kernel⟩
abbrev sLawHalved : Stmt := topS 27
theorem scLawHalved : FnScope ["node", "begin", "end", "step"] ["node"] (defScope sLawHalved) := ⟨rfl, rfl, rfl, by decide +kernel, rfl, by decide +kernel, by decide +kernel⟩
abbrev sLawPeaks : Stmt := topS 28
theorem scLawPeaks : FnScope ["size", "found", "begin", "bit"] ["size"] (defScope sLawPeaks) := ⟨rfl, rfl, rfl, by decide +kernel, rfl, by decide +kernel, by decide +kernel⟩
abbrev sLawSize : Stmt := topS 29
theorem scLawSize : FnScope ["bag", "size"] ["bag"] (defScope sLawSize) := ⟨rfl, rfl, rfl, by decide +kernel, rfl, by decide +kernel, by decide +kernel⟩
abbrev sLawWalk : Stmt := topS 30
theorem scLawWalk : FnScope ["bag", "size", "found"] ["bag", "size"] (defScope sLawWalk) := ⟨rfl, rfl, rfl, by decide +kernel, rfl, by decide +kernel, by decide +kernel⟩
abbrev sLawIsNode : Stmt := topS 31
theorem scLawIsNode : FnScope ["size", "node", "at", "one", "other"] ["size", "node"] (defScope sLawIsNode) := ⟨rfl, rfl, rfl, by decide +kernel, rfl, by decide +kernel, by decide +kernel⟩
abbrev sLawWayRight : Stmt := topS 32
theorem scLawWayRight : FnScope ["bag", "size", "way", "above", "node", "one", "other", "low", "high", "far"] ["bag", "size"] (defScope sLawWayRight) := ⟨rfl, rfl, rfl, by decide +kernel, rfl, by decide +kernel, by decide +kernel⟩
abbrev sLawCountsRight : Stmt := topS 33
theorem scLawCountsRight : FnScope ["bag", "size", "told", "begins", "full", "top", "number", "bare", "other", "less", "peak", "bit", "begin"] ["bag", "size"] (defScope sLawCountsRight) := ⟨rfl, rfl, rfl, by decide +kernel, rfl, by decide +kernel, by decide +kernel⟩
abbrev sLaw : Stmt := topS 34
theorem scLaw : FnScope ["script", "cell", "bag", "turn", "size"] ["script"] (defScope sLaw) := ⟨rfl, rfl, rfl, by decide +kernel, rfl, by decide +kernel, by decide +kernel⟩
/-- a def as it stands behind the top -/
structure At (K : PySem.W.Frag) (mg : Str → Option Value) (x : Str) (f : Addr) (fd : FuncData) (ps : List Str) : Prop where
  m : mg x = some (.ref f)
  kp : PySem.W.keepIn K (.ref f) = true
  b : Binds K fd ps []
theorem units1 {k : Nat} {A : Around} (r : Room k A) : A.units + 65 < cLine := by have := r.un; omega
/-- all but b as it was -/
def But (b : Addr) (H H' : Hp) : Prop := ∀ a o, a ≠ b → H a = some o → H' a = some o
theorem But.refl (b : Addr) (H : Hp) : But b H H := fun _ _ _ h => h
theorem But.trans {b : Addr} {H H1 H2 : Hp} (x : But b H H1) (y : But b H1 H2) : But b H H2 := fun a o n h => y a o n (x a o n h)
theorem But.of {b : Addr} {H H1 : Hp} (x : Same H H1) : But b H H1 := fun a o _ h => x a o h
theorem same_upd {H : Hp} {p : Addr} {o : HO} (h : H p = none) : Same H (upd H p o) := fun b x e => by
  rw [upd_ne (ne_of_none e h)]
  exact e
def BagAt (H : Hp) (b : Addr) : Prop := ∃ x y z : Int, H b = some (.lst [.int x, .int y, .int z])
theorem BagAt.same {H H' : Hp} {b : Addr} (h : BagAt H b) (s : Same H H') : BagAt H' b := by
  obtain ⟨x, y, z, e⟩ := h
  exact ⟨x, y, z, s _ _ e⟩
/-- a pair of ints -/
def Nd (H : Hp) (v : V) (x : Nat × Nat) : Prop := ∃ p, v = .ref p ∧ H p = some (.tup [.int x.1, .int x.2])
theorem Nd.same {H H' : Hp} {v : V} {x : Nat × Nat} (h : Nd H v x) (s : Same H H') : Nd H' v x := by
  obtain ⟨p, e, q⟩ := h
  exact ⟨p, e, s _ _ q⟩
theorem Nd.dp {K : PySem.W.Frag} {H : Hp} {v : V} {x : Nat × Nat} (h : Nd H v x) : Dp K H v (.tuple [.int x.1, .int x.2]) := by
  obtain ⟨p, rfl, q⟩ := h
  exact .tup (SqT.of q) (.cons (.int _) (.cons (.int _) .nil))
theorem nd_shaped (a b : Int) : SeqAt.shaped (.tuple [.int a, .int b]) = true := by
  show (PyData.canLay0 _ && decide (PyData.depth _ ≤ 64)) = true
  simp [PyData.canLay0, PyData.canLayAll0, PyData.depth, PyData.depthAll]
theorem nd_eqv (a b c d : Int) : PyData.eqv (.tuple [.int a, .int b]) (.tuple [.int c, .int d]) = (decide (a = c) && decide (b = d)) := by
  have e : PyData.eqv (.tuple [.int a, .int b]) (.tuple [.int c, .int d]) = ((a == c) && ((b == d) && true)) := by simp only [PyData.eqv, PyData.eqvAll]
  rw [e, Bool.and_true]
  by_cases h1 : a = c <;> by_cases h2 : b = d <;> simp [h1, h2]
/-- lists of values and what they stand for -/
inductive All2 {α : Type} (R : V → α → Prop) : List V → List α → Prop
  | nil : All2 R [] []
  | cons {v : V} {x : α} {vs : List V} {xs : List α} : R v x → All2 R vs xs → All2 R (v :: vs) (x :: xs)
section
variable {α : Type} {R R' : V → α → Prop}
theorem All2.mono (f : ∀ v x, R v x → R' v x) : ∀ {vs : List V} {xs : List α}, All2 R vs xs → All2 R' vs xs
  | _, _, .nil => .nil
  | _, _, .cons h t => .cons (f _ _ h) (All2.mono f t)
theorem All2.len : ∀ {vs : List V} {xs : List α}, All2 R vs xs → vs.length = xs.length
  | _, _, .nil => rfl
  | _, _, .cons _ t => by rw [List.length_cons, List.length_cons, All2.len t]
theorem All2.app : ∀ {vs : List V} {xs : List α} {us : List V} {ys : List α}, All2 R vs xs → All2 R us ys → All2 R (vs ++ us) (xs ++ ys)
  | _, _, _, _, .nil, h => h
  | _, _, _, _, .cons h t, k => .cons h (All2.app t k)
theorem All2.rev : ∀ {vs : List V} {xs : List α}, All2 R vs xs → All2 R vs.reverse xs.reverse
  | _, _, .nil => .nil
  | _, _, .cons h t => by
    rw [List.reverse_cons, List.reverse_cons]
    exact All2.app (All2.rev t) (.cons h .nil)
theorem All2.nth : ∀ {vs : List V} {xs : List α} {i : Nat} {v : V}, All2 R vs xs → vs[i]? = some v → ∃ x, xs[i]? = some x ∧ R v x
  | _, _, _, _, .nil, h => by simp at h
  | _, _, 0, _, .cons h t, e => by
    have := Option.some.inj e
    subst this
    exact ⟨_, rfl, h⟩
  | _, _, i + 1, _, .cons h t, e => by
    rw [List.getElem?_cons_succ] at e ⊢
    exact All2.nth t e
theorem All2.nth2 : ∀ {vs : List V} {xs : List α} {i : Nat} {x : α}, All2 R vs xs → xs[i]? = some x → ∃ v, vs[i]? = some v ∧ R v x
  | _, _, _, _, .nil, h => by simp at h
  | _, _, 0, _, .cons h t, e => by
    have := Option.some.inj e
    subst this
    exact ⟨_, rfl, h⟩
  | _, _, i + 1, _, .cons h t, e => by
    rw [List.getElem?_cons_succ] at e ⊢
    exact All2.nth2 t e
end

/-! ### rules within a comprehension: what they say of the written part is said of the def's -/
section
open PySem L2
variable {X : Cx} {s : Shared} {H : Hp} {sc : Scope} {ce : Env} {fp : List Addr}
theorem pg_tupB {es : List Expr} {k : Nat} {pos : Pos} {t : TGs} {n : Nat} (hc : X.calm = true) (h : PGs (X.blk s H sc ce fp) es t)
    (hn : (assignEach es (X.blk s H sc ce fp).env).length = n := by rfl) (hst : (assignEach es (X.blk s H sc ce fp).env).findIdx? (·.1) = none := by rfl) : PG (X.blk s H sc ce fp) (.Tuple es k pos) (gTup X.K n t) := pg_tup hc h hn hst
theorem ix_listB : IxR (X.blk s H sc ce fp) (rIxL X.K) := ix_list
theorem ix_tupB : IxR (X.blk s H sc ce fp) (rIxT X.K) := ix_tup
theorem call_len_seqB : CallR (X.blk s H sc ce fp) (.builtin "len") (fun xs H Q => ∃ p ys, xs = [.ref p] ∧ (SqL X.K H p ys ∨ SqT X.K H p ys) ∧ Q (.int ys.length) H) := call_len_seq
theorem op_eqDB (hu : X.A.units + 64 < cLine) : OpR (X.blk s H sc ce fp) (compareOp .Eq) (rEqD X.K) := op_eqD (X := X.blk s H sc ce fp) hu
theorem op_neDB (hu : X.A.units + 64 < cLine) : OpR (X.blk s H sc ce fp) (compareOp .NotEq) (rNeD X.K) := op_neD (X := X.blk s H sc ce fp) hu
theorem op_inDB (hu : X.A.units + 65 < cLine) : OpR (X.blk s H sc ce fp) (compareOp .In) (rInD X.K) := op_inD (X := X.blk s H sc ce fp) hu
theorem op_notInDB (hu : X.A.units + 65 < cLine) : OpR (X.blk s H sc ce fp) (compareOp .NotIn) (rNotInD X.K) := op_notInD (X := X.blk s H sc ce fp) hu
end
theorem Nd.upd {H : Hp} {v : V} {x : Nat × Nat} {s : Addr} {xs : List V} {o : HO} (h : Nd H v x) (hs : H s = some (.lst xs)) : Nd (upd H s o) v x := by
  obtain ⟨p, e, q⟩ := h
  exact ⟨p, e, by rw [upd_ne (ne_of q hs (by intro z; cases z))]; exact q⟩
def full (x : Nat × Nat) : Nat × Nat := (x.1, x.1 + 2 ^ x.2)
theorem pk_len : ∀ (i n b : Nat), (pk i n b).length ≤ i
  | 0, _, _ => Nat.le_refl _
  | i + 1, n, b => by
    show (if n.testBit i = true then (b, i) :: pk i n (b + 2 ^ i) else pk i n b).length ≤ i + 1
    by_cases t : n.testBit i = true
    · rw [if_pos t, List.length_cons]
      exact Nat.succ_le_succ (pk_len i n _)
    · rw [if_neg t]
      exact Nat.le_succ_of_le (pk_len i n b)
theorem take_more {α : Type} : ∀ {l : List α} {i : Nat} {x : α}, l[i]? = some x → l.take (i + 1) = l.take i ++ [x]
  | [], i, x, h => by simp at h
  | a :: l, 0, x, h => by
    have e : a = x := Option.some.inj h
    subst e
    rfl
  | a :: l, i + 1, x, h => by
    have ih := take_more (l := l) (i := i) (x := x) h
    show a :: l.take (i + 1) = a :: l.take i ++ [x]
    rw [ih]
    rfl
theorem szle {n : Nat} (h : n ≤ 100000) : n ≤ sizeLine := Nat.le_trans h (by decide)
theorem szlt {n : Nat} (h : n < 100000) : n < sizeLine := Nat.lt_of_lt_of_le h (by decide)
end LT

namespace LT
open PySem PySem.Spec PyProof.Rows L2
section
variable {P : Program} {w : World} {K : PySem.W.Frag} {mg : Str → Option Value} {base : Heap}
def spWhole : Sp := fun vs H Q _ => ∃ i : Int, vs = [.int i] ∧ Q (.bl true) H
theorem ok_is_whole {f : Addr} {fd : FuncData} (F : Fun K "is_whole" "is_whole" sIsWhole f fd) (z_isinstance : mg "isinstance" = none) (z_int : mg "int" = none) (z_bool : mg "bool" = none) : FnOk P w K mg base CX0 1 f fd ["value"] spWhole := by
  refine F.ok scIsWhole (fun vs H Q E h => ?_) (fun cdv A outer s H vs Q E hr h => ?_)
  · obtain ⟨i, rfl, _⟩ := h
    rfl
  obtain ⟨i, rfl, q⟩ := h
  refine ⟨_, (pss_one (ps_ret (pe_and (pe_callB call_isi (by rfl) z_isinstance (by decide +kernel) (pa_cons (pv 0) (pa_cons (pe_bltn (v := .ty "int") (u := .type "int") (by rfl) z_int (by decide +kernel) rfl) pa_nil))) (pe_one (pe_not (pe_callB call_isi (by rfl) z_isinstance (by decide +kernel) (pa_cons (pv 0) (pa_cons (pe_bltn (v := .ty "bool") (u := .type "bool") (by rfl) z_bool (by decide +kernel) rfl) pa_nil)))))))), ?_⟩
  refine ⟨_, rfl, _, _, _, _, true, rfl, .ty "int", .base (.int i), kit_ty (by decide +kernel), true, rfl, ?_⟩
  refine ⟨_, rfl, _, _, _, _, false, rfl, .ty "bool", .base (.int i), kit_ty (by decide +kernel), false, rfl, ?_⟩
  exact q
def spBetween : Sp := fun vs H Q _ => ∃ v lo hi : Int, vs = [.int v, .int lo, .int hi] ∧ Q (.bl (decide (lo ≤ v) && decide (v ≤ hi))) H
theorem ok_is_between {f g : Addr} {fd gd : FuncData} (F : Fun K "is_between" "is_between" sIsBetween f fd) (GIsWhole : FnOk P w K mg base CX0 1 g gd ["value"] spWhole) (AIsWhole : At K mg "is_whole" g gd ["value"]) : FnOk P w K mg base CX0 2 f fd ["value", "low", "high"] spBetween := by
  refine F.ok scIsBetween (fun vs H Q E h => ?_) (fun cdv A outer s H vs Q E hr h => ?_)
  · obtain ⟨i, _, _, rfl, _⟩ := h
    rfl
  obtain ⟨v, lo, hi, rfl, q⟩ := h
  refine ⟨_, (pss_one (ps_ret (pe_and (pe_call GIsWhole (hr.mono (by decide)) rfl AIsWhole.m AIsWhole.kp AIsWhole.b .nil pass0 (pa_cons (pv 0) pa_nil)) (pe_one (pe_chain op_le op_le (pv 1) (pv 0) (pv 2)))))), ?_⟩
  refine ⟨_, rfl, v, rfl, true, rfl, ?_⟩
  refine ⟨_, rfl, _, rfl, _, _, rfl, rfl, _, rfl, ?_⟩
  by_cases h1 : lo ≤ v
  · rw [decide_eq_true h1] at q ⊢
    exact ⟨_, rfl, _, _, rfl, rfl, q⟩
  · rw [decide_eq_false h1] at q ⊢
    exact q
def spCheckSize : Sp := fun vs H Q _ => ∃ n : Int, vs = [.int n] ∧ 1 ≤ n ∧ n ≤ 10 ^ 30 ∧ Q .non H
theorem ok_check_size {f g : Addr} {fd gd : FuncData} {t : Tok} (F : Fun K "check_size" "check_size" sCheckSize f fd) (GIsBetween : FnOk P w K mg base CX0 2 g gd ["value", "low", "high"] spBetween) (AIsBetween : At K mg "is_between" g gd ["value", "low", "high"]) (g_MOST_ENTRIES : mg "MOST_ENTRIES" = some (.int 1000000000000000000000000000000 t)) : FnOk P w K mg base CX0 3 f fd ["size"] spCheckSize := by
  refine F.ok scCheckSize (fun vs H Q E h => ?_) (fun cdv A outer s H vs Q E hr h => ?_)
  · obtain ⟨i, rfl, _⟩ := h
    rfl
  obtain ⟨n, rfl, h1, h2, q⟩ := h
  refine ⟨_, (pss_one (ps_if (pt_not (pt_val (pe_call GIsBetween (hr.mono (by decide)) rfl AIsBetween.m AIsBetween.kp AIsBetween.b .nil pass0 (pa_cons (pv 0) (pa_cons pe_int (pa_cons (pe_glob (v := .int 1000000000000000000000000000000) rfl g_MOST_ENTRIES ⟨_, rfl⟩) pa_nil))))))
    (pss_one ps_never)
    pss_nil)), ?_⟩
  refine ⟨_, rfl, n, 1, 1000000000000000000000000000000, rfl, _, rfl, ?_⟩
  rw [decide_eq_true h1, decide_eq_true (show n ≤ 1000000000000000000000000000000 from h2)]
  exact q
end
end LT

namespace LT
open PySem PySem.Spec PyProof.Rows L2
/-- values of the plain kinds, with their types -/
inductive Pl (K : PySem.W.Frag) (H : Hp) : V → String → Prop
  | non : Pl K H .non "NoneType"
  | bl (b : Bool) : Pl K H (.bl b) "bool"
  | int (i : Int) : Pl K H (.int i) "int"
  | str (s : Str) : Pl K H (.str s) "str"
  | lst {a : Addr} {xs : List V} : H a = some (.lst xs) → Pl K H (.ref a) "list"
  | tup {a : Addr} {xs : List V} : H a = some (.tup xs) → Pl K H (.ref a) "tuple"
  | dict {a : Addr} {kvs : List (Key × V)} : H a = some (.dK kvs) → Pl K H (.ref a) "dict"
theorem Pl.ty {K : PySem.W.Frag} {H : Hp} {v : V} {t : String} (h : Pl K H v t) : TyX K H v (.type t) := by
  cases h with
  | non => exact .base .non
  | bl b => exact .base (.bl b)
  | int i => exact .base (.int i)
  | str s => exact .base (.str s)
  | lst e => exact .base (.lst e)
  | tup e => exact .base (.tup e)
  | dict e => exact .base (.dK e)
def isInt : V → Bool
  | .int _ => true
  | _ => false
def inRange (lo hi : Int) : V → Bool
  | .int i => decide (lo ≤ i) && decide (i ≤ hi)
  | _ => false
section
variable {P : Program} {w : World} {K : PySem.W.Frag} {mg : Str → Option Value} {base : Heap}
def spWholeV (K : PySem.W.Frag) : Sp := fun vs H Q _ => ∃ (v : V) (t : String), vs = [v] ∧ Pl K H v t ∧ Q (.bl (isInt v)) H
theorem ok_is_wholeV {f : Addr} {fd : FuncData} (F : Fun K "is_whole" "is_whole" sIsWhole f fd) (z_isinstance : mg "isinstance" = none) (z_int : mg "int" = none) (z_bool : mg "bool" = none) : FnOk P w K mg base CX0 1 f fd ["value"] (spWholeV K) := by
  refine F.ok scIsWhole (fun vs H Q E h => ?_) (fun cdv A outer s H vs Q E hr h => ?_)
  · obtain ⟨_, _, rfl, _⟩ := h
    rfl
  obtain ⟨v, t, rfl, hv, q⟩ := h
  refine ⟨_, (pss_one (ps_ret (pe_and (pe_callB call_isi (by rfl) z_isinstance (by decide +kernel) (pa_cons (pv 0) (pa_cons (pe_bltn (v := .ty "int") (u := .type "int") (by rfl) z_int (by decide +kernel) rfl) pa_nil))) (pe_one (pe_not (pe_callB call_isi (by rfl) z_isinstance (by decide +kernel) (pa_cons (pv 0) (pa_cons (pe_bltn (v := .ty "bool") (u := .type "bool") (by rfl) z_bool (by decide +kernel) rfl) pa_nil)))))))), ?_⟩
  cases hv with
  | non => exact ⟨_, rfl, _, _, _, _, false, rfl, .ty "int", (Pl.non (K := K) (H := H)).ty, kit_ty (by decide +kernel), false, rfl, q⟩
  | bl b => exact ⟨_, rfl, _, _, _, _, true, rfl, .ty "int", (Pl.bl (K := K) (H := H) b).ty, kit_ty (by decide +kernel), true, rfl, _, rfl, _, _, _, _, true, rfl, .ty "bool", (Pl.bl (K := K) (H := H) b).ty, kit_ty (by decide +kernel), true, rfl, q⟩
  | int i => exact ⟨_, rfl, _, _, _, _, true, rfl, .ty "int", (Pl.int (K := K) (H := H) i).ty, kit_ty (by decide +kernel), true, rfl, _, rfl, _, _, _, _, false, rfl, .ty "bool", (Pl.int (K := K) (H := H) i).ty, kit_ty (by decide +kernel), false, rfl, q⟩
  | str s => exact ⟨_, rfl, _, _, _, _, false, rfl, .ty "int", (Pl.str (K := K) (H := H) s).ty, kit_ty (by decide +kernel), false, rfl, q⟩
  | lst e => exact ⟨_, rfl, _, _, _, _, false, rfl, .ty "int", (Pl.lst (K := K) e).ty, kit_ty (by decide +kernel), false, rfl, q⟩
  | tup e => exact ⟨_, rfl, _, _, _, _, false, rfl, .ty "int", (Pl.tup (K := K) e).ty, kit_ty (by decide +kernel), false, rfl, q⟩
  | dict e => exact ⟨_, rfl, _, _, _, _, false, rfl, .ty "int", (Pl.dict (K := K) e).ty, kit_ty (by decide +kernel), false, rfl, q⟩
def spBetweenV (K : PySem.W.Frag) : Sp := fun vs H Q _ => ∃ (v : V) (t : String) (lo hi : Int), vs = [v, .int lo, .int hi] ∧ Pl K H v t ∧ Q (.bl (inRange lo hi v)) H
theorem ok_is_betweenV {f g : Addr} {fd gd : FuncData} (F : Fun K "is_between" "is_between" sIsBetween f fd) (GIsWhole : FnOk P w K mg base CX0 1 g gd ["value"] (spWholeV K)) (AIsWhole : At K mg "is_whole" g gd ["value"]) : FnOk P w K mg base CX0 2 f fd ["value", "low", "high"] (spBetweenV K) := by
  refine F.ok scIsBetween (fun vs H Q E h => ?_) (fun cdv A outer s H vs Q E hr h => ?_)
  · obtain ⟨_, _, _, _, rfl, _⟩ := h
    rfl
  obtain ⟨v, t, lo, hi, rfl, hv, q⟩ := h
  refine ⟨_, (pss_one (ps_ret (pe_and (pe_call GIsWhole (hr.mono (by decide)) rfl AIsWhole.m AIsWhole.kp AIsWhole.b .nil pass0 (pa_cons (pv 0) pa_nil)) (pe_one (pe_chain op_le op_le (pv 1) (pv 0) (pv 2)))))), ?_⟩
  refine ⟨_, rfl, v, t, rfl, hv, isInt v, rfl, ?_⟩
  cases v with
  | int i =>
    have q' : Q (.bl (decide (lo ≤ i) && decide (i ≤ hi))) H := q
    refine ⟨_, rfl, _, rfl, _, _, rfl, rfl, _, rfl, ?_⟩
    by_cases h1 : lo ≤ i
    · rw [decide_eq_true h1] at q' ⊢
      exact ⟨_, rfl, _, _, rfl, rfl, q'⟩
    · rw [decide_eq_false h1] at q' ⊢
      exact q'
  | non => exact q
  | bl _ => exact q
  | str _ => exact q
  | byt _ => exact q
  | flt _ => exact q
  | ref _ => exact q
  | ty _ => exact q
theorem whole_of {k : Nat} {f : Addr} {fd : FuncData} (F : FnOk P w K mg base CX0 k f fd ["value"] (spWholeV K)) : FnOk P w K mg base CX0 k f fd ["value"] spWhole :=
  F.imp fun vs H Q E h => by
    obtain ⟨i, rfl, q⟩ := h
    exact ⟨_, _, rfl, .int i, q⟩
theorem between_of {k : Nat} {f : Addr} {fd : FuncData} (F : FnOk P w K mg base CX0 k f fd ["value", "low", "high"] (spBetweenV K)) : FnOk P w K mg base CX0 k f fd ["value", "low", "high"] spBetween :=
  F.imp fun vs H Q E h => by
    obtain ⟨v, lo, hi, rfl, q⟩ := h
    exact ⟨_, _, _, _, rfl, .int v, q⟩
end
end LT

namespace LT
open PySem PySem.Spec PyProof.Rows L2
theorem bits_nat (k : Nat) : Builtin.Int.intBits (k : Int) = if k = 0 then 0 else k.log2 + 1 := by
  unfold Builtin.Int.intBits
  by_cases h : k = 0
  · subst h; rfl
  · rw [if_neg h, if_neg (by simpa using h)]
    rfl
theorem bits_lb {m : Nat} (h : 1 ≤ m) : Builtin.Int.intBits ((m - 1 : Nat) : Int) = lb m := by
  rw [bits_nat]
  unfold lb
  by_cases k : m ≤ 1
  · rw [if_pos k, if_pos (by omega)]
  · rw [if_neg k, if_neg (by omega)]
theorem lb100 {m : Nat} (h : m ≤ 10 ^ 30) : lb m ≤ 100 := lb_le (Nat.le_trans h (by decide))
theorem fmod_of_dvd {a b : Nat} (h : a ∣ b) : Int.fmod (b : Int) (a : Int) = 0 := by
  rw [Int.fmod_eq_emod_of_nonneg _ (Int.natCast_nonneg _)]
  exact Int.emod_eq_zero_of_dvd (Int.natCast_dvd_natCast.mpr h)
end LT

namespace LT
open PySem PySem.Spec PyProof.Rows L2
section
variable {P : Program} {w : World} {K : PySem.W.Frag} {mg : Str → Option Value} {base : Heap}
def spTree : Sp := fun vs H Q _ => ∃ (n b m : Nat) (v : V), vs = [.int n, v] ∧ Nd H v (b, b + m) ∧ 1 ≤ m ∧ b + m ≤ n ∧ n ≤ 10 ^ 30 ∧ tree n b m ∧ Q (.bl true) H
theorem ok_is_tree_node {f g : Addr} {fd gd : FuncData} (F : Fun K "is_tree_node" "is_tree_node" sIsTreeNode f fd) (GIsBetween : FnOk P w K mg base CX0 2 g gd ["value", "low", "high"] spBetween) (AIsBetween : At K mg "is_between" g gd ["value", "low", "high"])
    (z_isinstance : mg "isinstance" = none) (z_tuple : mg "tuple" = none) (z_len : mg "len" = none) : FnOk P w K mg base CX0 3 f fd ["size", "value"] spTree := by
  refine F.ok scIsTreeNode (fun vs H Q E h => ?_) (fun cdv A outer s H vs Q E hr h => ?_)
  · obtain ⟨_, _, _, _, rfl, _⟩ := h
    rfl
  obtain ⟨n, b, m, v, rfl, ⟨p, rfl, hp⟩, hm, hn, h30, ht, q⟩ := h
  refine ⟨_, (pss_cons (ps_if (PW.pt (pw_or (pt_not (pt_val (pe_callB call_isi (by rfl) z_isinstance (by decide +kernel) (pa_cons (pv 1) (pa_cons (pe_bltn (v := .ty "tuple") (u := .type "tuple") (by rfl) z_tuple (by decide +kernel) rfl) pa_nil))))) (pw_or1 (pt_cmpR op_ne (pe_callB call_len_seq (by rfl) z_len PySem.boot_len (pa_cons (pv 1) pa_nil)) pe_int (nomark _)))))
    (pss_one (ps_ret pe_bl))
    pss_nil)
    (pss_cons (ps_asg (pv 1) (pg_tup (by rfl) (pgs_cons (pg_name (i := 2) scIsTreeNode.nd rfl (Or.inl rfl)) (pgs_cons (pg_name (i := 3) scIsTreeNode.nd rfl (Or.inl rfl)) pgs_nil))))
    (pss_cons (ps_if (PW.pt (pw_or (pt_not (pt_val (pe_call GIsBetween (hr.mono (by decide)) rfl AIsBetween.m AIsBetween.kp AIsBetween.b .nil pass0 (pa_cons (pv 2) (pa_cons pe_int (pa_cons (pe_op op_sub (pv 0) pe_int) pa_nil)))))) (pw_or1 (pt_not (pt_val (pe_call GIsBetween (hr.mono (by decide)) rfl AIsBetween.m AIsBetween.kp AIsBetween.b .nil pass0 (pa_cons (pv 3) (pa_cons (pe_op op_add (pv 2) pe_int) (pa_cons (pv 0) pa_nil)))))))))
    (pss_one (ps_ret pe_bl))
    pss_nil)
    (pss_cons (ps_set (i := 4) scIsTreeNode.nd rfl (Or.inl rfl) (pe_op op_shl pe_int (pe_bits (pe_op op_sub (pe_op op_sub (pv 3) (pv 2)) pe_int))))
    (pss_one (ps_ret (pe_and (pe_cmpR op_eq (pe_op op_modN (pv 2) (pv 4)) pe_int (nomark _)) (pe_one (pe_or (pe_cmpR op_eq (pe_op op_sub (pv 3) (pv 2)) (pv 4) (nomark _)) (pe_one (pe_cmpR op_eq (pv 3) (pv 0) (nomark _)))))))))))), ?_⟩
  refine ⟨_, rfl, _, _, _, _, true, rfl, .ty "tuple", .base (.tup hp), kit_ty (by decide +kernel), true, rfl, ?_⟩
  refine ⟨_, rfl, p, _, rfl, .inr (SqT.of hp), rfl, false, rfl, ?_⟩
  refine ⟨_, rfl, p, _, rfl, SqT.of hp, rfl, _, _, rfl, _, _, rfl, rfl, ?_⟩
  refine ⟨_, rfl, _, rfl, _, _, rfl, rfl, _, _, _, rfl, true, ?_, ?_⟩
  · exact congrArg V.bl (by rw [Bool.and_eq_true]; exact ⟨decide_eq_true (by omega), decide_eq_true (by show (b : Int) ≤ n - 1; omega)⟩)
  refine ⟨_, rfl, _, rfl, _, _, rfl, rfl, _, rfl, _, _, _, rfl, true, ?_, ?_⟩
  · exact congrArg V.bl (by rw [Bool.and_eq_true]; exact ⟨decide_eq_true (by show (b : Int) + 1 ≤ ((b + m : Nat) : Int); omega), decide_eq_true (by show ((b + m : Nat) : Int) ≤ n; omega)⟩)
  have e1 : ((b + m : Nat) : Int) - (b : Int) - 1 = ((m - 1 : Nat) : Int) := by omega
  refine ⟨_, rfl, _, rfl, _, _, rfl, rfl, _, _, rfl, rfl, _, rfl, ?_⟩
  dsimp only
  rw [e1, bits_lb hm]
  have l100 := lb100 (show m ≤ 10 ^ 30 by omega)
  refine ⟨_, _, rfl, rfl, ⟨Int.natCast_nonneg _, by omega, by decide⟩, ?_⟩
  have e2 : (1 : Int) * 2 ^ ((lb m : Nat) : Int).toNat = ((2 ^ lb m : Nat) : Int) := by rw [Int.one_mul, Int.toNat_natCast]; exact (Int.natCast_pow 2 (lb m)).symm
  dsimp only
  rw [e2]
  obtain ⟨d, k⟩ := ht
  have pz : 0 < 2 ^ lb m := Nat.pow_pos (by decide)
  generalize 2 ^ lb m = R at d k pz
  refine ⟨_, rfl, _, rfl, _, _, rfl, rfl, by omega, rfl, true, ?_, ?_⟩
  · show V.bl (decide (V.int (Int.fmod (b : Int) (R : Int)) = V.int 0)) = V.bl true
    rw [fmod_of_dvd d, decide_eq_true rfl]
  refine ⟨_, rfl, _, rfl, _, _, rfl, rfl, _, rfl, rfl, _, rfl, ite2 (fun c => q) (fun c => ?_)⟩
  have c1 : ¬ V.int (((b + m : Nat) : Int) - (b : Int)) = V.int (R : Int) := of_decide_eq_false (Bool.eq_false_iff.mpr c)
  refine ⟨_, rfl, _, rfl, rfl, ?_⟩
  have e4 : b + m = n := by
    rcases k with k | k
    · exact absurd (congrArg V.int (by omega)) c1
    · exact k
  show Q (V.bl (decide (V.int ((b + m : Nat) : Int) = V.int (n : Int)))) H
  rw [decide_eq_true (by rw [e4])]
  exact q
def spCheckNode : Sp := fun vs H Q _ => ∃ (n b m : Nat) (v : V), vs = [.int n, v] ∧ Nd H v (b, b + m) ∧ 1 ≤ m ∧ b + m ≤ n ∧ n ≤ 10 ^ 30 ∧ tree n b m ∧ Q .non H
theorem ok_check_node {f g : Addr} {fd gd : FuncData} (F : Fun K "check_node" "check_node" sCheckNode f fd) (GIsTreeNode : FnOk P w K mg base CX0 3 g gd ["size", "value"] spTree) (AIsTreeNode : At K mg "is_tree_node" g gd ["size", "value"]) : FnOk P w K mg base CX0 4 f fd ["size", "node"] spCheckNode := by
  refine F.ok scCheckNode (fun vs H Q E h => ?_) (fun cdv A outer s H vs Q E hr h => ?_)
  · obtain ⟨_, _, _, _, rfl, _⟩ := h
    rfl
  obtain ⟨n, b, m, v, rfl, hv, hm, hn, h30, ht, q⟩ := h
  refine ⟨_, (pss_one (ps_if (pt_not (pt_val (pe_call GIsTreeNode (hr.mono (by decide)) rfl AIsTreeNode.m AIsTreeNode.kp AIsTreeNode.b .nil pass0 (pa_cons (pv 0) (pa_cons (pv 1) pa_nil)))))
    (pss_one ps_never)
    pss_nil)), ?_⟩
  refine ⟨_, rfl, _, rfl, n, b, m, v, rfl, hv, hm, hn, h30, ht, true, rfl, q⟩
end
end LT

namespace LT
open PySem PySem.Spec PyProof.Rows L2
section
variable {P : Program} {w : World} {K : PySem.W.Frag} {mg : Str → Option Value} {base : Heap}
def spPower : Sp := fun vs H Q _ => ∃ (k : Nat), vs = [.int k] ∧ 1 ≤ k ∧ k ≤ 10 ^ 30 ∧ Q (.int ((2 ^ k.log2 : Nat) : Int)) H
theorem ok_power_within {f : Addr} {fd : FuncData} (F : Fun K "power_within" "power_within" sPowerWithin f fd) : FnOk P w K mg base CX0 1 f fd ["number"] spPower := by
  refine F.ok scPowerWithin (fun vs H Q E h => ?_) (fun cdv A outer s H vs Q E hr h => ?_)
  · obtain ⟨_, rfl, _⟩ := h
    rfl
  obtain ⟨k, rfl, h1, h30, q⟩ := h
  refine ⟨_, (pss_one (ps_ret (pe_op op_shl pe_int (pe_op op_sub (pe_bits (pv 0)) pe_int)))), ?_⟩
  refine ⟨_, rfl, _, rfl, _, _, rfl, rfl, ?_⟩
  dsimp only
  have e : ((Builtin.Int.intBits (k : Int) : Nat) : Int) - 1 = ((k.log2 : Nat) : Int) := by
    rw [bits_nat, if_neg (by omega)]
    omega
  rw [e]
  have l100 : k.log2 < 100 := (Nat.log2_lt (by omega)).mpr (Nat.lt_of_le_of_lt h30 (by decide))
  refine ⟨_, _, rfl, rfl, ⟨Int.natCast_nonneg _, by omega, by decide⟩, ?_⟩
  have e2 : (1 : Int) * 2 ^ ((k.log2 : Nat) : Int).toNat = ((2 ^ k.log2 : Nat) : Int) := by rw [Int.one_mul, Int.toNat_natCast]; exact (Int.natCast_pow 2 _).symm
  show Q (.int ((1 : Int) * 2 ^ ((k.log2 : Nat) : Int).toNat)) H
  rw [e2]
  exact q
end
end LT

namespace LT
open PySem PySem.Spec PyProof.Rows L2
section
variable {P : Program} {w : World} {K : PySem.W.Frag} {mg : Str → Option Value} {base : Heap}
def spBag : Sp := fun vs H Q _ => ∃ c : Int, vs = [.int c] ∧ ∀ (H' : Hp) (p : Addr), Same H H' → H p = none → BagAt H' p → Q (.ref p) H'
theorem ok_law_bag {f : Addr} {fd : FuncData} (F : Fun K "_law_bag" "_law_bag" sLawBag f fd) (z_max : mg "max" = none) : FnOk P w K mg base CX0 1 f fd ["cell"] spBag := by
  refine F.ok scLawBag (fun vs H Q E h => ?_) (fun cdv A outer s H vs Q E hr h => ?_)
  · obtain ⟨_, rfl, _⟩ := h
    rfl
  obtain ⟨c, rfl, q⟩ := h
  refine ⟨_, (pss_one (ps_ret (pe_lst (pa_cons (pe_callB (call_max2 rfl) (by rfl) z_max (by decide +kernel) (pa_cons pe_int (pa_cons (pe_op op_sub (pv 0) (pe_op op_pow pe_int pe_int)) pa_nil))) (pa_cons (pv 0) (pa_cons pe_int pa_nil)))))), ?_⟩
  refine ⟨_, rfl, _, _, rfl, rfl, ⟨by decide, by decide, by decide⟩, _, _, rfl, rfl, _, _, rfl, _, rfl, (by show 3 ≤ sizeLine; decide), fun p np => ?_⟩
  exact q _ p (same_upd np) np ⟨_, _, _, upd_same⟩
theorem fm0 (x : Int) {m : Int} (h : 0 < m) : 0 ≤ x.fmod m := by
  rw [Int.fmod_eq_emod_of_nonneg _ (by omega)]
  exact Int.emod_nonneg _ (by omega)
theorem fm1 (x : Int) {m : Int} (h : 0 < m) : x.fmod m < m := by
  rw [Int.fmod_eq_emod_of_nonneg _ (by omega)]
  exact Int.emod_lt_of_pos _ h
def spPick : Sp := fun vs H Q _ => ∃ (b : Addr) (many : Int), vs = [.ref b, .int many] ∧ 0 < many ∧ many.natAbs < 2 ^ 250 ∧ BagAt H b ∧
  ∀ (r : Int) (H' : Hp), 0 ≤ r → r < many → (∀ a, a ≠ b → H' a = H a) → BagAt H' b → Q (.int r) H'
theorem ok_law_pick {f : Addr} {fd : FuncData} (F : Fun K "_law_pick" "_law_pick" sLawPick f fd) (z_int : mg "int" = none) : FnOk P w K mg base CX0 1 f fd ["bag", "many"] spPick := by
  refine F.ok scLawPick (fun vs H Q E h => ?_) (fun cdv A outer s H vs Q E hr h => ?_)
  · obtain ⟨_, _, rfl, _⟩ := h
    rfl
  obtain ⟨b, many, rfl, hm, hm2, ⟨x, y, z, h0⟩, q⟩ := h
  refine ⟨_, (pss_cons (ps_asg (pe_op op_add (pe_ix ix_list (pv 0) pe_int (fun _ _ => rfl)) pe_int) (pg_sub (pv 0) pe_int set_list))
    (pss_cons (ps_if (pt_cmpR op_gt (pe_ix ix_list (pv 0) pe_int (fun _ _ => rfl)) pe_int (nomark _))
    (pss_cons (ps_set (i := 2) scLawPick.nd rfl (Or.inl rfl) (pe_op op_modN (pe_callTy call_int1 (by rfl) z_int (by decide +kernel) (pa_cons (pe_ix ix_list (pv 0) pe_int (fun _ _ => rfl)) pa_nil)) (pv 1)))
    (pss_cons (ps_asg (pe_op op_fdivW (pe_callTy call_int1 (by rfl) z_int (by decide +kernel) (pa_cons (pe_ix ix_list (pv 0) pe_int (fun _ _ => rfl)) pa_nil)) (pv 1)) (pg_sub (pv 0) pe_int set_list))
    (pss_one (ps_ret (pv 2)))))
    pss_nil)
    (pss_cons (ps_par (i := 3) (j := 4) (by rfl) scLawPick.nd rfl rfl (by decide) rfl rfl (pa_cons (pe_callTy call_int1 (by rfl) z_int (by decide +kernel) (pa_cons (pe_ix ix_list (pv 0) pe_int (fun _ _ => rfl)) pa_nil)) (pa_cons (pe_callTy call_int1 (by rfl) z_int (by decide +kernel) (pa_cons (pe_ix ix_list (pv 0) pe_int (fun _ _ => rfl)) pa_nil)) pa_nil)) (by rfl))
    (pss_cons (ps_set (i := 5) scLawPick.nd rfl (Or.inl rfl) (pe_op op_modN (pe_callTy call_int1 (by rfl) z_int (by decide +kernel) (pa_cons (pe_op op_add (pe_op op_add (pe_op op_mul (pe_op op_modN (pv 3) pe_int) pe_int) (pe_op op_mul (pv 4) pe_int)) pe_int) pa_nil)) pe_int))
    (pss_cons (ps_set (i := 6) scLawPick.nd rfl (Or.inl rfl) (pe_op op_modN (pe_callTy call_int1 (by rfl) z_int (by decide +kernel) (pa_cons (pe_op op_add (pe_op op_mul (pv 5) (pv 5)) (pe_op op_mul (pv 4) pe_int)) pa_nil)) pe_int))
    (pss_cons (ps_set (i := 7) scLawPick.nd rfl (Or.inl rfl) (pe_op op_fdivW (pe_callTy call_int1 (by rfl) z_int (by decide +kernel) (pa_cons (pe_op op_add (pe_op op_mul (pv 5) pe_int) (pv 6)) pa_nil)) pe_int))
    (pss_cons (ps_if (pt_cmpR op_gt (pv 1) (pe_op op_pow pe_int pe_int) (nomark _))
    (pss_one (ps_set (i := 7) scLawPick.nd rfl (Or.inl rfl) (pe_op op_add (pe_op op_pow (pv 7) pe_int) (pv 6))))
    pss_nil)
    (pss_one (ps_ret (pe_op op_modN (pe_callTy call_int1 (by rfl) z_int (by decide +kernel) (pa_cons (pv 7) pa_nil)) (pv 1))))))))))), ?_⟩
  refine ⟨_, rfl, b, _, _, _, rfl, rfl, SqL.of h0, atI_nat (j := 2) rfl, _, _, rfl, rfl, _, rfl, b, _, _, 2, rfl, rfl, h0, rfl, ?_⟩
  dsimp only
  have h1 : (upd H b (.lst ([.int x, .int y, .int z].set 2 (.int (z + 1))))) b = some (.lst [.int x, .int y, .int (z + 1)]) := upd_same
  have k1 : ∀ a, a ≠ b → (upd H b (.lst ([.int x, .int y, .int z].set 2 (.int (z + 1))))) a = H a := fun a ha => upd_ne ha
  generalize upd H b (.lst ([.int x, .int y, .int z].set 2 (.int (z + 1)))) = H1 at h1 k1
  refine ⟨_, rfl, b, _, _, _, rfl, rfl, SqL.of h1, atI_nat (j := 0) rfl, _, _, rfl, rfl, _, rfl, ite2 (fun c => ?_) (fun c => ?_)⟩
  · refine ⟨_, rfl, b, _, _, _, rfl, rfl, SqL.of h1, atI_nat (j := 0) rfl, .inl ⟨_, rfl, _, rfl, _, _, rfl, rfl, by omega, ?_⟩⟩
    refine ⟨_, rfl, b, _, _, _, rfl, rfl, SqL.of h1, atI_nat (j := 0) rfl, .inl ⟨_, rfl, _, rfl, _, _, rfl, rfl, wide_div hm hm2 (by decide) (by decide), _, rfl, b, _, _, 0, rfl, rfl, h1, rfl, ?_⟩⟩
    refine ⟨_, rfl, ?_⟩
    exact q _ _ (fm0 x hm) (fm1 x hm) (fun a ha => by rw [upd_ne ha]; exact k1 a ha) ⟨_, _, _, upd_same⟩
  · refine ⟨_, rfl, b, _, _, _, rfl, rfl, SqL.of h1, atI_nat (j := 1) rfl, .inl ⟨_, rfl, _, rfl, b, _, _, _, rfl, rfl, SqL.of h1, atI_nat (j := 2) rfl, .inl ⟨_, rfl, _, _, rfl, ?_⟩⟩⟩
    refine ⟨_, rfl, _, _, rfl, rfl, (by show (2147483629 : Int) ≠ 0; decide), _, _, rfl, rfl, .inr ⟨by decide, by decide⟩, _, rfl, _, _, rfl, rfl, .inr ⟨by decide, by decide⟩, _, _, rfl, rfl, _, _, rfl, rfl, .inl ⟨_, rfl, _, _, rfl, rfl, (by show (2147483647 : Int) ≠ 0; decide), ?_⟩⟩
    dsimp only
    have a0 := fm0 (y.fmod 2147483629 * 48271 + (z + 1) * 69621 + 12345) (m := 2147483647) (by decide)
    have a1 := fm1 (y.fmod 2147483629 * 48271 + (z + 1) * 69621 + 12345) (m := 2147483647) (by decide)
    generalize (y.fmod 2147483629 * 48271 + (z + 1) * 69621 + 12345).fmod 2147483647 = fi at a0 a1
    refine ⟨_, rfl, _, rfl, _, _, rfl, rfl, .inl ⟨by omega, by omega⟩, _, rfl, _, _, rfl, rfl, .inr ⟨by decide, by decide⟩, _, _, rfl, rfl, .inl ⟨_, rfl, _, _, rfl, rfl, (by show (2147483587 : Int) ≠ 0; decide), ?_⟩⟩
    dsimp only
    have b0 := fm0 (fi * fi + (z + 1) * 40692) (m := 2147483587) (by decide)
    have b1 := fm1 (fi * fi + (z + 1) * 40692) (m := 2147483587) (by decide)
    generalize (fi * fi + (z + 1) * 40692).fmod 2147483587 = se at b0 b1
    refine ⟨_, rfl, _, _, rfl, rfl, .inl ⟨by omega, by omega⟩, _, rfl, _, _, rfl, rfl, .inl ⟨_, rfl, _, _, rfl, rfl, wide_div (b := 6) (by decide) (by decide) (by decide) (by decide), ?_⟩⟩
    dsimp only
    have c0 : 0 ≤ (fi * 2147483587 + se) / 32 := by omega
    have c1 : (fi * 2147483587 + se) / 32 < 2 ^ 62 := by omega
    generalize (fi * 2147483587 + se) / 32 = dr at c0 c1
    refine ⟨_, rfl, _, _, rfl, rfl, ⟨by decide, by decide, by decide⟩, _, _, rfl, rfl, _, rfl, ite2 (fun c => ?_) (fun c => ?_)⟩
    · refine ⟨_, rfl, _, _, rfl, rfl, ⟨by decide, by decide, by omega⟩, _, rfl, _, _, rfl, rfl, ?_⟩
      refine ⟨_, rfl, .inl ⟨_, rfl, _, rfl, _, _, rfl, rfl, by omega, ?_⟩⟩
      exact q _ _ (fm0 _ hm) (fm1 _ hm) k1 ⟨_, _, _, h1⟩
    · refine ⟨_, rfl, .inl ⟨_, rfl, _, rfl, _, _, rfl, rfl, by omega, ?_⟩⟩
      exact q _ _ (fm0 _ hm) (fm1 _ hm) k1 ⟨_, _, _, h1⟩
end
end LT

namespace LT
/-- the nodes from (b, b + m) down, as the law lists them -/
def nodesF : Nat → Nat → Nat → List (Nat × Nat)
  | 0, _, _ => []
  | i + 1, b, m => if m ≤ 1 then [(b, b + m)] else (b, b + m) :: (nodesF i b (gp m) ++ nodesF i (b + gp m) (m - gp m))
theorem nodesF_one {i b m : Nat} (h : m ≤ 1) : nodesF (i + 1) b m = [(b, b + m)] := if_pos h
theorem nodesF_two {i b m : Nat} (h : ¬ m ≤ 1) : nodesF (i + 1) b m = (b, b + m) :: (nodesF i b (gp m) ++ nodesF i (b + gp m) (m - gp m)) := if_neg h
theorem gp_half {i m : Nat} (h : 2 ≤ m) (k : 2 * m ≤ 2 ^ (i + 1)) : 2 * gp m ≤ 2 ^ i ∧ 2 * (m - gp m) ≤ 2 ^ i := by
  have g1 := gp_lt h
  have g2 := gp_ge h
  have p := Nat.pow_succ (n := 2) (m := i)
  have : gp m < 2 ^ i := by omega
  unfold gp at this ⊢
  have e := (Nat.pow_lt_pow_iff_right (by decide : 1 < 2)).mp this
  have e2 : 2 ^ ((m - 1).log2 + 1) ≤ 2 ^ i := Nat.pow_le_pow_right (by decide) (by omega)
  rw [Nat.pow_succ] at e2
  unfold gp at g1 g2
  omega
theorem nodesF_len : ∀ (i b m : Nat), 1 ≤ m → 2 * m ≤ 2 ^ i → (nodesF i b m).length = 2 * m - 1
  | 0, b, m, h1, h2 => by simp at h2; omega
  | i + 1, b, m, h1, h2 => by
    by_cases c : m ≤ 1
    · rw [nodesF_one c]
      simp
      omega
    · rw [nodesF_two c, List.length_cons, List.length_append]
      have g1 := gp_lt (m := m) (by omega)
      have g3 := gp_pos m
      obtain ⟨k1, k2⟩ := gp_half (by omega) h2
      rw [nodesF_len i b (gp m) g3 k1, nodesF_len i (b + gp m) (m - gp m) (by omega) k2]
      omega
/-- a node of tree(n) -/
def isN (n : Nat) (x : Nat × Nat) : Prop := x.1 < x.2 ∧ x.2 ≤ n ∧ tree n x.1 (x.2 - x.1)
theorem mul_le_of_lt {R a b : Nat} (h1 : R ∣ a) (h2 : R ∣ b) (h : a < b) : a + R ≤ b := by
  obtain ⟨x, rfl⟩ := h1
  obtain ⟨y, rfl⟩ := h2
  have : x < y := Nat.lt_of_mul_lt_mul_left h
  calc R * x + R = R * (x + 1) := by rw [Nat.mul_succ]
    _ ≤ R * y := Nat.mul_le_mul_left R this
/-- a node within another one is it, or lies within one of its halves -/
theorem node_in {n b m : Nat} (h : 2 ≤ m) (t : tree n b m) (hn : b + m ≤ n) {x : Nat × Nat} (hx : isN n x) (h1 : b ≤ x.1) (h2 : x.2 ≤ b + m) : x = (b, b + m) ∨ x.2 ≤ b + gp m ∨ b + gp m ≤ x.1 := by
  obtain ⟨x1, x2⟩ := x
  obtain ⟨k1, k2, d, k3⟩ := hx
  simp only at k1 k2 d k3 h1 h2
  by_cases c1 : x2 ≤ b + gp m
  · exact .inr (.inl c1)
  by_cases c2 : b + gp m ≤ x1
  · exact .inr (.inr c2)
  left
  obtain ⟨td, tk⟩ := t
  have e := lb_gp h
  rw [e] at td tk
  have g1 := gp_lt h
  have g2 := gp_ge h
  have gR : gp m = 2 ^ Nat.log2 (m - 1) := rfl
  generalize hr : lb (x2 - x1) = r at d k3
  have ge := lb_ge (x2 - x1)
  rw [hr] at ge
  by_cases c : r ≤ Nat.log2 (m - 1)
  · -- small: a multiple of 2 ^ r below b + gp m ends there at most
    have dg : 2 ^ r ∣ gp m := by rw [gR]; exact Nat.pow_dvd_pow 2 c
    have db : 2 ^ r ∣ b := Nat.dvd_trans dg (Nat.dvd_trans (Nat.dvd_mul_left _ _) td)
    have := mul_le_of_lt d (Nat.dvd_add db dg) (by omega : x1 < b + gp m)
    omega
  · have dd : 2 * gp m ∣ 2 ^ r := by
      rw [gR, Nat.mul_comm, ← Nat.pow_succ]
      exact Nat.pow_dvd_pow 2 (by omega)
    have dx := Nat.dvd_trans dd d
    have ex : x1 = b := by
      by_cases z : b < x1
      · have := mul_le_of_lt td dx z
        omega
      · omega
    subst ex
    have le : 2 * gp m ≤ 2 ^ r := Nat.le_of_dvd (Nat.pow_pos (by decide)) dd
    have rl : r ≤ Nat.log2 (m - 1) + 1 := by
      rw [← hr]
      refine lb_le ?_
      rw [Nat.pow_succ, ← gR]
      omega
    have e2 : 2 ^ r ≤ 2 * gp m := by
      rw [gR, Nat.mul_comm, ← Nat.pow_succ]
      exact Nat.pow_le_pow_right (by decide) rl
    have : x2 = x1 + m := by
      rcases k3 with k3 | k3 <;> omega
    rw [this]
theorem mem_nodesF (n : Nat) (x : Nat × Nat) : ∀ (i b m : Nat), 1 ≤ m → 2 * m ≤ 2 ^ i → tree n b m → b + m ≤ n → (x ∈ nodesF i b m ↔ isN n x ∧ b ≤ x.1 ∧ x.2 ≤ b + m)
  | 0, b, m, h1, h2, _, _ => by simp at h2; omega
  | i + 1, b, m, h1, h2, t, hn => by
    by_cases c : m ≤ 1
    · have em : m = 1 := by omega
      subst em
      rw [nodesF_one (by omega), List.mem_singleton]
      constructor
      · rintro rfl
        exact ⟨⟨by simp, by simpa using hn, by simpa using t⟩, by simp, by simp⟩
      · rintro ⟨⟨k1, _⟩, k2, k3⟩
        have : x.1 = b ∧ x.2 = b + 1 := by omega
        exact Prod.ext this.1 this.2
    · rw [nodesF_two c, List.mem_cons, List.mem_append]
      have g1 := gp_lt (m := m) (by omega)
      have g3 := gp_pos m
      obtain ⟨k1, k2⟩ := gp_half (by omega) h2
      have e : b + gp m + (m - gp m) = b + m := by omega
      have il := mem_nodesF n x i b (gp m) g3 k1 (tree_low (by omega) t) (by omega)
      have ih := mem_nodesF n x i (b + gp m) (m - gp m) (by omega) k2 (tree_high (by omega) t) (by omega)
      rw [il, ih, e]
      constructor
      · rintro (rfl | ⟨p, q, r⟩ | ⟨p, q, r⟩)
        · exact ⟨⟨by simp; omega, by simpa using hn, by simpa using t⟩, by simp, by simp⟩
        · exact ⟨p, q, by omega⟩
        · exact ⟨p, by omega, r⟩
      · rintro ⟨p, q, r⟩
        rcases node_in (by omega) t hn p q r with z | z | z
        · exact .inl z
        · exact .inr (.inl ⟨p, q, z⟩)
        · exact .inr (.inr ⟨p, z, r⟩)
instance (n : Nat) (x : Nat × Nat) : Decidable (tree n x.1 (x.2 - x.1)) := by unfold tree; infer_instance
instance (n : Nat) (x : Nat × Nat) : Decidable (isN n x) := by unfold isN; infer_instance
end LT

namespace LT
open PySem PySem.Spec PyProof.Rows L2
def tnV (n : Nat) : V → V → Bool
  | .int b, .int e => decide (0 ≤ b ∧ isN n (b.toNat, e.toNat))
  | _, _ => false
theorem tn_out {n : Nat} {b e : Int} (h : ¬ (0 ≤ b ∧ b < e ∧ e ≤ n)) : tnV n (.int b) (.int e) = false := by
  refine decide_eq_false (fun ⟨h0, k⟩ => h ⟨h0, ?_, ?_⟩)
  · have := k.1
    simp only at this
    omega
  · have := k.1
    have := k.2.1
    simp only at *
    omega
/-- what may be asked whether it is a node -/
inductive Ask (K : PySem.W.Frag) (H : Hp) (n : Nat) : V → Bool → Prop
  | kind {v : V} {t : String} : Pl K H v t → t ≠ "tuple" → Ask K H n v false
  | long {p : Addr} {xs : List V} : H p = some (.tup xs) → xs.length ≠ 2 → xs.length ≤ 1000 → Ask K H n (.ref p) false
  | pair {p : Addr} {v1 v2 : V} {t1 t2 : String} : H p = some (.tup [v1, v2]) → Pl K H v1 t1 → Pl K H v2 t2 → Ask K H n (.ref p) (tnV n v1 v2)
theorem kit_tup {t : String} {K : PySem.W.Frag} {H : Hp} {v : V} (h : Pl K H v t) (hn : t ≠ "tuple") : PySem.W.kitOne K (.type t) (.type "tuple") = some false := by
  cases h with
  | non => exact kit_ty (by decide +kernel)
  | bl _ => exact kit_ty (by decide +kernel)
  | int _ => exact kit_ty (by decide +kernel)
  | str _ => exact kit_ty (by decide +kernel)
  | lst _ => exact kit_ty (by decide +kernel)
  | tup _ => exact absurd rfl hn
  | dict _ => exact kit_ty (by decide +kernel)
section
variable {P : Program} {w : World} {K : PySem.W.Frag} {mg : Str → Option Value} {base : Heap}
def spTreeV (K : PySem.W.Frag) : Sp := fun vs H Q _ => ∃ (n : Nat) (v : V) (r : Bool), vs = [.int n, v] ∧ 1 ≤ n ∧ n ≤ 10 ^ 30 ∧ Ask K H n v r ∧ Q (.bl r) H
theorem ok_is_tree_nodeV {f g : Addr} {fd gd : FuncData} (F : Fun K "is_tree_node" "is_tree_node" sIsTreeNode f fd) (GIsBetween : FnOk P w K mg base CX0 2 g gd ["value", "low", "high"] (spBetweenV K)) (AIsBetween : At K mg "is_between" g gd ["value", "low", "high"])
    (z_isinstance : mg "isinstance" = none) (z_tuple : mg "tuple" = none) (z_len : mg "len" = none) : FnOk P w K mg base CX0 3 f fd ["size", "value"] (spTreeV K) := by
  refine F.ok scIsTreeNode (fun vs H Q E h => ?_) (fun cdv A outer s H vs Q E hr h => ?_)
  · obtain ⟨_, _, _, rfl, _⟩ := h
    rfl
  obtain ⟨n, v, r, rfl, n1, h30, ask, q⟩ := h
  refine ⟨_, (pss_cons (ps_if (PW.pt (pw_or (pt_not (pt_val (pe_callB call_isi (by rfl) z_isinstance (by decide +kernel) (pa_cons (pv 1) (pa_cons (pe_bltn (v := .ty "tuple") (u := .type "tuple") (by rfl) z_tuple (by decide +kernel) rfl) pa_nil))))) (pw_or1 (pt_cmpR op_ne (pe_callB call_len_seq (by rfl) z_len PySem.boot_len (pa_cons (pv 1) pa_nil)) pe_int (nomark _)))))
    (pss_one (ps_ret pe_bl))
    pss_nil)
    (pss_cons (ps_asg (pv 1) (pg_tup (by rfl) (pgs_cons (pg_name (i := 2) scIsTreeNode.nd rfl (Or.inl rfl)) (pgs_cons (pg_name (i := 3) scIsTreeNode.nd rfl (Or.inl rfl)) pgs_nil))))
    (pss_cons (ps_if (PW.pt (pw_or (pt_not (pt_val (pe_call GIsBetween (hr.mono (by decide)) rfl AIsBetween.m AIsBetween.kp AIsBetween.b .nil pass0 (pa_cons (pv 2) (pa_cons pe_int (pa_cons (pe_op op_sub (pv 0) pe_int) pa_nil)))))) (pw_or1 (pt_not (pt_val (pe_call GIsBetween (hr.mono (by decide)) rfl AIsBetween.m AIsBetween.kp AIsBetween.b .nil pass0 (pa_cons (pv 3) (pa_cons (pe_op op_add (pv 2) pe_int) (pa_cons (pv 0) pa_nil)))))))))
    (pss_one (ps_ret pe_bl))
    pss_nil)
    (pss_cons (ps_set (i := 4) scIsTreeNode.nd rfl (Or.inl rfl) (pe_op op_shl pe_int (pe_bits (pe_op op_sub (pe_op op_sub (pv 3) (pv 2)) pe_int))))
    (pss_one (ps_ret (pe_and (pe_cmpR op_eq (pe_op op_modN (pv 2) (pv 4)) pe_int (nomark _)) (pe_one (pe_or (pe_cmpR op_eq (pe_op op_sub (pv 3) (pv 2)) (pv 4) (nomark _)) (pe_one (pe_cmpR op_eq (pv 3) (pv 0) (nomark _)))))))))))), ?_⟩
  cases ask with
  | @kind _ t hv ht => exact ⟨_, rfl, _, _, _, _, false, rfl, .ty "tuple", hv.ty, kit_tup hv ht, false, rfl, q⟩
  | @long p xs hp hl h1000 =>
    refine ⟨_, rfl, _, _, _, _, true, rfl, .ty "tuple", .base (.tup hp), kit_ty (by decide +kernel), true, rfl, ?_⟩
    refine ⟨_, rfl, p, _, rfl, .inr (SqT.of hp), rfl, true, ?_, q⟩
    refine congrArg V.bl ?_
    rw [Bool.not_eq_true']
    exact decide_eq_false (fun z => hl (by have := V.int.inj z; omega))
  | @pair p v1 v2 ty1 ty2 hp p1 p2 =>
    refine ⟨_, rfl, _, _, _, _, true, rfl, .ty "tuple", .base (.tup hp), kit_ty (by decide +kernel), true, rfl, ?_⟩
    refine ⟨_, rfl, p, _, rfl, .inr (SqT.of hp), rfl, false, rfl, ?_⟩
    refine ⟨_, rfl, p, _, rfl, SqT.of hp, rfl, _, _, rfl, _, _, rfl, rfl, ?_⟩
    refine ⟨_, rfl, _, rfl, _, _, rfl, rfl, v1, ty1, _, _, rfl, p1, inRange 0 ((n : Int) - 1) v1, rfl, ?_⟩
    cases h1 : inRange 0 ((n : Int) - 1) v1 with
    | false =>
      have e : tnV n v1 v2 = false := by
        cases v1 with
        | int b =>
          cases v2 with
          | int e =>
            refine tn_out (fun k => ?_)
            have h1' : (decide (0 ≤ b) && decide (b ≤ (n : Int) - 1)) = false := h1
            rw [decide_eq_true k.1, decide_eq_true (show b ≤ (n : Int) - 1 by omega)] at h1'
            exact absurd h1' (by decide)
          | _ => rfl
        | _ => rfl
      rw [e] at q
      exact q
    | true =>
      cases p1 with
      | int b =>
        have h1' : (decide (0 ≤ b) && decide (b ≤ (n : Int) - 1)) = true := h1
        rw [Bool.and_eq_true] at h1'
        have b0 := of_decide_eq_true h1'.1
        have b1 := of_decide_eq_true h1'.2
        refine ⟨_, rfl, _, rfl, _, _, rfl, rfl, _, rfl, v2, ty2, _, _, rfl, p2, inRange (b + 1) (n : Int) v2, rfl, ?_⟩
        cases h2 : inRange (b + 1) (n : Int) v2 with
        | false =>
          have e : tnV n (.int b) v2 = false := by
            cases v2 with
            | int e =>
              refine tn_out (fun k => ?_)
              have h2' : (decide (b + 1 ≤ e) && decide (e ≤ (n : Int))) = false := h2
              rw [decide_eq_true (show b + 1 ≤ e by omega), decide_eq_true k.2.2] at h2'
              exact absurd h2' (by decide)
            | _ => rfl
          rw [e] at q
          exact q
        | true =>
          cases p2 with
          | int e =>
            have h2' : (decide (b + 1 ≤ e) && decide (e ≤ (n : Int))) = true := h2
            rw [Bool.and_eq_true] at h2'
            have e0 := of_decide_eq_true h2'.1
            have e1 := of_decide_eq_true h2'.2
            obtain ⟨bn, rfl⟩ := Int.eq_ofNat_of_zero_le b0
            obtain ⟨en, rfl⟩ := Int.eq_ofNat_of_zero_le (show 0 ≤ e by omega)
            have hlt : bn < en := by omega
            have ev : tnV n (.int (bn : Int)) (.int (en : Int)) = decide (isN n (bn, en)) := by
              show decide (0 ≤ (bn : Int) ∧ isN n ((bn : Int).toNat, (en : Int).toNat)) = decide (isN n (bn, en))
              rw [Int.toNat_natCast, Int.toNat_natCast]
              by_cases k : isN n (bn, en)
              · rw [decide_eq_true k, decide_eq_true ⟨b0, k⟩]
              · rw [decide_eq_false k, decide_eq_false (fun z => k z.2)]
            rw [ev] at q
            have em : (en : Int) - (bn : Int) - 1 = ((en - bn - 1 : Nat) : Int) := by omega
            refine ⟨_, rfl, _, rfl, _, _, rfl, rfl, _, _, rfl, rfl, _, rfl, ?_⟩
            dsimp only
            rw [em, bits_lb (show 1 ≤ en - bn by omega)]
            have l100 := lb100 (show en - bn ≤ 10 ^ 30 by omega)
            refine ⟨_, _, rfl, rfl, ⟨Int.natCast_nonneg _, by omega, by decide⟩, ?_⟩
            have e2 : (1 : Int) * 2 ^ ((lb (en - bn) : Nat) : Int).toNat = ((2 ^ lb (en - bn) : Nat) : Int) := by rw [Int.one_mul, Int.toNat_natCast]; exact (Int.natCast_pow 2 _).symm
            dsimp only
            rw [e2]
            have pz : 0 < 2 ^ lb (en - bn) := Nat.pow_pos (by decide)
            have isE : isN n (bn, en) ↔ (bn % 2 ^ lb (en - bn) = 0 ∧ (en - bn = 2 ^ lb (en - bn) ∨ en = n)) := by
              unfold isN tree
              simp only
              constructor
              · rintro ⟨_, _, k1, k2⟩
                exact ⟨Nat.mod_eq_zero_of_dvd k1, k2.elim .inl (fun z => .inr (by omega))⟩
              · rintro ⟨k1, k2⟩
                exact ⟨hlt, by omega, Nat.dvd_of_mod_eq_zero k1, k2.elim .inl (fun z => .inr (by omega))⟩
            generalize 2 ^ lb (en - bn) = R at pz isE
            have fm : Int.fmod (bn : Int) (R : Int) = ((bn % R : Nat) : Int) := by
              rw [Int.fmod_eq_emod_of_nonneg _ (Int.natCast_nonneg _)]
              exact (Int.natCast_emod _ _).symm
            refine ⟨_, rfl, _, rfl, _, _, rfl, rfl, by omega, rfl, decide (bn % R = 0), ?_, ?_⟩
            · show V.bl (decide (V.int (Int.fmod (bn : Int) (R : Int)) = V.int 0)) = V.bl (decide (bn % R = 0))
              rw [fm]
              refine congrArg V.bl ?_
              by_cases k : bn % R = 0
              · rw [decide_eq_true k, k]; rfl
              · rw [decide_eq_false k]
                exact decide_eq_false (fun z => k (by have := V.int.inj z; omega))
            by_cases k : bn % R = 0
            · rw [decide_eq_true k]
              refine iteT ?_
              refine ⟨_, rfl, _, rfl, _, _, rfl, rfl, _, rfl, rfl, _, rfl, ite2 (fun c => ?_) (fun c => ?_)⟩
              · have c1 : V.int ((en : Int) - (bn : Int)) = V.int (R : Int) := of_decide_eq_true c
                have c2 := V.int.inj c1
                rw [decide_eq_true (isE.mpr ⟨k, .inl (by omega)⟩)] at q
                exact q
              · have c1 : ¬ V.int ((en : Int) - (bn : Int)) = V.int (R : Int) := of_decide_eq_false (Bool.eq_false_iff.mpr c)
                refine ⟨_, rfl, _, rfl, rfl, ?_⟩
                have ed : decide (V.int (en : Int) = V.int (n : Int)) = decide (isN n (bn, en)) := by
                  by_cases z : en = n
                  · rw [decide_eq_true (isE.mpr ⟨k, .inr z⟩), decide_eq_true (by rw [z])]
                  · rw [decide_eq_false (fun y => z (by have := V.int.inj y; omega)), decide_eq_false (fun y => (isE.mp y).2.elim (fun u => c1 (congrArg V.int (by omega))) z)]
                show Q (.bl (decide (V.int (en : Int) = V.int (n : Int)))) H
                rw [ed]
                exact q
            · rw [decide_eq_false k]
              refine iteF ?_
              rw [decide_eq_false (fun z => k (isE.mp z).1)] at q
              exact q
          | _ => exact absurd h2 (by intro z; cases z)
      | _ => exact absurd h1 (by intro z; cases z)
/-- the promise for pairs that are nodes -/
theorem tree_ofV {k : Nat} {f : Addr} {fd : FuncData} (F : FnOk P w K mg base CX0 k f fd ["size", "value"] (spTreeV K)) : FnOk P w K mg base CX0 k f fd ["size", "value"] spTree :=
  F.imp fun vs H Q E h => by
    obtain ⟨n, b, m, v, rfl, ⟨p, rfl, hp⟩, hm, hn, h30, ht, q⟩ := h
    refine ⟨n, _, _, rfl, by omega, h30, .pair hp (.int _) (.int _), ?_⟩
    have e : tnV n (.int (b : Int)) (.int ((b + m : Nat) : Int)) = true := by
      refine decide_eq_true ⟨Int.natCast_nonneg _, ?_⟩
      rw [Int.toNat_natCast, Int.toNat_natCast]
      refine ⟨by simp only; omega, hn, ?_⟩
      show tree n b (b + m - b)
      rw [Nat.add_sub_cancel_left]
      exact ht
    show Q (.bl (tnV n (.int (b : Int)) (.int ((b + m : Nat) : Int)))) H
    rw [e]
    exact q
def spIsNode (K : PySem.W.Frag) : Sp := spTreeV K
theorem ok_is_node {f g g2 : Addr} {fd gd gd2 : FuncData} (F : Fun K "is_node" "is_node" sIsNode f fd) (GCheckSize : FnOk P w K mg base CX0 3 g gd ["size"] spCheckSize) (ACheckSize : At K mg "check_size" g gd ["size"])
    (GIsTreeNode : FnOk P w K mg base CX0 3 g2 gd2 ["size", "value"] (spTreeV K)) (AIsTreeNode : At K mg "is_tree_node" g2 gd2 ["size", "value"]) : FnOk P w K mg base CX0 4 f fd ["size", "value"] (spIsNode K) := by
  refine F.ok scIsNode (fun vs H Q E h => ?_) (fun cdv A outer s H vs Q E hr h => ?_)
  · obtain ⟨_, _, _, rfl, _⟩ := h
    rfl
  obtain ⟨n, v, r, rfl, n1, h30, ask, q⟩ := h
  refine ⟨_, (pss_cons (ps_expr (pe_call GCheckSize (hr.mono (by decide)) rfl ACheckSize.m ACheckSize.kp ACheckSize.b .nil pass0 (pa_cons (pv 0) pa_nil)))
    (pss_one (ps_ret (pe_call GIsTreeNode (hr.mono (by decide)) rfl AIsTreeNode.m AIsTreeNode.kp AIsTreeNode.b .nil pass0 (pa_cons (pv 0) (pa_cons (pv 1) pa_nil)))))), ?_⟩
  refine ⟨_, rfl, n, rfl, by omega, by omega, ?_⟩
  exact ⟨_, rfl, _, rfl, n, v, r, rfl, n1, h30, ask, q⟩
end
end LT

namespace LT
open PySem PySem.Spec PyProof.Rows L2
/-! ### lists of ints as data -/
theorem ints_lay : ∀ ns : List Int, PyData.canLayAll0 (ns.map PyData.int) = true
  | [] => by simp [PyData.canLayAll0]
  | n :: ns => by simp [PyData.canLayAll0, PyData.canLay0, ints_lay ns]
theorem ints_depth : ∀ ns : List Int, PyData.depthAll (ns.map PyData.int) ≤ 1
  | [] => by simp [PyData.depthAll]
  | n :: ns => by
    have := ints_depth ns
    simp only [List.map_cons, PyData.depthAll, PyData.depth]
    omega
theorem ints_shaped (ns : List Int) : SeqAt.shaped (.list (ns.map PyData.int)) = true := by
  have h := ints_depth ns
  have h2 : PyData.depth (.list (ns.map PyData.int)) ≤ 64 := by
    simp only [PyData.depth]
    omega
  show (PyData.canLay0 (.list (ns.map PyData.int)) && decide (PyData.depth (.list (ns.map PyData.int)) ≤ 64)) = true
  rw [Bool.and_eq_true]
  exact ⟨by simp only [PyData.canLay0]; exact ints_lay ns, decide_eq_true h2⟩
theorem ints_dp {K : PySem.W.Frag} {H : Hp} : ∀ ns : List Int, DpAll K H (ns.map V.int) (ns.map PyData.int)
  | [] => .nil
  | n :: ns => .cons (.int n) (ints_dp ns)
theorem ints_nil : ∀ ns : List Int, PyData.eqv (.list (ns.map PyData.int)) (.list []) = ns.isEmpty
  | [] => by simp only [List.map_nil, PyData.eqv, PyData.eqvAll, List.isEmpty_nil]
  | n :: ns => by simp only [List.map_cons, PyData.eqv, PyData.eqvAll, List.isEmpty_cons]
theorem nil_shaped : SeqAt.shaped (.list []) = true := ints_shaped []
end LT

namespace LT
open PySem PySem.Spec PyProof.Rows L2
def nd (x : Nat × Nat) : PyData := .tuple [.int x.1, .int x.2]
theorem nds_lay : ∀ l : List (Nat × Nat), PyData.canLayAll0 (l.map nd) = true
  | [] => by simp [PyData.canLayAll0]
  | x :: l => by simp [PyData.canLayAll0, nd, PyData.canLay0, nds_lay l]
theorem nds_depth : ∀ l : List (Nat × Nat), PyData.depthAll (l.map nd) ≤ 2
  | [] => by simp [PyData.depthAll]
  | x :: l => by
    have := nds_depth l
    simp only [List.map_cons, PyData.depthAll, nd, PyData.depth]
    omega
theorem nds_shaped (l : List (Nat × Nat)) : SeqAt.shaped (.list (l.map nd)) = true := by
  have h := nds_depth l
  have h2 : PyData.depth (.list (l.map nd)) ≤ 64 := by
    simp only [PyData.depth]
    omega
  show (PyData.canLay0 (.list (l.map nd)) && decide (PyData.depth (.list (l.map nd)) ≤ 64)) = true
  rw [Bool.and_eq_true]
  exact ⟨by simp only [PyData.canLay0]; exact nds_lay l, decide_eq_true h2⟩
theorem nds_dp {K : PySem.W.Frag} {H : Hp} : ∀ {vs : List V} {l : List (Nat × Nat)}, All2 (Nd H) vs l → DpAll K H vs (l.map nd)
  | _, _, .nil => .nil
  | _, _, .cons h t => .cons h.dp (nds_dp t)
theorem nds_any (l : List (Nat × Nat)) (x : Nat × Nat) : (l.map nd).any (fun z => PyData.eqv z (.tuple [.int x.1, .int x.2])) = decide (x ∈ l) := by
  induction l with
  | nil => simp
  | cons y l ih =>
    rw [List.map_cons, List.any_cons, ih]
    show (PyData.eqv (.tuple [.int y.1, .int y.2]) _ || _) = _
    rw [nd_eqv]
    by_cases c : x = y
    · subst c
      simp
    · have e : (decide ((y.1 : Int) = (x.1 : Int)) && decide ((y.2 : Int) = (x.2 : Int))) = false := by
        rw [Bool.and_eq_false_iff]
        by_cases c1 : y.1 = x.1
        · right
          refine decide_eq_false (fun z => c (Prod.ext c1.symm ?_))
          omega
        · left
          exact decide_eq_false (fun z => c1 (by omega))
      rw [e, Bool.false_or]
      simp [c]
end LT

namespace LT
open PySem PySem.Spec PyProof.Rows L2
/-- the parts of the log's entries around b in rooms of 2 ^ j -/
def cutAt (n b j : Nat) : Nat × Nat := (b - b % 2 ^ j, min (b - b % 2 ^ j + 2 ^ j) n)
/-- a half of a node -/
def isHalf (B M : Nat) (x : Nat × Nat) : Prop := x = (B, B + gp M) ∨ x = (B + gp M, B + M)
theorem cut_here {n b m : Nat} (t : tree n b m) (hn : b + m ≤ n) : cutAt n b (lb m) = (b, b + m) := by
  obtain ⟨d, k⟩ := t
  unfold cutAt
  rw [Nat.mod_eq_zero_of_dvd d, Nat.sub_zero]
  have := lb_ge m
  refine Prod.ext rfl ?_
  simp only
  rcases k with k | k
  · rw [← k]; exact Nat.min_eq_left hn
  · rw [k]; exact Nat.min_eq_right (by omega)
theorem mod_of_room {R B b : Nat} (d : R ∣ B) (h1 : B ≤ b) (h2 : b < B + R) : b - b % R = B := by
  obtain ⟨x, rfl⟩ := d
  have e : b % R = b - R * x := by
    have h : b = R * x + (b - R * x) := by omega
    rw [h, Nat.mul_add_mod, Nat.mod_eq_of_lt (by omega), Nat.add_sub_cancel_left]
  omega
theorem cut_above {n B M b : Nat} (t : tree n B M) (hn : B + M ≤ n) (h1 : B ≤ b) (h2 : b < B + M) : cutAt n b (lb M) = (B, B + M) := by
  rw [← cut_here t hn]
  have := lb_ge M
  unfold cutAt
  rw [mod_of_room t.1 h1 (by omega), mod_of_room t.1 (Nat.le_refl _) (by have := Nat.pow_pos (a := 2) (n := lb M) (by decide); omega)]
theorem half_lb {M : Nat} (h : 2 ≤ M) : lb M = Nat.log2 (M - 1) + 1 := by unfold lb; rw [if_neg (by omega)]
theorem cut_between {n B M : Nat} (h : 2 ≤ M) (t : tree n B M) (hn : B + M ≤ n) {x : Nat × Nat} (hx : isHalf B M x) {j : Nat} (h1 : lb (x.2 - x.1) ≤ j) (h2 : j < lb M) : cutAt n x.1 j = x := by
  have g1 := gp_lt h
  have g2 := gp_ge h
  have e1 := half_lb h
  have eg : lb (gp M) = Nat.log2 (M - 1) := by unfold gp; rw [lb_pow]
  rcases hx with rfl | rfl
  · simp only [Nat.add_sub_cancel_left] at h1
    have ej : j = lb (gp M) := by omega
    subst ej
    exact cut_here (tree_low h t) (by omega)
  · have em : B + M - (B + gp M) = M - gp M := by omega
    simp only at h1
    rw [em] at h1
    have th := tree_high h t
    by_cases c : j = lb (M - gp M)
    · subst c
      have := cut_here th (by omega)
      rw [show B + gp M + (M - gp M) = B + M by omega] at this
      exact this
    · have lt : lb (M - gp M) < lb (gp M) := by omega
      have hn2 : B + M = n := by
        rcases t.2 with k | k
        · exfalso
          have e2 := lb_gp h
          have e3 : M - gp M = gp M := by omega
          rw [e3] at lt
          omega
        · exact k
      unfold cutAt
      have dj : 2 ^ j ∣ B + gp M := by
        have d1 : 2 ^ j ∣ gp M := by unfold gp; exact Nat.pow_dvd_pow 2 (by omega)
        have d2 : gp M ∣ B := by
          have k := t.1
          rw [lb_gp h] at k
          exact Nat.dvd_trans (Nat.dvd_mul_left _ _) k
        exact Nat.dvd_add (Nat.dvd_trans d1 d2) d1
      simp only
      rw [Nat.mod_eq_zero_of_dvd dj, Nat.sub_zero]
      refine Prod.ext rfl ?_
      simp only
      have k1 := lb_ge (M - gp M)
      have k2 : 2 ^ lb (M - gp M) ≤ 2 ^ j := Nat.pow_le_pow_right (by decide) h1
      rw [Nat.min_eq_right (by omega), hn2]
theorem half_ne {B M n : Nat} (h : 2 ≤ M) (hn : B + M ≤ n) {x : Nat × Nat} (hx : isHalf B M x) : x ≠ (0, n) ∧ x ≠ (B, B + M) ∧ B ≤ x.1 ∧ x.1 < x.2 ∧ x.2 ≤ B + M := by
  have g1 := gp_lt h
  have g3 := gp_pos M
  rcases hx with rfl | rfl
  · refine ⟨fun z => ?_, fun z => ?_, Nat.le_refl _, by simp only; omega, by simp only; omega⟩
    · have := congrArg Prod.snd z; simp only at this; omega
    · have := congrArg Prod.snd z; simp only at this; omega
  · refine ⟨fun z => ?_, fun z => ?_, by simp only; omega, by simp only; omega, Nat.le_refl _⟩
    · have := congrArg Prod.fst z; simp only at this; omega
    · have := congrArg Prod.fst z; simp only at this; omega
theorem half_tree {B M n : Nat} (h : 2 ≤ M) (t : tree n B M) {x : Nat × Nat} (hx : isHalf B M x) : tree n x.1 (x.2 - x.1) := by
  have g1 := gp_lt h
  rcases hx with rfl | rfl
  · simp only [Nat.add_sub_cancel_left]
    exact tree_low h t
  · simp only
    rw [show B + M - (B + gp M) = M - gp M by omega]
    exact tree_high h t
theorem half_lt {B M : Nat} (h : 2 ≤ M) {x : Nat × Nat} (hx : isHalf B M x) : lb (x.2 - x.1) < lb M := by
  have g1 := gp_lt h
  have g2 := gp_ge h
  have e1 := half_lb h
  have eg : lb (gp M) = Nat.log2 (M - 1) := by unfold gp; rw [lb_pow]
  rcases hx with rfl | rfl
  · simp only [Nat.add_sub_cancel_left]
    omega
  · simp only
    rw [show B + M - (B + gp M) = M - gp M by omega]
    have : lb (M - gp M) ≤ Nat.log2 (M - 1) := lb_le (by unfold gp at g1 g2 ⊢; omega)
    omega
theorem nd_is (x y : Nat × Nat) : PyData.eqv (nd x) (nd y) = decide (x = y) := by
  show PyData.eqv (.tuple [.int x.1, .int x.2]) (.tuple [.int y.1, .int y.2]) = _
  rw [nd_eqv]
  by_cases c : x = y
  · subst c; simp
  · rw [decide_eq_false c, Bool.and_eq_false_iff]
    by_cases c1 : x.1 = y.1
    · right
      exact decide_eq_false (fun z => c (Prod.ext c1 (by omega)))
    · left
      exact decide_eq_false (fun z => c1 (by omega))
section
variable {P : Program} {w : World} {K : PySem.W.Frag} {mg : Str → Option Value} {base : Heap}
/-- the halves of any node -/
def spHalvesA : Sp := fun vs H Q _ => ∃ (n b m : Nat) (v : V), vs = [.int n, v] ∧ Nd H v (b, b + m) ∧ 1 ≤ m ∧ b + m ≤ n ∧ n ≤ 10 ^ 30 ∧ tree n b m ∧
  ((m = 1 ∧ Q .non H) ∨ (2 ≤ m ∧ ∀ (H' : Hp) (q : Addr) (l h : V), Same H H' → H q = none → H' q = some (.tup [l, h]) → Nd H' l (b, b + gp m) → Nd H' h (b + gp m, b + m) → Q (.ref q) H'))
theorem ok_halvesA {f g1 g2 g3 : Addr} {fd d1 d2 d3 : FuncData} (F : Fun K "halves" "halves" sHalves f fd) (GCheckSize : FnOk P w K mg base CX0 3 g1 d1 ["size"] spCheckSize) (ACheckSize : At K mg "check_size" g1 d1 ["size"])
    (GCheckNode : FnOk P w K mg base CX0 4 g2 d2 ["size", "node"] spCheckNode) (ACheckNode : At K mg "check_node" g2 d2 ["size", "node"]) (GPowerWithin : FnOk P w K mg base CX0 1 g3 d3 ["number"] spPower) (APowerWithin : At K mg "power_within" g3 d3 ["number"]) :
    FnOk P w K mg base CX0 5 f fd ["size", "node"] spHalvesA := by
  refine F.ok scHalves (fun vs H Q E h => ?_) (fun cdv A outer s H vs Q E hr h => ?_)
  · obtain ⟨_, _, _, _, rfl, _⟩ := h
    rfl
  obtain ⟨n, b, m, v, rfl, hv, hm, hn, h30, ht, q⟩ := h
  refine ⟨_, (pss_cons (ps_expr (pe_call GCheckSize (hr.mono (by decide)) rfl ACheckSize.m ACheckSize.kp ACheckSize.b .nil pass0 (pa_cons (pv 0) pa_nil)))
    (pss_cons (ps_expr (pe_call GCheckNode (hr.mono (by decide)) rfl ACheckNode.m ACheckNode.kp ACheckNode.b .nil pass0 (pa_cons (pv 0) (pa_cons (pv 1) pa_nil))))
    (pss_cons (ps_asg (pv 1) (pg_tup (by rfl) (pgs_cons (pg_name (i := 2) scHalves.nd rfl (Or.inl rfl)) (pgs_cons (pg_name (i := 3) scHalves.nd rfl (Or.inl rfl)) pgs_nil))))
    (pss_cons (ps_if (pt_cmpR op_eq (pe_op op_sub (pv 3) (pv 2)) pe_int (nomark _))
    (pss_one (ps_ret pe_non))
    pss_nil)
    (pss_cons (ps_set (i := 4) scHalves.nd rfl (Or.inl rfl) (pe_op op_add (pv 2) (pe_call GPowerWithin (hr.mono (by decide)) rfl APowerWithin.m APowerWithin.kp APowerWithin.b .nil pass0 (pa_cons (pe_op op_sub (pe_op op_sub (pv 3) (pv 2)) pe_int) pa_nil))))
    (pss_one (ps_ret (pe_tup (pa_cons (pe_tup (pa_cons (pv 2) (pa_cons (pv 4) pa_nil))) (pa_cons (pe_tup (pa_cons (pv 4) (pa_cons (pv 3) pa_nil))) pa_nil)))))))))), ?_⟩
  refine ⟨_, rfl, n, rfl, by omega, by omega, ?_⟩
  refine ⟨_, rfl, _, rfl, n, b, m, v, rfl, hv, by omega, hn, h30, ht, ?_⟩
  obtain ⟨p, rfl, hp⟩ := id hv
  refine ⟨_, rfl, p, _, rfl, SqT.of hp, rfl, _, _, rfl, _, _, rfl, rfl, ?_⟩
  refine ⟨_, rfl, _, rfl, _, _, rfl, rfl, rfl, _, rfl, ite2 (fun c => ?_) (fun c => ?_)⟩
  · have c1 : V.int (((b + m : Nat) : Int) - (b : Int)) = V.int 1 := of_decide_eq_true c
    have := V.int.inj c1
    rcases q with ⟨_, q⟩ | ⟨h2, _⟩
    · exact q
    · omega
  have c1 : ¬ V.int (((b + m : Nat) : Int) - (b : Int)) = V.int 1 := of_decide_eq_false (Bool.eq_false_iff.mpr c)
  have c2 : m ≠ 1 := fun z => c1 (congrArg V.int (by omega))
  have q : ∀ (H' : Hp) (q : Addr) (l h : V), Same H H' → H q = none → H' q = some (.tup [l, h]) → Nd H' l (b, b + gp m) → Nd H' h (b + gp m, b + m) → Q (.ref q) H' := q.elim (fun z => absurd z.1 c2) (fun z => z.2)
  have e1 : ((b + m : Nat) : Int) - (b : Int) - 1 = ((m - 1 : Nat) : Int) := by omega
  refine ⟨_, rfl, _, rfl, _, rfl, _, _, rfl, rfl, _, _, rfl, rfl, m - 1, congrArg (fun z => [V.int z]) e1, by omega, by omega, _, _, rfl, rfl, ?_⟩
  have e2 : (b : Int) + ((2 ^ (m - 1).log2 : Nat) : Int) = ((b + gp m : Nat) : Int) := by unfold gp; omega
  have two : 2 ≤ sizeLine := by decide
  refine ⟨_, rfl, _, rfl, two, fun t1 n1 => ⟨_, rfl, _, rfl, two, fun t2 n2 => ⟨two, fun t3 n3 => ?_⟩⟩⟩
  dsimp only
  have s1 := same_upd (o := .tup [.int (b : Int), .int ((b : Int) + ((2 ^ (m - 1).log2 : Nat) : Int))]) n1
  have s2 := same_upd (o := .tup [.int ((b : Int) + ((2 ^ (m - 1).log2 : Nat) : Int)), .int ((b + m : Nat) : Int)]) n2
  have s3 := same_upd (o := .tup [.ref t1, .ref t2]) n3
  refine q _ t3 (.ref t1) (.ref t2) (s1.trans (s2.trans s3)) ((s1.trans s2).free n3) upd_same ⟨t1, rfl, s3 _ _ (s2 _ _ ?_)⟩ ⟨t2, rfl, s3 _ _ ?_⟩
  · rw [upd_same]
    dsimp only
    rw [e2]
  · rw [upd_same]
    dsimp only
    rw [e2]
/-- the node above -/
def spParent : Sp := fun vs H Q _ => ∃ (n : Nat) (x : Nat × Nat) (v : V), vs = [.int n, v] ∧ Nd H v x ∧ 1 ≤ n ∧ n ≤ 10 ^ 30 ∧
  ((x = (0, n) ∧ ∀ H', Same H H' → Q .non H') ∨ (∃ B M, 2 ≤ M ∧ tree n B M ∧ B + M ≤ n ∧ isHalf B M x ∧ ∀ (H' : Hp) (u : V), Same H H' → Nd H' u (B, B + M) → Q u H'))
theorem ok_parent {f g1 g2 : Addr} {fd d1 d2 : FuncData} (F : Fun K "parent" "parent" sParent f fd) (GCheckSize : FnOk P w K mg base CX0 3 g1 d1 ["size"] spCheckSize) (ACheckSize : At K mg "check_size" g1 d1 ["size"])
    (GCheckNode : FnOk P w K mg base CX0 4 g2 d2 ["size", "node"] spCheckNode) (ACheckNode : At K mg "check_node" g2 d2 ["size", "node"]) (z_min : mg "min" = none) :
    FnOk P w K mg base CX0 5 f fd ["size", "node"] spParent := by
  refine F.ok scParent (fun vs H Q E h => ?_) (fun cdv A outer s H vs Q E hr h => ?_)
  · obtain ⟨_, _, _, rfl, _⟩ := h
    rfl
  obtain ⟨n, x, v, rfl, hv, n1, h30, q⟩ := h
  have two : 2 ≤ sizeLine := by decide
  have hx : x.1 < x.2 ∧ x.2 ≤ n ∧ tree n x.1 (x.2 - x.1) := by
    rcases q with ⟨rfl, _⟩ | ⟨B, M, h2, t, hn, hh, _⟩
    · exact ⟨n1, Nat.le_refl _, tree_root n⟩
    · have k := half_ne h2 hn hh
      exact ⟨k.2.2.2.1, by omega, half_tree h2 t hh⟩
  obtain ⟨x1, x2, x3⟩ := hx
  refine ⟨_, (pss_cons (ps_expr (pe_call GCheckSize (hr.mono (by decide)) rfl ACheckSize.m ACheckSize.kp ACheckSize.b .nil pass0 (pa_cons (pv 0) pa_nil)))
    (pss_cons (ps_expr (pe_call GCheckNode (hr.mono (by decide)) rfl ACheckNode.m ACheckNode.kp ACheckNode.b .nil pass0 (pa_cons (pv 0) (pa_cons (pv 1) pa_nil))))
    (pss_cons (ps_if (pt_cmpR (op_eqD hr.units) (pv 1) (pe_tup (pa_cons pe_int (pa_cons (pv 0) pa_nil))) (nomark _))
    (pss_one (ps_ret pe_non))
    pss_nil)
    (pss_cons (ps_asg (pv 1) (pg_tup (by rfl) (pgs_cons (pg_name (i := 2) scParent.nd rfl (Or.inl rfl)) (pgs_cons (pg_name (i := 3) scParent.nd rfl (Or.inl rfl)) pgs_nil))))
    (pss_cons (ps_par (i := 4) (j := 5) (by rfl) scParent.nd rfl rfl (by decide) rfl rfl (pa_cons (pv 2) (pa_cons (pv 3) pa_nil)) (by rfl))
    (pss_cons (ps_set (i := 6) scParent.nd rfl (Or.inl rfl) (pe_op op_shl pe_int (pe_bits (pe_op op_sub (pe_op op_sub (pv 3) (pv 2)) pe_int))))
    (pss_cons (ps_while PassesOwn.never (pt_cmpR (op_eqD hr.units) (pe_tup (pa_cons (pv 4) (pa_cons (pv 5) pa_nil))) (pe_tup (pa_cons (pv 2) (pa_cons (pv 3) pa_nil))) (nomark _))
    (pss_cons (ps_set (i := 6) scParent.nd rfl (Or.inl rfl) (pe_op op_mul (pv 6) pe_int))
    (pss_cons (ps_set (i := 4) scParent.nd rfl (Or.inl rfl) (pe_op op_sub (pv 2) (pe_op op_modN (pv 2) (pv 6))))
    (pss_one (ps_set (i := 5) scParent.nd rfl (Or.inl rfl) (pe_callB (call_min2 rfl) (by rfl) z_min (by decide +kernel) (pa_cons (pe_op op_add (pv 4) (pv 6)) (pa_cons (pv 0) pa_nil))))))))
    (pss_one (ps_ret (pe_tup (pa_cons (pv 4) (pa_cons (pv 5) pa_nil)))))))))))), ?_⟩
  refine ⟨_, rfl, n, rfl, by omega, by omega, ?_⟩
  have ex : x.1 + (x.2 - x.1) = x.2 := by omega
  refine ⟨_, rfl, _, rfl, n, x.1, x.2 - x.1, v, rfl, by rw [ex]; exact hv, by omega, by omega, h30, x3, ?_⟩
  refine ⟨_, rfl, _, rfl, two, fun t0 n0 => ?_⟩
  have s0 := same_upd (o := .tup [.int 0, .int (n : Int)]) n0
  refine ⟨nd x, nd (0, n), (hv.same s0).dp, .tup (SqT.of upd_same) (.cons (.int _) (.cons (.int _) .nil)), nd_shaped _ _, nd_shaped _ _, ?_⟩
  rw [nd_is]
  generalize upd H t0 (.tup [.int 0, .int (n : Int)]) = H0 at s0
  refine ⟨_, rfl, ite2 (fun c => ?_) (fun c => ?_)⟩
  · have c1 : x = (0, n) := of_decide_eq_true c
    rcases q with ⟨_, q⟩ | ⟨B, M, h2, t, hn, hh, _⟩
    · exact q _ s0
    · exact absurd c1 (half_ne h2 hn hh).1
  have c1 : ¬ x = (0, n) := of_decide_eq_false (Bool.eq_false_iff.mpr c)
  obtain ⟨B, M, h2, t, hn, hh, q⟩ : ∃ B M, 2 ≤ M ∧ tree n B M ∧ B + M ≤ n ∧ isHalf B M x ∧ ∀ (H' : Hp) (u : V), Same H H' → Nd H' u (B, B + M) → Q u H' := q.elim (fun z => absurd z.1 c1) id
  obtain ⟨k1, k2, k3, k4, k5⟩ := half_ne h2 hn hh
  obtain ⟨p, rfl, hp⟩ := id hv
  refine ⟨_, rfl, p, _, rfl, SqT.of (s0 _ _ hp), rfl, _, _, rfl, _, _, rfl, rfl, ?_⟩
  have em : (x.2 : Int) - (x.1 : Int) - 1 = ((x.2 - x.1 - 1 : Nat) : Int) := by omega
  have hb : Builtin.Int.intBits ((x.2 : Int) - (x.1 : Int) - 1) = lb (x.2 - x.1) := by rw [em, bits_lb (by omega)]
  have l100 := lb100 (show x.2 - x.1 ≤ 10 ^ 30 by omega)
  have lM := lb100 (show M ≤ 10 ^ 30 by omega)
  have ll := half_lt h2 hh
  have e0 : cutAt n x.1 (lb (x.2 - x.1)) = x := by
    have := cut_here (m := x.2 - x.1) (half_tree h2 t hh) (by omega)
    rw [ex] at this
    exact this
  refine ⟨_, rfl, _, rfl, _, _, rfl, _, rfl, _, rfl, _, _, rfl, rfl, _, _, rfl, rfl, _, rfl, _, _, rfl, rfl, ⟨Int.natCast_nonneg _, by omega, by decide⟩, ?_⟩
  refine ⟨fun mu σ H' => ∃ j : Nat, σ = [some (.int n), some (.ref p), some (.int (x.1 : Int)), some (.int (x.2 : Int)), some (.int ((cutAt n x.1 j).1 : Int)), some (.int ((cutAt n x.1 j).2 : Int)), some (.int ((2 ^ j : Nat) : Int))] ∧ Same H H' ∧ lb (x.2 - x.1) ≤ j ∧ j ≤ lb M ∧ mu = lb M - j,
    ⟨lb M - lb (x.2 - x.1), lb (x.2 - x.1), ?_, s0, Nat.le_refl _, by omega, rfl⟩, ?_⟩
  · have e2 : (1 : Int) * 2 ^ ((Builtin.Int.intBits ((x.2 : Int) - (x.1 : Int) - 1) : Nat) : Int).toNat = ((2 ^ lb (x.2 - x.1) : Nat) : Int) := by rw [hb, Int.one_mul, Int.toNat_natCast]; exact (Int.natCast_pow 2 _).symm
    rw [e0, ← e2]
    rfl
  rintro mu σ H1 ⟨j, rfl, s1, j1, j2, rfl⟩
  refine ⟨_, rfl, _, rfl, two, fun t1 nt1 => ⟨_, rfl, _, rfl, two, fun t2 nt2 => ?_⟩⟩
  have st1 := same_upd (o := .tup [.int ((cutAt n x.1 j).1 : Int), .int ((cutAt n x.1 j).2 : Int)]) nt1
  have st2 := same_upd (o := .tup [.int (x.1 : Int), .int (x.2 : Int)]) nt2
  have sE := s1.trans (st1.trans st2)
  refine ⟨nd (cutAt n x.1 j), nd x, .tup (SqT.of (st2 _ _ upd_same)) (.cons (.int _) (.cons (.int _) .nil)), .tup (SqT.of upd_same) (.cons (.int _) (.cons (.int _) .nil)), nd_shaped _ _, nd_shaped _ _, ?_⟩
  rw [nd_is]
  refine ⟨_, rfl, ite2 (fun c => ?_) (fun c => ?_)⟩
  · have d1 : cutAt n x.1 j = x := of_decide_eq_true c
    have d2 : j < lb M := by
      by_cases z : j = lb M
      · subst z
        rw [cut_above t hn k3 (by omega)] at d1
        exact absurd d1.symm k2
      · omega
    have pj : 0 < 2 ^ (j + 1) := Nat.pow_pos (by decide)
    refine ⟨_, fun σ' H' h => h, _, rfl, _, _, rfl, rfl, .inr ⟨by decide, by decide⟩, ?_⟩
    have er : ((2 ^ j : Nat) : Int) * 2 = ((2 ^ (j + 1) : Nat) : Int) := by rw [Nat.pow_succ]; omega
    have fm : Int.fmod (x.1 : Int) ((2 ^ (j + 1) : Nat) : Int) = ((x.1 % 2 ^ (j + 1) : Nat) : Int) := by
      rw [Int.fmod_eq_emod_of_nonneg _ (Int.natCast_nonneg _)]
      exact (Int.natCast_emod _ _).symm
    have ef : (x.1 : Int) - ((x.1 % 2 ^ (j + 1) : Nat) : Int) = ((cutAt n x.1 (j + 1)).1 : Int) := by
      have := Nat.mod_le x.1 (2 ^ (j + 1))
      show _ = ((x.1 - x.1 % 2 ^ (j + 1) : Nat) : Int)
      omega
    have el : (if (n : Int) < ((cutAt n x.1 (j + 1)).1 : Int) + ((2 ^ (j + 1) : Nat) : Int) then (n : Int) else ((cutAt n x.1 (j + 1)).1 : Int) + ((2 ^ (j + 1) : Nat) : Int)) = ((cutAt n x.1 (j + 1)).2 : Int) := by
      show (if (n : Int) < ((x.1 - x.1 % 2 ^ (j + 1) : Nat) : Int) + ((2 ^ (j + 1) : Nat) : Int) then (n : Int) else ((x.1 - x.1 % 2 ^ (j + 1) : Nat) : Int) + ((2 ^ (j + 1) : Nat) : Int)) = ((min (x.1 - x.1 % 2 ^ (j + 1) + 2 ^ (j + 1)) n : Nat) : Int)
      split <;> omega
    refine ⟨_, rfl, _, rfl, _, rfl, _, _, rfl, rfl, ?_, _, _, rfl, rfl, ?_⟩
    · rw [er]; omega
    refine ⟨_, rfl, _, rfl, _, _, rfl, rfl, _, rfl, _, _, rfl, ?_⟩
    refine ⟨lb M - (j + 1), by omega, j + 1, ?_, sE, by omega, by omega, rfl⟩
    rw [← el, ← ef, ← fm, ← er]
    rfl
  · have d1 : ¬ cutAt n x.1 j = x := of_decide_eq_false (Bool.eq_false_iff.mpr c)
    have d2 : j = lb M := by
      by_cases z : j = lb M
      · exact z
      · exact absurd (cut_between h2 t hn hh j1 (by omega)) d1
    subst d2
    generalize upd (upd H1 t1 _) t2 _ = H3 at sE
    rw [cut_above t hn k3 (by omega)]
    refine ⟨_, rfl, _, rfl, two, fun t3 nt3 => ?_⟩
    have st3 := same_upd (o := .tup [.int (B : Int), .int ((B + M : Nat) : Int)]) nt3
    exact q _ (.ref t3) (sE.trans st3) ⟨t3, rfl, upd_same⟩
/-- the node beside -/
def spSibling : Sp := fun vs H Q _ => ∃ (n : Nat) (x : Nat × Nat) (v : V), vs = [.int n, v] ∧ Nd H v x ∧ 1 ≤ n ∧ n ≤ 10 ^ 30 ∧
  ((x = (0, n) ∧ ∀ H', Same H H' → Q .non H') ∨ (∃ B M y, 2 ≤ M ∧ tree n B M ∧ B + M ≤ n ∧ ((x = (B, B + gp M) ∧ y = (B + gp M, B + M)) ∨ (x = (B + gp M, B + M) ∧ y = (B, B + gp M))) ∧ ∀ (H' : Hp) (u : V), Same H H' → Nd H' u y → Q u H'))
theorem ok_sibling {f g1 g2 : Addr} {fd d1 d2 : FuncData} (F : Fun K "sibling" "sibling" sSibling f fd) (GParent : FnOk P w K mg base CX0 5 g1 d1 ["size", "node"] spParent) (AParent : At K mg "parent" g1 d1 ["size", "node"])
    (GHalves : FnOk P w K mg base CX0 5 g2 d2 ["size", "node"] spHalvesA) (AHalves : At K mg "halves" g2 d2 ["size", "node"]) : FnOk P w K mg base CX0 6 f fd ["size", "node"] spSibling := by
  refine F.ok scSibling (fun vs H Q E h => ?_) (fun cdv A outer s H vs Q E hr h => ?_)
  · obtain ⟨_, _, _, rfl, _⟩ := h
    rfl
  obtain ⟨n, x, v, rfl, hv, n1, h30, q⟩ := h
  have two : 2 ≤ sizeLine := by decide
  refine ⟨_, (pss_cons (ps_set (i := 2) scSibling.nd rfl (Or.inl rfl) (pe_call GParent (hr.mono (by decide)) rfl AParent.m AParent.kp AParent.b .nil pass0 (pa_cons (pv 0) (pa_cons (pv 1) pa_nil))))
    (pss_cons (ps_if (pt_cmpR op_isN (pv 2) pe_non (nomark _))
    (pss_one (ps_ret pe_non))
    pss_nil)
    (pss_cons (ps_asg (pe_call GHalves (hr.mono (by decide)) rfl AHalves.m AHalves.kp AHalves.b .nil pass0 (pa_cons (pv 0) (pa_cons (pv 2) pa_nil))) (pg_tup (by rfl) (pgs_cons (pg_name (i := 3) scSibling.nd rfl (Or.inl rfl)) (pgs_cons (pg_name (i := 4) scSibling.nd rfl (Or.inl rfl)) pgs_nil))))
    (pss_cons (ps_if (pt_cmpR (op_eqD hr.units) (pv 1) (pv 3) (nomark _))
    (pss_one (ps_ret (pv 4)))
    pss_nil)
    (pss_one (ps_ret (pv 3))))))), ?_⟩
  rcases q with ⟨hx, q⟩ | ⟨B, M, y, h2, t, hn, hh, q⟩
  · refine ⟨_, rfl, _, rfl, n, x, v, rfl, hv, n1, h30, .inl ⟨hx, fun H1 s1 => ?_⟩⟩
    exact ⟨_, rfl, rfl, _, rfl, iteT (q _ s1)⟩
  · have hx : isHalf B M x := hh.elim (fun z => .inl z.1) (fun z => .inr z.1)
    refine ⟨_, rfl, _, rfl, n, x, v, rfl, hv, n1, h30, .inr ⟨B, M, h2, t, hn, hx, fun H1 u s1 hu => ?_⟩⟩
    obtain ⟨up, rfl, hup⟩ := id hu
    refine ⟨_, rfl, rfl, _, rfl, iteF ?_⟩
    refine ⟨_, rfl, _, rfl, n, B, M, _, rfl, hu, by omega, hn, h30, t, .inr ⟨h2, fun H2 qa l h s2 nq hqa hl hhi => ?_⟩⟩
    refine ⟨qa, _, rfl, SqT.of hqa, rfl, _, _, rfl, _, _, rfl, rfl, ?_⟩
    have s12 := s1.trans s2
    refine ⟨_, rfl, _, rfl, nd x, nd (B, B + gp M), (hv.same s12).dp, hl.dp, nd_shaped _ _, nd_shaped _ _, ?_⟩
    rw [nd_is]
    have g3 := gp_pos M
    refine ⟨_, rfl, ite2 (fun c => ?_) (fun c => ?_)⟩
    · have c1 : x = (B, B + gp M) := of_decide_eq_true c
      refine ⟨_, rfl, q _ h s12 ?_⟩
      rcases hh with ⟨z1, z2⟩ | ⟨z1, z2⟩
      · rw [z2]; exact hhi
      · rw [z1] at c1
        have := congrArg Prod.fst c1
        simp only at this
        omega
    · have c1 : ¬ x = (B, B + gp M) := of_decide_eq_false (Bool.eq_false_iff.mpr c)
      refine ⟨_, rfl, q _ l s12 ?_⟩
      rcases hh with ⟨z1, z2⟩ | ⟨z1, z2⟩
      · exact absurd z1 c1
      · rw [z2]; exact hl
end
end LT

namespace LT
open PySem PySem.Spec PyProof.Rows L2
section
variable {P : Program} {w : World} {K : PySem.W.Frag} {mg : Str → Option Value} {base : Heap}
def spHalved : Sp := fun vs H Q _ => ∃ (x y : Nat) (v : V), vs = [v] ∧ Nd H v (x, y) ∧ x + 2 ≤ y ∧
  ∀ (H' : Hp) (q : Addr) (l h : V), Same H H' → H q = none → H' q = some (.tup [l, h]) → Nd H' l (x, x + gp (y - x)) → Nd H' h (x + gp (y - x), y) → Q (.ref q) H'
theorem ok_law_halved {f : Addr} {fd : FuncData} (F : Fun K "_law_halved" "_law_halved" sLawHalved f fd) : FnOk P w K mg base CX0 1 f fd ["node"] spHalved := by
  refine F.ok scLawHalved (fun vs H Q E h => ?_) (fun cdv A outer s H vs Q E hr h => ?_)
  · obtain ⟨_, _, _, rfl, _⟩ := h
    rfl
  obtain ⟨x, y, v, rfl, ⟨p, rfl, hp⟩, hxy, q⟩ := h
  refine ⟨_, (pss_cons (ps_asg (pv 0) (pg_tup (by rfl) (pgs_cons (pg_name (i := 1) scLawHalved.nd rfl (Or.inl rfl)) (pgs_cons (pg_name (i := 2) scLawHalved.nd rfl (Or.inl rfl)) pgs_nil))))
    (pss_cons (ps_set (i := 3) scLawHalved.nd rfl (Or.inl rfl) pe_int)
    (pss_cons (ps_while PassesOwn.never (pt_cmpR op_lt (pe_op op_mul pe_int (pv 3)) (pe_op op_sub (pv 2) (pv 1)) (nomark _))
    (pss_one (ps_set (i := 3) scLawHalved.nd rfl (Or.inl rfl) (pe_op op_mul pe_int (pv 3)))))
    (pss_one (ps_ret (pe_tup (pa_cons (pe_tup (pa_cons (pv 1) (pa_cons (pe_op op_add (pv 1) (pv 3)) pa_nil))) (pa_cons (pe_tup (pa_cons (pe_op op_add (pv 1) (pv 3)) (pa_cons (pv 2) pa_nil))) pa_nil)))))))), ?_⟩
  refine ⟨_, rfl, p, _, rfl, SqT.of hp, rfl, _, _, rfl, _, _, rfl, rfl, ?_⟩
  refine ⟨fun mu σ H' => ∃ j : Nat, σ = [some (.ref p), some (.int (x : Int)), some (.int (y : Int)), some (.int ((2 ^ j : Nat) : Int))] ∧ H' = H ∧ 2 ^ j < y - x ∧ mu = y - x - 2 ^ j, ⟨y - x - 1, 0, rfl, rfl, by simp; omega, by simp⟩, ?_⟩
  rintro m σ H1 ⟨j, rfl, rfl, hj, rfl⟩
  refine ⟨_, rfl, _, _, rfl, rfl, .inl ⟨by decide, by decide⟩, _, rfl, _, rfl, _, _, rfl, rfl, _, _, rfl, rfl, _, rfl, ite2 (fun c => ?_) (fun c => ?_)⟩
  · have c1 : 2 * ((2 ^ j : Nat) : Int) < (y : Int) - (x : Int) := of_decide_eq_true c
    have pj : 0 < 2 ^ j := Nat.pow_pos (by decide)
    refine ⟨_, fun σ' H' h => h, _, rfl, _, _, rfl, rfl, .inl ⟨by decide, by decide⟩, ?_⟩
    refine ⟨y - x - 2 ^ (j + 1), by rw [Nat.pow_succ]; omega, j + 1, ?_, rfl, by rw [Nat.pow_succ]; omega, rfl⟩
    have e : (2 : Int) * ((2 ^ j : Nat) : Int) = ((2 ^ (j + 1) : Nat) : Int) := by rw [Nat.pow_succ]; omega
    rw [← e]
    rfl
  · have c1 : ¬ 2 * ((2 ^ j : Nat) : Int) < (y : Int) - (x : Int) := of_decide_eq_false (Bool.eq_false_iff.mpr c)
    have g : gp (y - x) = 2 ^ j := gp_eq hj (by omega)
    have two : 2 ≤ sizeLine := by decide
    refine ⟨_, rfl, _, rfl, _, rfl, _, _, rfl, rfl, two, fun t1 n1 => ⟨_, rfl, _, rfl, _, _, rfl, rfl, _, rfl, two, fun t2 n2 => ⟨two, fun t3 n3 => ?_⟩⟩⟩
    have e2 : (x : Int) + ((2 ^ j : Nat) : Int) = ((x + gp (y - x) : Nat) : Int) := by rw [g]; omega
    dsimp only at n1 n2 n3 ⊢
    rw [e2] at n2 n3 ⊢
    have s1 := same_upd (o := .tup [.int (x : Int), .int ((x + gp (y - x) : Nat) : Int)]) n1
    have s2 := same_upd (o := .tup [.int ((x + gp (y - x) : Nat) : Int), .int (y : Int)]) n2
    have s3 := same_upd (o := .tup [.ref t1, .ref t2]) n3
    exact q _ t3 (.ref t1) (.ref t2) (s1.trans (s2.trans s3)) ((s1.trans s2).free n3) upd_same ⟨t1, rfl, s3 _ _ (s2 _ _ upd_same)⟩ ⟨t2, rfl, s3 _ _ upd_same⟩
end
end LT

namespace LT
/-! ### counts by digits -/
def sumsh : Nat → Nat → Nat
  | 0, _ => 0
  | k + 1, n => sumsh k n + n / 2 ^ k
theorem div_step (n k : Nat) : n / 2 ^ k = 2 * (n / 2 ^ (k + 1)) + (if n.testBit k then 1 else 0) := by
  have e : n / 2 ^ (k + 1) = n / 2 ^ k / 2 := by rw [Nat.pow_succ, Nat.div_div_eq_div_mul]
  rw [e, Nat.testBit_eq_decide_div_mod_eq]
  have h : n / 2 ^ k % 2 = 0 ∨ n / 2 ^ k % 2 = 1 := by omega
  rcases h with h | h <;> rw [h] <;> simp <;> omega
theorem pk_len_any (i n b c : Nat) : (pk i n b).length = (pk i n c).length := by
  induction i generalizing b c with
  | zero => rfl
  | succ i ih =>
    unfold pk
    cases t : n.testBit i with
    | true => simp; exact ih _ _
    | false => simp; exact ih _ _
theorem sumsh_is (n : Nat) : ∀ k, sumsh k n + (pk k n 0).length + 2 * (n / 2 ^ k) = 2 * n
  | 0 => by simp [sumsh, pk]
  | k + 1 => by
    have ih := sumsh_is n k
    have d := div_step n k
    have e : (pk (k + 1) n 0).length = (pk k n 0).length + (if n.testBit k then 1 else 0) := by
      show (if n.testBit k = true then (0, k) :: pk k n (0 + 2 ^ k) else pk k n 0).length = _
      cases t : n.testBit k with
      | true => rw [if_pos rfl, if_pos rfl, List.length_cons, pk_len_any k n (0 + 2 ^ k) 0]
      | false => rw [if_neg (by decide), if_neg (by decide), Nat.add_zero]
    rw [e]
    unfold sumsh
    omega
/-- the peaks whose edges have the height k -/
def bareN (N k : Nat) (l : List (Nat × Nat)) : Nat := (l.filter fun x => decide (N - x.1 ≤ 2 ^ k) && decide (2 ^ k / 2 < N - x.1)).length
def bareB (n k i : Nat) : Nat := if 1 ≤ k ∧ k - 1 < i ∧ n.testBit (k - 1) = true ∧ n % 2 ^ (k - 1) ≠ 0 then 1 else 0
theorem bare_is (N k n : Nat) : ∀ (i b : Nat), b + n % 2 ^ i = N → bareN N k (pk i n b).dropLast = bareB n k i
  | 0, b, h => by
    unfold bareB
    rw [if_neg (by omega)]
    rfl
  | i + 1, b, h => by
    have p := Nat.pow_pos (a := 2) (n := i) (by decide)
    rw [mod_succ] at h
    have ml := Nat.mod_lt n p
    cases t : n.testBit i with
    | false =>
      rw [t] at h
      have h' : b + n % 2 ^ i = N := by simpa using h
      have e : pk (i + 1) n b = pk i n b := by show (if n.testBit i = true then _ else _) = _; rw [t]; rfl
      rw [e, bare_is N k n i b h']
      unfold bareB
      by_cases c : 1 ≤ k ∧ k - 1 < i ∧ n.testBit (k - 1) = true ∧ n % 2 ^ (k - 1) ≠ 0
      · rw [if_pos c, if_pos ⟨c.1, by omega, c.2.2⟩]
      · rw [if_neg c, if_neg (fun z => ?_)]
        by_cases ki : k - 1 = i
        · rw [ki, t] at z; exact absurd z.2.2.1 (by decide)
        · exact c ⟨z.1, by omega, z.2.2⟩
    | true =>
      rw [t, if_pos rfl] at h
      have e : pk (i + 1) n b = (b, i) :: pk i n (b + 2 ^ i) := by show (if n.testBit i = true then _ else _) = _; rw [t]; rfl
      rw [e]
      by_cases r0 : n % 2 ^ i = 0
      · rw [pk_nil i n _ r0]
        have e2 : bareN N k ([(b, i)] : List (Nat × Nat)).dropLast = 0 := rfl
        rw [e2]
        unfold bareB
        rw [if_neg (fun z => ?_)]
        have d : 2 ^ (k - 1) ∣ 2 ^ i := Nat.pow_dvd_pow 2 (by omega)
        exact z.2.2.2 (Nat.mod_eq_zero_of_dvd (Nat.dvd_trans d (Nat.dvd_of_mod_eq_zero r0)))
      · have hne := pk_ne i n (b + 2 ^ i) r0
        have e3 : ((b, i) :: pk i n (b + 2 ^ i)).dropLast = (b, i) :: (pk i n (b + 2 ^ i)).dropLast := by
          cases hh : pk i n (b + 2 ^ i) with
          | nil => exact absurd hh hne
          | cons _ _ => rfl
        have ih := bare_is N k n i (b + 2 ^ i) (by omega)
        rw [e3]
        have e4 : bareN N k ((b, i) :: (pk i n (b + 2 ^ i)).dropLast) = (if N - b ≤ 2 ^ k ∧ 2 ^ k / 2 < N - b then 1 else 0) + bareN N k (pk i n (b + 2 ^ i)).dropLast := by
          unfold bareN
          rw [List.filter_cons]
          by_cases c : N - b ≤ 2 ^ k ∧ 2 ^ k / 2 < N - b
          · rw [if_pos (by simp [c.1, c.2]), if_pos c, List.length_cons, Nat.add_comm]
          · rw [if_neg (by simpa using c), if_neg c, Nat.zero_add]
        rw [e4, ih]
        have nb : N - b = 2 ^ i + n % 2 ^ i := by omega
        rw [nb]
        by_cases ki : k = i + 1
        · subst ki
          have e5 : 2 ^ (i + 1) / 2 = 2 ^ i := by rw [Nat.pow_succ]; omega
          rw [e5, if_pos ⟨by rw [Nat.pow_succ]; omega, by omega⟩]
          unfold bareB
          rw [Nat.add_sub_cancel, if_neg (by omega), if_pos ⟨by omega, by omega, t, r0⟩]
        · have no : ¬ (2 ^ i + n % 2 ^ i ≤ 2 ^ k ∧ 2 ^ k / 2 < 2 ^ i + n % 2 ^ i) := by
            rintro ⟨z1, z2⟩
            by_cases c : k ≤ i
            · have := Nat.pow_le_pow_right (n := 2) (by decide) c
              omega
            · have e6 : 2 ^ k = 2 ^ (i + 2) * 2 ^ (k - (i + 2)) := by rw [← Nat.pow_add]; congr 1; omega
              have e7 : 2 ^ (i + 2) ≤ 2 ^ k := Nat.pow_le_pow_right (by decide) (by omega)
              rw [Nat.pow_succ, Nat.pow_succ] at e7
              omega
          rw [if_neg no, Nat.zero_add]
          unfold bareB
          by_cases c : 1 ≤ k ∧ k - 1 < i ∧ n.testBit (k - 1) = true ∧ n % 2 ^ (k - 1) ≠ 0
          · rw [if_pos c, if_pos ⟨c.1, by omega, c.2.2⟩]
          · rw [if_neg c, if_neg (fun z => c ⟨z.1, by omega, z.2.2⟩)]
/-- the program's count of a height -/
theorem height_is {n k : Nat} (h : 1 ≤ n) (hn : n < 2 ^ 101) : (if k = 0 then n else ((n - 1) / 2 ^ (k - 1) + 1) / 2) = n / 2 ^ k + bareB n k 101 := by
  by_cases k0 : k = 0
  · subst k0
    unfold bareB
    rw [if_pos rfl, if_neg (by omega), Nat.pow_zero, Nat.div_one, Nat.add_zero]
  · obtain ⟨j, rfl⟩ : ∃ j, k = j + 1 := ⟨k - 1, by omega⟩
    rw [if_neg k0, Nat.add_sub_cancel]
    have p := Nat.pow_pos (a := 2) (n := j) (by decide)
    have d := div_step n j
    have dm := Nat.div_add_mod n (2 ^ j)
    have ml := Nat.mod_lt n p
    unfold bareB
    rw [Nat.add_sub_cancel]
    by_cases r0 : n % 2 ^ j = 0
    · rw [if_neg (fun z => z.2.2.2 r0), Nat.add_zero]
      have q1 : 1 ≤ n / 2 ^ j := by
        by_cases z : n / 2 ^ j = 0
        · rw [z] at dm; omega
        · omega
      have e : (n - 1) / 2 ^ j = n / 2 ^ j - 1 := by
        have e1 : n - 1 = 2 ^ j * (n / 2 ^ j - 1) + (2 ^ j - 1) := by
          have : 2 ^ j * (n / 2 ^ j) = 2 ^ j * (n / 2 ^ j - 1) + 2 ^ j := by
            rw [← Nat.mul_succ]; congr 1; omega
          omega
        rw [e1, Nat.mul_add_div p, Nat.div_eq_of_lt (show 2 ^ j - 1 < 2 ^ j by omega), Nat.add_zero]
      rw [e, show n / 2 ^ j - 1 + 1 = n / 2 ^ j by omega]
      rw [d]
      split <;> omega
    · have e : (n - 1) / 2 ^ j = n / 2 ^ j := by
        have e1 : n - 1 = 2 ^ j * (n / 2 ^ j) + (n % 2 ^ j - 1) := by omega
        rw [e1, Nat.mul_add_div p, Nat.div_eq_of_lt (show n % 2 ^ j - 1 < 2 ^ j by omega), Nat.add_zero]
      rw [e]
      cases t : n.testBit j with
      | true =>
        have jl : j < 101 := by
          by_cases z : j < 101
          · exact z
          · have := Nat.testBit_lt_two_pow (x := n) (i := j) (Nat.lt_of_lt_of_le hn (Nat.pow_le_pow_right (by decide) (by omega)))
            rw [t] at this
            exact absurd this (by decide)
        rw [t, if_pos rfl] at d
        rw [if_pos ⟨by omega, jl, rfl, r0⟩]
        omega
      | false =>
        rw [t, if_neg (by decide)] at d
        rw [if_neg (fun z => absurd z.2.2.1 (by decide))]
        omega
end LT

namespace LT
open PySem PySem.Spec PyProof.Rows L2
section
variable {P : Program} {w : World} {K : PySem.W.Frag} {mg : Str → Option Value} {base : Heap}
def spNodeLaw : Sp := fun vs H Q _ => ∃ (n a b : Nat) (v : V), vs = [.int n, v] ∧ Nd H v (a, b) ∧ a < b ∧ 1 ≤ n ∧ ∀ H', Same H H' → Q (.bl (decide (isN n (a, b)))) H'
theorem ok_law_is_node {f g1 : Addr} {fd d1 : FuncData} (F : Fun K "_law_is_node" "_law_is_node" sLawIsNode f fd) (GLawHalved : FnOk P w K mg base CX0 1 g1 d1 ["node"] spHalved) (ALawHalved : At K mg "_law_halved" g1 d1 ["node"]) :
    FnOk P w K mg base CX0 2 f fd ["size", "node"] spNodeLaw := by
  refine F.ok scLawIsNode (fun vs H Q E h => ?_) (fun cdv A outer s H vs Q E hr h => ?_)
  · obtain ⟨_, _, _, _, rfl, _⟩ := h
    rfl
  obtain ⟨n, a, b, v, rfl, hv, hab, n1, q⟩ := h
  have two : 2 ≤ sizeLine := by decide
  refine ⟨_, (pss_cons (ps_set (i := 2) scLawIsNode.nd rfl (Or.inl rfl) (pe_tup (pa_cons pe_int (pa_cons (pv 0) pa_nil))))
    (pss_cons (ps_while PassesOwn.never (PW.pt (pw_and (pt_cmpR (op_neD hr.units) (pv 2) (pv 1) (nomark _)) (pw_and (pt_cmpR op_le (pe_ix ix_tup (pv 2) pe_int (fun _ _ => rfl)) (pe_ix ix_tup (pv 1) pe_int (fun _ _ => rfl)) (nomark _)) (pw_and (pt_cmpR op_le (pe_ix ix_tup (pv 1) pe_int (fun _ _ => rfl)) (pe_ix ix_tup (pv 2) pe_int (fun _ _ => rfl)) (nomark _)) (pw_and1 (pt_cmpR op_gt (pe_op op_sub (pe_ix ix_tup (pv 2) pe_int (fun _ _ => rfl)) (pe_ix ix_tup (pv 2) pe_int (fun _ _ => rfl))) pe_int (nomark _)))))))
    (pss_cons (ps_asg (pe_call GLawHalved (hr.mono (by decide)) rfl ALawHalved.m ALawHalved.kp ALawHalved.b .nil pass0 (pa_cons (pv 2) pa_nil)) (pg_tup (by rfl) (pgs_cons (pg_name (i := 3) scLawIsNode.nd rfl (Or.inl rfl)) (pgs_cons (pg_name (i := 4) scLawIsNode.nd rfl (Or.inl rfl)) pgs_nil))))
    (pss_one (ps_set (i := 2) scLawIsNode.nd rfl (Or.inl rfl) (pe_ifExp (pt_cmpR op_lt (pe_ix ix_tup (pv 1) pe_int (fun _ _ => rfl)) (pe_ix ix_tup (pv 3) pe_int (fun _ _ => rfl)) (nomark _)) (pv 3) (pv 4))))))
    (pss_one (ps_ret (pe_cmpR (op_eqD hr.units) (pv 2) (pv 1) (nomark _)))))), ?_⟩
  obtain ⟨vp, rfl, hvp⟩ := id hv
  refine ⟨_, rfl, two, fun t0 nt0 => ?_⟩
  have s0 := same_upd (o := .tup [.int 0, .int (n : Int)]) nt0
  refine ⟨fun mu σ H' => ∃ (B M : Nat) (u : V) (v3 v4 : Option V), σ = [some (.int n), some (.ref vp), some u, v3, v4] ∧ Same H H' ∧ Nd H' u (B, B + M) ∧ 1 ≤ M ∧ tree n B M ∧ B + M ≤ n ∧ (isN n (a, b) → B ≤ a ∧ b ≤ B + M) ∧ mu = M + 0,
    ⟨n, 0, n, .ref t0, none, none, rfl, s0, ⟨t0, rfl, by rw [upd_same, Nat.zero_add]; rfl⟩, n1, tree_root n, by omega, fun z => ⟨Nat.zero_le _, by have := z.2.1; simp only at this; omega⟩, rfl⟩, ?_⟩
  rintro mu σ H1 ⟨B, M, u, v3, v4, rfl, s1, hu, h1, ht, hn, hin, hmu⟩
  have hmu : mu = M := hmu
  have toM : ∀ k, k < M → k < mu := fun k h => by omega
  have hv1 := hv.same s1
  have hvp1 := s1 _ _ hvp
  obtain ⟨up, rfl, hup⟩ := id hu
  have yes : (B, B + M) = (a, b) → decide ((B, B + M) = (a, b)) = decide (isN n (a, b)) := fun c => by
    have : isN n (a, b) := by
      rw [← c]
      exact ⟨by simp only; omega, hn, by simp only; rw [Nat.add_sub_cancel_left]; exact ht⟩
    rw [decide_eq_true c, decide_eq_true this]
  have no : (B, B + M) ≠ (a, b) → ¬ isN n (a, b) → decide ((B, B + M) = (a, b)) = decide (isN n (a, b)) := fun c1 c2 => by
    rw [decide_eq_false c1, decide_eq_false c2]
  refine ⟨_, rfl, _, rfl, nd (B, B + M), nd (a, b), hu.dp, hv1.dp, nd_shaped _ _, nd_shaped _ _, ?_⟩
  rw [nd_is]
  refine ⟨_, rfl, ite2 (fun c => ?_) (fun c => ?_)⟩
  · have c1 : ¬ (B, B + M) = (a, b) := fun z => by rw [decide_eq_true z] at c; exact absurd c (by decide)
    refine ⟨_, rfl, up, _, _, _, rfl, rfl, SqT.of hup, atI_nat (j := 0) rfl, _, rfl, vp, _, _, _, rfl, rfl, SqT.of hvp1, atI_nat (j := 0) rfl, _, _, rfl, rfl, _, rfl, ite2 (fun c => ?_) (fun c => ?_)⟩
    · have c2 : (B : Int) ≤ (a : Int) := of_decide_eq_true c
      refine ⟨_, rfl, vp, _, _, _, rfl, rfl, SqT.of hvp1, atI_nat (j := 1) rfl, _, rfl, up, _, _, _, rfl, rfl, SqT.of hup, atI_nat (j := 1) rfl, _, _, rfl, rfl, _, rfl, ite2 (fun c => ?_) (fun c => ?_)⟩
      · have c3 : (b : Int) ≤ ((B + M : Nat) : Int) := of_decide_eq_true c
        refine ⟨_, rfl, up, _, _, _, rfl, rfl, SqT.of hup, atI_nat (j := 1) rfl, _, rfl, up, _, _, _, rfl, rfl, SqT.of hup, atI_nat (j := 0) rfl, _, _, rfl, rfl, _, _, rfl, rfl, _, rfl, ite2 (fun c => ?_) (fun c => ?_)⟩
        · have c4 : ((B + M : Nat) : Int) - (B : Int) > 1 := of_decide_eq_true c
          have m2 : 2 ≤ M := by omega
          have em : B + M - B = M := by omega
          have g1 := gp_lt m2
          have g3 := gp_pos M
          refine ⟨_, fun σ' H' h => h, _, rfl, B, B + M, _, rfl, hu, by omega, fun H2 qa l h s2 nq hqa hl hh => ?_⟩
          rw [em] at hl hh
          refine ⟨qa, _, rfl, SqT.of hqa, rfl, _, _, rfl, _, _, rfl, rfl, ?_⟩
          obtain ⟨lp, rfl, hlp⟩ := id hl
          obtain ⟨hp, rfl, hhp⟩ := id hh
          have inn : isN n (a, b) → b ≤ B + gp M ∨ B + gp M ≤ a := fun z => by
            obtain ⟨z1, z2⟩ := hin z
            rcases node_in m2 ht hn z z1 z2 with k | k | k
            · exact absurd k.symm c1
            · exact .inl k
            · exact .inr k
          refine ⟨_, rfl, vp, _, _, _, rfl, rfl, SqT.of (s2 _ _ hvp1), atI_nat (j := 0) rfl, _, rfl, lp, _, _, _, rfl, rfl, SqT.of hlp, atI_nat (j := 1) rfl, _, _, rfl, rfl, _, rfl, ite2 (fun c => ?_) (fun c => ?_)⟩
          · have c5 : (a : Int) < ((B + gp M : Nat) : Int) := of_decide_eq_true c
            refine ⟨_, rfl, gp M, toM _ g1, B, gp M, _, _, _, rfl, s1.trans s2, hl, g3, tree_low m2 ht, by omega, fun z => ⟨by omega, ?_⟩, rfl⟩
            rcases inn z with k | k
            · exact k
            · omega
          · have c5 : ¬ (a : Int) < ((B + gp M : Nat) : Int) := of_decide_eq_false (Bool.eq_false_iff.mpr c)
            have e : B + gp M + (M - gp M) = B + M := by omega
            refine ⟨_, rfl, M - gp M, toM _ (by omega), B + gp M, M - gp M, _, _, _, rfl, s1.trans s2, by rw [e]; exact hh, by omega, tree_high m2 ht, by omega, fun z => ⟨by omega, by rw [e]; exact (hin z).2⟩, rfl⟩
        · have c4 : ¬ ((B + M : Nat) : Int) - (B : Int) > 1 := of_decide_eq_false (Bool.eq_false_iff.mpr c)
          exact absurd (Prod.ext (by show B = a; omega) (by show B + M = b; omega)) c1
      · have c3 : ¬ (b : Int) ≤ ((B + M : Nat) : Int) := of_decide_eq_false (Bool.eq_false_iff.mpr c)
        refine ⟨_, rfl, _, rfl, nd (B, B + M), nd (a, b), hu.dp, hv1.dp, nd_shaped _ _, nd_shaped _ _, ?_⟩
        rw [nd_is, no c1 (fun z => by have := (hin z).2; omega)]
        exact q _ s1
    · have c2 : ¬ (B : Int) ≤ (a : Int) := of_decide_eq_false (Bool.eq_false_iff.mpr c)
      refine ⟨_, rfl, _, rfl, nd (B, B + M), nd (a, b), hu.dp, hv1.dp, nd_shaped _ _, nd_shaped _ _, ?_⟩
      rw [nd_is, no c1 (fun z => by have := (hin z).1; omega)]
      exact q _ s1
  · have c1 : (B, B + M) = (a, b) := by
      by_cases z : (B, B + M) = (a, b)
      · exact z
      · rw [decide_eq_false z] at c
        exact absurd rfl c
    refine ⟨_, rfl, _, rfl, nd (B, B + M), nd (a, b), hu.dp, hv1.dp, nd_shaped _ _, nd_shaped _ _, ?_⟩
    rw [nd_is, yes c1]
    exact q _ s1
/-- a way down: each node is a half of the one ahead -/
def isWay (n : Nat) : List (Nat × Nat) → Prop
  | [] => False
  | [x] => isN n x
  | x :: y :: l => isN n x ∧ isHalf x.1 (x.2 - x.1) y ∧ 2 ≤ x.2 - x.1 ∧ isWay n (y :: l)
end
end LT

namespace LT
open PySem PySem.Spec PyProof.Rows L2
/-- a way down: nodes, each a half of the one ahead -/
def Way (n : Nat) (ws : List (Nat × Nat)) : Prop := (∀ x ∈ ws, isN n x) ∧ ∀ i x y, ws[i]? = some x → ws[i + 1]? = some y → 2 ≤ x.2 - x.1 ∧ isHalf x.1 (x.2 - x.1) y
theorem Way.snoc {n : Nat} {us : List (Nat × Nat)} {x y : Nat × Nat} (h : Way n (us ++ [x])) (h2 : 2 ≤ x.2 - x.1) (hh : isHalf x.1 (x.2 - x.1) y) (hy : isN n y) : Way n (us ++ [x] ++ [y]) := by
  refine ⟨fun z hz => ?_, fun i a b ha hb => ?_⟩
  · rcases List.mem_append.mp hz with k | k
    · exact h.1 z k
    · rw [List.mem_singleton] at k
      rw [k]
      exact hy
  · have ln : (us ++ [x]).length = us.length + 1 := by rw [List.length_append, List.length_singleton]
    by_cases c : i + 1 < (us ++ [x]).length
    · rw [List.getElem?_append_left (by omega)] at ha
      rw [List.getElem?_append_left c] at hb
      exact h.2 i a b ha hb
    · have bl := (List.getElem?_eq_some_iff.mp hb).1
      rw [List.length_append, ln, List.length_singleton] at bl
      have ei : i = us.length := by omega
      subst ei
      rw [List.getElem?_append_left (by omega), List.getElem?_append_right (by omega), Nat.sub_self] at ha
      rw [List.getElem?_append_right (by omega), ln, Nat.sub_self] at hb
      have e1 : x = a := Option.some.inj ha
      have e2 : y = b := Option.some.inj hb
      subst e1 e2
      exact ⟨h2, hh⟩
section
variable {P : Program} {w : World} {K : PySem.W.Frag} {mg : Str → Option Value} {base : Heap}
def spWalk : Sp := fun vs H Q _ => ∃ (bg : Addr) (n : Nat), vs = [.ref bg, .int n] ∧ BagAt H bg ∧ 1 ≤ n ∧ n ≤ 10 ^ 30 ∧
  ∀ (H' : Hp) (p : Addr) (xs : List V) (us : List (Nat × Nat)) (x : Nat × Nat), But bg H H' → BagAt H' bg → H p = none → H' p = some (.lst xs) → All2 (Nd H') xs (us ++ [x]) → Way n (us ++ [x]) → x.2 = x.1 + 1 → us.length ≤ 100 → Q (.ref p) H'
theorem ok_law_walk {f g1 g2 : Addr} {fd d1 d2 : FuncData} (F : Fun K "_law_walk" "_law_walk" sLawWalk f fd) (GLawHalved : FnOk P w K mg base CX0 1 g1 d1 ["node"] spHalved) (ALawHalved : At K mg "_law_halved" g1 d1 ["node"])
    (GLawPick : FnOk P w K mg base CX0 1 g2 d2 ["bag", "many"] spPick) (ALawPick : At K mg "_law_pick" g2 d2 ["bag", "many"]) : FnOk P w K mg base CX0 2 f fd ["bag", "size"] spWalk := by
  refine F.ok scLawWalk (fun vs H Q E h => ?_) (fun cdv A outer s H vs Q E hr h => ?_)
  · obtain ⟨_, _, rfl, _⟩ := h
    rfl
  obtain ⟨bg, n, rfl, hb, n1, h30, q⟩ := h
  have two : 2 ≤ sizeLine := by decide
  refine' ⟨_, (pss_cons (ps_set (i := 2) scLawWalk.nd rfl (Or.inl rfl) (pe_lst (pa_cons (pe_tup (pa_cons pe_int (pa_cons (pv 1) pa_nil))) pa_nil)))
    (pss_cons (ps_while PassesOwn.never (pt_cmpR op_gt (pe_op op_sub (pe_ix ix_tup (pe_ix ix_list (pv 2) (pe_un un_neg pe_int) (fun _ _ => rfl)) pe_int (fun _ _ => rfl)) (pe_ix ix_tup (pe_ix ix_list (pv 2) (pe_un un_neg pe_int) (fun _ _ => rfl)) pe_int (fun _ _ => rfl))) pe_int (nomark _))
    (pss_one (ps_expr (pe_bm PySem.F.plainAttrs_list PySem.F.slot_list_append PySem.F.type_list_append mt_append (pv 2) (pa_cons (pe_ix ix_tup (pe_call GLawHalved (hr.mono (by decide)) rfl ALawHalved.m ALawHalved.kp ALawHalved.b .nil pass0 (pa_cons (pe_ix ix_list (pv 2) (pe_un un_neg pe_int) (fun _ _ => rfl)) pa_nil)) (pe_call GLawPick (hr.mono (by decide)) rfl ALawPick.m ALawPick.kp ALawPick.b .nil pass0 (pa_cons (pv 0) (pa_cons pe_int pa_nil))) (fun _ _ => rfl)) pa_nil)))))
    (pss_one (ps_ret (pv 2))))), ?_⟩
  refine ⟨_, rfl, two, fun t0 nt0 => ⟨(by show 1 ≤ sizeLine; decide), fun fa nf => ?_⟩⟩
  have s0 := same_upd (o := .tup [.int 0, .int (n : Int)]) nt0
  have s1 := same_upd (o := .lst [.ref t0]) nf
  have nf0 : H fa = none := s0.free nf
  have fb : fa ≠ bg := fun z => by
    obtain ⟨_, _, _, e⟩ := hb
    rw [← z, nf0] at e
    cases e
  have l100 := lb100 h30
  refine ⟨fun mu σ H' => ∃ (xs : List V) (v : V) (us : List (Nat × Nat)) (B M : Nat), σ = [some (.ref bg), some (.int n), some (.ref fa)] ∧ But bg H H' ∧ BagAt H' bg ∧ H' fa = some (.lst (xs ++ [v])) ∧ All2 (Nd H') xs us ∧ Nd H' v (B, B + M) ∧ 1 ≤ M ∧ Way n (us ++ [(B, B + M)]) ∧ us.length + lb M ≤ lb n ∧ mu = M + 0,
    ⟨n, [], .ref t0, [], 0, n, rfl, But.of (s0.trans s1), hb.same (s0.trans s1), upd_same, .nil, ?_, n1, ⟨fun z hz => ?_, fun i a b ha hb => ?_⟩, by simp, rfl⟩, ?_⟩
  · rw [Nat.zero_add]
    exact ⟨t0, rfl, s1 _ _ upd_same⟩
  · rw [List.nil_append, List.mem_singleton] at hz
    subst hz
    rw [Nat.zero_add]
    exact ⟨n1, Nat.le_refl _, tree_root n⟩
  · rw [List.nil_append, List.getElem?_cons_succ] at hb
    simp at hb
  rintro mu σ H1 ⟨xs, v, us, B, M, rfl, B1, hb1, hf, hx, hv, h1, hw, hl, hmu⟩
  have hmu : mu = M := hmu
  obtain ⟨vp, rfl, hvp⟩ := id hv
  have em : B + M - B = M := by omega
  refine ⟨_, rfl, 1, rfl, fa, _, _, _, rfl, rfl, SqL.of hf, atI_last xs _, vp, _, _, _, rfl, rfl, SqT.of hvp, atI_nat (j := 1) rfl, _, rfl, 1, rfl, fa, _, _, _, rfl, rfl, SqL.of hf, atI_last xs _, vp, _, _, _, rfl, rfl, SqT.of hvp, atI_nat (j := 0) rfl, _, _, rfl, rfl, _, _, rfl, rfl, _, rfl, ite2 (fun c => ?_) (fun c => ?_)⟩
  · have c1 : ((B + M : Nat) : Int) - (B : Int) > 1 := of_decide_eq_true c
    have m2 : 2 ≤ M := by omega
    have g1 := gp_lt m2
    have g2 := gp_ge m2
    have g3 := gp_pos M
    refine ⟨_, fun σ' H' h => h, _, rfl, .inl ⟨rfl, _, SqL.of hf⟩, _, rfl, 1, rfl, fa, _, _, _, rfl, rfl, SqL.of hf, atI_last xs _, B, B + M, _, rfl, hv, by omega, fun H2 qa l h s2 nq hqa hl2 hh2 => ?_⟩
    rw [em] at hl2 hh2
    refine ⟨_, rfl, bg, 2, rfl, by decide, by decide, hb1.same s2, fun r H3 r0 r1 k3 hb3 => ?_⟩
    obtain ⟨j, rfl⟩ := Int.eq_ofNat_of_zero_le r0
    have B3 : But bg H2 H3 := fun u o z k => by rw [k3 u z]; exact k
    have nb : ∀ {u : Addr} {o : HO}, H2 u = some o → (∀ a b c, o ≠ .lst [.int a, .int b, .int c]) → u ≠ bg := fun {u o} k z e => by
      obtain ⟨a, b, c, k2⟩ := hb1.same s2
      rw [← e, k] at k2
      exact z a b c (Option.some.inj k2)
    have hqa3 : H3 qa = some (.tup [l, h]) := B3 _ _ (nb hqa (fun _ _ _ z => by cases z)) hqa
    have hf3 := B3 _ _ fb (s2 _ _ hf)
    have keep : ∀ {u : V} {x : Nat × Nat}, Nd H2 u x → Nd H3 u x := fun {u x} k => by
      obtain ⟨p, e, k2⟩ := k
      exact ⟨p, e, B3 _ _ (nb k2 (fun _ _ _ z => by cases z)) k2⟩
    have xl : xs.length ≤ 100 := by rw [hx.len]; omega
    have fin : ∀ (u : V) (y : Nat × Nat), [l, h][j]? = some u → Nd H2 u y → isHalf B M y → (∃ B' M', y = (B', B' + M') ∧ 1 ≤ M' ∧ M' < M ∧ lb M' + 1 ≤ lb M ∧ B' + M' ≤ B + M) → True := fun _ _ _ _ _ _ => trivial
    have t0 := half_lt m2 (B := B) (x := (B, B + gp M)) (.inl rfl)
    have t1 := half_lt m2 (B := B) (x := (B + gp M, B + M)) (.inr rfl)
    simp only [Nat.add_sub_cancel_left] at t0
    simp only [show B + M - (B + gp M) = M - gp M by omega] at t1
    have wn := hw.1 (B, B + M) (by simp)
    have tr : tree n B M := by have := wn.2.2; simp only [em] at this; exact this
    have hn : B + M ≤ n := wn.2.1
    have B13 : But bg H H3 := (B1.trans (But.of s2)).trans B3
    have upB : But bg H (upd H3 fa (.lst (xs ++ [.ref vp] ++ [l]))) ∧ But bg H (upd H3 fa (.lst (xs ++ [.ref vp] ++ [h]))) := by
      constructor <;> exact fun u o z k => by rw [upd_ne (ne_of_none k nf0)]; exact B13 u o z k
    have upG : ∀ o, BagAt (upd H3 fa o) bg := fun o => by
      obtain ⟨a, b, c, e⟩ := hb3
      exact ⟨a, b, c, by rw [upd_ne (fun z => fb z.symm)]; exact e⟩
    have hx3 : ∀ o, All2 (Nd (upd H3 fa o)) (xs ++ [.ref vp]) (us ++ [(B, B + M)]) := fun o => (hx.mono (fun v x (k : Nd H1 v x) => (keep (k.same s2)).upd hf3)).app (.cons ((keep (hv.same s2)).upd hf3) .nil)
    have jl : j = 0 ∨ j = 1 := by omega
    rcases jl with rfl | rfl
    · refine ⟨qa, _, _, _, rfl, rfl, SqT.of hqa3, atI_nat (j := 0) rfl, fa, _, _, rfl, rfl, hf3, szlt (by rw [List.length_append, List.length_singleton]; omega), ?_⟩
      refine ⟨gp M, by omega, xs ++ [.ref vp], l, us ++ [(B, B + M)], B, gp M, rfl, upB.1, upG _, upd_same, hx3 _, (keep hl2).upd hf3, g3, ?_, by rw [List.length_append, List.length_singleton]; omega, rfl⟩
      refine hw.snoc (by simp only; omega) (by simp only [em]; exact .inl rfl) ⟨by simp only; omega, by simp only; omega, ?_⟩
      simp only [Nat.add_sub_cancel_left]
      exact tree_low m2 tr
    · have e : B + gp M + (M - gp M) = B + M := by omega
      refine ⟨qa, _, _, _, rfl, rfl, SqT.of hqa3, atI_nat (j := 1) rfl, fa, _, _, rfl, rfl, hf3, szlt (by rw [List.length_append, List.length_singleton]; omega), ?_⟩
      refine ⟨M - gp M, by omega, xs ++ [.ref vp], h, us ++ [(B, B + M)], B + gp M, M - gp M, rfl, upB.2, upG _, upd_same, hx3 _, by rw [e]; exact (keep hh2).upd hf3, by omega, ?_, by rw [List.length_append, List.length_singleton]; omega, rfl⟩
      rw [e]
      refine hw.snoc (by simp only; omega) (by simp only [em]; exact .inr rfl) ⟨by simp only; omega, by simp only; omega, ?_⟩
      simp only [show B + M - (B + gp M) = M - gp M by omega]
      exact tree_high m2 tr
  · have c1 : ¬ ((B + M : Nat) : Int) - (B : Int) > 1 := of_decide_eq_false (Bool.eq_false_iff.mpr c)
    refine ⟨_, rfl, q _ fa (xs ++ [.ref vp]) us (B, B + M) B1 hb1 nf0 hf (hx.app (.cons hv .nil)) hw (by simp only; omega) (by omega)⟩
end
end LT

namespace LT
open PySem PySem.Spec PyProof.Rows L2
theorem ndt_shaped (l : List (Nat × Nat)) : SeqAt.shaped (.tuple (l.map nd)) = true := by
  have h := nds_depth l
  have h2 : PyData.depth (.tuple (l.map nd)) ≤ 64 := by
    simp only [PyData.depth]
    omega
  show (PyData.canLay0 (.tuple (l.map nd)) && decide (PyData.depth (.tuple (l.map nd)) ≤ 64)) = true
  rw [Bool.and_eq_true]
  exact ⟨by simp only [PyData.canLay0]; exact nds_lay l, decide_eq_true h2⟩
theorem tup_dp {K : PySem.W.Frag} {H : Hp} {p : Addr} {vs : List V} {l : List (Nat × Nat)} (h : H p = some (.tup vs)) (k : All2 (Nd H) vs l) : Dp K H (.ref p) (.tuple (l.map nd)) := .tup (SqT.of h) (nds_dp k)
theorem lst_dp {K : PySem.W.Frag} {H : Hp} {p : Addr} {vs : List V} {l : List (Nat × Nat)} (h : H p = some (.lst vs)) (k : All2 (Nd H) vs l) : Dp K H (.ref p) (.list (l.map nd)) := .lst (SqL.of h) (nds_dp k)
end LT

namespace LT
open PySem PySem.Spec PyProof.Rows L2
/-- zip where the second list ends first -/
theorem for_zipS {K : PySem.W.Frag} {a b : Addr} {xs ys : List V} {g : TG} {tb : TS} {D : Ends} {σ : L2.St} {H : Hp} (hl : ys.length ≤ xs.length) (J : Nat → L2.St → Hp → Prop) (start : J 0 σ H)
    (still : ∀ i σ H, J i σ H → SqL K H a xs ∧ SqL K H b ys)
    (turn : ∀ (i : Nat) (x y : V) (t : Addr) (σ : L2.St) (H : Hp), xs[i]? = some x → ys[i]? = some y → J i σ H → H t = none → g (.ref t) σ (upd H t (.tup [x, y])) fun σ2 H2 => tb { D with nx := J (i + 1), ct := J (i + 1), bk := D.nx } σ2 H2)
    (fin : ∀ σ H, J ys.length σ H → D.nx σ H) :
    ∃ W : Nat → Nat → L2.St → Hp → Prop, (∃ m, W 0 m σ H) ∧ ∀ i m σ H, W i m σ H →
      ((Itz K a b).stop i H ∧ D.nx σ H) ∨ ((Itz K a b).go i H ∧ ∃ N : L2.St → Hp → Prop, (∀ σ' H', N σ' H' → ∃ m', m' < m ∧ W (i + 1) m' σ' H') ∧ ∀ v H', (Itz K a b).yld i H v H' → g v σ H' fun σ2 H2 => tb { D with nx := N, ct := N, bk := D.nx } σ2 H2) := by
  refine ⟨fun i m σ H => i + m = ys.length ∧ J i σ H, ⟨ys.length, Nat.zero_add _, start⟩, ?_⟩
  rintro i m σ H ⟨im, j⟩
  obtain ⟨s1, s2⟩ := still i σ H j
  by_cases z : m = 0
  · have e : i = ys.length := by omega
    subst e
    exact .inl ⟨⟨xs, ys, s1, s2, .inr (Nat.le_refl _)⟩, fin σ H j⟩
  · have h1 : i < ys.length := by omega
    have h2 : i < xs.length := by omega
    refine .inr ⟨⟨xs, ys, _, _, s1, s2, List.getElem?_eq_getElem h2, List.getElem?_eq_getElem h1⟩, J (i + 1), fun σ' H' j' => ⟨m - 1, by omega, by omega, j'⟩, ?_⟩
    rintro v H' ⟨t, x, y, rfl, ht, rfl, k1, k2⟩
    exact turn i x y t σ H (k1 xs s1) (k2 ys s2) j ht
theorem cut_first (xs : List V) (h : 1 ≤ xs.length) : cutV xs (some 1) none = xs.drop 1 := by
  unfold cutV
  have e : HT.sIx xs.length 0 (some 1) = 1 := by
    show (if (1 : Int) < 0 then ((1 : Int) + (xs.length : Int)).toNat else min (1 : Int).toNat xs.length) = 1
    rw [if_neg (by decide)]
    show min 1 xs.length = 1
    omega
  rw [e, HT.sIx_none]
  exact List.take_of_length_le (by rw [List.length_drop]; omega)
end LT

namespace LT
open PySem PySem.Spec PyProof.Rows L2
theorem halves_of {K : PySem.W.Frag} {H : Hp} {q : Addr} {l h : V} {x y : Nat × Nat} (e : H q = some (.tup [l, h])) (hl : Nd H l x) (hh : Nd H h y) : Dp K H (.ref q) (.tuple ([x, y].map nd)) := tup_dp e (.cons hl (.cons hh .nil))
theorem Nd.but {H H' : Hp} {v : V} {x : Nat × Nat} {bg : Addr} (h : Nd H v x) (hb : BagAt H bg) (B : But bg H H') : Nd H' v x := by
  obtain ⟨p, e, q⟩ := h
  refine ⟨p, e, B _ _ (fun z => ?_) q⟩
  obtain ⟨_, _, _, e2⟩ := hb
  rw [← z, q] at e2
  cases e2
theorem nd_of {H : Hp} {a : Addr} {i j : Int} {x : Nat × Nat} (f : H a = some (.tup [.int i, .int j])) (h1 : i = (x.1 : Int)) (h2 : j = (x.2 : Int)) : Nd H (.ref a) x := by
  subst h1 h2
  exact ⟨a, rfl, f⟩
theorem All2.splitLast {α : Type} {R : V → α → Prop} : ∀ {vs : List V} {us : List α} {x : α}, All2 R vs (us ++ [x]) → ∃ vs' v, vs = vs' ++ [v] ∧ R v x
  | _, [], _, .cons h .nil => ⟨[], _, rfl, h⟩
  | _, u :: us, x, .cons h t => by
    obtain ⟨vs', v, e, k⟩ := All2.splitLast (us := us) t
    exact ⟨_ :: vs', v, by rw [e]; rfl, k⟩
theorem ask_nd {K : PySem.W.Frag} {H : Hp} {v : V} {x : Nat × Nat} (h : Nd H v x) (n : Nat) : Ask K H n v (decide (isN n x)) := by
  obtain ⟨p, rfl, e⟩ := h
  have k : tnV n (.int (x.1 : Int)) (.int (x.2 : Int)) = decide (isN n x) := by
    show decide (0 ≤ (x.1 : Int) ∧ isN n ((x.1 : Int).toNat, (x.2 : Int).toNat)) = decide (isN n x)
    rw [Int.toNat_natCast, Int.toNat_natCast]
    by_cases c : isN n x
    · rw [decide_eq_true c, decide_eq_true ⟨Int.natCast_nonneg _, c⟩]
    · rw [decide_eq_false c, decide_eq_false (fun z => c z.2)]
  rw [← k]
  exact .pair e (.int _) (.int _)
section
variable {P : Program} {w : World} {K : PySem.W.Frag} {mg : Str → Option Value} {base : Heap}
def spWayRight : Sp := fun vs H Q _ => ∃ (bg : Addr) (n : Nat), vs = [.ref bg, .int n] ∧ BagAt H bg ∧ 1 ≤ n ∧ n ≤ 10 ^ 30 ∧ ∀ (H' : Hp), But bg H H' → BagAt H' bg → Q (.bl true) H'
theorem ok_law_way_right {f g1 g2 g3 g4 g5 g6 g7 g8 : Addr} {fd d1 d2 d3 d4 d5 d6 d7 d8 : FuncData} (F : Fun K "_law_way_right" "_law_way_right" sLawWayRight f fd)
    (GLawWalk : FnOk P w K mg base CX0 2 g1 d1 ["bag", "size"] spWalk) (ALawWalk : At K mg "_law_walk" g1 d1 ["bag", "size"])
    (GHalves : FnOk P w K mg base CX0 5 g2 d2 ["size", "node"] spHalvesA) (AHalves : At K mg "halves" g2 d2 ["size", "node"])
    (GLawHalved : FnOk P w K mg base CX0 1 g3 d3 ["node"] spHalved) (ALawHalved : At K mg "_law_halved" g3 d3 ["node"])
    (GParent : FnOk P w K mg base CX0 5 g4 d4 ["size", "node"] spParent) (AParent : At K mg "parent" g4 d4 ["size", "node"])
    (GSibling : FnOk P w K mg base CX0 6 g5 d5 ["size", "node"] spSibling) (ASibling : At K mg "sibling" g5 d5 ["size", "node"])
    (GIsNode : FnOk P w K mg base CX0 4 g6 d6 ["size", "value"] (spIsNode K)) (AIsNode : At K mg "is_node" g6 d6 ["size", "value"])
    (GLawPick : FnOk P w K mg base CX0 1 g7 d7 ["bag", "many"] spPick) (ALawPick : At K mg "_law_pick" g7 d7 ["bag", "many"])
    (GLawIsNode : FnOk P w K mg base CX0 2 g8 d8 ["size", "node"] spNodeLaw) (ALawIsNode : At K mg "_law_is_node" g8 d8 ["size", "node"])
    (z_zip : mg "zip" = none) (z_len : mg "len" = none) (z_max : mg "max" = none) : FnOk P w K mg base CX0 7 f fd ["bag", "size"] spWayRight := by
  refine F.ok scLawWayRight (fun vs H Q E h => ?_) (fun cdv A outer s H vs Q E hr h => ?_)
  · obtain ⟨_, _, rfl, _⟩ := h
    rfl
  obtain ⟨bg, n, rfl, hb, n1, h30, q⟩ := h
  have two : 2 ≤ sizeLine := by decide
  refine' ⟨_, (pss_cons (ps_set (i := 2) scLawWayRight.nd rfl (Or.inl rfl) (pe_call GLawWalk (hr.mono (by decide)) rfl ALawWalk.m ALawWalk.kp ALawWalk.b .nil pass0 (pa_cons (pv 0) (pa_cons (pv 1) pa_nil))))
    (pss_cons (ps_for PassesOwn.never rfl (pi_zip (by rfl) z_zip (pa_cons (pv 2) (pa_cons (pe_slice sl_list (pv 2) (po_some pe_int) po_none) pa_nil))) (pg_tup (by rfl) (pgs_cons (pg_name (i := 3) scLawWayRight.nd rfl (Or.inl rfl)) (pgs_cons (pg_name (i := 4) scLawWayRight.nd rfl (Or.inl rfl)) pgs_nil)))
    (pss_cons (ps_if (PW.pt (pw_or (pt_cmpR (op_neD hr.units) (pe_call GHalves (hr.mono (by decide)) rfl AHalves.m AHalves.kp AHalves.b .nil pass0 (pa_cons (pv 1) (pa_cons (pv 3) pa_nil))) (pe_call GLawHalved (hr.mono (by decide)) rfl ALawHalved.m ALawHalved.kp ALawHalved.b .nil pass0 (pa_cons (pv 3) pa_nil)) (nomark _)) (pw_or1 (pt_cmpR (op_neD hr.units) (pe_call GParent (hr.mono (by decide)) rfl AParent.m AParent.kp AParent.b .nil pass0 (pa_cons (pv 1) (pa_cons (pv 4) pa_nil))) (pv 3) (nomark _)))))
    (pss_one (ps_ret pe_bl))
    pss_nil)
    (pss_cons (ps_asg (pe_call GLawHalved (hr.mono (by decide)) rfl ALawHalved.m ALawHalved.kp ALawHalved.b .nil pass0 (pa_cons (pv 3) pa_nil)) (pg_tup (by rfl) (pgs_cons (pg_name (i := 5) scLawWayRight.nd rfl (Or.inl rfl)) (pgs_cons (pg_name (i := 6) scLawWayRight.nd rfl (Or.inl rfl)) pgs_nil))))
    (pss_one (ps_if (PW.pt (pw_or (pt_cmpR (op_neD hr.units) (pe_call GSibling (hr.mono (by decide)) rfl ASibling.m ASibling.kp ASibling.b .nil pass0 (pa_cons (pv 1) (pa_cons (pv 4) pa_nil))) (pe_ifExp (pt_cmpR (op_eqD hr.units) (pv 4) (pv 5) (nomark _)) (pv 6) (pv 5)) (nomark _)) (pw_or1 (pt_not (pt_val (pe_call GIsNode (hr.mono (by decide)) rfl AIsNode.m AIsNode.kp AIsNode.b .nil pass0 (pa_cons (pv 1) (pa_cons (pv 4) pa_nil))))))))
    (pss_one (ps_ret pe_bl))
    pss_nil)))))
    (pss_cons (ps_asg (pe_ix ix_list (pv 2) (pe_call GLawPick (hr.mono (by decide)) rfl ALawPick.m ALawPick.kp ALawPick.b .nil pass0 (pa_cons (pv 0) (pa_cons (pe_callB call_len_seq (by rfl) z_len PySem.boot_len (pa_cons (pv 2) pa_nil)) pa_nil))) (fun _ _ => rfl)) (pg_tup (by rfl) (pgs_cons (pg_name (i := 7) scLawWayRight.nd rfl (Or.inl rfl)) (pgs_cons (pg_name (i := 8) scLawWayRight.nd rfl (Or.inl rfl)) pgs_nil))))
    (pss_cons (ps_for PassesOwn.never rfl (pi_tup (pe_tup (pa_cons pe_int (pa_cons (pe_op op_sub (pv 8) (pv 7)) (pa_cons (pe_op op_shl pe_int (pe_call GLawPick (hr.mono (by decide)) rfl ALawPick.m ALawPick.kp ALawPick.b .nil pass0 (pa_cons (pv 0) (pa_cons pe_int pa_nil)))) pa_nil))))) (pg_name (i := 9) scLawWayRight.nd rfl (Or.inl rfl))
    (pss_one (ps_for PassesOwn.never rfl (pi_tup (pe_tup (pa_cons (pe_tup (pa_cons (pe_op op_add (pv 7) (pv 9)) (pa_cons (pe_op op_add (pv 8) (pv 9)) pa_nil))) (pa_cons (pe_tup (pa_cons (pv 7) (pa_cons (pe_op op_add (pv 8) (pv 9)) pa_nil))) (pa_cons (pe_tup (pa_cons (pv 7) (pa_cons (pe_op op_sub (pv 8) pe_int) pa_nil))) (pa_cons (pe_tup (pa_cons (pe_callB (call_max2 rfl) (by rfl) z_max (by decide +kernel) (pa_cons pe_int (pa_cons (pe_op op_sub (pv 7) (pv 9)) pa_nil))) (pa_cons (pv 8) pa_nil))) pa_nil)))))) (pg_name (i := 4) scLawWayRight.nd rfl (Or.inl rfl))
    (pss_one (ps_if (pt_cmpR op_ne (pe_call GIsNode (hr.mono (by decide)) rfl AIsNode.m AIsNode.kp AIsNode.b .nil pass0 (pa_cons (pv 1) (pa_cons (pv 4) pa_nil))) (pe_and (pe_cmpR op_lt (pe_ix ix_tup (pv 4) pe_int (fun _ _ => rfl)) (pe_ix ix_tup (pv 4) pe_int (fun _ _ => rfl)) (nomark _)) (pe_one (pe_call GLawIsNode (hr.mono (by decide)) rfl ALawIsNode.m ALawIsNode.kp ALawIsNode.b .nil pass0 (pa_cons (pv 1) (pa_cons (pv 4) pa_nil))))) (nomark _))
    (pss_one (ps_ret pe_bl))
    pss_nil)))))
    (pss_one (ps_ret (pe_cmpR op_isN (pe_call GHalves (hr.mono (by decide)) rfl AHalves.m AHalves.kp AHalves.b .nil pass0 (pa_cons (pv 1) (pa_cons (pe_ix ix_list (pv 2) (pe_un un_neg pe_int) (fun _ _ => rfl)) pa_nil))) pe_non (nomark _)))))))), ?_⟩
  refine ⟨_, rfl, _, rfl, bg, n, rfl, hb, n1, h30, fun H1 p xs us x B1 hb1 np hp hx hw hlast hl => ?_⟩
  have xl : xs.length = us.length + 1 := by rw [hx.len, List.length_append, List.length_singleton]
  refine ⟨_, rfl, _, rfl, 1, rfl, p, xs, rfl, SqL.of hp, fun c nc => ?_⟩
  rw [cut_first xs (by omega)]
  have sc := same_upd (o := .lst (xs.drop 1)) nc
  have hc : (upd H1 c (.lst (xs.drop 1))) c = some (.lst (xs.drop 1)) := upd_same
  have hp2 := sc _ _ hp
  have hx2 := hx.mono (fun v x (k : Nd H1 v x) => k.same sc)
  have hb2 := hb1.same sc
  have B2 := B1.trans (But.of sc)
  generalize upd H1 c (.lst (xs.drop 1)) = H2 at hc hp2 hx2 hb2 B2 sc
  generalize hws : us ++ [x] = ws at hw hx2
  refine ⟨p, c, xs, _, rfl, SqL.of hp2, SqL.of hc, for_zipS (K := K) (a := p) (b := c) (xs := xs) (ys := xs.drop 1) (by rw [List.length_drop]; omega) (fun i σ H' => ∃ v3 v4 v5 v6 : Option V, σ = [some (.ref bg), some (.int n), some (.ref p), v3, v4, v5, v6, none, none, none] ∧ Same H2 H')
    ⟨none, none, none, none, rfl, Same.refl _⟩ (fun i σ H' ⟨_, _, _, _, _, s5⟩ => ⟨SqL.of (s5 _ _ hp2), SqL.of (s5 _ _ hc)⟩) ?_ ?_⟩
  · rintro i xa ya T σ H3 hxi hyi ⟨v3, v4, v5, v6, rfl, s3⟩ nT
    have sT := same_upd (o := .tup [xa, ya]) nT
    refine ⟨T, _, rfl, SqT.of upd_same, rfl, _, _, rfl, _, _, rfl, rfl, ?_⟩
    generalize upd H3 T (.tup [xa, ya]) = H4 at sT
    obtain ⟨X, hX, ndX⟩ := hx2.nth hxi
    rw [List.getElem?_drop, Nat.add_comm] at hyi
    obtain ⟨Y, hY, ndY⟩ := hx2.nth hyi
    obtain ⟨m2, hh⟩ := hw.2 i X Y hX hY
    have nX := hw.1 X (List.mem_of_getElem? hX)
    have nY := hw.1 Y (List.mem_of_getElem? hY)
    obtain ⟨B, M, rfl⟩ : ∃ B M, X = (B, B + M) := ⟨X.1, X.2 - X.1, Prod.ext rfl (by have := nX.1; simp only; omega)⟩
    have em : B + M - B = M := by omega
    simp only [em] at m2 hh
    have tX : tree n B M := by have := nX.2.2; simp only [em] at this; exact this
    have hn : B + M ≤ n := nX.2.1
    have s24 := s3.trans sT
    have ndX4 := ndX.same s24
    have ndY4 := ndY.same s24
    -- the halves
    refine ⟨_, rfl, _, rfl, n, B, M, xa, rfl, ndX4, by omega, hn, h30, tX, .inr ⟨m2, fun H5 qa l h s5 nq hqa hl5 hh5 => ?_⟩⟩
    refine ⟨_, rfl, B, B + M, _, rfl, ndX4.same s5, by omega, fun H6 qb l6 h6 s6 nq6 hqb hl6 hh6 => ?_⟩
    rw [em] at hl6 hh6
    refine ⟨_, _, halves_of (s6 _ _ hqa) (hl5.same s6) (hh5.same s6), halves_of hqb hl6 hh6, ndt_shaped _, ndt_shaped _, ?_⟩
    rw [SeqAt.eqv_refl _ (SeqAt.canLay_of_shaped (ndt_shaped _))]
    refine ⟨false, rfl, ?_⟩
    have s46 := s5.trans s6
    -- the node above
    refine ⟨_, rfl, _, rfl, n, Y, ya, rfl, ndY4.same s46, n1, h30, .inr ⟨B, M, m2, tX, hn, hh, fun H7 u s7 hu => ?_⟩⟩
    refine ⟨_, rfl, nd (B, B + M), nd (B, B + M), hu.dp, (ndX4.same (s46.trans s7)).dp, nd_shaped _ _, nd_shaped _ _, ?_⟩
    rw [nd_is, decide_eq_true rfl]
    refine ⟨false, rfl, iteF ?_⟩
    have s47 := s46.trans s7
    -- the halves again
    refine ⟨_, rfl, B, B + M, _, rfl, ndX4.same s47, by omega, fun H8 qc l8 h8 s8 nq8 hqc hl8 hh8 => ?_⟩
    rw [em] at hl8 hh8
    refine ⟨qc, _, rfl, SqT.of hqc, rfl, _, _, rfl, _, _, rfl, rfl, ?_⟩
    have s48 := s47.trans s8
    have g1 := gp_lt m2
    have g3 := gp_pos M
    have ne : (B, B + gp M) ≠ (B + gp M, B + M) := fun z => by have := congrArg Prod.fst z; simp only at this; omega
    have go : ∀ (Z : Nat × Nat), ((Y = (B, B + gp M) ∧ Z = (B + gp M, B + M)) ∨ (Y = (B + gp M, B + M) ∧ Z = (B, B + gp M))) → ∃ Z, ((Y = (B, B + gp M) ∧ Z = (B + gp M, B + M)) ∨ (Y = (B + gp M, B + M) ∧ Z = (B, B + gp M))) := fun Z k => ⟨Z, k⟩
    obtain ⟨Z, hZ⟩ := hh.elim (fun z => go _ (.inl ⟨z, rfl⟩)) (fun z => go _ (.inr ⟨z, rfl⟩))
    refine ⟨_, rfl, _, rfl, n, Y, ya, rfl, ndY4.same s48, n1, h30, .inr ⟨B, M, Z, m2, tX, hn, hZ, fun H9 u9 s9 hu9 => ?_⟩⟩
    have s49 := s48.trans s9
    have ndY9 := ndY4.same s49
    have hl9 := hl8.same s9
    have hh9 := hh8.same s9
    refine ⟨_, rfl, _, rfl, nd Y, nd (B, B + gp M), ndY9.dp, hl9.dp, nd_shaped _ _, nd_shaped _ _, ?_⟩
    rw [nd_is]
    refine ⟨_, rfl, ite2 (fun c => ?_) (fun c => ?_)⟩
    · have c1 : Y = (B, B + gp M) := of_decide_eq_true c
      have z1 : Z = (B + gp M, B + M) := by
        rcases hZ with k | k
        · exact k.2
        · exact absurd (c1.symm.trans k.1) ne
      refine ⟨_, rfl, nd Z, nd Z, hu9.dp, by rw [z1]; exact hh9.dp, nd_shaped _ _, nd_shaped _ _, ?_⟩
      rw [nd_is, decide_eq_true rfl]
      refine ⟨false, rfl, ?_⟩
      refine ⟨_, rfl, _, rfl, n, _, _, rfl, n1, h30, ask_nd ndY9 n, true, ?_, ?_⟩
      · rw [decide_eq_true nY]
      · exact ⟨_, _, _, _, rfl, s24.trans s49⟩
    · have c1 : ¬ Y = (B, B + gp M) := of_decide_eq_false (Bool.eq_false_iff.mpr c)
      have z1 : Z = (B, B + gp M) := by
        rcases hZ with k | k
        · exact absurd k.1 c1
        · exact k.2
      refine ⟨_, rfl, nd Z, nd Z, hu9.dp, by rw [z1]; exact hl9.dp, nd_shaped _ _, nd_shaped _ _, ?_⟩
      rw [nd_is, decide_eq_true rfl]
      refine ⟨false, rfl, ?_⟩
      refine ⟨_, rfl, _, rfl, n, _, _, rfl, n1, h30, ask_nd ndY9 n, true, ?_, ?_⟩
      · rw [decide_eq_true nY]
      · exact ⟨_, _, _, _, rfl, s24.trans s49⟩
  rintro σ H3 ⟨v3, v4, v5, v6, rfl, s3⟩
  have hp3 := s3 _ _ hp2
  have hx3 := hx2.mono (fun v x (k : Nd H2 v x) => k.same s3)
  have hb3 := hb2.same s3
  have B3 := B2.trans (But.of s3)
  have pb : p ≠ bg := fun z => by
    obtain ⟨_, _, _, e⟩ := hb
    rw [← z, np] at e
    cases e
  -- a node of the way
  refine ⟨_, rfl, _, rfl, _, rfl, p, xs, rfl, .inl (SqL.of hp3), bg, (xs.length : Int), rfl, by omega, (show _ < 2 ^ 250 by omega), hb3, fun r H4 r0 r1 k4 hb4 => ?_⟩
  obtain ⟨j, rfl⟩ := Int.eq_ofNat_of_zero_le r0
  have jl : j < xs.length := by omega
  have B4 : But bg H3 H4 := fun u o z k => by rw [k4 u z]; exact k
  have hp4 := B4 _ _ pb hp3
  have hx4 := hx3.mono (fun v x (k : Nd H3 v x) => k.but hb3 B4)
  have hv : xs[j]? = some xs[j] := List.getElem?_eq_getElem jl
  obtain ⟨y, hy, ndy⟩ := hx4.nth hv
  have ny := hw.1 y (List.mem_of_getElem? hy)
  obtain ⟨lo, hi⟩ := y
  have hlt : lo < hi := ny.1
  have hle : hi ≤ n := ny.2.1
  obtain ⟨yp, ey, hyp⟩ := id ndy
  rw [ey] at hv
  refine ⟨p, xs, _, _, rfl, rfl, SqL.of hp4, atI_nat hv, ?_⟩
  refine ⟨yp, _, rfl, SqT.of hyp, rfl, _, _, rfl, _, _, rfl, rfl, ?_⟩
  refine ⟨_, rfl, _, rfl, _, _, rfl, rfl, _, rfl, bg, 100, rfl, by decide, by decide, hb4, fun r5 H5 r50 r51 k5 hb5 => ⟨_, _, rfl, rfl, ⟨r50, by omega, by decide⟩, (by show 3 ≤ sizeLine; decide), fun tt ntt => ?_⟩⟩
  obtain ⟨z5, rfl⟩ := Int.eq_ofNat_of_zero_le r50
  have B5 : But bg H4 H5 := fun u o z k => by rw [k5 u z]; exact k
  have hfar : ∀ v ∈ ([.int 1, .int (((hi : Nat) : Int) - ((lo : Nat) : Int)), .int (1 * 2 ^ ((z5 : Nat) : Int).toNat)] : List V), ∃ k : Nat, v = .int (k : Int) := fun v hv => by
    simp only [List.mem_cons, List.not_mem_nil, or_false] at hv
    rcases hv with rfl | rfl | rfl
    · exact ⟨1, rfl⟩
    · exact ⟨hi - lo, congrArg V.int (by omega)⟩
    · refine ⟨2 ^ z5, congrArg V.int ?_⟩
      rw [Int.one_mul, Int.toNat_natCast]
      exact (Int.natCast_pow 2 _).symm
  have st := same_upd (o := .tup [.int 1, .int (((hi : Nat) : Int) - ((lo : Nat) : Int)), .int (1 * 2 ^ ((z5 : Nat) : Int).toNat)]) ntt
  have htt : (upd H5 tt (.tup [.int 1, .int (((hi : Nat) : Int) - ((lo : Nat) : Int)), .int (1 * 2 ^ ((z5 : Nat) : Int).toNat)])) tt = some (.tup [.int 1, .int (((hi : Nat) : Int) - ((lo : Nat) : Int)), .int (1 * 2 ^ ((z5 : Nat) : Int).toNat)]) := upd_same
  have hp6 := st _ _ (B5 _ _ pb hp4)
  have hx6 := hx4.mono (fun v x (k : Nd H4 v x) => (k.but hb4 B5).same st)
  have hb6 := hb5.same st
  have B6 := ((B3.trans B4).trans B5).trans (But.of st)
  generalize upd H5 tt _ = H6 at st htt hp6 hx6 hb6 B6
  generalize ([.int 1, .int (((hi : Nat) : Int) - ((lo : Nat) : Int)), .int (1 * 2 ^ ((z5 : Nat) : Int).toNat)] : List V) = fs at hfar htt
  refine ⟨tt, rfl, ⟨_, SqT.of htt⟩, for_tup (K := K) (a := tt) (xs := fs) (fun i σ H' => ∃ v4 v9 : Option V, σ = [some (.ref bg), some (.int n), some (.ref p), v3, v4, v5, v6, some (.int (lo : Int)), some (.int (hi : Int)), v9] ∧ Same H6 H')
    ⟨v4, none, rfl, Same.refl _⟩ (fun i σ H' _ ⟨_, _, _, s5⟩ => SqT.of (s5 _ _ htt)) ?_ ?_⟩
  · rintro i xf σ H7 hi7 ⟨v4, v9, rfl, s7⟩
    obtain ⟨k, rfl⟩ := hfar xf (List.mem_of_getElem? hi7)
    refine ⟨_, rfl, _, rfl, _, _, rfl, rfl, _, rfl, _, rfl, _, _, rfl, rfl, two, fun a1 m1 => ?_⟩
    have t1 := same_upd (o := .tup [.int ((lo : Int) + (k : Int)), .int ((hi : Int) + (k : Int))]) m1
    have f1 : Nd (upd H7 a1 (.tup [.int ((lo : Int) + (k : Int)), .int ((hi : Int) + (k : Int))])) (.ref a1) (lo + k, hi + k) := nd_of upd_same (by simp only; omega) (by simp only; omega)
    generalize upd H7 a1 _ = H8 at t1 f1 ⊢
    refine ⟨_, rfl, _, rfl, _, rfl, _, _, rfl, rfl, two, fun a2 m2 => ?_⟩
    have t2 := same_upd (o := .tup [.int (lo : Int), .int ((hi : Int) + (k : Int))]) m2
    have f2 : Nd (upd H8 a2 (.tup [.int (lo : Int), .int ((hi : Int) + (k : Int))])) (.ref a2) (lo, hi + k) := nd_of upd_same rfl (by simp only; omega)
    generalize upd H8 a2 _ = H9 at t2 f2 ⊢
    refine ⟨_, rfl, _, rfl, _, _, rfl, rfl, two, fun a3 m3 => ?_⟩
    have t3 := same_upd (o := .tup [.int (lo : Int), .int ((hi : Int) - 1)]) m3
    have f3 : Nd (upd H9 a3 (.tup [.int (lo : Int), .int ((hi : Int) - 1)])) (.ref a3) (lo, hi - 1) := nd_of upd_same rfl (by simp only; omega)
    generalize upd H9 a3 _ = H10 at t3 f3 ⊢
    refine ⟨_, rfl, _, rfl, _, _, rfl, rfl, _, _, rfl, _, rfl, two, fun a4 m4 => ?_⟩
    generalize hmx : (if (0 : Int) < (lo : Int) - (k : Int) then (lo : Int) - (k : Int) else 0) = mx
    have emx : mx = ((lo - k : Nat) : Int) := by rw [← hmx]; split <;> omega
    have t4 := same_upd (o := .tup [.int mx, .int (hi : Int)]) m4
    have f4 : Nd (upd H10 a4 (.tup [.int mx, .int (hi : Int)])) (.ref a4) (lo - k, hi) := nd_of upd_same emx rfl
    refine ⟨(by show 4 ≤ sizeLine; decide), fun a5 m5 => ?_⟩
    generalize upd H10 a4 _ = H11 at t4 f4 m5 ⊢
    have t5 := same_upd (o := .tup [.ref a1, .ref a2, .ref a3, .ref a4]) m5
    have h5 : (upd H11 a5 (.tup [.ref a1, .ref a2, .ref a3, .ref a4])) a5 = some (.tup [.ref a1, .ref a2, .ref a3, .ref a4]) := upd_same
    generalize upd H11 a5 _ = H12 at t5 h5 ⊢
    have hall : ∀ v ∈ ([.ref a1, .ref a2, .ref a3, .ref a4] : List V), ∃ y, Nd H12 v y := fun v hv => by
      simp only [List.mem_cons, List.not_mem_nil, or_false] at hv
      rcases hv with rfl | rfl | rfl | rfl
      · exact ⟨_, f1.same (t2.trans (t3.trans (t4.trans t5)))⟩
      · exact ⟨_, f2.same (t3.trans (t4.trans t5))⟩
      · exact ⟨_, f3.same (t4.trans t5)⟩
      · exact ⟨_, f4.same t5⟩
    have s612 := s7.trans (t1.trans (t2.trans (t3.trans (t4.trans t5))))
    generalize ([.ref a1, .ref a2, .ref a3, .ref a4] : List V) = qs at hall h5
    refine ⟨a5, rfl, ⟨_, SqT.of h5⟩, for_tup (K := K) (a := a5) (xs := qs) (fun i σ H' => ∃ v4 : Option V, σ = [some (.ref bg), some (.int n), some (.ref p), v3, v4, v5, v6, some (.int (lo : Int)), some (.int (hi : Int)), some (.int (k : Int))] ∧ Same H12 H')
      ⟨v4, rfl, Same.refl _⟩ (fun i σ H' _ ⟨_, _, s5⟩ => SqT.of (s5 _ _ h5)) ?_ ?_⟩
    · rintro i2 xq σ H13 hi13 ⟨v4, rfl, s13⟩
      obtain ⟨y, ndq⟩ := hall xq (List.mem_of_getElem? hi13)
      have ndq13 := ndq.same s13
      obtain ⟨yq, rfl, hyq⟩ := id ndq13
      refine ⟨_, rfl, _, rfl, n, _, _, rfl, n1, h30, ask_nd ndq13 n, ?_⟩
      refine ⟨_, rfl, yq, _, _, _, rfl, rfl, SqT.of hyq, atI_nat (j := 0) rfl, _, rfl, yq, _, _, _, rfl, rfl, SqT.of hyq, atI_nat (j := 1) rfl, _, _, rfl, rfl, ?_⟩
      refine ⟨_, rfl, ite2 (fun c => ?_) (fun c => ?_)⟩
      · have c1 : ((y.1 : Nat) : Int) < ((y.2 : Nat) : Int) := of_decide_eq_true c
        refine ⟨_, rfl, _, rfl, n, y.1, y.2, _, rfl, ndq13, by omega, n1, fun H14 s14 => ⟨rfl, false, ?_, iteF ?_⟩⟩
        · refine congrArg V.bl ?_
          rw [Bool.not_eq_false']
          exact decide_eq_true rfl
        · exact ⟨_, rfl, s13.trans s14⟩
      · have c1 : ¬ ((y.1 : Nat) : Int) < ((y.2 : Nat) : Int) := of_decide_eq_false (Bool.eq_false_iff.mpr c)
        refine ⟨rfl, false, ?_, iteF ?_⟩
        · rw [decide_eq_false (fun z : isN n y => by have := z.1; omega)]
          refine congrArg V.bl ?_
          rw [Bool.not_eq_false']
          exact decide_eq_true rfl
        · exact ⟨_, rfl, s13⟩
    · rintro σ H13 ⟨v4, rfl, s13⟩
      exact ⟨_, _, rfl, s612.trans s13⟩
  rintro σ H7 ⟨v4, v9, rfl, s7⟩
  obtain ⟨xs', v, rfl, hvx⟩ := (hws ▸ hx6).splitLast
  have hx' := hvx.same s7
  have nx := hw.1 x (by rw [← hws]; simp)
  have e1 : x.1 + 1 = x.2 := hlast.symm
  have tx := nx.2.2
  rw [show x.2 - x.1 = 1 by omega] at tx
  exact ⟨_, rfl, _, rfl, 1, rfl, p, _, _, _, rfl, rfl, SqL.of (s7 _ _ hp6), atI_last xs' v, n, x.1, 1, v, rfl, by rw [e1]; exact hx', by decide, by rw [e1]; exact nx.2.1, h30, tx, .inl ⟨rfl, rfl, q _ (B6.trans (But.of s7)) (hb6.same s7)⟩⟩
end
end LT

namespace LT
open PySem PySem.Spec PyProof.Rows L2
section
variable {P : Program} {w : World} {K : PySem.W.Frag} {mg : Str → Option Value} {base : Heap}
def spCheckNumber : Sp := fun vs H Q _ => ∃ n : Int, vs = [.int n] ∧ Q .non H
theorem ok_check_number {f g : Addr} {fd gd : FuncData} (F : Fun K "check_number" "check_number" sCheckNumber f fd) (GIsWhole : FnOk P w K mg base CX0 1 g gd ["value"] spWhole) (AIsWhole : At K mg "is_whole" g gd ["value"]) : FnOk P w K mg base CX0 2 f fd ["number"] spCheckNumber := by
  refine F.ok scCheckNumber (fun vs H Q E h => ?_) (fun cdv A outer s H vs Q E hr h => ?_)
  · obtain ⟨_, rfl, _⟩ := h
    rfl
  obtain ⟨n, rfl, q⟩ := h
  refine ⟨_, (pss_one (ps_if (pt_not (pt_val (pe_call GIsWhole (hr.mono (by decide)) rfl AIsWhole.m AIsWhole.kp AIsWhole.b .nil pass0 (pa_cons (pv 0) pa_nil))))
    (pss_one ps_never)
    pss_nil)), ?_⟩
  exact ⟨_, rfl, n, rfl, true, rfl, q⟩
end
end LT

namespace LT
open PySem PySem.Spec PyProof.Rows L2
theorem log2_is {r h : Nat} (h1 : 2 ^ h ≤ r) (h2 : r < 2 ^ (h + 1)) : r.log2 = h := (Nat.log2_eq_iff (by have := Nat.pow_pos (a := 2) (n := h) (by decide); omega)).mpr ⟨h1, h2⟩
theorem pk_step : ∀ (i n b : Nat), n % 2 ^ i ≠ 0 → ∃ h, h < i ∧ pk i n b = (b, h) :: pk h n (b + 2 ^ h) ∧ n % 2 ^ i = 2 ^ h + n % 2 ^ h
  | 0, n, b, hr => by simp [Nat.mod_one] at hr
  | i + 1, n, b, hr => by
    rw [mod_succ] at hr
    by_cases t : n.testBit i = true
    · refine ⟨i, Nat.lt_succ_self i, ?_, by rw [mod_succ, if_pos t]⟩
      show (if n.testBit i = true then _ else _) = _
      rw [if_pos t]
    · rw [if_neg t, Nat.zero_add] at hr
      obtain ⟨h, h1, h2, h3⟩ := pk_step i n b hr
      refine ⟨h, by omega, ?_, by rw [mod_succ, if_neg t, Nat.zero_add]; exact h3⟩
      show (if n.testBit i = true then _ else _) = _
      rw [if_neg t]
      exact h2
section
variable {P : Program} {w : World} {K : PySem.W.Frag} {mg : Str → Option Value} {base : Heap}
def spTops : Sp := fun vs H Q _ => ∃ (n : Nat), vs = [.int n] ∧ 1 ≤ n ∧ n ≤ 10 ^ 30 ∧ ∀ (H' : Hp) (p : Addr) (xs : List V), Same H H' → H p = none → H' p = some (.lst xs) → All2 (Nd H') xs ((pk 101 n 0).map full) → Q (.ref p) H'
theorem ok_peaks {f g1 g2 : Addr} {fd d1 d2 : FuncData} (F : Fun K "peaks" "peaks" sPeaks f fd) (GCheckSize : FnOk P w K mg base CX0 3 g1 d1 ["size"] spCheckSize) (ACheckSize : At K mg "check_size" g1 d1 ["size"])
    (GPowerWithin : FnOk P w K mg base CX0 1 g2 d2 ["number"] spPower) (APowerWithin : At K mg "power_within" g2 d2 ["number"]) : FnOk P w K mg base CX0 4 f fd ["size"] spTops := by
  refine F.ok scPeaks (fun vs H Q E h => ?_) (fun cdv A outer s H vs Q E hr h => ?_)
  · obtain ⟨_, rfl, _⟩ := h
    rfl
  obtain ⟨n, rfl, h1, h30, q⟩ := h
  refine ⟨_, (pss_cons (ps_expr (pe_call GCheckSize (hr.mono (by decide)) rfl ACheckSize.m ACheckSize.kp ACheckSize.b .nil pass0 (pa_cons (pv 0) pa_nil)))
    (pss_cons (ps_set (i := 1) scPeaks.nd rfl (Or.inl rfl) (pe_lst pa_nil))
    (pss_cons (ps_set (i := 2) scPeaks.nd rfl (Or.inl rfl) pe_int)
    (pss_cons (ps_while PassesOwn.never (pt_cmpR op_lt (pv 2) (pv 0) (nomark _))
    (pss_cons (ps_set (i := 3) scPeaks.nd rfl (Or.inl rfl) (pe_op op_add (pv 2) (pe_call GPowerWithin (hr.mono (by decide)) rfl APowerWithin.m APowerWithin.kp APowerWithin.b .nil pass0 (pa_cons (pe_op op_sub (pv 0) (pv 2)) pa_nil))))
    (pss_cons (ps_expr (pe_bm PySem.F.plainAttrs_list PySem.F.slot_list_append PySem.F.type_list_append mt_append (pv 1) (pa_cons (pe_tup (pa_cons (pv 2) (pa_cons (pv 3) pa_nil))) pa_nil)))
    (pss_one (ps_set (i := 2) scPeaks.nd rfl (Or.inl rfl) (pv 3))))))
    (pss_one (ps_ret (pv 1))))))), ?_⟩
  refine ⟨_, rfl, n, rfl, by omega, by omega, ?_⟩
  refine ⟨Nat.zero_le _, fun fa nf => ?_⟩
  have nm : n % 2 ^ 101 = n := Nat.mod_eq_of_lt (Nat.lt_of_le_of_lt h30 (by decide))
  refine ⟨fun mu σ H' => ∃ (i b : Nat) (v3 : Option V) (xs : List V) (done : List (Nat × Nat)), σ = [some (.int n), some (.ref fa), some (.int b), v3] ∧ Same H H' ∧ H' fa = some (.lst xs) ∧ All2 (Nd H') xs (done.map full) ∧ done ++ pk i n b = pk 101 n 0 ∧ b + n % 2 ^ i = n ∧ mu = n - b,
    ⟨n, 101, 0, none, [], [], rfl, same_upd nf, upd_same, .nil, rfl, by omega, by omega⟩, ?_⟩
  rintro m σ H1 ⟨i, b, v3, xs, done, rfl, sm, hf, hx, hd, hb, rfl⟩
  refine ⟨_, rfl, _, rfl, _, _, rfl, rfl, _, rfl, ite2 (fun c => ?_) (fun c => ?_)⟩
  · have c1 : (b : Int) < (n : Int) := of_decide_eq_true c
    obtain ⟨h, hi, hp, hm⟩ := pk_step i n b (by omega)
    have ph := Nat.pow_pos (a := 2) (n := h) (by decide)
    have lh : (n - b).log2 = h := log2_is (by omega) (by have := Nat.mod_lt n ph; rw [Nat.pow_succ]; omega)
    have dl : done.length ≤ 101 := by
      have k1 := congrArg List.length hd
      rw [List.length_append] at k1
      have k2 := pk_len 101 n 0
      omega
    refine ⟨fun σ' H' => ∃ mu, mu < n - b ∧ ∃ (i b : Nat) (v3 : Option V) (xs : List V) (done : List (Nat × Nat)), σ' = [some (.int n), some (.ref fa), some (.int b), v3] ∧ Same H H' ∧ H' fa = some (.lst xs) ∧ All2 (Nd H') xs (done.map full) ∧ done ++ pk i n b = pk 101 n 0 ∧ b + n % 2 ^ i = n ∧ mu = n - b, fun σ' H' h => h, ?_⟩
    have e1 : (n : Int) - (b : Int) = ((n - b : Nat) : Int) := by omega
    refine ⟨_, rfl, _, rfl, _, rfl, _, _, rfl, rfl, n - b, congrArg (fun z => [V.int z]) e1, by omega, by omega, _, _, rfl, rfl, ?_⟩
    have e2 : (b : Int) + ((2 ^ (n - b).log2 : Nat) : Int) = ((b + 2 ^ h : Nat) : Int) := by rw [lh]; omega
    dsimp only
    rw [e2]
    refine ⟨_, rfl, .inl ⟨rfl, _, SqL.of hf⟩, _, rfl, _, rfl, (by show 2 ≤ sizeLine; decide), fun t nt => ?_⟩
    have s1 := same_upd (o := .tup [.int (b : Int), .int ((b + 2 ^ h : Nat) : Int)]) nt
    have hf1 := s1 _ _ hf
    refine ⟨fa, _, _, rfl, rfl, hf1, szlt (by rw [hx.len, List.length_map]; omega), ?_⟩
    refine ⟨_, rfl, ?_⟩
    refine ⟨n - (b + 2 ^ h), by omega, h, b + 2 ^ h, _, xs ++ [.ref t], done ++ [(b, h)], rfl, ?_, upd_same, ?_, ?_, by omega, rfl⟩
    · exact fun a o k => by rw [upd_ne (ne_of_none k nf)]; exact s1 _ _ (sm _ _ k)
    · rw [List.map_append]
      refine (hx.mono (fun v x (k : Nd H1 v x) => (k.same s1).upd hf1)).app (.cons ?_ .nil)
      exact Nd.upd (x := full (b, h)) ⟨t, rfl, upd_same⟩ hf1
    · rw [← hd, hp, List.append_assoc]
      rfl
  · have c1 : ¬ (b : Int) < (n : Int) := of_decide_eq_false (Bool.eq_false_iff.mpr c)
    rw [pk_nil i n b (by omega), List.append_nil] at hd
    rw [hd] at hx
    exact ⟨_, rfl, q H1 fa xs sm nf hf hx⟩
end
end LT

namespace LT
open PySem PySem.Spec PyProof.Rows L2
section
variable {P : Program} {w : World} {K : PySem.W.Frag} {mg : Str → Option Value} {base : Heap}
def spPeaks : Sp := fun vs H Q _ => ∃ (n : Nat), vs = [.int n] ∧ ∀ (H' : Hp) (p : Addr) (xs : List V), Same H H' → H p = none → H' p = some (.lst xs) → All2 (Nd H') xs ((pk 101 n 0).map full) → Q (.ref p) H'
theorem shr_bit (n j : Nat) : Builtin.bitAnd ((n : Int) / 2 ^ j) 1 = if n.testBit j then 1 else 0 := by
  have e : (n : Int) / 2 ^ j = ((n / 2 ^ j : Nat) : Int) := by
    rw [← PySem.W.kbt_cast]
    exact (Int.natCast_ediv n (2 ^ j)).symm
  rw [e, bitAnd_m1, Nat.testBit_eq_decide_div_mod_eq]
  have h : n / 2 ^ j % 2 = 0 ∨ n / 2 ^ j % 2 = 1 := by omega
  rcases h with h | h
  · rw [h, if_neg (by decide)]; omega
  · rw [h, if_pos (by decide)]; omega
theorem ok_law_peaks {f : Addr} {fd : FuncData} (F : Fun K "_law_peaks" "_law_peaks" sLawPeaks f fd) (z_range : mg "range" = none) : FnOk P w K mg base CX0 1 f fd ["size"] spPeaks := by
  refine F.ok scLawPeaks (fun vs H Q E h => ?_) (fun cdv A outer s H vs Q E hr h => ?_)
  · obtain ⟨_, rfl, _⟩ := h
    rfl
  obtain ⟨n, rfl, q⟩ := h
  refine ⟨_, (pss_cons (ps_par (i := 1) (j := 2) (by rfl) scLawPeaks.nd rfl rfl (by decide) rfl rfl (pa_cons (pe_lst pa_nil) (pa_cons pe_int pa_nil)) (by rfl))
    (pss_cons (ps_for PassesOwn.never rfl (pi_range3 (by rfl) z_range (pa_cons pe_int (pa_cons (pe_un un_neg pe_int) (pa_cons (pe_un un_neg pe_int) pa_nil)))) (pg_name (i := 3) scLawPeaks.nd rfl (Or.inl rfl))
    (pss_one (ps_if (pt_cmpR op_eq (pe_op op_and (pe_op op_shr (pv 0) (pv 3)) pe_int) pe_int (nomark _))
    (pss_cons (ps_expr (pe_bm PySem.F.plainAttrs_list PySem.F.slot_list_append PySem.F.type_list_append mt_append (pv 1) (pa_cons (pe_tup (pa_cons (pv 2) (pa_cons (pe_op op_add (pv 2) (pe_op op_shl pe_int (pv 3))) pa_nil))) pa_nil)))
    (pss_one (ps_set (i := 2) scLawPeaks.nd rfl (Or.inl rfl) (pe_op op_add (pv 2) (pe_op op_shl pe_int (pv 3))))))
    pss_nil)))
    (pss_one (ps_ret (pv 1))))), ?_⟩
  refine ⟨Nat.zero_le _, fun fa nf => ?_⟩
  refine ⟨_, _, rfl, ?_⟩
  refine ⟨_, rfl, _, rfl, 100, -1, -1, 101, rfl, (show RgC 100 (-1) (-1) 101 from RgC.neg (by decide) (by decide) (by decide) (by decide)), ?_⟩
  refine for_rangeC (lo := 100) (c := -1) (n := 101) (fun i σ H' => ∃ (b : Nat) (v3 : Option V) (xs : List V) (done : List (Nat × Nat)), σ = [some (.int n), some (.ref fa), some (.int b), v3] ∧ Same H H' ∧ H' fa = some (.lst xs) ∧ All2 (Nd H') xs (done.map full) ∧ done ++ pk (101 - i) n b = pk 101 n 0)
    ⟨0, none, [], [], rfl, same_upd nf, upd_same, .nil, rfl⟩ ?_ ?_
  · rintro i σ H1 hi ⟨b, v3, xs, done, rfl, sm, hf, hx, hd⟩
    have ej : (100 : Int) + (i : Int) * (-1) = ((100 - i : Nat) : Int) := by omega
    have ei : 101 - i = (100 - i) + 1 := by omega
    rw [ej]
    rw [ei] at hd
    have ei2 : 101 - (i + 1) = 100 - i := by omega
    have hj : 100 - i ≤ 100 := by omega
    generalize 100 - i = j at hd ei2 hj
    refine ⟨_, rfl, _, rfl, _, _, rfl, rfl, Int.natCast_nonneg _, _, _, rfl, rfl, rfl, _, rfl, ite2 (fun c => ?_) (fun c => ?_)⟩
    · have c1 : V.int (Builtin.bitAnd ((n : Int) / 2 ^ ((j : Nat) : Int).toNat) 1) = V.int 1 := of_decide_eq_true c
      have c2 := V.int.inj c1
      rw [Int.toNat_natCast, shr_bit] at c2
      have tb : n.testBit j = true := by
        by_cases t : n.testBit j = true
        · exact t
        · rw [if_neg t] at c2; exact absurd c2 (by decide)
      have two : 2 ≤ sizeLine := by decide
      have dl : done.length ≤ 101 := by
        have k1 := congrArg List.length hd
        rw [List.length_append] at k1
        have k2 := pk_len 101 n 0
        omega
      have ep : (1 : Int) * 2 ^ ((j : Nat) : Int).toNat = ((2 ^ j : Nat) : Int) := by rw [Int.one_mul, Int.toNat_natCast]; exact (Int.natCast_pow 2 j).symm
      refine ⟨_, rfl, .inl ⟨rfl, _, SqL.of hf⟩, _, rfl, _, rfl, _, rfl, _, _, rfl, rfl, ⟨Int.natCast_nonneg _, by omega, by decide⟩, _, _, rfl, rfl, two, fun t nt => ?_⟩
      dsimp only
      rw [ep]
      have s1 := same_upd (o := .tup [.int (b : Int), .int ((b : Int) + ((2 ^ j : Nat) : Int))]) nt
      have hf1 := s1 _ _ hf
      refine ⟨fa, _, _, rfl, rfl, hf1, szlt (by rw [hx.len, List.length_map]; omega), ?_⟩
      refine ⟨_, rfl, _, rfl, _, _, rfl, rfl, ⟨Int.natCast_nonneg _, by omega, by decide⟩, _, _, rfl, rfl, ?_⟩
      dsimp only
      rw [ep]
      refine ⟨b + 2 ^ j, _, xs ++ [.ref t], done ++ [(b, j)], rfl, ?_, upd_same, ?_, ?_⟩
      · exact fun a o k => by rw [upd_ne (ne_of_none k nf)]; exact s1 _ _ (sm _ _ k)
      · rw [List.map_append]
        refine (hx.mono (fun v x (k : Nd H1 v x) => (k.same s1).upd hf1)).app (.cons ?_ .nil)
        exact Nd.upd (x := full (b, j)) ⟨t, rfl, upd_same⟩ hf1
      · rw [ei2, ← hd, List.append_assoc]
        show _ = done ++ (if n.testBit j = true then (b, j) :: pk j n (b + 2 ^ j) else pk j n b)
        rw [if_pos tb]
        rfl
    · have c1 : ¬ V.int (Builtin.bitAnd ((n : Int) / 2 ^ ((j : Nat) : Int).toNat) 1) = V.int 1 := of_decide_eq_false (Bool.eq_false_iff.mpr c)
      rw [Int.toNat_natCast, shr_bit] at c1
      have t : ¬ n.testBit j = true := fun t => c1 (by rw [if_pos t])
      refine ⟨b, _, xs, done, rfl, sm, hf, hx, ?_⟩
      rw [ei2, ← hd]
      show _ = done ++ (if n.testBit j = true then (b, j) :: pk j n (b + 2 ^ j) else pk j n b)
      rw [if_neg t]
  · rintro σ H1 ⟨b, v3, xs, done, rfl, sm, hf, hx, hd⟩
    have e : pk (101 - 101) n b = [] := rfl
    rw [e, List.append_nil] at hd
    rw [hd] at hx
    exact ⟨_, rfl, q H1 fa xs sm nf hf hx⟩
def spSize : Sp := fun vs H Q _ => ∃ (b : Addr), vs = [.ref b] ∧ BagAt H b ∧ ∀ (n : Nat) (H' : Hp), 1 ≤ n → n ≤ 10 ^ 30 → But b H H' → BagAt H' b → Q (.int n) H'
theorem ok_law_size {f g1 : Addr} {fd d1 : FuncData} (F : Fun K "_law_size" "_law_size" sLawSize f fd) (GLawPick : FnOk P w K mg base CX0 1 g1 d1 ["bag", "many"] spPick) (ALawPick : At K mg "_law_pick" g1 d1 ["bag", "many"]) (z_max : mg "max" = none) (z_min : mg "min" = none) :
    FnOk P w K mg base CX0 2 f fd ["bag"] spSize := by
  refine F.ok scLawSize (fun vs H Q E h => ?_) (fun cdv A outer s H vs Q E hr h => ?_)
  · obtain ⟨_, rfl, _⟩ := h
    rfl
  obtain ⟨b, rfl, hb, q⟩ := h
  refine ⟨_, (pss_cons (ps_set (i := 1) scLawSize.nd rfl (Or.inl rfl) (pe_op op_add pe_int (pe_call GLawPick (hr.mono (by decide)) rfl ALawPick.m ALawPick.kp ALawPick.b .nil pass0 (pa_cons (pv 0) (pa_cons (pe_ix ix_list (pe_lst (pa_cons pe_int (pa_cons (pe_op op_pow pe_int pe_int) (pa_cons (pe_op op_pow pe_int pe_int) pa_nil)))) (pe_call GLawPick (hr.mono (by decide)) rfl ALawPick.m ALawPick.kp ALawPick.b .nil pass0 (pa_cons (pv 0) (pa_cons pe_int pa_nil))) (fun _ _ => rfl)) pa_nil)))))
    (pss_cons (ps_if (pt_cmpR op_eq (pe_call GLawPick (hr.mono (by decide)) rfl ALawPick.m ALawPick.kp ALawPick.b .nil pass0 (pa_cons (pv 0) (pa_cons pe_int pa_nil))) pe_int (nomark _))
    (pss_one (ps_set (i := 1) scLawSize.nd rfl (Or.inl rfl) (pe_op op_sub (pe_op op_add (pe_op op_shl pe_int (pe_call GLawPick (hr.mono (by decide)) rfl ALawPick.m ALawPick.kp ALawPick.b .nil pass0 (pa_cons (pv 0) (pa_cons pe_int pa_nil)))) (pe_call GLawPick (hr.mono (by decide)) rfl ALawPick.m ALawPick.kp ALawPick.b .nil pass0 (pa_cons (pv 0) (pa_cons pe_int pa_nil)))) pe_int)))
    pss_nil)
    (pss_one (ps_ret (pe_callB (call_min2 rfl) (by rfl) z_min (by decide +kernel) (pa_cons (pe_op op_pow pe_int pe_int) (pa_cons (pe_callB (call_max2 rfl) (by rfl) z_max (by decide +kernel) (pa_cons pe_int (pa_cons (pv 1) pa_nil))) pa_nil))))))), ?_⟩
  have hbN : ∃ o, H b = some o := by obtain ⟨x, y, z, e⟩ := hb; exact ⟨_, e⟩
  -- the first line
  refine ⟨_, rfl, _, _, rfl, rfl, ⟨by decide, by decide, by decide⟩, _, _, rfl, rfl, ⟨by decide, by decide, by decide⟩, (by show 3 ≤ sizeLine; decide), fun l nl => ?_⟩
  have s1 := same_upd (o := .lst [.int 40, .int (10 ^ (9 : Int).toNat), .int (10 ^ (30 : Int).toNat)]) nl
  have hlb : l ≠ b := fun e => by obtain ⟨o, e2⟩ := hbN; rw [← e, nl] at e2; cases e2
  refine ⟨_, rfl, b, 3, rfl, by decide, by decide, hb.same s1, fun r H2 r0 r1 k2 b2 => ?_⟩
  have h2l : H2 l = some (.lst [.int 40, .int (10 ^ (9 : Int).toNat), .int (10 ^ (30 : Int).toNat)]) := by rw [k2 l hlb]; exact upd_same
  have B2 : But b H H2 := fun a o n h => by rw [k2 a n]; exact s1 _ _ h
  obtain ⟨rn, rfl⟩ := Int.eq_ofNat_of_zero_le r0
  have hv : ∃ m : Int, atI [V.int 40, V.int (10 ^ (9 : Int).toNat), V.int (10 ^ (30 : Int).toNat)] (rn : Int) = some (.int m) ∧ 0 < m ∧ m ≤ 10 ^ 30 := by
    have : rn = 0 ∨ rn = 1 ∨ rn = 2 := by omega
    rcases this with h | h | h
    · subst h; exact ⟨40, atI_nat (j := 0) rfl, by decide, by decide⟩
    · subst h; exact ⟨_, atI_nat (j := 1) rfl, by decide, by decide⟩
    · subst h; exact ⟨_, atI_nat (j := 2) rfl, by decide, by decide⟩
  obtain ⟨m, hm, m0, m1⟩ := hv
  refine ⟨l, _, _, _, rfl, rfl, SqL.of h2l, hm, b, m, rfl, m0, (show m.natAbs < 2 ^ 250 by omega), b2, fun r3 H3 r30 r31 k3 b3 => ?_⟩
  have B3 : But b H H3 := fun a o n h => by rw [k3 a n]; exact B2 a o n h
  refine ⟨_, _, rfl, rfl, ?_⟩
  -- if _law_pick(bag, 3) == 0
  refine ⟨_, rfl, b, 3, rfl, by decide, by decide, b3, fun r4 H4 r40 r41 k4 b4 => ⟨rfl, _, rfl, ?_⟩⟩
  have B4 : But b H H4 := fun a o n h => by rw [k4 a n]; exact B3 a o n h
  have fin : ∀ (z : Int) (H5 : Hp), But b H H5 → BagAt H5 b → Q (.int (if (if z > 1 then z else 1) < 10 ^ (30 : Int).toNat then (if z > 1 then z else 1) else 10 ^ (30 : Int).toNat)) H5 := fun z H5 B5 b5 => by
    have e : (10 : Int) ^ (30 : Int).toNat = 10 ^ 30 := rfl
    rw [e]
    have z1 : 1 ≤ (if z > 1 then z else 1) := by split <;> omega
    generalize (if z > 1 then z else 1) = y at z1
    have y1 : 1 ≤ (if y < 10 ^ 30 then y else 10 ^ 30) ∧ (if y < 10 ^ 30 then y else 10 ^ 30) ≤ 10 ^ 30 := by split <;> omega
    generalize (if y < 10 ^ 30 then y else 10 ^ 30) = u at y1
    obtain ⟨un, rfl⟩ := Int.eq_ofNat_of_zero_le (show 0 ≤ u by omega)
    exact q un H5 (by omega) (by omega) B5 b5
  refine ite2 (fun c => ?_) (fun c => ?_)
  · refine ⟨_, rfl, b, 100, rfl, by decide, by decide, b4, fun r5 H5 r50 r51 k5 b5 => ⟨_, _, rfl, rfl, ⟨r50, by omega, by decide⟩, _, rfl, b, 3, rfl, by decide, by decide, b5, fun r6 H6 r60 r61 k6 b6 => ⟨_, _, rfl, rfl, _, _, rfl, rfl, ?_⟩⟩⟩
    have B6 : But b H H6 := fun a o n h => by rw [k6 a n, k5 a n]; exact B4 a o n h
    exact ⟨_, _, rfl, rfl, ⟨by decide, by decide, by decide⟩, _, rfl, _, _, rfl, _, _, rfl, fin _ H6 B6 b6⟩
  · exact ⟨_, _, rfl, rfl, ⟨by decide, by decide, by decide⟩, _, rfl, _, _, rfl, _, _, rfl, fin _ H4 B4 b4⟩
end
end LT

namespace LT
open PySem PySem.Spec PyProof.Rows L2
theorem cut_last (xs : List V) : cutV xs none (some (-1)) = xs.dropLast := by
  unfold cutV
  have e : HT.sIx xs.length xs.length (some (-1)) = xs.length - 1 := by
    show (if (-1 : Int) < 0 then ((-1 : Int) + (xs.length : Int)).toNat else min (-1 : Int).toNat xs.length) = _
    rw [if_pos (by decide)]
    omega
  rw [e, HT.sIx_none, List.drop_zero, Nat.sub_zero, List.dropLast_eq_take]
theorem All2.droplast {α : Type} {R : V → α → Prop} : ∀ {vs : List V} {xs : List α}, All2 R vs xs → All2 R vs.dropLast xs.dropLast
  | _, _, .nil => .nil
  | _, _, .cons _ .nil => .nil
  | _, _, .cons h (.cons k t) => .cons h (All2.droplast (.cons k t))
/-- how many peaks -/
def npk (n : Nat) : Nat := (pk 101 n 0).length
theorem npk_pos {n : Nat} (h : 1 ≤ n) (h30 : n ≤ 10 ^ 30) : 1 ≤ npk n := by
  have k := pk_ne 101 n 0 (by rw [Nat.mod_eq_of_lt (Nat.lt_of_le_of_lt h30 (by decide))]; omega)
  unfold npk
  cases hh : pk 101 n 0 with
  | nil => exact absurd hh k
  | cons _ _ => rw [List.length_cons]; omega
/-- how many of each height -/
def hcount (n : Nat) (k : Int) : Int := if k < 0 ∨ k > ((Builtin.Int.intBits (n : Int) : Nat) : Int) then 0 else if k = 0 then (n : Int) else (((n : Int) - 1) / 2 ^ (k - 1).toNat + 1) / 2
def ccount (n o : Nat) : Int := if n = o then 2 * (min n o : Nat) - 1 else 2 * (min n o : Nat) - 1 - ((npk (min n o) - 1 : Nat) : Int)
section
variable {P : Program} {w : World} {K : PySem.W.Frag} {mg : Str → Option Value} {base : Heap}
def spEdges : Sp := fun vs H Q _ => ∃ (n : Nat), vs = [.int n] ∧ 1 ≤ n ∧ n ≤ 10 ^ 30 ∧ ∀ (H' : Hp) (p : Addr) (xs : List V), Same H H' → H p = none → H' p = some (.lst xs) → All2 (Nd H') xs (((pk 101 n 0).map full).dropLast.map fun x => (x.1, n)) → Q (.ref p) H'
theorem ok_edges {f g1 : Addr} {fd d1 : FuncData} (F : Fun K "edges" "edges" sEdges f fd) (GPeaks : FnOk P w K mg base CX0 4 g1 d1 ["size"] spTops) (APeaks : At K mg "peaks" g1 d1 ["size"]) : FnOk P w K mg base CX0 5 f fd ["size"] spEdges := by
  refine F.ok scEdges (fun vs H Q E h => ?_) (fun cdv A outer s H vs Q E hr h => ?_)
  · obtain ⟨_, rfl, _⟩ := h
    rfl
  obtain ⟨n, rfl, h1, h30, q⟩ := h
  refine ⟨_, (pss_one (ps_ret (pe_lc (own := [("begin", 1), ("_", 2)]) rfl scEdges.nd (pi_list (pe_slice sl_list (pe_call GPeaks (hr.mono (by decide)) rfl APeaks.m APeaks.kp APeaks.b .nil pass0 (pa_cons (pv 0) pa_nil)) po_none (po_some (pe_un un_neg pe_int)))) (blkOk_by (N := ["size", "begin", "_"]) (sc := defScope sEdges) (by decide +kernel)) (fun _ _ _ _ _ => (pg_tupB (n := 2) rfl (pgs_cons (pg_name (i := 1) scEdges.nd rfl (Or.inl rfl)) (pgs_cons (pg_name (i := 2) scEdges.nd rfl (Or.inl rfl)) pgs_nil)))) (fun _ _ _ _ _ => pts_nil) (fun _ _ _ _ _ => (pe_tup (pa_cons (pv 1) (pa_cons (pv 0) pa_nil))))))), ?_⟩
  refine ⟨_, rfl, n, rfl, h1, h30, fun H1 p xs sm np hp hx => ?_⟩
  have L101 : ((pk 101 n 0).map full).length ≤ 101 := by rw [List.length_map]; exact pk_len 101 n 0
  generalize (pk 101 n 0).map full = L at q hx L101
  refine ⟨1, rfl, -1, rfl, p, _, rfl, SqL.of hp, fun c nc => ?_⟩
  have sc := same_upd (o := .lst (cutV xs none (some (-1)))) nc
  have hc : (upd H1 c (.lst (cutV xs none (some (-1))))) c = some (.lst xs.dropLast) := by rw [upd_same, cut_last]
  have hx1 := (hx.mono (fun v x (k : Nd H1 v x) => k.same sc)).droplast
  generalize upd H1 c (.lst (cutV xs none (some (-1)))) = H2 at hc hx1 sc
  refine ⟨c, rfl, ⟨_, SqL.of hc⟩, fun D nD => lc_list (xs := xs.dropLast) (fun i H' => ∃ ys : List V, Same H2 H' ∧ H' D = some (.lst ys) ∧ All2 (Nd H') ys ((L.dropLast.take i).map fun x => (x.1, n))) ⟨[], same_upd nD, upd_same, .nil⟩ (fun i H' _ ⟨_, k, _⟩ => SqL.of (k _ _ hc)) ?_ ?_⟩
  · rintro i x H3 hi ⟨ys, s3, hD, hy3⟩
    obtain ⟨y, hy, xp, rfl, hxp⟩ := hx1.nth hi
    have il : i < L.dropLast.length := (List.getElem?_eq_some_iff.mp hy).1
    rw [List.length_dropLast] at il
    refine ⟨xp, _, rfl, SqT.of (s3 _ _ hxp), rfl, _, _, rfl, _, _, rfl, rfl, rfl, ?_⟩
    refine ⟨_, rfl, _, rfl, (by show 2 ≤ sizeLine; decide), fun t nt => ?_⟩
    have st := same_upd (o := .tup [.int (y.1 : Int), .int (n : Int)]) nt
    refine ⟨ys, st _ _ hD, szlt (by rw [hy3.len, List.length_map, List.length_take, List.length_dropLast]; omega), ys ++ [.ref t], ?_, upd_same, ?_⟩
    · exact fun a o k => by rw [upd_ne (ne_of_none k nD)]; exact st _ _ (s3 _ _ k)
    · rw [take_more hy, List.map_append]
      exact (hy3.mono (fun v x (k : Nd H3 v x) => (k.same st).upd (st _ _ hD))).app (.cons (Nd.upd (x := (y.1, n)) ⟨t, rfl, upd_same⟩ (st _ _ hD)) .nil)
  rintro H3 ⟨ys, s3, hD, hy3⟩
  have et : L.dropLast.take xs.dropLast.length = L.dropLast := List.take_of_length_le (by rw [hx1.len]; exact Nat.le_refl _)
  rw [et] at hy3
  refine q H3 D ys (sm.trans (sc.trans s3)) ?_ hD hy3
  exact (sm.trans sc).free nD
def spNodeCount : Sp := fun vs H Q _ => ∃ (n : Nat), vs = [.int n] ∧ 1 ≤ n ∧ n ≤ 10 ^ 30 ∧ ∀ (H' : Hp) (p : Addr), Same H H' → H' p = some (.tup [.int (2 * (n : Int) - 1 - ((npk n - 1 : Nat) : Int)), .int ((npk n - 1 : Nat) : Int)]) → Q (.ref p) H'
theorem ok_node_count {f g1 : Addr} {fd d1 : FuncData} (F : Fun K "node_count" "node_count" sNodeCount f fd) (GEdges : FnOk P w K mg base CX0 5 g1 d1 ["size"] spEdges) (AEdges : At K mg "edges" g1 d1 ["size"]) (z_len : mg "len" = none) : FnOk P w K mg base CX0 6 f fd ["size"] spNodeCount := by
  refine F.ok scNodeCount (fun vs H Q E h => ?_) (fun cdv A outer s H vs Q E hr h => ?_)
  · obtain ⟨_, rfl, _⟩ := h
    rfl
  obtain ⟨n, rfl, h1, h30, q⟩ := h
  refine ⟨_, (pss_cons (ps_set (i := 1) scNodeCount.nd rfl (Or.inl rfl) (pe_callB call_len_seq (by rfl) z_len PySem.boot_len (pa_cons (pe_call GEdges (hr.mono (by decide)) rfl AEdges.m AEdges.kp AEdges.b .nil pass0 (pa_cons (pv 0) pa_nil)) pa_nil)))
    (pss_one (ps_ret (pe_tup (pa_cons (pe_op op_sub (pe_op op_sub (pe_op op_mul pe_int (pv 0)) pe_int) (pv 1)) (pa_cons (pv 1) pa_nil)))))), ?_⟩
  refine ⟨_, rfl, n, rfl, h1, h30, fun H1 p xs sm np hp hx => ?_⟩
  have xl : xs.length = npk n - 1 := by
    rw [hx.len, List.length_map, List.length_dropLast, List.length_map]
    rfl
  refine ⟨p, xs, rfl, .inl (SqL.of hp), ?_⟩
  dsimp only
  rw [xl]
  refine ⟨_, rfl, _, _, rfl, rfl, .inl ⟨by decide, by decide⟩, _, _, rfl, rfl, _, rfl, _, _, rfl, rfl, _, rfl, (by show 2 ≤ sizeLine; decide), fun t nt => ?_⟩
  exact q _ t (sm.trans (same_upd nt)) upd_same
def spCommon : Sp := fun vs H Q _ => ∃ (n o : Nat), vs = [.int n, .int o] ∧ 1 ≤ n ∧ n ≤ 10 ^ 30 ∧ 1 ≤ o ∧ o ≤ 10 ^ 30 ∧ ∀ (H' : Hp), Same H H' → Q (.int (ccount n o)) H'
theorem min_castC (a c : Nat) : (if ((c : Nat) : Int) < (a : Int) then (c : Int) else (a : Int)) = ((min a c : Nat) : Int) := by split <;> omega
theorem ok_common_count {f g1 g2 : Addr} {fd d1 d2 : FuncData} (F : Fun K "common_count" "common_count" sCommonCount f fd) (GCheckSize : FnOk P w K mg base CX0 3 g1 d1 ["size"] spCheckSize) (ACheckSize : At K mg "check_size" g1 d1 ["size"])
    (GNodeCount : FnOk P w K mg base CX0 6 g2 d2 ["size"] spNodeCount) (ANodeCount : At K mg "node_count" g2 d2 ["size"]) (z_min : mg "min" = none) : FnOk P w K mg base CX0 7 f fd ["size", "other"] spCommon := by
  refine F.ok scCommonCount (fun vs H Q E h => ?_) (fun cdv A outer s H vs Q E hr h => ?_)
  · obtain ⟨_, _, rfl, _⟩ := h
    rfl
  obtain ⟨n, o, rfl, h1, h30, o1, o30, q⟩ := h
  refine ⟨_, (pss_cons (ps_expr (pe_call GCheckSize (hr.mono (by decide)) rfl ACheckSize.m ACheckSize.kp ACheckSize.b .nil pass0 (pa_cons (pv 0) pa_nil)))
    (pss_cons (ps_expr (pe_call GCheckSize (hr.mono (by decide)) rfl ACheckSize.m ACheckSize.kp ACheckSize.b .nil pass0 (pa_cons (pv 1) pa_nil)))
    (pss_cons (ps_asg (pe_call GNodeCount (hr.mono (by decide)) rfl ANodeCount.m ANodeCount.kp ANodeCount.b .nil pass0 (pa_cons (pe_callB (call_min2 rfl) (by rfl) z_min (by decide +kernel) (pa_cons (pv 0) (pa_cons (pv 1) pa_nil))) pa_nil)) (pg_tup (by rfl) (pgs_cons (pg_name (i := 2) scCommonCount.nd rfl (Or.inl rfl)) (pgs_cons (pg_name (i := 3) scCommonCount.nd rfl (Or.inl rfl)) pgs_nil))))
    (pss_cons (ps_if (pt_cmpR op_eq (pv 0) (pv 1) (nomark _))
    (pss_one (ps_ret (pe_op op_add (pv 2) (pv 3))))
    pss_nil)
    (pss_one (ps_ret (pv 2))))))), ?_⟩
  refine ⟨_, rfl, n, rfl, by omega, by omega, ?_⟩
  refine ⟨_, rfl, o, rfl, by omega, by omega, ?_⟩
  refine ⟨_, rfl, _, rfl, _, _, rfl, min n o, congrArg (fun z => [V.int z]) (min_castC n o), by omega, by omega, fun H1 p sm hp => ?_⟩
  refine ⟨p, _, rfl, SqT.of hp, rfl, _, _, rfl, _, _, rfl, rfl, ?_⟩
  have np := npk_pos (n := min n o) (by omega) (by omega)
  refine ⟨_, rfl, _, rfl, rfl, _, rfl, ite2 (fun c => ?_) (fun c => ?_)⟩
  · have c1 : V.int (n : Int) = V.int (o : Int) := of_decide_eq_true c
    have c2 := V.int.inj c1
    refine ⟨_, rfl, _, rfl, _, _, rfl, rfl, ?_⟩
    have k := q _ sm
    unfold ccount at k
    rw [if_pos (by omega)] at k
    have e : 2 * ((min n o : Nat) : Int) - 1 - ((npk (min n o) - 1 : Nat) : Int) + ((npk (min n o) - 1 : Nat) : Int) = 2 * ((min n o : Nat) : Int) - 1 := by omega
    show Q (.int (2 * ((min n o : Nat) : Int) - 1 - ((npk (min n o) - 1 : Nat) : Int) + ((npk (min n o) - 1 : Nat) : Int))) H1
    rw [e]
    exact k
  · have c1 : ¬ V.int (n : Int) = V.int (o : Int) := of_decide_eq_false (Bool.eq_false_iff.mpr c)
    have k := q _ sm
    unfold ccount at k
    rw [if_neg (fun z => c1 (by rw [z]))] at k
    exact ⟨_, rfl, k⟩
def spHeights : Sp := fun vs H Q _ => ∃ (n : Nat) (k : Int), vs = [.int n, .int k] ∧ 1 ≤ n ∧ n ≤ 10 ^ 30 ∧ Q (.int (hcount n k)) H
theorem ok_height_count {f g1 g2 : Addr} {fd d1 d2 : FuncData} (F : Fun K "height_count" "height_count" sHeightCount f fd) (GCheckSize : FnOk P w K mg base CX0 3 g1 d1 ["size"] spCheckSize) (ACheckSize : At K mg "check_size" g1 d1 ["size"])
    (GCheckNumber : FnOk P w K mg base CX0 2 g2 d2 ["number"] spCheckNumber) (ACheckNumber : At K mg "check_number" g2 d2 ["number"]) : FnOk P w K mg base CX0 4 f fd ["size", "number"] spHeights := by
  refine F.ok scHeightCount (fun vs H Q E h => ?_) (fun cdv A outer s H vs Q E hr h => ?_)
  · obtain ⟨_, _, rfl, _⟩ := h
    rfl
  obtain ⟨n, k, rfl, h1, h30, q⟩ := h
  unfold hcount at q
  refine ⟨_, (pss_cons (ps_expr (pe_call GCheckSize (hr.mono (by decide)) rfl ACheckSize.m ACheckSize.kp ACheckSize.b .nil pass0 (pa_cons (pv 0) pa_nil)))
    (pss_cons (ps_expr (pe_call GCheckNumber (hr.mono (by decide)) rfl ACheckNumber.m ACheckNumber.kp ACheckNumber.b .nil pass0 (pa_cons (pv 1) pa_nil)))
    (pss_cons (ps_if (PW.pt (pw_or (pt_cmpR op_lt (pv 1) pe_int (nomark _)) (pw_or1 (pt_cmpR op_gt (pv 1) (pe_bits (pv 0)) (nomark _)))))
    (pss_one (ps_ret pe_int))
    pss_nil)
    (pss_cons (ps_if (pt_cmpR op_eq (pv 1) pe_int (nomark _))
    (pss_one (ps_ret (pv 0)))
    pss_nil)
    (pss_cons (ps_set (i := 2) scHeightCount.nd rfl (Or.inl rfl) (pe_op op_add (pe_op op_shr (pe_op op_sub (pv 0) pe_int) (pe_op op_sub (pv 1) pe_int)) pe_int))
    (pss_one (ps_ret (pe_op op_fdivW (pv 2) pe_int)))))))), ?_⟩
  refine ⟨_, rfl, n, rfl, by omega, by omega, ?_⟩
  refine ⟨_, rfl, k, rfl, ?_⟩
  refine ⟨_, rfl, _, _, rfl, rfl, _, rfl, ite2 (fun c => ?_) (fun c => ?_)⟩
  · have c1 : k < 0 := of_decide_eq_true c
    rw [if_pos (Or.inl c1)] at q
    exact q
  have c1 : ¬ k < 0 := of_decide_eq_false (Bool.eq_false_iff.mpr c)
  refine ⟨_, rfl, _, rfl, _, rfl, _, _, rfl, rfl, _, rfl, ite2 (fun c => ?_) (fun c => ?_)⟩
  · have c2 : k > ((Builtin.Int.intBits (n : Int) : Nat) : Int) := of_decide_eq_true c
    rw [if_pos (Or.inr c2)] at q
    exact q
  have c2 : ¬ k > ((Builtin.Int.intBits (n : Int) : Nat) : Int) := of_decide_eq_false (Bool.eq_false_iff.mpr c)
  rw [if_neg (fun z => z.elim c1 c2)] at q
  refine ⟨_, rfl, rfl, _, rfl, ite2 (fun c => ?_) (fun c => ?_)⟩
  · have c3 : V.int k = V.int 0 := of_decide_eq_true c
    rw [if_pos (V.int.inj c3)] at q
    exact ⟨_, rfl, q⟩
  have c3 : ¬ V.int k = V.int 0 := of_decide_eq_false (Bool.eq_false_iff.mpr c)
  rw [if_neg (fun z => c3 (by rw [z]))] at q
  have k0 : k ≠ 0 := fun z => c3 (by rw [z])
  refine ⟨_, rfl, _, _, rfl, rfl, _, rfl, _, _, rfl, rfl, _, _, rfl, rfl, (show 0 ≤ k - 1 by omega), _, _, rfl, rfl, ?_⟩
  exact ⟨_, rfl, _, _, rfl, rfl, wide_div (b := 2) (by decide) (by decide) (by decide) (by decide), q⟩
end
end LT

namespace LT
open PySem PySem.Spec PyProof.Rows L2
theorem pk_at : ∀ (i m b : Nat) (x : Nat × Nat), x ∈ pk i m b → x.1 + 2 ^ x.2 ≤ b + m % 2 ^ i
  | 0, _, _, _, h => by simp [pk] at h
  | i + 1, m, b, x, h => by
    rw [mod_succ]
    unfold pk at h
    cases t : m.testBit i with
    | true =>
      rw [t] at h; simp at h
      rw [if_pos rfl]
      rcases h with h | h
      · subst h; simp only; omega
      · have := pk_at i m _ x h; omega
    | false =>
      rw [t] at h; simp at h
      have := pk_at i m b x h
      rw [if_neg (by decide)]
      omega
theorem sum_shr (n : Nat) : ∀ k, (((List.range k).map fun j => (n : Int) / 2 ^ j).sum : Int) = ((sumsh k n : Nat) : Int)
  | 0 => rfl
  | k + 1 => by
    rw [List.range_succ, List.map_append, List.sum_append, sum_shr n k]
    have e : (n : Int) / 2 ^ k = ((n / 2 ^ k : Nat) : Int) := by
      rw [← PySem.W.kbt_cast]
      exact (Int.natCast_ediv n (2 ^ k)).symm
    show ((sumsh k n : Nat) : Int) + ((n : Int) / 2 ^ k + 0) = ((sumsh k n + n / 2 ^ k : Nat) : Int)
    rw [e]
    omega
theorem full_is {n : Nat} (h30 : n ≤ 10 ^ 30) : sumsh 101 n + npk n = 2 * n := by
  have k := sumsh_is n 101
  rw [Nat.div_eq_of_lt (Nat.lt_of_le_of_lt h30 (by decide))] at k
  have : (pk 101 n 0).length = npk n := rfl
  omega
theorem hcount_nat {n k : Nat} (h : 1 ≤ n) (h30 : n ≤ 10 ^ 30) : hcount n (k : Int) = (n : Int) / 2 ^ k + ((bareB n k 101 : Nat) : Int) := by
  have e : (n : Int) / 2 ^ k = ((n / 2 ^ k : Nat) : Int) := by
    rw [← PySem.W.kbt_cast]
    exact (Int.natCast_ediv n (2 ^ k)).symm
  have hi := height_is (k := k) h (Nat.lt_of_le_of_lt h30 (by decide))
  have bn : Builtin.Int.intBits (n : Int) = n.log2 + 1 := by rw [bits_nat, if_neg (by omega)]
  unfold hcount
  rw [bn, e]
  by_cases big : k > n.log2 + 1
  · rw [if_pos (.inr (by omega))]
    have l2 := Nat.lt_log2_self (n := n)
    have p2 : 2 ^ (n.log2 + 1) ≤ 2 ^ k := Nat.pow_le_pow_right (by decide) (by omega)
    have p3 : 2 ^ (n.log2 + 1) ≤ 2 ^ (k - 1) := Nat.pow_le_pow_right (by decide) (by omega)
    rw [Nat.div_eq_of_lt (by omega)]
    unfold bareB
    rw [if_neg (fun z => ?_)]
    · rfl
    · have := Nat.testBit_lt_two_pow (x := n) (i := k - 1) (by omega)
      rw [this] at z
      exact absurd z.2.2.1 (by decide)
  · rw [if_neg (by omega)]
    by_cases k0 : k = 0
    · rw [if_pos k0] at hi
      rw [if_pos (by omega)]
      omega
    · rw [if_neg k0] at hi
      rw [if_neg (by omega)]
      have e1 : ((k : Int) - 1).toNat = k - 1 := by omega
      have e2 : (n : Int) - 1 = ((n - 1 : Nat) : Int) := by omega
      rw [e1, e2, ← PySem.W.kbt_cast, ← Int.natCast_ediv]
      omega
theorem tops_drop (n : Nat) : ((pk 101 n 0).map full).dropLast = (pk 101 n 0).dropLast.map full := by
  rw [List.map_dropLast]
section
variable {P : Program} {w : World} {K : PySem.W.Frag} {mg : Str → Option Value} {base : Heap}
def spCounts : Sp := fun vs H Q _ => ∃ (bg : Addr) (n : Nat), vs = [.ref bg, .int n] ∧ BagAt H bg ∧ 1 ≤ n ∧ n ≤ 10 ^ 30 ∧ ∀ (H' : Hp), But bg H H' → BagAt H' bg → Q (.bl true) H'
theorem ok_law_counts_right {f g1 g2 g3 g4 g5 g6 g7 g8 : Addr} {fd d1 d2 d3 d4 d5 d6 d7 d8 : FuncData} (F : Fun K "_law_counts_right" "_law_counts_right" sLawCountsRight f fd)
    (GLawPeaks : FnOk P w K mg base CX0 1 g1 d1 ["size"] spPeaks) (ALawPeaks : At K mg "_law_peaks" g1 d1 ["size"])
    (GPeaks : FnOk P w K mg base CX0 4 g2 d2 ["size"] spTops) (APeaks : At K mg "peaks" g2 d2 ["size"])
    (GEdges : FnOk P w K mg base CX0 5 g3 d3 ["size"] spEdges) (AEdges : At K mg "edges" g3 d3 ["size"])
    (GNodeCount : FnOk P w K mg base CX0 6 g4 d4 ["size"] spNodeCount) (ANodeCount : At K mg "node_count" g4 d4 ["size"])
    (GLawPick : FnOk P w K mg base CX0 1 g5 d5 ["bag", "many"] spPick) (ALawPick : At K mg "_law_pick" g5 d5 ["bag", "many"])
    (GHeightCount : FnOk P w K mg base CX0 4 g6 d6 ["size", "number"] spHeights) (AHeightCount : At K mg "height_count" g6 d6 ["size", "number"])
    (GLawSize : FnOk P w K mg base CX0 2 g7 d7 ["bag"] spSize) (ALawSize : At K mg "_law_size" g7 d7 ["bag"])
    (GCommonCount : FnOk P w K mg base CX0 7 g8 d8 ["size", "other"] spCommon) (ACommonCount : At K mg "common_count" g8 d8 ["size", "other"])
    (z_sum : mg "sum" = none) (z_range : mg "range" = none) (z_len : mg "len" = none) (z_max : mg "max" = none) (z_min : mg "min" = none) : FnOk P w K mg base CX0 8 f fd ["bag", "size"] spCounts := by
  refine F.ok scLawCountsRight (fun vs H Q E h => ?_) (fun cdv A outer s H vs Q E hr h => ?_)
  · obtain ⟨_, _, rfl, _⟩ := h
    rfl
  obtain ⟨bg, n, rfl, hb, n1, h30, q⟩ := h
  have two : 2 ≤ sizeLine := by decide
  refine' ⟨_, (pss_cons (ps_set (i := 2) scLawCountsRight.nd rfl (Or.inl rfl) (pe_call GLawPeaks (hr.mono (by decide)) rfl ALawPeaks.m ALawPeaks.kp ALawPeaks.b .nil pass0 (pa_cons (pv 1) pa_nil)))
    (pss_cons ?cc1
    (pss_cons (ps_if (PW.pt (pw_or (pt_cmpR (op_neD hr.units) (pe_call GPeaks (hr.mono (by decide)) rfl APeaks.m APeaks.kp APeaks.b .nil pass0 (pa_cons (pv 1) pa_nil)) (pv 2) (nomark _)) (pw_or1 (pt_cmpR (op_neD hr.units) (pe_call GEdges (hr.mono (by decide)) rfl AEdges.m AEdges.kp AEdges.b .nil pass0 (pa_cons (pv 1) pa_nil)) (pe_lc (own := [("begin", 12)]) rfl scLawCountsRight.nd (pi_list (pv 3)) (blkOk_by (N := ["bag", "size", "told", "begins", "full", "top", "number", "bare", "other", "less", "peak", "bit", "begin"]) (sc := defScope sLawCountsRight) (by decide +kernel)) (fun _ _ _ _ _ => (pg_name (i := 12) scLawCountsRight.nd rfl (Or.inl rfl))) (fun _ _ _ _ _ => pts_nil) (fun _ _ _ _ _ => (pe_tup (pa_cons (pv 12) (pa_cons (pv 1) pa_nil))))) (nomark _)))))
    (pss_one (ps_ret pe_bl))
    pss_nil)
    (pss_cons (ps_set (i := 4) scLawCountsRight.nd rfl (Or.inl rfl) (pe_callB (cr_sum rfl) (by rfl) z_sum (by decide +kernel) (pa_cons (pe_lc (own := [("bit", 11)]) rfl scLawCountsRight.nd (pi_range1 (by rfl) z_range (pa_cons pe_int pa_nil)) (blkOk_by (N := ["bag", "size", "told", "begins", "full", "top", "number", "bare", "other", "less", "peak", "bit", "begin"]) (sc := defScope sLawCountsRight) (by decide +kernel)) (fun _ _ _ _ _ => (pg_name (i := 11) scLawCountsRight.nd rfl (Or.inl rfl))) (fun _ _ _ _ _ => pts_nil) (fun _ _ _ _ _ => (pe_op op_shr (pv 1) (pv 11)))) pa_nil)))
    (pss_cons (ps_if (PW.pt (pw_or (pt_cmpR (op_neD hr.units) (pe_call GNodeCount (hr.mono (by decide)) rfl ANodeCount.m ANodeCount.kp ANodeCount.b .nil pass0 (pa_cons (pv 1) pa_nil)) (pe_tup (pa_cons (pv 4) (pa_cons (pe_callB call_len_seq (by rfl) z_len PySem.boot_len (pa_cons (pv 3) pa_nil)) pa_nil))) (nomark _)) (pw_or1 (pt_cmpR op_ne (pe_op op_add (pv 4) (pe_callB call_len_seq (by rfl) z_len PySem.boot_len (pa_cons (pv 3) pa_nil))) (pe_op op_sub (pe_op op_mul pe_int (pv 1)) pe_int) (nomark _)))))
    (pss_one (ps_ret pe_bl))
    pss_nil)
    (pss_cons (ps_set (i := 5) scLawCountsRight.nd rfl (Or.inl rfl) (pe_callB (cr_max rfl) (by rfl) z_max (by decide +kernel) (pa_cons (pe_lc (own := [("bit", 11)]) rfl scLawCountsRight.nd (pi_range1 (by rfl) z_range (pa_cons pe_int pa_nil)) (blkOk_by (N := ["bag", "size", "told", "begins", "full", "top", "number", "bare", "other", "less", "peak", "bit", "begin"]) (sc := defScope sLawCountsRight) (by decide +kernel)) (fun _ _ _ _ _ => (pg_name (i := 11) scLawCountsRight.nd rfl (Or.inl rfl))) (fun _ _ _ _ _ => pts_one (pt_cmpR op_gt (pe_op op_shr (pv 1) (pv 11)) pe_int (nomark _))) (fun _ _ _ _ _ => (pv 11))) pa_nil)))
    (pss_cons (ps_for PassesOwn.never rfl (pi_tup (pe_tup (pa_cons pe_int (pa_cons pe_int (pa_cons (pe_call GLawPick (hr.mono (by decide)) rfl ALawPick.m ALawPick.kp ALawPick.b .nil pass0 (pa_cons (pv 0) (pa_cons pe_int pa_nil))) (pa_cons (pv 5) (pa_cons (pe_op op_add (pv 5) pe_int) pa_nil))))))) (pg_name (i := 6) scLawCountsRight.nd rfl (Or.inr rfl))
    (pss_cons (ps_set (i := 7) scLawCountsRight.nd rfl (Or.inl rfl) (pe_callB call_len_seq (by rfl) z_len PySem.boot_len (pa_cons (pe_lc (own := [("begin", 12)]) rfl scLawCountsRight.nd (pi_list (pv 3)) (blkOk_by (N := ["bag", "size", "told", "begins", "full", "top", "number", "bare", "other", "less", "peak", "bit", "begin"]) (sc := defScope sLawCountsRight) (by decide +kernel)) (fun _ _ _ _ _ => (pg_name (i := 12) scLawCountsRight.nd rfl (Or.inl rfl))) (fun _ _ _ _ _ => pts_one (pt_chain op_ge op_gt (pe_op op_shl pe_int (pv 6)) (pe_op op_sub (pv 1) (pv 12)) (pe_op op_fdivW (pe_op op_shl pe_int (pv 6)) pe_int))) (fun _ _ _ _ _ => pe_int)) pa_nil)))
    (pss_one (ps_if (pt_cmpR op_ne (pe_call GHeightCount (hr.mono (by decide)) rfl AHeightCount.m AHeightCount.kp AHeightCount.b .nil pass0 (pa_cons (pv 1) (pa_cons (pv 6) pa_nil))) (pe_op op_add (pe_op op_shr (pv 1) (pv 6)) (pv 7)) (nomark _))
    (pss_one (ps_ret pe_bl))
    pss_nil))))
    (pss_cons (ps_set (i := 8) scLawCountsRight.nd rfl (Or.inr rfl) (pe_call GLawSize (hr.mono (by decide)) rfl ALawSize.m ALawSize.kp ALawSize.b .nil pass0 (pa_cons (pv 0) pa_nil)))
    (pss_cons (ps_set (i := 9) scLawCountsRight.nd rfl (Or.inl rfl) (pe_callB (cr_sum rfl) (by rfl) z_sum (by decide +kernel) (pa_cons (pe_lc (own := [("bit", 11)]) rfl scLawCountsRight.nd (pi_range1 (by rfl) z_range (pa_cons pe_int pa_nil)) (blkOk_by (N := ["bag", "size", "told", "begins", "full", "top", "number", "bare", "other", "less", "peak", "bit", "begin"]) (sc := defScope sLawCountsRight) (by decide +kernel)) (fun _ _ _ _ _ => (pg_name (i := 11) scLawCountsRight.nd rfl (Or.inl rfl))) (fun _ _ _ _ _ => pts_nil) (fun _ _ _ _ _ => (pe_op op_shr (pe_callB (call_min2 rfl) (by rfl) z_min (by decide +kernel) (pa_cons (pv 1) (pa_cons (pv 8) pa_nil))) (pv 11)))) pa_nil)))
    (pss_one (ps_ret (pe_cmpR op_eq (pe_call GCommonCount (hr.mono (by decide)) rfl ACommonCount.m ACommonCount.kp ACommonCount.b .nil pass0 (pa_cons (pv 1) (pa_cons (pv 8) pa_nil))) (pe_ifExp (pt_cmpR op_eq (pv 1) (pv 8) (nomark _)) (pe_op op_sub (pe_op op_mul pe_int (pv 1)) pe_int) (pv 9)) (nomark _))))))))))))), ?_⟩
  case cc1 => exact (ps_setLc (i := 3) (own := [("peak", 10)]) rfl scLawCountsRight.nd rfl rfl (sw_true rfl rfl rfl (by decide +kernel)) (pi_list (pe_slice sl_list (pv 2) po_none (po_some (pe_un un_neg pe_int)))) (blkOk_by (N := ["bag", "size", "told", "begins", "full", "top", "number", "bare", "other", "less", "peak", "bit", "begin"]) (sc := defScope sLawCountsRight) (by decide +kernel)) (fun _ _ _ _ _ => (pg_name (i := 10) scLawCountsRight.nd rfl (Or.inl rfl))) (fun _ _ _ _ _ => pts_nil) (fun _ _ _ _ _ => (pe_ix ix_tupB (pv 10) pe_int (fun _ _ => rfl))))
  refine ⟨_, rfl, n, rfl, fun H1 p xs s1 np hp hx => ?_⟩
  have L101 : ((pk 101 n 0).map full).length ≤ 101 := by rw [List.length_map]; exact pk_len 101 n 0
  have hL : ((pk 101 n 0).map full).dropLast = (pk 101 n 0).dropLast.map full := tops_drop n
  generalize hTL : (pk 101 n 0).map full = L at hx L101 hL
  -- the begins
  refine ⟨_, rfl, 1, rfl, -1, rfl, p, _, rfl, SqL.of hp, fun c nc => ?_⟩
  have sc := same_upd (o := .lst (cutV xs none (some (-1)))) nc
  have hc : (upd H1 c (.lst (cutV xs none (some (-1))))) c = some (.lst xs.dropLast) := by rw [upd_same, cut_last]
  have hx2 := hx.mono (fun v x (k : Nd H1 v x) => k.same sc)
  have hd2 := hx2.droplast
  have hp2 := sc _ _ hp
  have s12 := s1.trans sc
  generalize upd H1 c (.lst (cutV xs none (some (-1)))) = H2 at hc hx2 hd2 hp2 s12
  refine ⟨c, rfl, ⟨_, SqL.of hc⟩, fun D nD => lc_list (xs := xs.dropLast) (fun i H' => Same H2 H' ∧ H' D = some (.lst ((L.dropLast.take i).map fun x => V.int (x.1 : Int)))) ⟨same_upd nD, upd_same⟩ (fun i H' _ k => SqL.of (k.1 _ _ hc)) ?_ ?_⟩
  · rintro i x H3 hi ⟨s3, hD⟩
    obtain ⟨y, hy, xp, rfl, hxp⟩ := hd2.nth hi
    have il : i < L.dropLast.length := (List.getElem?_eq_some_iff.mp hy).1
    rw [List.length_dropLast] at il
    refine ⟨rfl, ?_⟩
    refine ⟨_, rfl, xp, _, _, _, rfl, rfl, SqT.of (s3 _ _ hxp), atI_nat (j := 0) rfl, _, hD, szlt (by rw [List.length_map, List.length_take, List.length_dropLast]; omega), ?_, ?_⟩
    · exact fun a o k => by rw [upd_ne (ne_of_none k nD)]; exact s3 _ _ k
    · rw [take_more hy, List.map_append]
      exact upd_same
  rintro H3 ⟨s3, hD⟩
  have et : L.dropLast.take xs.dropLast.length = L.dropLast := List.take_of_length_le (by rw [hd2.len]; exact Nat.le_refl _)
  rw [et] at hD
  have hp3 := s3 _ _ hp2
  have hx3 := hx2.mono (fun v x (k : Nd H2 v x) => k.same s3)
  have sH3 := s12.trans s3
  have ne : L.dropLast.length ≤ 101 := by rw [List.length_dropLast]; omega
  -- peaks and edges
  refine ⟨_, rfl, n, rfl, n1, h30, fun H4 p4 us s4 np4 hp4 hu => ?_⟩
  rw [hTL] at hu
  refine ⟨_, rfl, .list (L.map nd), .list (L.map nd), lst_dp hp4 hu, lst_dp (s4 _ _ hp3) (hx3.mono (fun v x (k : Nd H3 v x) => k.same s4)), nds_shaped _, nds_shaped _, ?_⟩
  rw [SeqAt.eqv_refl _ (SeqAt.canLay_of_shaped (nds_shaped _))]
  refine ⟨false, rfl, ?_⟩
  refine ⟨_, rfl, n, rfl, n1, h30, fun H5 p5 vs s5 np5 hp5 hv => ?_⟩
  rw [hTL] at hv
  have s35 := s4.trans s5
  have hD5 := s35 _ _ hD
  refine ⟨_, rfl, D, rfl, ⟨_, SqL.of hD5⟩, fun D2 nD2 => lc_list (xs := L.dropLast.map fun x => V.int (x.1 : Int)) (fun i H' => ∃ ys : List V, Same H5 H' ∧ H' D2 = some (.lst ys) ∧ All2 (Nd H') ys ((L.dropLast.take i).map fun x => (x.1, n))) ⟨[], same_upd nD2, upd_same, .nil⟩ (fun i H' _ ⟨_, k, _⟩ => SqL.of (k _ _ hD5)) ?_ ?_⟩
  · rintro i x H6 hi ⟨ys, s6, hD2, hy6⟩
    rw [List.getElem?_map] at hi
    obtain ⟨y, hy, rfl⟩ := Option.map_eq_some_iff.mp hi
    refine ⟨rfl, ?_⟩
    refine ⟨_, rfl, _, rfl, two, fun t nt => ?_⟩
    have st := same_upd (o := .tup [.int (y.1 : Int), .int (n : Int)]) nt
    refine ⟨ys, st _ _ hD2, szlt (by rw [hy6.len, List.length_map, List.length_take]; omega), ys ++ [.ref t], ?_, upd_same, ?_⟩
    · exact fun a o k => by rw [upd_ne (ne_of_none k nD2)]; exact st _ _ (s6 _ _ k)
    · rw [take_more hy, List.map_append]
      exact (hy6.mono (fun v x (k : Nd H6 v x) => (k.same st).upd (st _ _ hD2))).app (.cons (Nd.upd (x := (y.1, n)) ⟨t, rfl, upd_same⟩ (st _ _ hD2)) .nil)
  rintro H6 ⟨ys, s6, hD2, hy6⟩
  rw [List.length_map, List.take_length] at hy6
  refine ⟨.list ((L.dropLast.map fun x => (x.1, n)).map nd), .list ((L.dropLast.map fun x => (x.1, n)).map nd), lst_dp (s6 _ _ hp5) (hv.mono (fun v x (k : Nd H5 v x) => k.same s6)), lst_dp hD2 hy6, nds_shaped _, nds_shaped _, ?_⟩
  rw [SeqAt.eqv_refl _ (SeqAt.canLay_of_shaped (nds_shaped _))]
  refine ⟨false, rfl, iteF ?_⟩
  have hD6 := s6 _ _ hD5
  have sH6 := sH3.trans (s35.trans s6)
  -- the full ones
  refine ⟨101, rfl, by decide, by decide, fun D3 nD3 => lc_range (lo := 0) (n := 101) (fun i H' => Same H6 H' ∧ H' D3 = some (.lst (((List.range i).map fun j => (n : Int) / 2 ^ j).map V.int))) ⟨same_upd nD3, upd_same⟩ ?_ ?_⟩
  · rintro i H7 hi ⟨s7, hD3⟩
    have ej : (0 : Int) + (i : Int) = (i : Int) := by omega
    rw [ej]
    refine ⟨rfl, ?_⟩
    refine ⟨_, rfl, _, rfl, _, _, rfl, rfl, Int.natCast_nonneg _, _, hD3, szlt (by rw [List.length_map, List.length_map, List.length_range]; omega), ?_, ?_⟩
    · exact fun a o k => by rw [upd_ne (ne_of_none k nD3)]; exact s7 _ _ k
    · rw [List.range_succ, List.map_append, List.map_append]
      exact upd_same
  rintro H7 ⟨s7, hD3⟩
  refine ⟨D3, _, rfl, SqL.of hD3, ?_⟩
  have fl := full_is h30
  have np1 := npk_pos n1 h30
  have sl := sum_shr n 101
  generalize (((List.range 101).map fun j => (n : Int) / 2 ^ j).sum : Int) = sm at sl ⊢
  subst sl
  have lenB : (L.dropLast.map fun x => V.int (x.1 : Int)).length = npk n - 1 := by
    rw [List.length_map, List.length_dropLast, ← hTL, List.length_map]
    rfl
  have hD7 := s7 _ _ hD6
  refine ⟨_, rfl, n, rfl, n1, h30, fun H8 p8 s8 hp8 => ?_⟩
  refine ⟨_, rfl, _, rfl, D, _, rfl, .inl (SqL.of (s8 _ _ hD7)), two, fun t9 nt9 => ?_⟩
  rw [lenB]
  have s9 := same_upd (o := .tup [.int ((sumsh 101 n : Nat) : Int), .int ((npk n - 1 : Nat) : Int)]) nt9
  refine ⟨.tuple [.int (2 * (n : Int) - 1 - ((npk n - 1 : Nat) : Int)), .int ((npk n - 1 : Nat) : Int)], .tuple [.int ((sumsh 101 n : Nat) : Int), .int ((npk n - 1 : Nat) : Int)], .tup (SqT.of (s9 _ _ hp8)) (.cons (.int _) (.cons (.int _) .nil)), .tup (SqT.of upd_same) (.cons (.int _) (.cons (.int _) .nil)), nd_shaped _ _, nd_shaped _ _, ?_⟩
  rw [nd_eqv, decide_eq_true (show 2 * (n : Int) - 1 - ((npk n - 1 : Nat) : Int) = ((sumsh 101 n : Nat) : Int) by omega), decide_eq_true rfl]
  refine ⟨false, rfl, ?_⟩
  have s69 := s7.trans (s8.trans s9)
  have hD9 := s69 _ _ hD6
  have sH9 := sH6.trans s69
  generalize upd H8 t9 _ = H9 at s69 hD9 sH9 ⊢
  refine ⟨_, rfl, _, rfl, D, _, rfl, .inl (SqL.of hD9), _, _, rfl, rfl, _, rfl, _, _, rfl, rfl, .inl ⟨by decide, by decide⟩, _, _, rfl, rfl, rfl, false, ?_, iteF ?_⟩
  · refine congrArg V.bl ?_
    rw [Bool.not_eq_false']
    refine decide_eq_true (congrArg V.int ?_)
    rw [lenB]
    omega
  have hPD : L.dropLast.map (fun x => V.int (x.1 : Int)) = (pk 101 n 0).dropLast.map (fun z => V.int (z.1 : Int)) := by
    rw [hL, List.map_map]
    rfl
  rw [hPD] at hD9
  have lenP : (pk 101 n 0).dropLast.length ≤ 101 := by
    have := pk_len 101 n 0
    rw [List.length_dropLast]
    omega
  have bare101 : ∀ k, bareN n k (pk 101 n 0).dropLast = bareB n k 101 := fun k => bare_is n k n 101 0 (by rw [Nat.mod_eq_of_lt (Nat.lt_of_le_of_lt h30 (by decide))]; omega)
  have hbeg : ∀ y ∈ (pk 101 n 0).dropLast, y.1 ≤ n := fun y hy => by
    have k := pk_at 101 n 0 y (List.dropLast_subset _ hy)
    rw [Nat.mod_eq_of_lt (Nat.lt_of_le_of_lt h30 (by decide))] at k
    have := Nat.pow_pos (a := 2) (n := y.2) (by decide)
    omega
  generalize (pk 101 n 0).dropLast = PD at hD9 lenP bare101 hbeg
  -- the top
  refine ⟨101, rfl, by decide, by decide, fun D4 nD4 => lc_range (lo := 0) (n := 101) (fun i H' => ∃ ns : List Int, Same H9 H' ∧ H' D4 = some (.lst (ns.map V.int)) ∧ ns.length ≤ i ∧ (∀ m ∈ ns, ∃ k : Nat, m = (k : Int) ∧ k ≤ 100) ∧ (0 < i → 0 < ns.length)) ⟨[], same_upd nD4, upd_same, Nat.le_refl _, fun _ h => by (cases h), fun h => absurd h (by decide)⟩ ?_ ?_⟩
  · rintro i H10 hi ⟨ns, s10, hD4, h1, h2, h3⟩
    have ej : (0 : Int) + (i : Int) = (i : Int) := by omega
    rw [ej]
    refine ⟨rfl, ?_⟩
    refine ⟨_, rfl, _, rfl, _, _, rfl, rfl, Int.natCast_nonneg _, _, _, rfl, rfl, _, rfl, ite2 (fun c => ?_) (fun c => ?_)⟩
    · refine ⟨_, rfl, _, hD4, szlt (by rw [List.length_map]; omega), ns ++ [(i : Int)], ?_, ?_, by rw [List.length_append, List.length_singleton]; omega, ?_, fun _ => by rw [List.length_append, List.length_singleton]; omega⟩
      · exact fun a o k => by rw [upd_ne (ne_of_none k nD4)]; exact s10 _ _ k
      · rw [List.map_append]
        exact upd_same
      · intro m hm
        rcases List.mem_append.mp hm with z | z
        · exact h2 m z
        · rw [List.mem_singleton] at z
          exact ⟨i, z, by omega⟩
    · have c1 : ¬ (n : Int) / 2 ^ ((i : Nat) : Int).toNat > 0 := of_decide_eq_false (Bool.eq_false_iff.mpr c)
      refine ⟨ns, s10, hD4, by omega, h2, fun _ => ?_⟩
      by_cases i0 : i = 0
      · subst i0
        exfalso
        refine c1 ?_
        show (n : Int) / 2 ^ 0 > 0
        rw [Int.pow_zero, Int.ediv_one]
        omega
      · exact h3 (by omega)
  rintro H10 ⟨ns, s10, hD4, h1, h2, h3⟩
  refine ⟨D4, ns, rfl, SqL.of hD4, h3 (by decide), fun m hm _ => ?_⟩
  obtain ⟨top, rfl, top100⟩ := h2 m hm
  have hD10 := s10 _ _ hD9
  have sH10 := sH9.trans s10
  have hb10 := hb.same sH10
  have Db : D ≠ bg := fun z => by
    obtain ⟨a, b, cc, e⟩ := hb.same s12
    rw [← z, nD] at e
    cases e
  -- the numbers
  refine ⟨_, rfl, bg, 101, rfl, by decide, by decide, hb10, fun r H11 r0 r1 k11 hb11 => ⟨_, rfl, _, rfl, _, _, rfl, rfl, (by show 5 ≤ sizeLine; decide), fun tt ntt => ?_⟩⟩
  obtain ⟨pick, rfl⟩ := Int.eq_ofNat_of_zero_le r0
  have hnum : ∀ v ∈ ([.int 0, .int 1, .int ((pick : Nat) : Int), .int ((top : Nat) : Int), .int (((top : Nat) : Int) + 1)] : List V), ∃ k : Nat, v = .int (k : Int) ∧ k ≤ 101 := fun v hv => by
    simp only [List.mem_cons, List.not_mem_nil, or_false] at hv
    rcases hv with rfl | rfl | rfl | rfl | rfl
    · exact ⟨0, rfl, by decide⟩
    · exact ⟨1, rfl, by decide⟩
    · exact ⟨pick, rfl, by omega⟩
    · exact ⟨top, rfl, by omega⟩
    · exact ⟨top + 1, rfl, by omega⟩
  have B11 : But bg H10 H11 := fun u o z k => by rw [k11 u z]; exact k
  have st := same_upd (o := .tup [.int 0, .int 1, .int ((pick : Nat) : Int), .int ((top : Nat) : Int), .int (((top : Nat) : Int) + 1)]) ntt
  have htt : (upd H11 tt (.tup [.int 0, .int 1, .int ((pick : Nat) : Int), .int ((top : Nat) : Int), .int (((top : Nat) : Int) + 1)])) tt = some (.tup [.int 0, .int 1, .int ((pick : Nat) : Int), .int ((top : Nat) : Int), .int (((top : Nat) : Int) + 1)]) := upd_same
  have hD12 := st _ _ (B11 _ _ Db hD10)
  have B12 := ((But.of sH10).trans B11).trans (But.of st)
  have hb12 := hb11.same st
  generalize upd H11 tt _ = H12 at st htt hD12 B12 hb12
  generalize ([.int 0, .int 1, .int ((pick : Nat) : Int), .int ((top : Nat) : Int), .int (((top : Nat) : Int) + 1)] : List V) = fs at hnum htt
  refine ⟨tt, rfl, ⟨_, SqT.of htt⟩, for_tup (K := K) (a := tt) (xs := fs) (fun i σ H' => ∃ v6 v7 : Option V, σ = [some (.ref bg), some (.int n), some (.ref p), some (.ref D), some (.int ((sumsh 101 n : Nat) : Int)), some (.int (top : Int)), v6, v7, none, none, none, none, none] ∧ Same H12 H')
    ⟨none, none, rfl, Same.refl _⟩ (fun i σ H' _ ⟨_, _, _, s5⟩ => SqT.of (s5 _ _ htt)) ?_ ?_⟩
  · rintro i xf σ H13 hi13 ⟨v6, v7, rfl, s13⟩
    obtain ⟨k, rfl, k101⟩ := hnum xf (List.mem_of_getElem? hi13)
    have hD13 := s13 _ _ hD12
    have ep : (1 : Int) * 2 ^ ((k : Nat) : Int).toNat = ((2 ^ k : Nat) : Int) := by rw [Int.one_mul, Int.toNat_natCast]; exact (Int.natCast_pow 2 _).symm
    refine ⟨_, rfl, D, rfl, ⟨_, SqL.of hD13⟩, fun D5 nD5 => lc_list (xs := PD.map (fun z => V.int (z.1 : Int))) (fun i H' => ∃ zs : List V, Same H13 H' ∧ H' D5 = some (.lst zs) ∧ zs.length = bareN n k (PD.take i)) ⟨[], same_upd nD5, upd_same, rfl⟩ (fun i H' _ ⟨_, kk, _⟩ => SqL.of (kk _ _ hD13)) ?_ ?_⟩
    · rintro j x H14 hj ⟨zs, s14, hD5, hz⟩
      rw [List.getElem?_map] at hj
      obtain ⟨y, hy, rfl⟩ := Option.map_eq_some_iff.mp hj
      have zl : zs.length ≤ 101 := by
        rw [hz]
        refine Nat.le_trans (List.length_filter_le _ _) ?_
        rw [List.length_take]
        omega
      have step : bareN n k (PD.take (j + 1)) = bareN n k (PD.take j) + (if n - y.1 ≤ 2 ^ k ∧ 2 ^ k / 2 < n - y.1 then 1 else 0) := by
        unfold bareN
        rw [take_more hy, List.filter_append, List.length_append, List.filter_cons, List.filter_nil]
        by_cases cc : n - y.1 ≤ 2 ^ k ∧ 2 ^ k / 2 < n - y.1
        · rw [if_pos (by simp [cc.1, cc.2]), if_pos cc]; rfl
        · rw [if_neg (by simpa using cc), if_neg cc]; rfl
      have yn : y.1 ≤ n := hbeg y (List.mem_of_getElem? hy)
      refine ⟨rfl, ?_⟩
      refine ⟨_, rfl, _, _, rfl, rfl, ⟨Int.natCast_nonneg _, by omega, by decide⟩, _, rfl, _, rfl, _, _, rfl, rfl, _, _, rfl, rfl, _, rfl, ite2 (fun c => ?_) (fun c => ?_)⟩
      · have c1 : (1 : Int) * 2 ^ ((k : Nat) : Int).toNat ≥ (n : Int) - (y.1 : Int) := of_decide_eq_true c
        rw [ep] at c1
        have e2 : ((2 ^ k : Nat) : Int) / 2 = ((2 ^ k / 2 : Nat) : Int) := rfl
        refine ⟨_, rfl, _, _, rfl, rfl, ⟨Int.natCast_nonneg _, by omega, by decide⟩, _, _, rfl, rfl, (show CDivW _ 2 from ⟨by decide, by decide +kernel⟩), _, _, rfl, rfl, _, rfl, ite2 (fun c => ?_) (fun c => ?_)⟩
        · have c2 : (1 : Int) * 2 ^ ((k : Nat) : Int).toNat / 2 < (n : Int) - (y.1 : Int) := of_decide_eq_true c
          rw [ep] at c2
          refine ⟨_, hD5, szlt (by omega), zs ++ [.int 1], ?_, upd_same, ?_⟩
          · exact fun a o kk => by rw [upd_ne (ne_of_none kk nD5)]; exact s14 _ _ kk
          · rw [step, if_pos (by omega), List.length_append, hz]; rfl
        · have c2 : ¬ (1 : Int) * 2 ^ ((k : Nat) : Int).toNat / 2 < (n : Int) - (y.1 : Int) := of_decide_eq_false (Bool.eq_false_iff.mpr c)
          rw [ep] at c2
          exact ⟨zs, s14, hD5, by rw [step, if_neg (by omega)]; exact hz⟩
      · have c1 : ¬ (1 : Int) * 2 ^ ((k : Nat) : Int).toNat ≥ (n : Int) - (y.1 : Int) := of_decide_eq_false (Bool.eq_false_iff.mpr c)
        rw [ep] at c1
        exact ⟨false, rfl, zs, s14, hD5, by rw [step, if_neg (by omega)]; exact hz⟩
    rintro H14 ⟨zs, s14, hD5, hz⟩
    rw [List.length_map, List.take_length, bare101] at hz
    refine ⟨D5, zs, rfl, .inl (SqL.of hD5), ?_⟩
    refine ⟨_, rfl, _, rfl, n, (k : Int), rfl, n1, h30, ?_⟩
    refine ⟨_, rfl, _, rfl, _, _, rfl, rfl, Int.natCast_nonneg _, _, rfl, _, _, rfl, rfl, rfl, false, ?_, iteF ?_⟩
    · refine congrArg V.bl ?_
      rw [Bool.not_eq_false']
      refine decide_eq_true (congrArg V.int ?_)
      rw [hcount_nat n1 h30, hz]
      rfl
    · exact ⟨_, _, rfl, s13.trans s14⟩
  rintro σ H13 ⟨v6, v7, rfl, s13⟩
  have hb13 := hb12.same s13
  -- sizes in common
  refine ⟨_, rfl, bg, rfl, hb13, fun o H14 o1 o30 B14 hb14 => ?_⟩
  refine ⟨101, rfl, by decide, by decide, fun D6 nD6 => lc_range (lo := 0) (n := 101) (fun i H' => Same H14 H' ∧ H' D6 = some (.lst (((List.range i).map fun j => (if (o : Int) < (n : Int) then (o : Int) else (n : Int)) / 2 ^ j).map V.int))) ⟨same_upd nD6, upd_same⟩ ?_ ?_⟩
  · rintro i H15 hi ⟨s15, hD6⟩
    have ej : (0 : Int) + (i : Int) = (i : Int) := by omega
    rw [ej]
    refine ⟨rfl, ?_⟩
    refine ⟨_, rfl, _, rfl, _, _, rfl, _, rfl, _, _, rfl, rfl, Int.natCast_nonneg _, _, hD6, szlt (by rw [List.length_map, List.length_map, List.length_range]; omega), ?_, ?_⟩
    · exact fun a o k => by rw [upd_ne (ne_of_none k nD6)]; exact s15 _ _ k
    · rw [List.range_succ, List.map_append, List.map_append]
      exact upd_same
  rintro H15 ⟨s15, hD6⟩
  refine ⟨D6, _, rfl, SqL.of hD6, ?_⟩
  rw [min_castC]
  have sl2 := sum_shr (min n o) 101
  generalize (((List.range 101).map fun j => ((min n o : Nat) : Int) / 2 ^ j).sum : Int) = sm at sl2 ⊢
  subst sl2
  have fl2 := full_is (n := min n o) (by omega)
  have np2 := npk_pos (n := min n o) (by omega) (by omega)
  refine ⟨_, rfl, _, rfl, n, o, rfl, n1, h30, o1, o30, fun H16 s16 => ?_⟩
  have BF : But bg H H16 := B12.trans ((But.of s13).trans (B14.trans (But.of (s15.trans s16))))
  have hbF := hb14.same (s15.trans s16)
  refine ⟨_, rfl, _, rfl, rfl, _, rfl, ite2 (fun c => ?_) (fun c => ?_)⟩
  · have c1 : V.int (n : Int) = V.int (o : Int) := of_decide_eq_true c
    have c2 : n = o := by have := V.int.inj c1; omega
    refine ⟨_, rfl, _, _, rfl, rfl, .inl ⟨by decide, by decide⟩, _, _, rfl, rfl, rfl, ?_⟩
    have e : ccount n o = 2 * (n : Int) - 1 := by
      unfold ccount
      rw [if_pos c2, c2, Nat.min_self]
    rw [e, decide_eq_true rfl]
    exact q _ BF hbF
  · have c1 : ¬ V.int (n : Int) = V.int (o : Int) := of_decide_eq_false (Bool.eq_false_iff.mpr c)
    have c2 : n ≠ o := fun z => c1 (by rw [z])
    refine ⟨_, rfl, rfl, ?_⟩
    have e : ccount n o = ((sumsh 101 (min n o) : Nat) : Int) := by
      unfold ccount
      rw [if_neg c2]
      omega
    rw [e, decide_eq_true rfl]
    exact q _ BF hbF
end
end LT

namespace LT
open PySem PySem.Spec PyProof.Rows L2
theorem script_at {ns : List Int} {lo hi : Option Int} {i : Nat} {x : V} (h : (cutV (ns.map V.int) lo hi ++ [.int 0])[i]? = some x) : ∃ c : Int, x = .int c := by
  have m := List.mem_of_getElem? h
  rcases List.mem_append.mp m with m | m
  · unfold cutV at m
    have m2 := List.mem_of_mem_drop (List.mem_of_mem_take m)
    obtain ⟨c, _, e⟩ := List.mem_map.mp m2
    exact ⟨c, e.symm⟩
  · exact ⟨0, List.mem_singleton.mp m⟩
theorem sqSame {K : PySem.W.Frag} {H H' : Hp} {a : Addr} {xs : List V} (h : SqL K H a xs) (e : Same H H') : SqL K H' a xs :=
  h.elim (fun h => .inl (h.elim (fun h => .inl (e _ _ h)) fun ⟨o, h⟩ => .inr ⟨o, e _ _ h⟩)) fun h => .inr h
def spLaw (K : PySem.W.Frag) : Sp := fun vs H Q _ => ∃ (a : Addr) (ns : List Int), vs = [.ref a] ∧ SqL K H a (ns.map V.int) ∧ ns.length ≤ 63 ∧ ∀ H', Q (.bl true) H'
end LT

namespace LT
open PySem PySem.Spec PyProof.Rows L2
theorem npk30 : npk (10 ^ 30) = 37 := by decide +kernel
section
variable {P : Program} {w : World} {K : PySem.W.Frag} {mg : Str → Option Value} {base : Heap}
theorem ok_law {f g1 g2 g3 g4 g5 : Addr} {fd d1 d2 d3 d4 d5 : FuncData} (F : Fun K "law" "law" sLaw f fd)
    (GLawBag : FnOk P w K mg base CX0 1 g1 d1 ["cell"] spBag) (ALawBag : At K mg "_law_bag" g1 d1 ["cell"])
    (GLawSize : FnOk P w K mg base CX0 2 g2 d2 ["bag"] spSize) (ALawSize : At K mg "_law_size" g2 d2 ["bag"])
    (GLawWayRight : FnOk P w K mg base CX0 7 g3 d3 ["bag", "size"] spWayRight) (ALawWayRight : At K mg "_law_way_right" g3 d3 ["bag", "size"])
    (GLawCountsRight : FnOk P w K mg base CX0 8 g4 d4 ["bag", "size"] spCounts) (ALawCountsRight : At K mg "_law_counts_right" g4 d4 ["bag", "size"])
    (GNodeCount : FnOk P w K mg base CX0 6 g5 d5 ["size"] spNodeCount) (ANodeCount : At K mg "node_count" g5 d5 ["size"])
    (z_range : mg "range" = none) : FnOk P w K mg base CX0 9 f fd ["script"] (spLaw K) := by
  refine F.ok scLaw (fun vs H Q E h => ?_) (fun cdv A outer s H vs Q E hr h => ?_)
  · obtain ⟨_, _, rfl, _⟩ := h
    rfl
  obtain ⟨a, ns, rfl, hS, h63, q⟩ := h
  refine' ⟨_, (pss_cons (ps_for PassesOwn.never rfl (pi_list (pe_op op_cat (pe_slice sl_list (pv 0) po_none (po_some pe_int)) (pe_lst (pa_cons pe_int pa_nil)))) (pg_name (i := 1) scLaw.nd rfl (Or.inl rfl))
    (pss_cons (ps_set (i := 2) scLaw.nd rfl (Or.inl rfl) (pe_call GLawBag (hr.mono (by decide)) rfl ALawBag.m ALawBag.kp ALawBag.b .nil pass0 (pa_cons (pv 1) pa_nil)))
    (pss_one (ps_for PassesOwn.never rfl (pi_range1 (by rfl) z_range (pa_cons pe_int pa_nil)) (pg_name (i := 3) scLaw.nd rfl (Or.inl rfl))
    (pss_cons (ps_set (i := 4) scLaw.nd rfl (Or.inl rfl) (pe_call GLawSize (hr.mono (by decide)) rfl ALawSize.m ALawSize.kp ALawSize.b .nil pass0 (pa_cons (pv 2) pa_nil)))
    (pss_one (ps_if (PW.pt (pw_or (pt_not (pt_val (pe_call GLawWayRight (hr.mono (by decide)) rfl ALawWayRight.m ALawWayRight.kp ALawWayRight.b .nil pass0 (pa_cons (pv 2) (pa_cons (pv 4) pa_nil))))) (pw_or1 (pt_not (pt_val (pe_call GLawCountsRight (hr.mono (by decide)) rfl ALawCountsRight.m ALawCountsRight.kp ALawCountsRight.b .nil pass0 (pa_cons (pv 2) (pa_cons (pv 4) pa_nil))))))))
    (pss_one (ps_ret pe_bl))
    pss_nil)))))))
    (pss_one (ps_ret (pe_cmpR op_eq (pe_ix ix_tup (pe_call GNodeCount (hr.mono (by decide)) rfl ANodeCount.m ANodeCount.kp ANodeCount.b .nil pass0 (pa_cons (pe_op op_pow pe_int pe_int) pa_nil)) pe_int (fun _ _ => rfl)) pe_int (nomark _))))), ?_⟩
  refine ⟨_, rfl, 6, rfl, a, _, rfl, hS, fun c nc => ⟨(by show 1 ≤ sizeLine; decide), fun z nz => ?_⟩⟩
  have s1 := same_upd (o := .lst (cutV (ns.map V.int) none (some 6))) nc
  have s2 := same_upd (o := .lst [.int 0]) nz
  have hcl := cutV_length (ns.map V.int) none (some 6)
  rw [List.length_map] at hcl
  refine ⟨c, z, _, _, rfl, rfl, s2 _ _ upd_same, upd_same, szle (by rw [List.length_singleton]; omega), fun r nr => ?_⟩
  have s3 := same_upd (o := .lst (cutV (ns.map V.int) none (some 6) ++ [.int 0])) nr
  have hr0 : (upd (upd (upd H c (.lst (cutV (ns.map V.int) none (some 6)))) z (.lst [.int 0])) r (.lst (cutV (ns.map V.int) none (some 6) ++ [.int 0]))) r = some (.lst (cutV (ns.map V.int) none (some 6) ++ [.int 0])) := upd_same
  generalize upd (upd (upd H c (.lst (cutV (ns.map V.int) none (some 6)))) z (.lst [.int 0])) r (.lst (cutV (ns.map V.int) none (some 6) ++ [.int 0])) = H0 at hr0
  refine ⟨r, rfl, ⟨_, SqL.of hr0⟩, for_list (K := K) (a := r) (xs := cutV (ns.map V.int) none (some 6) ++ [.int 0]) (fun i σ H' => ∃ v1 v2 v3 v4 : Option V, σ = [some (.ref a), v1, v2, v3, v4] ∧ Same H0 H')
    ⟨none, none, none, none, rfl, Same.refl _⟩ (fun i σ H' _ ⟨_, _, _, _, _, s5⟩ => SqL.of (s5 _ _ hr0)) ?_ ?_⟩
  · rintro i x σ H1 hi ⟨v1, v2, v3, v4, rfl, sm1⟩
    obtain ⟨cell, rfl⟩ := script_at hi
    refine ⟨_, rfl, cell, rfl, fun H2 b sm2 nb hb => ?_⟩
    have nb0 : H0 b = none := sm1.free nb
    refine ⟨3, rfl, by decide, by decide, for_range (lo := 0) (n := 3) (fun i σ H' => ∃ v3 v4 : Option V, σ = [some (.ref a), some (.int cell), some (.ref b), v3, v4] ∧ Same H0 H' ∧ BagAt H' b)
      ⟨v3, v4, rfl, sm1.trans sm2, hb⟩ ?_ ?_⟩
    · rintro j σ H3 hj ⟨v3, v4, rfl, sm3, hb3⟩
      refine ⟨_, rfl, b, rfl, hb3, fun n H4 n1 h30 B4 hb4 => ?_⟩
      refine ⟨_, rfl, _, rfl, b, n, rfl, hb4, n1, h30, fun H5 B5 hb5 => ⟨true, rfl, ?_⟩⟩
      refine ⟨_, rfl, _, rfl, b, n, rfl, hb5, n1, h30, fun H6 B6 hb6 => ⟨true, rfl, ?_⟩⟩
      exact ⟨_, _, rfl, fun u o k => B6 _ _ (ne_of_none k nb0) (B5 _ _ (ne_of_none k nb0) (B4 _ _ (ne_of_none k nb0) (sm3 _ _ k))), hb6⟩
    · rintro σ H3 ⟨v3, v4, rfl, sm3, hb3⟩
      exact ⟨_, _, _, _, rfl, sm3⟩
  · rintro σ H1 ⟨v1, v2, v3, v4, rfl, sm1⟩
    refine ⟨_, _, rfl, rfl, ⟨by decide, by decide, by decide⟩, 10 ^ 30, rfl, by decide, by decide, fun H2 p s2 hp => ?_⟩
    refine ⟨p, _, _, _, rfl, rfl, SqT.of hp, atI_nat (j := 1) rfl, rfl, ?_⟩
    rw [npk30]
    exact q _
end
end LT

namespace LT
open PySem PySem.Spec PyProof.Rows L2
theorem all_mk {l : PySem.W.OpenLaw} {w : World} {K : PySem.W.Frag} {h : Heap} {mg : Str → Option Value} {fa f0 f1 f2 f3 f4 f5 f6 f7 f8 f9 f10 f11 f12 f13 f14 f15 f16 f17 f18 f19 f20 f21 f22 f23 f24 f25 : Addr} (X : K.In h) (G : h.Ns mainGlobals mg) (hfa : mg "law" = some (.ref fa))
    {od0 an0 od1 an1 od2 an2 od3 an3 od4 an4 od5 an5 od6 an6 od7 an7 od8 an8 od9 an9 od10 an10 od11 an11 od12 an12 od13 an13 od14 an14 od15 an15 od16 an16 od17 an17 od18 an18 od19 an19 od20 an20 od21 an21 od22 an22 od23 an23 od24 an24 od25 an25 : Option Addr} {sl0 sl1 sl2 sl3 sl4 sl5 sl6 sl7 sl8 sl9 sl10 sl11 sl12 sl13 sl14 sl15 sl16 sl17 sl18 sl19 sl20 sl21 sl22 sl23 sl24 sl25 : Array (Option Value)} {oc0 kV0 dc0 pm0 cd0 ct0 oc1 kV1 dc1 pm1 cd1 ct1 oc2 kV2 dc2 pm2 cd2 ct2 oc3 kV3 dc3 pm3 cd3 ct3 oc4 kV4 dc4 pm4 cd4 ct4 oc5 kV5 dc5 pm5 cd5 ct5 oc6 kV6 dc6 pm6 cd6 ct6 oc7 kV7 dc7 pm7 cd7 ct7 oc8 kV8 dc8 pm8 cd8 ct8 oc9 kV9 dc9 pm9 cd9 ct9 oc10 kV10 dc10 pm10 cd10 ct10 oc11 kV11 dc11 pm11 cd11 ct11 oc12 kV12 dc12 pm12 cd12 ct12 oc13 kV13 dc13 pm13 cd13 ct13 oc14 kV14 dc14 pm14 cd14 ct14 oc15 kV15 dc15 pm15 cd15 ct15 oc16 kV16 dc16 pm16 cd16 ct16 oc17 kV17 dc17 pm17 cd17 ct17 oc18 kV18 dc18 pm18 cd18 ct18 oc19 kV19 dc19 pm19 cd19 ct19 oc20 kV20 dc20 pm20 cd20 ct20 oc21 kV21 dc21 pm21 cd21 ct21 oc22 kV22 dc22 pm22 cd22 ct22 oc23 kV23 dc23 pm23 cd23 ct23 oc24 kV24 dc24 pm24 cd24 ct24 oc25 kV25 dc25 pm25 cd25 ct25 : Value}
    (a0 : PySem.W.nsIn K mainGlobals "is_whole" = some (some (.ref f0))) (l0 : K.lookup f0 = some ⟨oc0, od0, .func (PySem.W.fnOf "is_whole" "is_whole" (defArgs sIsWhole) (defBody sIsWhole) (defScope sIsWhole) .none kV0 dc0 pm0 an0 cd0 ct0), sl0⟩) (c0 : PySem.W.codeIn K cd0 "is_whole" = true) (k0 : PySem.W.keepIn K (.ref f0) = true)
    (a1 : PySem.W.nsIn K mainGlobals "is_between" = some (some (.ref f1))) (l1 : K.lookup f1 = some ⟨oc1, od1, .func (PySem.W.fnOf "is_between" "is_between" (defArgs sIsBetween) (defBody sIsBetween) (defScope sIsBetween) .none kV1 dc1 pm1 an1 cd1 ct1), sl1⟩) (c1 : PySem.W.codeIn K cd1 "is_between" = true) (k1 : PySem.W.keepIn K (.ref f1) = true)
    (a2 : PySem.W.nsIn K mainGlobals "is_tree_node" = some (some (.ref f2))) (l2 : K.lookup f2 = some ⟨oc2, od2, .func (PySem.W.fnOf "is_tree_node" "is_tree_node" (defArgs sIsTreeNode) (defBody sIsTreeNode) (defScope sIsTreeNode) .none kV2 dc2 pm2 an2 cd2 ct2), sl2⟩) (c2 : PySem.W.codeIn K cd2 "is_tree_node" = true) (k2 : PySem.W.keepIn K (.ref f2) = true)
    (a3 : PySem.W.nsIn K mainGlobals "check_size" = some (some (.ref f3))) (l3 : K.lookup f3 = some ⟨oc3, od3, .func (PySem.W.fnOf "check_size" "check_size" (defArgs sCheckSize) (defBody sCheckSize) (defScope sCheckSize) .none kV3 dc3 pm3 an3 cd3 ct3), sl3⟩) (c3 : PySem.W.codeIn K cd3 "check_size" = true) (k3 : PySem.W.keepIn K (.ref f3) = true)
    (a4 : PySem.W.nsIn K mainGlobals "check_node" = some (some (.ref f4))) (l4 : K.lookup f4 = some ⟨oc4, od4, .func (PySem.W.fnOf "check_node" "check_node" (defArgs sCheckNode) (defBody sCheckNode) (defScope sCheckNode) .none kV4 dc4 pm4 an4 cd4 ct4), sl4⟩) (c4 : PySem.W.codeIn K cd4 "check_node" = true) (k4 : PySem.W.keepIn K (.ref f4) = true)
    (a5 : PySem.W.nsIn K mainGlobals "check_number" = some (some (.ref f5))) (l5 : K.lookup f5 = some ⟨oc5, od5, .func (PySem.W.fnOf "check_number" "check_number" (defArgs sCheckNumber) (defBody sCheckNumber) (defScope sCheckNumber) .none kV5 dc5 pm5 an5 cd5 ct5), sl5⟩) (c5 : PySem.W.codeIn K cd5 "check_number" = true) (k5 : PySem.W.keepIn K (.ref f5) = true)
    (a6 : PySem.W.nsIn K mainGlobals "power_within" = some (some (.ref f6))) (l6 : K.lookup f6 = some ⟨oc6, od6, .func (PySem.W.fnOf "power_within" "power_within" (defArgs sPowerWithin) (defBody sPowerWithin) (defScope sPowerWithin) .none kV6 dc6 pm6 an6 cd6 ct6), sl6⟩) (c6 : PySem.W.codeIn K cd6 "power_within" = true) (k6 : PySem.W.keepIn K (.ref f6) = true)
    (a7 : PySem.W.nsIn K mainGlobals "peaks" = some (some (.ref f7))) (l7 : K.lookup f7 = some ⟨oc7, od7, .func (PySem.W.fnOf "peaks" "peaks" (defArgs sPeaks) (defBody sPeaks) (defScope sPeaks) .none kV7 dc7 pm7 an7 cd7 ct7), sl7⟩) (c7 : PySem.W.codeIn K cd7 "peaks" = true) (k7 : PySem.W.keepIn K (.ref f7) = true)
    (a8 : PySem.W.nsIn K mainGlobals "edges" = some (some (.ref f8))) (l8 : K.lookup f8 = some ⟨oc8, od8, .func (PySem.W.fnOf "edges" "edges" (defArgs sEdges) (defBody sEdges) (defScope sEdges) .none kV8 dc8 pm8 an8 cd8 ct8), sl8⟩) (c8 : PySem.W.codeIn K cd8 "edges" = true) (k8 : PySem.W.keepIn K (.ref f8) = true)
    (a9 : PySem.W.nsIn K mainGlobals "is_node" = some (some (.ref f9))) (l9 : K.lookup f9 = some ⟨oc9, od9, .func (PySem.W.fnOf "is_node" "is_node" (defArgs sIsNode) (defBody sIsNode) (defScope sIsNode) .none kV9 dc9 pm9 an9 cd9 ct9), sl9⟩) (c9 : PySem.W.codeIn K cd9 "is_node" = true) (k9 : PySem.W.keepIn K (.ref f9) = true)
    (a10 : PySem.W.nsIn K mainGlobals "halves" = some (some (.ref f10))) (l10 : K.lookup f10 = some ⟨oc10, od10, .func (PySem.W.fnOf "halves" "halves" (defArgs sHalves) (defBody sHalves) (defScope sHalves) .none kV10 dc10 pm10 an10 cd10 ct10), sl10⟩) (c10 : PySem.W.codeIn K cd10 "halves" = true) (k10 : PySem.W.keepIn K (.ref f10) = true)
    (a11 : PySem.W.nsIn K mainGlobals "parent" = some (some (.ref f11))) (l11 : K.lookup f11 = some ⟨oc11, od11, .func (PySem.W.fnOf "parent" "parent" (defArgs sParent) (defBody sParent) (defScope sParent) .none kV11 dc11 pm11 an11 cd11 ct11), sl11⟩) (c11 : PySem.W.codeIn K cd11 "parent" = true) (k11 : PySem.W.keepIn K (.ref f11) = true)
    (a12 : PySem.W.nsIn K mainGlobals "sibling" = some (some (.ref f12))) (l12 : K.lookup f12 = some ⟨oc12, od12, .func (PySem.W.fnOf "sibling" "sibling" (defArgs sSibling) (defBody sSibling) (defScope sSibling) .none kV12 dc12 pm12 an12 cd12 ct12), sl12⟩) (c12 : PySem.W.codeIn K cd12 "sibling" = true) (k12 : PySem.W.keepIn K (.ref f12) = true)
    (a13 : PySem.W.nsIn K mainGlobals "node_count" = some (some (.ref f13))) (l13 : K.lookup f13 = some ⟨oc13, od13, .func (PySem.W.fnOf "node_count" "node_count" (defArgs sNodeCount) (defBody sNodeCount) (defScope sNodeCount) .none kV13 dc13 pm13 an13 cd13 ct13), sl13⟩) (c13 : PySem.W.codeIn K cd13 "node_count" = true) (k13 : PySem.W.keepIn K (.ref f13) = true)
    (a14 : PySem.W.nsIn K mainGlobals "common_count" = some (some (.ref f14))) (l14 : K.lookup f14 = some ⟨oc14, od14, .func (PySem.W.fnOf "common_count" "common_count" (defArgs sCommonCount) (defBody sCommonCount) (defScope sCommonCount) .none kV14 dc14 pm14 an14 cd14 ct14), sl14⟩) (c14 : PySem.W.codeIn K cd14 "common_count" = true) (k14 : PySem.W.keepIn K (.ref f14) = true)
    (a15 : PySem.W.nsIn K mainGlobals "height_count" = some (some (.ref f15))) (l15 : K.lookup f15 = some ⟨oc15, od15, .func (PySem.W.fnOf "height_count" "height_count" (defArgs sHeightCount) (defBody sHeightCount) (defScope sHeightCount) .none kV15 dc15 pm15 an15 cd15 ct15), sl15⟩) (c15 : PySem.W.codeIn K cd15 "height_count" = true) (k15 : PySem.W.keepIn K (.ref f15) = true)
    (a16 : PySem.W.nsIn K mainGlobals "_law_bag" = some (some (.ref f16))) (l16 : K.lookup f16 = some ⟨oc16, od16, .func (PySem.W.fnOf "_law_bag" "_law_bag" (defArgs sLawBag) (defBody sLawBag) (defScope sLawBag) .none kV16 dc16 pm16 an16 cd16 ct16), sl16⟩) (c16 : PySem.W.codeIn K cd16 "_law_bag" = true) (k16 : PySem.W.keepIn K (.ref f16) = true)
    (a17 : PySem.W.nsIn K mainGlobals "_law_pick" = some (some (.ref f17))) (l17 : K.lookup f17 = some ⟨oc17, od17, .func (PySem.W.fnOf "_law_pick" "_law_pick" (defArgs sLawPick) (defBody sLawPick) (defScope sLawPick) .none kV17 dc17 pm17 an17 cd17 ct17), sl17⟩) (c17 : PySem.W.codeIn K cd17 "_law_pick" = true) (k17 : PySem.W.keepIn K (.ref f17) = true)
    (a18 : PySem.W.nsIn K mainGlobals "_law_halved" = some (some (.ref f18))) (l18 : K.lookup f18 = some ⟨oc18, od18, .func (PySem.W.fnOf "_law_halved" "_law_halved" (defArgs sLawHalved) (defBody sLawHalved) (defScope sLawHalved) .none kV18 dc18 pm18 an18 cd18 ct18), sl18⟩) (c18 : PySem.W.codeIn K cd18 "_law_halved" = true) (k18 : PySem.W.keepIn K (.ref f18) = true)
    (a19 : PySem.W.nsIn K mainGlobals "_law_peaks" = some (some (.ref f19))) (l19 : K.lookup f19 = some ⟨oc19, od19, .func (PySem.W.fnOf "_law_peaks" "_law_peaks" (defArgs sLawPeaks) (defBody sLawPeaks) (defScope sLawPeaks) .none kV19 dc19 pm19 an19 cd19 ct19), sl19⟩) (c19 : PySem.W.codeIn K cd19 "_law_peaks" = true) (k19 : PySem.W.keepIn K (.ref f19) = true)
    (a20 : PySem.W.nsIn K mainGlobals "_law_size" = some (some (.ref f20))) (l20 : K.lookup f20 = some ⟨oc20, od20, .func (PySem.W.fnOf "_law_size" "_law_size" (defArgs sLawSize) (defBody sLawSize) (defScope sLawSize) .none kV20 dc20 pm20 an20 cd20 ct20), sl20⟩) (c20 : PySem.W.codeIn K cd20 "_law_size" = true) (k20 : PySem.W.keepIn K (.ref f20) = true)
    (a21 : PySem.W.nsIn K mainGlobals "_law_walk" = some (some (.ref f21))) (l21 : K.lookup f21 = some ⟨oc21, od21, .func (PySem.W.fnOf "_law_walk" "_law_walk" (defArgs sLawWalk) (defBody sLawWalk) (defScope sLawWalk) .none kV21 dc21 pm21 an21 cd21 ct21), sl21⟩) (c21 : PySem.W.codeIn K cd21 "_law_walk" = true) (k21 : PySem.W.keepIn K (.ref f21) = true)
    (a22 : PySem.W.nsIn K mainGlobals "_law_is_node" = some (some (.ref f22))) (l22 : K.lookup f22 = some ⟨oc22, od22, .func (PySem.W.fnOf "_law_is_node" "_law_is_node" (defArgs sLawIsNode) (defBody sLawIsNode) (defScope sLawIsNode) .none kV22 dc22 pm22 an22 cd22 ct22), sl22⟩) (c22 : PySem.W.codeIn K cd22 "_law_is_node" = true) (k22 : PySem.W.keepIn K (.ref f22) = true)
    (a23 : PySem.W.nsIn K mainGlobals "_law_way_right" = some (some (.ref f23))) (l23 : K.lookup f23 = some ⟨oc23, od23, .func (PySem.W.fnOf "_law_way_right" "_law_way_right" (defArgs sLawWayRight) (defBody sLawWayRight) (defScope sLawWayRight) .none kV23 dc23 pm23 an23 cd23 ct23), sl23⟩) (c23 : PySem.W.codeIn K cd23 "_law_way_right" = true) (k23 : PySem.W.keepIn K (.ref f23) = true)
    (a24 : PySem.W.nsIn K mainGlobals "_law_counts_right" = some (some (.ref f24))) (l24 : K.lookup f24 = some ⟨oc24, od24, .func (PySem.W.fnOf "_law_counts_right" "_law_counts_right" (defArgs sLawCountsRight) (defBody sLawCountsRight) (defScope sLawCountsRight) .none kV24 dc24 pm24 an24 cd24 ct24), sl24⟩) (c24 : PySem.W.codeIn K cd24 "_law_counts_right" = true) (k24 : PySem.W.keepIn K (.ref f24) = true)
    (a25 : PySem.W.nsIn K mainGlobals "law" = some (some (.ref f25))) (l25 : K.lookup f25 = some ⟨oc25, od25, .func (PySem.W.fnOf "law" "law" (defArgs sLaw) (defBody sLaw) (defScope sLaw) .none kV25 dc25 pm25 an25 cd25 ct25), sl25⟩) (c25 : PySem.W.codeIn K cd25 "law" = true) (k25 : PySem.W.keepIn K (.ref f25) = true)
    (z_bool : PySem.W.nsIn K mainGlobals "bool" = some none)
    (z_int : PySem.W.nsIn K mainGlobals "int" = some none)
    (z_isinstance : PySem.W.nsIn K mainGlobals "isinstance" = some none)
    (z_len : PySem.W.nsIn K mainGlobals "len" = some none)
    (z_max : PySem.W.nsIn K mainGlobals "max" = some none)
    (z_min : PySem.W.nsIn K mainGlobals "min" = some none)
    (z_range : PySem.W.nsIn K mainGlobals "range" = some none)
    (z_sum : PySem.W.nsIn K mainGlobals "sum" = some none)
    (z_tuple : PySem.W.nsIn K mainGlobals "tuple" = some none)
    (z_zip : PySem.W.nsIn K mainGlobals "zip" = some none)
    {t_MOST_ENTRIES : Tok} (g_MOST_ENTRIES : PySem.W.nsIn K mainGlobals "MOST_ENTRIES" = some (some (.int 1000000000000000000000000000000 t_MOST_ENTRIES)))
    : ∃ fd : FuncData, (∀ (s : Shared) (v : Value), BindsTo s fd ⟨[v], []⟩ [("script", v)]) ∧ ∀ base : Heap, K.In base → base.Ns mainGlobals mg → FnOk l.prog w K mg base CX0 9 fa fd ["script"] (spLaw K) := by
  have e := hfa.symm.trans (PySem.W.mg_of X G a25)
  cases e
  have FIsWhole := fun_mk (st := sIsWhole) l0 c0 k0
  have FIsBetween := fun_mk (st := sIsBetween) l1 c1 k1
  have FIsTreeNode := fun_mk (st := sIsTreeNode) l2 c2 k2
  have FCheckSize := fun_mk (st := sCheckSize) l3 c3 k3
  have FCheckNode := fun_mk (st := sCheckNode) l4 c4 k4
  have FCheckNumber := fun_mk (st := sCheckNumber) l5 c5 k5
  have FPowerWithin := fun_mk (st := sPowerWithin) l6 c6 k6
  have FPeaks := fun_mk (st := sPeaks) l7 c7 k7
  have FEdges := fun_mk (st := sEdges) l8 c8 k8
  have FIsNode := fun_mk (st := sIsNode) l9 c9 k9
  have FHalves := fun_mk (st := sHalves) l10 c10 k10
  have FParent := fun_mk (st := sParent) l11 c11 k11
  have FSibling := fun_mk (st := sSibling) l12 c12 k12
  have FNodeCount := fun_mk (st := sNodeCount) l13 c13 k13
  have FCommonCount := fun_mk (st := sCommonCount) l14 c14 k14
  have FHeightCount := fun_mk (st := sHeightCount) l15 c15 k15
  have FLawBag := fun_mk (st := sLawBag) l16 c16 k16
  have FLawPick := fun_mk (st := sLawPick) l17 c17 k17
  have FLawHalved := fun_mk (st := sLawHalved) l18 c18 k18
  have FLawPeaks := fun_mk (st := sLawPeaks) l19 c19 k19
  have FLawSize := fun_mk (st := sLawSize) l20 c20 k20
  have FLawWalk := fun_mk (st := sLawWalk) l21 c21 k21
  have FLawIsNode := fun_mk (st := sLawIsNode) l22 c22 k22
  have FLawWayRight := fun_mk (st := sLawWayRight) l23 c23 k23
  have FLawCountsRight := fun_mk (st := sLawCountsRight) l24 c24 k24
  have FLaw := fun_mk (st := sLaw) l25 c25 k25
  have AIsWhole : At K mg "is_whole" f0 (PySem.W.fnOf "is_whole" "is_whole" (defArgs sIsWhole) (defBody sIsWhole) (defScope sIsWhole) .none kV0 dc0 pm0 an0 cd0 ct0) ["value"] := ⟨PySem.W.mg_of X G a0, k0, FIsWhole.binds (ps := ["value"]) fun _ _ _ _ _ _ us hl => match us, hl with | [_], _ => rfl⟩
  have AIsBetween : At K mg "is_between" f1 (PySem.W.fnOf "is_between" "is_between" (defArgs sIsBetween) (defBody sIsBetween) (defScope sIsBetween) .none kV1 dc1 pm1 an1 cd1 ct1) ["value", "low", "high"] := ⟨PySem.W.mg_of X G a1, k1, FIsBetween.binds (ps := ["value", "low", "high"]) fun _ _ _ _ _ _ us hl => match us, hl with | [_, _, _], _ => rfl⟩
  have AIsTreeNode : At K mg "is_tree_node" f2 (PySem.W.fnOf "is_tree_node" "is_tree_node" (defArgs sIsTreeNode) (defBody sIsTreeNode) (defScope sIsTreeNode) .none kV2 dc2 pm2 an2 cd2 ct2) ["size", "value"] := ⟨PySem.W.mg_of X G a2, k2, FIsTreeNode.binds (ps := ["size", "value"]) fun _ _ _ _ _ _ us hl => match us, hl with | [_, _], _ => rfl⟩
  have ACheckSize : At K mg "check_size" f3 (PySem.W.fnOf "check_size" "check_size" (defArgs sCheckSize) (defBody sCheckSize) (defScope sCheckSize) .none kV3 dc3 pm3 an3 cd3 ct3) ["size"] := ⟨PySem.W.mg_of X G a3, k3, FCheckSize.binds (ps := ["size"]) fun _ _ _ _ _ _ us hl => match us, hl with | [_], _ => rfl⟩
  have ACheckNode : At K mg "check_node" f4 (PySem.W.fnOf "check_node" "check_node" (defArgs sCheckNode) (defBody sCheckNode) (defScope sCheckNode) .none kV4 dc4 pm4 an4 cd4 ct4) ["size", "node"] := ⟨PySem.W.mg_of X G a4, k4, FCheckNode.binds (ps := ["size", "node"]) fun _ _ _ _ _ _ us hl => match us, hl with | [_, _], _ => rfl⟩
  have ACheckNumber : At K mg "check_number" f5 (PySem.W.fnOf "check_number" "check_number" (defArgs sCheckNumber) (defBody sCheckNumber) (defScope sCheckNumber) .none kV5 dc5 pm5 an5 cd5 ct5) ["number"] := ⟨PySem.W.mg_of X G a5, k5, FCheckNumber.binds (ps := ["number"]) fun _ _ _ _ _ _ us hl => match us, hl with | [_], _ => rfl⟩
  have APowerWithin : At K mg "power_within" f6 (PySem.W.fnOf "power_within" "power_within" (defArgs sPowerWithin) (defBody sPowerWithin) (defScope sPowerWithin) .none kV6 dc6 pm6 an6 cd6 ct6) ["number"] := ⟨PySem.W.mg_of X G a6, k6, FPowerWithin.binds (ps := ["number"]) fun _ _ _ _ _ _ us hl => match us, hl with | [_], _ => rfl⟩
  have APeaks : At K mg "peaks" f7 (PySem.W.fnOf "peaks" "peaks" (defArgs sPeaks) (defBody sPeaks) (defScope sPeaks) .none kV7 dc7 pm7 an7 cd7 ct7) ["size"] := ⟨PySem.W.mg_of X G a7, k7, FPeaks.binds (ps := ["size"]) fun _ _ _ _ _ _ us hl => match us, hl with | [_], _ => rfl⟩
  have AEdges : At K mg "edges" f8 (PySem.W.fnOf "edges" "edges" (defArgs sEdges) (defBody sEdges) (defScope sEdges) .none kV8 dc8 pm8 an8 cd8 ct8) ["size"] := ⟨PySem.W.mg_of X G a8, k8, FEdges.binds (ps := ["size"]) fun _ _ _ _ _ _ us hl => match us, hl with | [_], _ => rfl⟩
  have AIsNode : At K mg "is_node" f9 (PySem.W.fnOf "is_node" "is_node" (defArgs sIsNode) (defBody sIsNode) (defScope sIsNode) .none kV9 dc9 pm9 an9 cd9 ct9) ["size", "value"] := ⟨PySem.W.mg_of X G a9, k9, FIsNode.binds (ps := ["size", "value"]) fun _ _ _ _ _ _ us hl => match us, hl with | [_, _], _ => rfl⟩
  have AHalves : At K mg "halves" f10 (PySem.W.fnOf "halves" "halves" (defArgs sHalves) (defBody sHalves) (defScope sHalves) .none kV10 dc10 pm10 an10 cd10 ct10) ["size", "node"] := ⟨PySem.W.mg_of X G a10, k10, FHalves.binds (ps := ["size", "node"]) fun _ _ _ _ _ _ us hl => match us, hl with | [_, _], _ => rfl⟩
  have AParent : At K mg "parent" f11 (PySem.W.fnOf "parent" "parent" (defArgs sParent) (defBody sParent) (defScope sParent) .none kV11 dc11 pm11 an11 cd11 ct11) ["size", "node"] := ⟨PySem.W.mg_of X G a11, k11, FParent.binds (ps := ["size", "node"]) fun _ _ _ _ _ _ us hl => match us, hl with | [_, _], _ => rfl⟩
  have ASibling : At K mg "sibling" f12 (PySem.W.fnOf "sibling" "sibling" (defArgs sSibling) (defBody sSibling) (defScope sSibling) .none kV12 dc12 pm12 an12 cd12 ct12) ["size", "node"] := ⟨PySem.W.mg_of X G a12, k12, FSibling.binds (ps := ["size", "node"]) fun _ _ _ _ _ _ us hl => match us, hl with | [_, _], _ => rfl⟩
  have ANodeCount : At K mg "node_count" f13 (PySem.W.fnOf "node_count" "node_count" (defArgs sNodeCount) (defBody sNodeCount) (defScope sNodeCount) .none kV13 dc13 pm13 an13 cd13 ct13) ["size"] := ⟨PySem.W.mg_of X G a13, k13, FNodeCount.binds (ps := ["size"]) fun _ _ _ _ _ _ us hl => match us, hl with | [_], _ => rfl⟩
  have ACommonCount : At K mg "common_count" f14 (PySem.W.fnOf "common_count" "common_count" (defArgs sCommonCount) (defBody sCommonCount) (defScope sCommonCount) .none kV14 dc14 pm14 an14 cd14 ct14) ["size", "other"] := ⟨PySem.W.mg_of X G a14, k14, FCommonCount.binds (ps := ["size", "other"]) fun _ _ _ _ _ _ us hl => match us, hl with | [_, _], _ => rfl⟩
  have AHeightCount : At K mg "height_count" f15 (PySem.W.fnOf "height_count" "height_count" (defArgs sHeightCount) (defBody sHeightCount) (defScope sHeightCount) .none kV15 dc15 pm15 an15 cd15 ct15) ["size", "number"] := ⟨PySem.W.mg_of X G a15, k15, FHeightCount.binds (ps := ["size", "number"]) fun _ _ _ _ _ _ us hl => match us, hl with | [_, _], _ => rfl⟩
  have ALawBag : At K mg "_law_bag" f16 (PySem.W.fnOf "_law_bag" "_law_bag" (defArgs sLawBag) (defBody sLawBag) (defScope sLawBag) .none kV16 dc16 pm16 an16 cd16 ct16) ["cell"] := ⟨PySem.W.mg_of X G a16, k16, FLawBag.binds (ps := ["cell"]) fun _ _ _ _ _ _ us hl => match us, hl with | [_], _ => rfl⟩
  have ALawPick : At K mg "_law_pick" f17 (PySem.W.fnOf "_law_pick" "_law_pick" (defArgs sLawPick) (defBody sLawPick) (defScope sLawPick) .none kV17 dc17 pm17 an17 cd17 ct17) ["bag", "many"] := ⟨PySem.W.mg_of X G a17, k17, FLawPick.binds (ps := ["bag", "many"]) fun _ _ _ _ _ _ us hl => match us, hl with | [_, _], _ => rfl⟩
  have ALawHalved : At K mg "_law_halved" f18 (PySem.W.fnOf "_law_halved" "_law_halved" (defArgs sLawHalved) (defBody sLawHalved) (defScope sLawHalved) .none kV18 dc18 pm18 an18 cd18 ct18) ["node"] := ⟨PySem.W.mg_of X G a18, k18, FLawHalved.binds (ps := ["node"]) fun _ _ _ _ _ _ us hl => match us, hl with | [_], _ => rfl⟩
  have ALawPeaks : At K mg "_law_peaks" f19 (PySem.W.fnOf "_law_peaks" "_law_peaks" (defArgs sLawPeaks) (defBody sLawPeaks) (defScope sLawPeaks) .none kV19 dc19 pm19 an19 cd19 ct19) ["size"] := ⟨PySem.W.mg_of X G a19, k19, FLawPeaks.binds (ps := ["size"]) fun _ _ _ _ _ _ us hl => match us, hl with | [_], _ => rfl⟩
  have ALawSize : At K mg "_law_size" f20 (PySem.W.fnOf "_law_size" "_law_size" (defArgs sLawSize) (defBody sLawSize) (defScope sLawSize) .none kV20 dc20 pm20 an20 cd20 ct20) ["bag"] := ⟨PySem.W.mg_of X G a20, k20, FLawSize.binds (ps := ["bag"]) fun _ _ _ _ _ _ us hl => match us, hl with | [_], _ => rfl⟩
  have ALawWalk : At K mg "_law_walk" f21 (PySem.W.fnOf "_law_walk" "_law_walk" (defArgs sLawWalk) (defBody sLawWalk) (defScope sLawWalk) .none kV21 dc21 pm21 an21 cd21 ct21) ["bag", "size"] := ⟨PySem.W.mg_of X G a21, k21, FLawWalk.binds (ps := ["bag", "size"]) fun _ _ _ _ _ _ us hl => match us, hl with | [_, _], _ => rfl⟩
  have ALawIsNode : At K mg "_law_is_node" f22 (PySem.W.fnOf "_law_is_node" "_law_is_node" (defArgs sLawIsNode) (defBody sLawIsNode) (defScope sLawIsNode) .none kV22 dc22 pm22 an22 cd22 ct22) ["size", "node"] := ⟨PySem.W.mg_of X G a22, k22, FLawIsNode.binds (ps := ["size", "node"]) fun _ _ _ _ _ _ us hl => match us, hl with | [_, _], _ => rfl⟩
  have ALawWayRight : At K mg "_law_way_right" f23 (PySem.W.fnOf "_law_way_right" "_law_way_right" (defArgs sLawWayRight) (defBody sLawWayRight) (defScope sLawWayRight) .none kV23 dc23 pm23 an23 cd23 ct23) ["bag", "size"] := ⟨PySem.W.mg_of X G a23, k23, FLawWayRight.binds (ps := ["bag", "size"]) fun _ _ _ _ _ _ us hl => match us, hl with | [_, _], _ => rfl⟩
  have ALawCountsRight : At K mg "_law_counts_right" f24 (PySem.W.fnOf "_law_counts_right" "_law_counts_right" (defArgs sLawCountsRight) (defBody sLawCountsRight) (defScope sLawCountsRight) .none kV24 dc24 pm24 an24 cd24 ct24) ["bag", "size"] := ⟨PySem.W.mg_of X G a24, k24, FLawCountsRight.binds (ps := ["bag", "size"]) fun _ _ _ _ _ _ us hl => match us, hl with | [_, _], _ => rfl⟩
  have z_bool := PySem.W.mg_none_of X G z_bool
  have z_int := PySem.W.mg_none_of X G z_int
  have z_isinstance := PySem.W.mg_none_of X G z_isinstance
  have z_len := PySem.W.mg_none_of X G z_len
  have z_max := PySem.W.mg_none_of X G z_max
  have z_min := PySem.W.mg_none_of X G z_min
  have z_range := PySem.W.mg_none_of X G z_range
  have z_sum := PySem.W.mg_none_of X G z_sum
  have z_tuple := PySem.W.mg_none_of X G z_tuple
  have z_zip := PySem.W.mg_none_of X G z_zip
  have g_MOST_ENTRIES := PySem.W.mg_of X G g_MOST_ENTRIES
  refine ⟨PySem.W.fnOf "law" "law" (defArgs sLaw) (defBody sLaw) (defScope sLaw) .none kV25 dc25 pm25 an25 cd25 ct25, fun s v => .of_eq rfl, fun base _ _ => ?_⟩
  have GIsWhole := ok_is_wholeV (P := l.prog) (w := w) (base := base) FIsWhole z_isinstance z_int z_bool
  have GIsBetween := ok_is_betweenV FIsBetween GIsWhole AIsWhole
  have GIsTreeNode := ok_is_tree_nodeV FIsTreeNode GIsBetween AIsBetween z_isinstance z_tuple z_len
  have GCheckSize := ok_check_size FCheckSize (between_of GIsBetween) AIsBetween g_MOST_ENTRIES
  have GCheckNode := ok_check_node FCheckNode (tree_ofV GIsTreeNode) AIsTreeNode
  have GCheckNumber := ok_check_number FCheckNumber (whole_of GIsWhole) AIsWhole
  have GPowerWithin := ok_power_within (P := l.prog) (w := w) (mg := mg) (base := base) FPowerWithin
  have GPeaks := ok_peaks FPeaks GCheckSize ACheckSize GPowerWithin APowerWithin
  have GEdges := ok_edges FEdges GPeaks APeaks
  have GIsNode := ok_is_node FIsNode GCheckSize ACheckSize GIsTreeNode AIsTreeNode
  have GHalves := ok_halvesA FHalves GCheckSize ACheckSize GCheckNode ACheckNode GPowerWithin APowerWithin
  have GParent := ok_parent FParent GCheckSize ACheckSize GCheckNode ACheckNode z_min
  have GSibling := ok_sibling FSibling GParent AParent GHalves AHalves
  have GNodeCount := ok_node_count FNodeCount GEdges AEdges z_len
  have GCommonCount := ok_common_count FCommonCount GCheckSize ACheckSize GNodeCount ANodeCount z_min
  have GHeightCount := ok_height_count FHeightCount GCheckSize ACheckSize GCheckNumber ACheckNumber
  have GLawBag := ok_law_bag (P := l.prog) (w := w) (base := base) FLawBag z_max
  have GLawPick := ok_law_pick (P := l.prog) (w := w) (base := base) FLawPick z_int
  have GLawHalved := ok_law_halved (P := l.prog) (w := w) (mg := mg) (base := base) FLawHalved
  have GLawPeaks := ok_law_peaks (P := l.prog) (w := w) (base := base) FLawPeaks z_range
  have GLawSize := ok_law_size FLawSize GLawPick ALawPick z_max z_min
  have GLawWalk := ok_law_walk FLawWalk GLawHalved ALawHalved GLawPick ALawPick
  have GLawIsNode := ok_law_is_node FLawIsNode GLawHalved ALawHalved
  have GLawWayRight := ok_law_way_right FLawWayRight GLawWalk ALawWalk GHalves AHalves GLawHalved ALawHalved GParent AParent GSibling ASibling GIsNode AIsNode GLawPick ALawPick GLawIsNode ALawIsNode z_zip z_len z_max
  have GLawCountsRight := ok_law_counts_right FLawCountsRight GLawPeaks ALawPeaks GPeaks APeaks GEdges AEdges GNodeCount ANodeCount GLawPick ALawPick GHeightCount AHeightCount GLawSize ALawSize GCommonCount ACommonCount z_sum z_range z_len z_max z_min
  exact ok_law FLaw GLawBag ALawBag GLawSize ALawSize GLawWayRight ALawWayRight GLawCountsRight ALawCountsRight GNodeCount ANodeCount z_range
end LT
open PySem PySem.W PyProof.Rows
set_option maxRecDepth 100000 in
set_option maxHeartbeats 0 in
theorem PySem.Challenge.cw_logtrees_k03_great_shapes_holds : PySem.Challenge.rw_logtrees_k03_great_shapes.Holds := by
  w_on; o_law; k_head; (case hw => w_witness2)
  k_fill
  refine L2.walk_of (l := PySem.Challenge.rw_logtrees_k03_great_shapes) (n := 63) (k := 9) (x := "script") (CX := fun _ => L2.CX0) (sp := fun w => LT.spLaw _) rfl (by decide) rfl ⟨rfl, by decide, by decide⟩ (fun w h Y => PySem.W.kIn_of Y) ?F (fun _ _ a ns hl _ hS => ⟨a, ns, rfl, hS, hl, fun _ => rfl⟩) (fun _ _ _ _ _ h => h)
  case F =>
    intro w mg fa h KX G hmg
    refine' LT.all_mk KX G hmg ?a0 ?l0 ?c0 ?k0 ?a1 ?l1 ?c1 ?k1 ?a2 ?l2 ?c2 ?k2 ?a3 ?l3 ?c3 ?k3 ?a4 ?l4 ?c4 ?k4 ?a5 ?l5 ?c5 ?k5 ?a6 ?l6 ?c6 ?k6 ?a7 ?l7 ?c7 ?k7 ?a8 ?l8 ?c8 ?k8 ?a9 ?l9 ?c9 ?k9 ?a10 ?l10 ?c10 ?k10 ?a11 ?l11 ?c11 ?k11 ?a12 ?l12 ?c12 ?k12 ?a13 ?l13 ?c13 ?k13 ?a14 ?l14 ?c14 ?k14 ?a15 ?l15 ?c15 ?k15 ?a16 ?l16 ?c16 ?k16 ?a17 ?l17 ?c17 ?k17 ?a18 ?l18 ?c18 ?k18 ?a19 ?l19 ?c19 ?k19 ?a20 ?l20 ?c20 ?k20 ?a21 ?l21 ?c21 ?k21 ?a22 ?l22 ?c22 ?k22 ?a23 ?l23 ?c23 ?k23 ?a24 ?l24 ?c24 ?k24 ?a25 ?l25 ?c25 ?k25 ?z_bool ?z_int ?z_isinstance ?z_len ?z_max ?z_min ?z_range ?z_sum ?z_tuple ?z_zip ?g_MOST_ENTRIES
    (case a0 => k_is)
    (case l0 => k_is)
    (case c0 => k_is)
    (case k0 => k_is)
    (case a1 => k_is)
    (case l1 => k_is)
    (case c1 => k_is)
    (case k1 => k_is)
    (case a2 => k_is)
    (case l2 => k_is)
    (case c2 => k_is)
    (case k2 => k_is)
    (case a3 => k_is)
    (case l3 => k_is)
    (case c3 => k_is)
    (case k3 => k_is)
    (case a4 => k_is)
    (case l4 => k_is)
    (case c4 => k_is)
    (case k4 => k_is)
    (case a5 => k_is)
    (case l5 => k_is)
    (case c5 => k_is)
    (case k5 => k_is)
    (case a6 => k_is)
    (case l6 => k_is)
    (case c6 => k_is)
    (case k6 => k_is)
    (case a7 => k_is)
    (case l7 => k_is)
    (case c7 => k_is)
    (case k7 => k_is)
    (case a8 => k_is)
    (case l8 => k_is)
    (case c8 => k_is)
    (case k8 => k_is)
    (case a9 => k_is)
    (case l9 => k_is)
    (case c9 => k_is)
    (case k9 => k_is)
    (case a10 => k_is)
    (case l10 => k_is)
    (case c10 => k_is)
    (case k10 => k_is)
    (case a11 => k_is)
    (case l11 => k_is)
    (case c11 => k_is)
    (case k11 => k_is)
    (case a12 => k_is)
    (case l12 => k_is)
    (case c12 => k_is)
    (case k12 => k_is)
    (case a13 => k_is)
    (case l13 => k_is)
    (case c13 => k_is)
    (case k13 => k_is)
    (case a14 => k_is)
    (case l14 => k_is)
    (case c14 => k_is)
    (case k14 => k_is)
    (case a15 => k_is)
    (case l15 => k_is)
    (case c15 => k_is)
    (case k15 => k_is)
    (case a16 => k_is)
    (case l16 => k_is)
    (case c16 => k_is)
    (case k16 => k_is)
    (case a17 => k_is)
    (case l17 => k_is)
    (case c17 => k_is)
    (case k17 => k_is)
    (case a18 => k_is)
    (case l18 => k_is)
    (case c18 => k_is)
    (case k18 => k_is)
    (case a19 => k_is)
    (case l19 => k_is)
    (case c19 => k_is)
    (case k19 => k_is)
    (case a20 => k_is)
    (case l20 => k_is)
    (case c20 => k_is)
    (case k20 => k_is)
    (case a21 => k_is)
    (case l21 => k_is)
    (case c21 => k_is)
    (case k21 => k_is)
    (case a22 => k_is)
    (case l22 => k_is)
    (case c22 => k_is)
    (case k22 => k_is)
    (case a23 => k_is)
    (case l23 => k_is)
    (case c23 => k_is)
    (case k23 => k_is)
    (case a24 => k_is)
    (case l24 => k_is)
    (case c24 => k_is)
    (case k24 => k_is)
    (case a25 => k_is)
    (case l25 => k_is)
    (case c25 => k_is)
    (case k25 => k_is)
    (case z_bool => k_is)
    (case z_int => k_is)
    (case z_isinstance => k_is)
    (case z_len => k_is)
    (case z_max => k_is)
    (case z_min => k_is)
    (case z_range => k_is)
    (case z_sum => k_is)
    (case z_tuple => k_is)
    (case z_zip => k_is)
    (case g_MOST_ENTRIES => k_is)
