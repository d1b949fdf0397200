import PyProof.Rows.All
import Wide.All
import OpenK.AllK
import Wide.FinOn
import HandS.ForMost
import HandS.Wide
import HandS.WideBits
import HandS.IsInst
import HandS.Style
import HandS.Deep
import HandS.RaiseMore
import HandS.Conv
import HandS.Flow
import HandS.SortRule
import PyProof.ReprRoads
import PyProof.Rows.NestShow
import PySem.Challenge.RW_logtrees_k01_trees_built
set_option Elab.async false
set_option linter.all false
set_option maxRecDepth 100000
set_option maxHeartbeats 4000000
namespace LT
/-- the greatest power of two less than m (m from 2) -/
def gp (m : Nat) : Nat := 2 ^ Nat.log2 (m - 1)
theorem gp_pos (m : Nat) : 0 < gp m := Nat.pow_pos (by decide)
theorem gp_lt {m : Nat} (h : 2 ≤ m) : gp m < m := by
  have := Nat.log2_self_le (n := m - 1) (by omega)
  unfold gp; omega
theorem gp_ge {m : Nat} (h : 2 ≤ m) : m ≤ 2 * gp m := by
  have := Nat.lt_log2_self (n := m - 1)
  unfold gp; rw [Nat.pow_succ] at this; omega
theorem pow_eq_of {i j : Nat} {m : Nat} (h1 : 2 ^ i < m) (h2 : m ≤ 2 * 2 ^ i) (h3 : 2 ^ j < m) (h4 : m ≤ 2 * 2 ^ j) : i = j := by
  have a : 2 ^ i < 2 ^ (j + 1) := by rw [Nat.pow_succ]; omega
  have b : 2 ^ j < 2 ^ (i + 1) := by rw [Nat.pow_succ]; omega
  have a' := (Nat.pow_lt_pow_iff_right (by decide : 1 < 2)).mp a
  have b' := (Nat.pow_lt_pow_iff_right (by decide : 1 < 2)).mp b
  omega
theorem gp_eq {i m : Nat} (h1 : 2 ^ i < m) (h2 : m ≤ 2 * 2 ^ i) : gp m = 2 ^ i := by
  have h : 2 ≤ m := by have := Nat.pow_pos (a := 2) (n := i) (by decide); omega
  have := pow_eq_of (gp_lt h) (gp_ge h) h1 h2
  unfold gp; rw [this]
theorem gp_pow (i : Nat) : gp (2 ^ (i + 1)) = 2 ^ i := gp_eq (by rw [Nat.pow_succ]; have := Nat.pow_pos (a := 2) (n := i) (by decide); omega) (by rw [Nat.pow_succ]; omega)

/-- siblings from the root's half down to the leaf's: nodes as (begin, length-end) pairs -/
def sib (b m e : Nat) : List (Nat × Nat) :=
  if h : m ≤ 1 then [] else
    if e < b + gp m then (b + gp m, b + m) :: sib b (gp m) e
    else (b, b + gp m) :: sib (b + gp m) (m - gp m) e
termination_by m
decreasing_by
  · exact gp_lt (by omega)
  · have := gp_pos m; omega
theorem sib_one {b m e : Nat} (h : m ≤ 1) : sib b m e = [] := by rw [sib]; simp [h]
theorem sib_low {b m e : Nat} (h : 2 ≤ m) (k : e < b + gp m) : sib b m e = (b + gp m, b + m) :: sib b (gp m) e := by
  rw [sib]; rw [dif_neg (by omega), if_pos k]
theorem sib_high {b m e : Nat} (h : 2 ≤ m) (k : ¬ e < b + gp m) : sib b m e = (b, b + gp m) :: sib (b + gp m) (m - gp m) e := by
  rw [sib]; rw [dif_neg (by omega), if_neg k]

/-! ### joining up again -/
def join (x y : Nat × Nat) : Nat × Nat := (min x.1 y.1, max x.2 y.2)
/-- the halves of a node -/
def halv (x : Nat × Nat) : (Nat × Nat) × (Nat × Nat) := ((x.1, x.1 + gp (x.2 - x.1)), (x.1 + gp (x.2 - x.1), x.2))
def ok1 (x y : Nat × Nat) : Prop := (join x y).1 + 2 ≤ (join x y).2 ∧ (halv (join x y) = (x, y) ∨ halv (join x y) = (y, x))
def oks : Nat × Nat → List (Nat × Nat) → Prop
  | _, [] => True
  | x, y :: r => ok1 x y ∧ oks (join x y) r
def top : Nat × Nat → List (Nat × Nat) → Nat × Nat
  | x, [] => x
  | x, y :: r => top (join x y) r
theorem oks_append : ∀ (x : Nat × Nat) (l r : List (Nat × Nat)), oks x l → oks (top x l) r → oks x (l ++ r)
  | _, [], _, _, h => h
  | x, y :: l, r, h1, h2 => ⟨h1.1, oks_append (join x y) l r h1.2 h2⟩
theorem top_append : ∀ (x : Nat × Nat) (l r : List (Nat × Nat)), top x (l ++ r) = top (top x l) r
  | _, [], _ => rfl
  | x, y :: l, r => top_append (join x y) l r
theorem sib_up : ∀ (m b e : Nat), b ≤ e → e < b + m → oks (e, e + 1) (sib b m e).reverse ∧ top (e, e + 1) (sib b m e).reverse = (b, b + m) := by
  intro m
  induction m using Nat.strongRecOn with
  | ind m ih =>
    intro b e h1 h2
    by_cases hm : m ≤ 1
    · have : m = 1 := by omega
      subst this
      rw [sib_one (by omega)]
      have : e = b := by omega
      subst this
      exact ⟨True.intro, rfl⟩
    · have g1 := gp_lt (m := m) (by omega)
      have g2 := gp_pos m
      by_cases k : e < b + gp m
      · rw [sib_low (by omega) k, List.reverse_cons]
        obtain ⟨p, q⟩ := ih (gp m) g1 b e h1 k
        have j : join (b, b + gp m) (b + gp m, b + m) = (b, b + m) := by
          unfold join; simp only []; rw [Nat.min_eq_left (by omega), Nat.max_eq_right (by omega)]
        refine ⟨oks_append _ _ _ p ?_, ?_⟩
        · rw [q]
          refine ⟨⟨?_, .inl ?_⟩, True.intro⟩
          · rw [j]; simp only []; omega
          · rw [j]; unfold halv; simp only []; rw [Nat.add_sub_cancel_left]
        · rw [top_append, q]; exact j
      · rw [sib_high (by omega) k, List.reverse_cons]
        obtain ⟨p, q⟩ := ih (m - gp m) (by omega) (b + gp m) e (by omega) (by omega)
        have e2 : b + gp m + (m - gp m) = b + m := by omega
        rw [e2] at q
        have j : join (b + gp m, b + m) (b, b + gp m) = (b, b + m) := by
          unfold join; simp only []; rw [Nat.min_eq_right (by omega), Nat.max_eq_left (by omega)]
        refine ⟨oks_append _ _ _ p ?_, ?_⟩
        · rw [q]
          refine ⟨⟨?_, .inr ?_⟩, True.intro⟩
          · rw [j]; simp only []; omega
          · rw [j]; unfold halv; simp only []; rw [Nat.add_sub_cancel_left]
        · rw [top_append, q]; exact j
theorem sib_len_pow (i : Nat) : ∀ (b e : Nat), b ≤ e → e < b + 2 ^ i → (sib b (2 ^ i) e).length = i := by
  induction i with
  | zero => intro b e h1 h2; rw [sib_one (by simp)]; rfl
  | succ i ih =>
    intro b e h1 h2
    have h3 : 2 ≤ 2 ^ (i + 1) := by rw [Nat.pow_succ]; have := Nat.pow_pos (a := 2) (n := i) (by decide); omega
    have g := gp_pow i
    have e2 : 2 ^ (i + 1) - 2 ^ i = 2 ^ i := by rw [Nat.pow_succ]; omega
    by_cases k : e < b + gp (2 ^ (i + 1))
    · rw [sib_low h3 k, List.length_cons, g, ih b e h1 (by omega)]
    · rw [sib_high h3 k, List.length_cons, g, e2, ih (b + 2 ^ i) e (by omega) (by rw [Nat.pow_succ] at h2; omega)]
/-! ### the peaks by digits: (begin, height) -/
def pk : Nat → Nat → Nat → List (Nat × Nat)
  | 0, _, _ => []
  | i + 1, n, b => if n.testBit i then (b, i) :: pk i n (b + 2 ^ i) else pk i n b
theorem mod_succ (n i : Nat) : n % 2 ^ (i + 1) = (if n.testBit i then 2 ^ i else 0) + n % 2 ^ i := by
  rw [Nat.mod_pow_succ, Nat.testBit_eq_decide_div_mod_eq, Nat.add_comm]
  have h : n / 2 ^ i % 2 = 0 ∨ n / 2 ^ i % 2 = 1 := by omega
  rcases h with h | h <;> rw [h] <;> simp
theorem pk_nil : ∀ (i n b : Nat), n % 2 ^ i = 0 → pk i n b = []
  | 0, _, _, _ => rfl
  | i + 1, n, b, h => by
    rw [mod_succ] at h
    have p := Nat.pow_pos (a := 2) (n := i) (by decide)
    unfold pk
    cases t : n.testBit i with
    | true => rw [t] at h; simp at h
    | false => rw [t] at h; simp at h; simp; exact pk_nil i n b h
theorem pk_ne : ∀ (i n b : Nat), n % 2 ^ i ≠ 0 → pk i n b ≠ []
  | 0, _, _, h => by simp [Nat.mod_one] at h
  | i + 1, n, b, h => by
    rw [mod_succ] at h
    unfold pk
    cases t : n.testBit i with
    | true => simp
    | false => rw [t] at h; simp at h; simp; exact pk_ne i n b (by omega)
theorem pk_begin : ∀ (i n b : Nat) (x : Nat × Nat), x ∈ pk i n b → b ≤ x.1 ∧ x.2 < i
  | 0, _, _, _, h => by simp [pk] at h
  | i + 1, n, b, x, h => by
    unfold pk at h
    cases t : n.testBit i with
    | true =>
      rw [t] at h; simp at h
      rcases h with h | h
      · subst h; exact ⟨Nat.le_refl _, Nat.lt_succ_self _⟩
      · have := pk_begin i n _ x h; have p := Nat.pow_pos (a := 2) (n := i) (by decide); omega
    | false =>
      rw [t] at h; simp at h
      have := pk_begin i n _ x h; omega
/-- what the law says of the levels: s the place of the first row, of t rows in all -/
def lev (t : Nat) : Nat → List (Nat × Nat) → List (Nat × Nat × Nat)
  | _, [] => []
  | s, x :: r => (x.1, x.1 + 2 ^ x.2, x.2 + min (s + 1) (t - 1)) :: lev t (s + 1) r
def due (e : Nat) (l : List (Nat × Nat × Nat)) : List Nat := (l.filter fun x => decide (x.1 ≤ e) && decide (e < x.2.1)).map fun x => x.2.2
theorem due_none (t e : Nat) : ∀ (l : List (Nat × Nat)) (s : Nat), (∀ x ∈ l, e < x.1) → due e (lev t s l) = []
  | [], _, _ => rfl
  | x :: r, s, h => by
    have h1 := h x (List.mem_cons_self)
    have ih := due_none t e r (s + 1) fun y hy => h y (List.mem_cons_of_mem _ hy)
    show List.map _ (List.filter _ ((x.1, x.1 + 2 ^ x.2, x.2 + min (s + 1) (t - 1)) :: lev t (s + 1) r)) = []
    rw [List.filter_cons, if_neg (by simp; omega)]
    exact ih
theorem due_is (n e : Nat) : ∀ (i b s : Nat), b ≤ e → e < b + n % 2 ^ i → due e (lev (s + (pk i n b).length) s (pk i n b)) = [(sib b (n % 2 ^ i) e).length + min s (s + (pk i n b).length - 1)] := by
  intro i
  induction i with
  | zero => intro b s h1 h2; simp [Nat.mod_one] at h2; omega
  | succ i ih =>
    intro b s h1 h2
    have p := Nat.pow_pos (a := 2) (n := i) (by decide)
    have ml := Nat.mod_lt n p
    cases t : n.testBit i with
    | false =>
      have e1 : n % 2 ^ (i + 1) = n % 2 ^ i := by rw [mod_succ, t]; simp
      have e2 : pk (i + 1) n b = pk i n b := by show (if n.testBit i = true then _ else _) = _; rw [t]; simp
      rw [e1] at h2
      rw [e1, e2]; exact ih b s h1 h2
    | true =>
      have e1 : n % 2 ^ (i + 1) = 2 ^ i + n % 2 ^ i := by rw [mod_succ, t]; simp
      have e2 : pk (i + 1) n b = (b, i) :: pk i n (b + 2 ^ i) := by show (if n.testBit i = true then _ else _) = _; rw [t]; simp
      rw [e1] at h2
      rw [e1, e2, List.length_cons]
      by_cases r0 : n % 2 ^ i = 0
      · rw [pk_nil i n _ r0, r0]
        rw [r0] at h2
        rw [Nat.add_zero] at h2
        rw [Nat.add_zero (2 ^ i), sib_len_pow i b e h1 h2]
        show List.map _ (List.filter _ [(b, b + 2 ^ i, i + min (s + 1) (s + (0 + 1) - 1))]) = _
        rw [List.filter_cons, if_pos (by simp; omega)]
        simp
      · have hne : 1 ≤ (pk i n (b + 2 ^ i)).length := by
          have := pk_ne i n (b + 2 ^ i) r0
          cases hh : pk i n (b + 2 ^ i) with
          | nil => exact absurd hh this
          | cons _ _ => rw [List.length_cons]; omega
        have g : gp (2 ^ i + n % 2 ^ i) = 2 ^ i := gp_eq (by omega) (by omega)
        by_cases k : e < b + 2 ^ i
        · rw [sib_low (by omega) (by rw [g]; exact k), g, List.length_cons, sib_len_pow i b e h1 k]
          have d := due_none (s + ((pk i n (b + 2 ^ i)).length + 1)) e (pk i n (b + 2 ^ i)) (s + 1) fun x hx => by have := pk_begin _ _ _ x hx; omega
          show List.map _ (List.filter _ ((b, b + 2 ^ i, i + min (s + 1) (s + ((pk i n (b + 2 ^ i)).length + 1) - 1)) :: lev (s + ((pk i n (b + 2 ^ i)).length + 1)) (s + 1) (pk i n (b + 2 ^ i)))) = _
          rw [List.filter_cons, if_pos (by simp; omega), List.map_cons]
          have d' : List.map (fun x => x.2.2) (List.filter (fun x => decide (x.1 ≤ e) && decide (e < x.2.1)) (lev (s + ((pk i n (b + 2 ^ i)).length + 1)) (s + 1) (pk i n (b + 2 ^ i)))) = [] := d
          rw [d']
          simp
          omega
        · rw [sib_high (by omega) (by rw [g]; exact k), g, List.length_cons, Nat.add_sub_cancel_left]
          have q := ih (b + 2 ^ i) (s + 1) (by omega) (by omega)
          have e3 : s + 1 + (pk i n (b + 2 ^ i)).length = s + ((pk i n (b + 2 ^ i)).length + 1) := by omega
          rw [e3] at q
          show List.map _ (List.filter _ ((b, b + 2 ^ i, i + min (s + 1) (s + ((pk i n (b + 2 ^ i)).length + 1) - 1)) :: lev (s + ((pk i n (b + 2 ^ i)).length + 1)) (s + 1) (pk i n (b + 2 ^ i)))) = _
          rw [List.filter_cons, if_neg (by simp; omega)]
          refine Eq.trans q ?_
          congr 1
          omega
/-! ### which pairs are nodes -/
/-- the bits of m - 1 -/
def lb (m : Nat) : Nat := if m ≤ 1 then 0 else Nat.log2 (m - 1) + 1
theorem lb_le {x i : Nat} (h : x ≤ 2 ^ i) : lb x ≤ i := by
  unfold lb
  by_cases k : x ≤ 1
  · rw [if_pos k]; omega
  · rw [if_neg k]
    have h1 := Nat.log2_self_le (n := x - 1) (by omega)
    have h2 : 2 ^ Nat.log2 (x - 1) < 2 ^ i := by omega
    exact (Nat.pow_lt_pow_iff_right (by decide : 1 < 2)).mp h2
theorem lb_ge (x : Nat) : x ≤ 2 ^ lb x := by
  unfold lb
  by_cases k : x ≤ 1
  · rw [if_pos k]; omega
  · rw [if_neg k]
    have := Nat.lt_log2_self (n := x - 1)
    omega
theorem lb_pow (i : Nat) : lb (2 ^ i) = i := by
  have h1 := lb_le (Nat.le_refl (2 ^ i))
  have h2 := (Nat.pow_le_pow_iff_right (by decide : 1 < 2)).mp (lb_ge (2 ^ i))
  omega
theorem lb_gp {m : Nat} (h : 2 ≤ m) : 2 ^ lb m = 2 * gp m := by
  unfold lb gp; rw [if_neg (by omega), Nat.pow_succ]; omega
def tree (n b m : Nat) : Prop := 2 ^ lb m ∣ b ∧ (m = 2 ^ lb m ∨ b + m = n)
theorem tree_root (n : Nat) : tree n 0 n := ⟨Nat.dvd_zero _, .inr (Nat.zero_add _)⟩
theorem tree_low {n b m : Nat} (h : 2 ≤ m) (t : tree n b m) : tree n b (gp m) := by
  obtain ⟨d, _⟩ := t
  rw [lb_gp h] at d
  have e : 2 ^ lb (gp m) = gp m := by unfold gp; rw [lb_pow]
  exact ⟨by rw [e]; exact Nat.dvd_trans (Nat.dvd_mul_left _ _) d, .inl e.symm⟩
theorem tree_high {n b m : Nat} (h : 2 ≤ m) (t : tree n b m) : tree n (b + gp m) (m - gp m) := by
  obtain ⟨d, k⟩ := t
  rw [lb_gp h] at d k
  have g1 := gp_lt h
  have g2 := gp_ge h
  have dg : 2 ^ lb (m - gp m) ∣ gp m := by
    have : lb (m - gp m) ≤ Nat.log2 (m - 1) := lb_le (by unfold gp at g1 g2 ⊢; omega)
    exact Nat.pow_dvd_pow 2 this
  refine ⟨Nat.dvd_add (Nat.dvd_trans dg (Nat.dvd_trans (Nat.dvd_mul_left _ _) d)) dg, ?_⟩
  rcases k with k | k
  · left
    have e : m - gp m = gp m := by omega
    rw [e]
    unfold gp; rw [lb_pow]
  · right; omega
theorem sib_len_le : ∀ (m b e : Nat), b ≤ e → e < b + m → (sib b m e).length ≤ lb m := by
  intro m
  induction m using Nat.strongRecOn with
  | ind m ih =>
    intro b e h1 h2
    by_cases hm : m ≤ 1
    · rw [sib_one hm]; exact Nat.zero_le _
    · have g1 := gp_lt (m := m) (by omega)
      have g2 := gp_ge (m := m) (by omega)
      have g3 := gp_pos m
      have e1 : lb m = Nat.log2 (m - 1) + 1 := by unfold lb; rw [if_neg hm]
      by_cases k : e < b + gp m
      · rw [sib_low (by omega) k, List.length_cons]
        have := ih (gp m) g1 b e h1 k
        have e2 : lb (gp m) = Nat.log2 (m - 1) := by unfold gp; rw [lb_pow]
        omega
      · rw [sib_high (by omega) k, List.length_cons]
        have := ih (m - gp m) (by omega) (b + gp m) e (by omega) (by omega)
        have e2 : lb (m - gp m) ≤ Nat.log2 (m - 1) := lb_le (by unfold gp at g1 g2 ⊢; omega)
        omega
end LT
namespace LT
open PySem PySem.Spec PyProof.Rows L2
def topS (i : Nat) : Stmt := PySem.Challenge.pw_logtrees_k01_trees_built.main.body.getD i (.Pass ⟨0, 0, 0, 0⟩)
abbrev sIsWhole : Stmt := topS 6
theorem scIsWhole : FnScope ["value"] ["value"] (defScope sIsWhole) := ⟨rfl, rfl, rfl, by decide +kernel, rfl, by decide +kernel, by decide +kernel⟩
abbrev sIsBetween : Stmt := topS 7
theorem scIsBetween : FnScope ["value", "low", "high"] ["value", "low", "high"] (defScope sIsBetween) := ⟨rfl, rfl, rfl, by decide +kernel, rfl, by decide +kernel, by decide +kernel⟩
abbrev sIsTreeNode : Stmt := topS 8
theorem scIsTreeNode : FnScope ["size", "value", "begin", "end", "room"] ["size", "value"] (defScope sIsTreeNode) := ⟨rfl, rfl, rfl, by decide +kernel, rfl, by decide +kernel, by decide +kernel⟩
abbrev sCheckSize : Stmt := topS 9
theorem scCheckSize : FnScope ["size"] ["size"] (defScope sCheckSize) := ⟨rfl, rfl, rfl, by decide +kernel, rfl, by decide +kernel, by decide +kernel⟩
abbrev sCheckNode : Stmt := topS 10
theorem scCheckNode : FnScope ["size", "node"] ["size", "node"] (defScope sCheckNode) := ⟨rfl, rfl, rfl, by decide +kernel, rfl, by decide +kernel, by decide +kernel⟩
abbrev sPowerWithin : Stmt := topS 12
theorem scPowerWithin : FnScope ["number"] ["number"] (defScope sPowerWithin) := ⟨rfl, rfl, rfl, by decide +kernel, rfl, by decide +kernel, by decide +kernel⟩
abbrev sPeaks : Stmt := topS 13
theorem scPeaks : FnScope ["size", "found", "begin", "end"] ["size"] (defScope sPeaks) := ⟨rfl, rfl, rfl, by decide +kernel, rfl, by decide +kernel, by decide +kernel⟩
abbrev sEdges : Stmt := topS 14
theorem scEdges : FnScope ["size", "begin", "_"] ["size"] (defScope sEdges) := ⟨rfl, rfl, rfl, by decide +kernel, rfl, by decide +kernel, by decide +kernel⟩
abbrev sIsNode : Stmt := topS 15
theorem scIsNode : FnScope ["size", "value"] ["size", "value"] (defScope sIsNode) := ⟨rfl, rfl, rfl, by decide +kernel, rfl, by decide +kernel, by decide +kernel⟩
abbrev sHalves : Stmt := topS 16
theorem scHalves : FnScope ["size", "node", "begin", "end", "middle"] ["size", "node"] (defScope sHalves) := ⟨rfl, rfl, rfl, by decide +kernel, rfl, by decide +kernel, by decide +kernel⟩
abbrev sParent : Stmt := topS 17
theorem scParent : FnScope ["size", "node", "begin", "end", "first", "last", "room"] ["size", "node"] (defScope sParent) := ⟨rfl, rfl, rfl, by decide +kernel, rfl, by decide +kernel, by decide +kernel⟩
abbrev sSibling : Stmt := topS 18
theorem scSibling : FnScope ["size", "node", "above", "low", "high"] ["size", "node"] (defScope sSibling) := ⟨rfl, rfl, rfl, by decide +kernel, rfl, by decide +kernel, by decide +kernel⟩
abbrev sLawBag : Stmt := topS 20
theorem scLawBag : FnScope ["cell"] ["cell"] (defScope sLawBag) := ⟨rfl, rfl, rfl, by decide +kernel, rfl, by decide +kernel, by decide +kernel⟩
abbrev sLawPick : Stmt := topS 21
theorem scLawPick : FnScope ["bag", "many", "told", "seed", "turn", "first", "second", "drawn"] ["bag", "many"] (defScope sLawPick) := ⟨rfl, rfl, rfl, by decide +kernel, rfl, by decide +kernel, by decide +kernel⟩
abbrev sLawHalved : Stmt := topS 22
theorem scLawHalved : FnScope ["node", "begin", "end", "step"] ["node"] (defScope sLawHalved) := ⟨rfl, rfl, rfl, by decide +kernel, rfl, by decide +kernel, by decide +kernel⟩
abbrev sLawNodes : Stmt := topS 23
theorem scLawNodes : FnScope ["node", "one", "other"] ["node"] (defScope sLawNodes) := ⟨rfl, rfl, rfl, by decide +kernel, rfl, by decide +kernel, by decide +kernel⟩
abbrev sLawPeaks : Stmt := topS 24
theorem scLawPeaks : FnScope ["size", "found", "begin", "bit"] ["size"] (defScope sLawPeaks) := ⟨rfl, rfl, rfl, by decide +kernel, rfl, by decide +kernel, by decide +kernel⟩
abbrev sLawIsFull : Stmt := topS 25
theorem scLawIsFull : FnScope ["node", "many"] ["node"] (defScope sLawIsFull) := ⟨rfl, rfl, rfl, by decide +kernel, rfl, by decide +kernel, by decide +kernel⟩
abbrev sLawKinRight : Stmt := topS 26
theorem scLawKinRight : FnScope ["size", "node", "one", "other"] ["size", "node"] (defScope sLawKinRight) := ⟨rfl, rfl, rfl, by decide +kernel, rfl, by decide +kernel, by decide +kernel⟩
abbrev sLawRight : Stmt := topS 27
theorem scLawRight : FnScope ["bag", "size", "every", "node", "bare", "turn", "told", "odd", "value"] ["bag", "size"] (defScope sLawRight) := ⟨rfl, rfl, rfl, by decide +kernel, rfl, by decide +kernel, by decide +kernel⟩
abbrev sLaw : Stmt := topS 28
theorem scLaw : FnScope ["script", "cell", "bag", "turn", "told"] ["script"] (defScope sLaw) := ⟨rfl, rfl, rfl, by decide +kernel, rfl, by decide +kernel, by decide +kernel⟩
/-- a def as it stands behind the top -/
structure At (K : PySem.W.Frag) (mg : Str → Option Value) (x : Str) (f : Addr) (fd : FuncData) (ps : List Str) : Prop where
  m : mg x = some (.ref f)
  kp : PySem.W.keepIn K (.ref f) = true
  b : Binds K fd ps []
theorem units1 {k : Nat} {A : Around} (r : Room k A) : A.units + 65 < cLine := by have := r.un; omega
/-- all but b as it was -/
def But (b : Addr) (H H' : Hp) : Prop := ∀ a o, a ≠ b → H a = some o → H' a = some o
theorem But.refl (b : Addr) (H : Hp) : But b H H := fun _ _ _ h => h
theorem But.trans {b : Addr} {H H1 H2 : Hp} (x : But b H H1) (y : But b H1 H2) : But b H H2 := fun a o n h => y a o n (x a o n h)
theorem But.of {b : Addr} {H H1 : Hp} (x : Same H H1) : But b H H1 := fun a o _ h => x a o h
theorem same_upd {H : Hp} {p : Addr} {o : HO} (h : H p = none) : Same H (upd H p o) := fun b x e => by
  rw [upd_ne (ne_of_none e h)]
  exact e
def BagAt (H : Hp) (b : Addr) : Prop := ∃ x y z : Int, H b = some (.lst [.int x, .int y, .int z])
theorem BagAt.same {H H' : Hp} {b : Addr} (h : BagAt H b) (s : Same H H') : BagAt H' b := by
  obtain ⟨x, y, z, e⟩ := h
  exact ⟨x, y, z, s _ _ e⟩
/-- a pair of ints -/
def Nd (H : Hp) (v : V) (x : Nat × Nat) : Prop := ∃ p, v = .ref p ∧ H p = some (.tup [.int x.1, .int x.2])
theorem Nd.same {H H' : Hp} {v : V} {x : Nat × Nat} (h : Nd H v x) (s : Same H H') : Nd H' v x := by
  obtain ⟨p, e, q⟩ := h
  exact ⟨p, e, s _ _ q⟩
theorem Nd.dp {K : PySem.W.Frag} {H : Hp} {v : V} {x : Nat × Nat} (h : Nd H v x) : Dp K H v (.tuple [.int x.1, .int x.2]) := by
  obtain ⟨p, rfl, q⟩ := h
  exact .tup (SqT.of q) (.cons (.int _) (.cons (.int _) .nil))
theorem nd_shaped (a b : Int) : SeqAt.shaped (.tuple [.int a, .int b]) = true := by
  show (PyData.canLay0 _ && decide (PyData.depth _ ≤ 64)) = true
  simp [PyData.canLay0, PyData.canLayAll0, PyData.depth, PyData.depthAll]
theorem nd_eqv (a b c d : Int) : PyData.eqv (.tuple [.int a, .int b]) (.tuple [.int c, .int d]) = (decide (a = c) && decide (b = d)) := by
  have e : PyData.eqv (.tuple [.int a, .int b]) (.tuple [.int c, .int d]) = ((a == c) && ((b == d) && true)) := by simp only [PyData.eqv, PyData.eqvAll]
  rw [e, Bool.and_true]
  by_cases h1 : a = c <;> by_cases h2 : b = d <;> simp [h1, h2]
/-- lists of values and what they stand for -/
inductive All2 {α : Type} (R : V → α → Prop) : List V → List α → Prop
  | nil : All2 R [] []
  | cons {v : V} {x : α} {vs : List V} {xs : List α} : R v x → All2 R vs xs → All2 R (v :: vs) (x :: xs)
section
variable {α : Type} {R R' : V → α → Prop}
theorem All2.mono (f : ∀ v x, R v x → R' v x) : ∀ {vs : List V} {xs : List α}, All2 R vs xs → All2 R' vs xs
  | _, _, .nil => .nil
  | _, _, .cons h t => .cons (f _ _ h) (All2.mono f t)
theorem All2.len : ∀ {vs : List V} {xs : List α}, All2 R vs xs → vs.length = xs.length
  | _, _, .nil => rfl
  | _, _, .cons _ t => by rw [List.length_cons, List.length_cons, All2.len t]
theorem All2.app : ∀ {vs : List V} {xs : List α} {us : List V} {ys : List α}, All2 R vs xs → All2 R us ys → All2 R (vs ++ us) (xs ++ ys)
  | _, _, _, _, .nil, h => h
  | _, _, _, _, .cons h t, k => .cons h (All2.app t k)
theorem All2.rev : ∀ {vs : List V} {xs : List α}, All2 R vs xs → All2 R vs.reverse xs.reverse
  | _, _, .nil => .nil
  | _, _, .cons h t => by
    rw [List.reverse_cons, List.reverse_cons]
    exact All2.app (All2.rev t) (.cons h .nil)
theorem All2.nth : ∀ {vs : List V} {xs : List α} {i : Nat} {v : V}, All2 R vs xs → vs[i]? = some v → ∃ x, xs[i]? = some x ∧ R v x
  | _, _, _, _, .nil, h => by simp at h
  | _, _, 0, _, .cons h t, e => by
    have := Option.some.inj e
    subst this
    exact ⟨_, rfl, h⟩
  | _, _, i + 1, _, .cons h t, e => by
    rw [List.getElem?_cons_succ] at e ⊢
    exact All2.nth t e
theorem All2.nth2 : ∀ {vs : List V} {xs : List α} {i : Nat} {x : α}, All2 R vs xs → xs[i]? = some x → ∃ v, vs[i]? = some v ∧ R v x
  | _, _, _, _, .nil, h => by simp at h
  | _, _, 0, _, .cons h t, e => by
    have := Option.some.inj e
    subst this
    exact ⟨_, rfl, h⟩
  | _, _, i + 1, _, .cons h t, e => by
    rw [List.getElem?_cons_succ] at e ⊢
    exact All2.nth2 t e
end

/-! ### rules within a comprehension: what they say of the written part is said of the def's -/
section
open PySem L2
variable {X : Cx} {s : Shared} {H : Hp} {sc : Scope} {ce : Env} {fp : List Addr}
theorem pg_tupB {es : List Expr} {k : Nat} {pos : Pos} {t : TGs} {n : Nat} (hc : X.calm = true) (h : PGs (X.blk s H sc ce fp) es t)
    (hn : (assignEach es (X.blk s H sc ce fp).env).length = n := by rfl) (hst : (assignEach es (X.blk s H sc ce fp).env).findIdx? (·.1) = none := by rfl) : PG (X.blk s H sc ce fp) (.Tuple es k pos) (gTup X.K n t) := pg_tup hc h hn hst
theorem ix_listB : IxR (X.blk s H sc ce fp) (rIxL X.K) := ix_list
theorem ix_tupB : IxR (X.blk s H sc ce fp) (rIxT X.K) := ix_tup
theorem call_len_seqB : CallR (X.blk s H sc ce fp) (.builtin "len") (fun xs H Q => ∃ p ys, xs = [.ref p] ∧ (SqL X.K H p ys ∨ SqT X.K H p ys) ∧ Q (.int ys.length) H) := call_len_seq
theorem op_eqDB (hu : X.A.units + 64 < cLine) : OpR (X.blk s H sc ce fp) (compareOp .Eq) (rEqD X.K) := op_eqD (X := X.blk s H sc ce fp) hu
theorem op_neDB (hu : X.A.units + 64 < cLine) : OpR (X.blk s H sc ce fp) (compareOp .NotEq) (rNeD X.K) := op_neD (X := X.blk s H sc ce fp) hu
theorem op_inDB (hu : X.A.units + 65 < cLine) : OpR (X.blk s H sc ce fp) (compareOp .In) (rInD X.K) := op_inD (X := X.blk s H sc ce fp) hu
theorem op_notInDB (hu : X.A.units + 65 < cLine) : OpR (X.blk s H sc ce fp) (compareOp .NotIn) (rNotInD X.K) := op_notInD (X := X.blk s H sc ce fp) hu
end
theorem Nd.upd {H : Hp} {v : V} {x : Nat × Nat} {s : Addr} {xs : List V} {o : HO} (h : Nd H v x) (hs : H s = some (.lst xs)) : Nd (upd H s o) v x := by
  obtain ⟨p, e, q⟩ := h
  exact ⟨p, e, by rw [upd_ne (ne_of q hs (by intro z; cases z))]; exact q⟩
def full (x : Nat × Nat) : Nat × Nat := (x.1, x.1 + 2 ^ x.2)
theorem pk_len : ∀ (i n b : Nat), (pk i n b).length ≤ i
  | 0, _, _ => Nat.le_refl _
  | i + 1, n, b => by
    show (if n.testBit i = true then (b, i) :: pk i n (b + 2 ^ i) else pk i n b).length ≤ i + 1
    by_cases t : n.testBit i = true
    · rw [if_pos t, List.length_cons]
      exact Nat.succ_le_succ (pk_len i n _)
    · rw [if_neg t]
      exact Nat.le_succ_of_le (pk_len i n b)
theorem take_more {α : Type} : ∀ {l : List α} {i : Nat} {x : α}, l[i]? = some x → l.take (i + 1) = l.take i ++ [x]
  | [], i, x, h => by simp at h
  | a :: l, 0, x, h => by
    have e : a = x := Option.some.inj h
    subst e
    rfl
  | a :: l, i + 1, x, h => by
    have ih := take_more (l := l) (i := i) (x := x) h
    show a :: l.take (i + 1) = a :: l.take i ++ [x]
    rw [ih]
    rfl
theorem szle {n : Nat} (h : n ≤ 100000) : n ≤ sizeLine := Nat.le_trans h (by decide)
theorem szlt {n : Nat} (h : n < 100000) : n < sizeLine := Nat.lt_of_lt_of_le h (by decide)
end LT

namespace LT
open PySem PySem.Spec PyProof.Rows L2
section
variable {P : Program} {w : World} {K : PySem.W.Frag} {mg : Str → Option Value} {base : Heap}
def spWhole : Sp := fun vs H Q _ => ∃ i : Int, vs = [.int i] ∧ Q (.bl true) H
theorem ok_is_whole {f : Addr} {fd : FuncData} (F : Fun K "is_whole" "is_whole" sIsWhole f fd) (z_isinstance : mg "isinstance" = none) (z_int : mg "int" = none) (z_bool : mg "bool" = none) : FnOk P w K mg base CX0 1 f fd ["value"] spWhole := by
  refine F.ok scIsWhole (fun vs H Q E h => ?_) (fun cdv A outer s H vs Q E hr h => ?_)
  · obtain ⟨i, rfl, _⟩ := h
    rfl
  obtain ⟨i, rfl, q⟩ := h
  refine ⟨_, (pss_one (ps_ret (pe_and (pe_callB call_isi (by rfl) z_isinstance (by decide +kernel) (pa_cons (pv 0) (pa_cons (pe_bltn (v := .ty "int") (u := .type "int") (by rfl) z_int (by decide +kernel) rfl) pa_nil))) (pe_one (pe_not (pe_callB call_isi (by rfl) z_isinstance (by decide +kernel) (pa_cons (pv 0) (pa_cons (pe_bltn (v := .ty "bool") (u := .type "bool") (by rfl) z_bool (by decide +kernel) rfl) pa_nil)))))))), ?_⟩
  refine ⟨_, rfl, _, _, _, _, true, rfl, .ty "int", .base (.int i), kit_ty (by decide +kernel), true, rfl, ?_⟩
  refine ⟨_, rfl, _, _, _, _, false, rfl, .ty "bool", .base (.int i), kit_ty (by decide +kernel), false, rfl, ?_⟩
  exact q
def spBetween : Sp := fun vs H Q _ => ∃ v lo hi : Int, vs = [.int v, .int lo, .int hi] ∧ Q (.bl (decide (lo ≤ v) && decide (v ≤ hi))) H
theorem ok_is_between {f g : Addr} {fd gd : FuncData} (F : Fun K "is_between" "is_between" sIsBetween f fd) (GIsWhole : FnOk P w K mg base CX0 1 g gd ["value"] spWhole) (AIsWhole : At K mg "is_whole" g gd ["value"]) : FnOk P w K mg base CX0 2 f fd ["value", "low", "high"] spBetween := by
  refine F.ok scIsBetween (fun vs H Q E h => ?_) (fun cdv A outer s H vs Q E hr h => ?_)
  · obtain ⟨i, _, _, rfl, _⟩ := h
    rfl
  obtain ⟨v, lo, hi, rfl, q⟩ := h
  refine ⟨_, (pss_one (ps_ret (pe_and (pe_call GIsWhole (hr.mono (by decide)) rfl AIsWhole.m AIsWhole.kp AIsWhole.b .nil pass0 (pa_cons (pv 0) pa_nil)) (pe_one (pe_chain op_le op_le (pv 1) (pv 0) (pv 2)))))), ?_⟩
  refine ⟨_, rfl, v, rfl, true, rfl, ?_⟩
  refine ⟨_, rfl, _, rfl, _, _, rfl, rfl, _, rfl, ?_⟩
  by_cases h1 : lo ≤ v
  · rw [decide_eq_true h1] at q ⊢
    exact ⟨_, rfl, _, _, rfl, rfl, q⟩
  · rw [decide_eq_false h1] at q ⊢
    exact q
def spCheckSize : Sp := fun vs H Q _ => ∃ n : Int, vs = [.int n] ∧ 1 ≤ n ∧ n ≤ 10 ^ 30 ∧ Q .non H
theorem ok_check_size {f g : Addr} {fd gd : FuncData} {t : Tok} (F : Fun K "check_size" "check_size" sCheckSize f fd) (GIsBetween : FnOk P w K mg base CX0 2 g gd ["value", "low", "high"] spBetween) (AIsBetween : At K mg "is_between" g gd ["value", "low", "high"]) (g_MOST_ENTRIES : mg "MOST_ENTRIES" = some (.int 1000000000000000000000000000000 t)) : FnOk P w K mg base CX0 3 f fd ["size"] spCheckSize := by
  refine F.ok scCheckSize (fun vs H Q E h => ?_) (fun cdv A outer s H vs Q E hr h => ?_)
  · obtain ⟨i, rfl, _⟩ := h
    rfl
  obtain ⟨n, rfl, h1, h2, q⟩ := h
  refine ⟨_, (pss_one (ps_if (pt_not (pt_val (pe_call GIsBetween (hr.mono (by decide)) rfl AIsBetween.m AIsBetween.kp AIsBetween.b .nil pass0 (pa_cons (pv 0) (pa_cons pe_int (pa_cons (pe_glob (v := .int 1000000000000000000000000000000) rfl g_MOST_ENTRIES ⟨_, rfl⟩) pa_nil))))))
    (pss_one ps_never)
    pss_nil)), ?_⟩
  refine ⟨_, rfl, n, 1, 1000000000000000000000000000000, rfl, _, rfl, ?_⟩
  rw [decide_eq_true h1, decide_eq_true (show n ≤ 1000000000000000000000000000000 from h2)]
  exact q
end
end LT

namespace LT
open PySem PySem.Spec PyProof.Rows L2
/-- values of the plain kinds, with their types -/
inductive Pl (K : PySem.W.Frag) (H : Hp) : V → String → Prop
  | non : Pl K H .non "NoneType"
  | bl (b : Bool) : Pl K H (.bl b) "bool"
  | int (i : Int) : Pl K H (.int i) "int"
  | str (s : Str) : Pl K H (.str s) "str"
  | lst {a : Addr} {xs : List V} : H a = some (.lst xs) → Pl K H (.ref a) "list"
  | tup {a : Addr} {xs : List V} : H a = some (.tup xs) → Pl K H (.ref a) "tuple"
  | dict {a : Addr} {kvs : List (Key × V)} : H a = some (.dK kvs) → Pl K H (.ref a) "dict"
theorem Pl.ty {K : PySem.W.Frag} {H : Hp} {v : V} {t : String} (h : Pl K H v t) : TyX K H v (.type t) := by
  cases h with
  | non => exact .base .non
  | bl b => exact .base (.bl b)
  | int i => exact .base (.int i)
  | str s => exact .base (.str s)
  | lst e => exact .base (.lst e)
  | tup e => exact .base (.tup e)
  | dict e => exact .base (.dK e)
def isInt : V → Bool
  | .int _ => true
  | _ => false
def inRange (lo hi : Int) : V → Bool
  | .int i => decide (lo ≤ i) && decide (i ≤ hi)
  | _ => false
section
variable {P : Program} {w : World} {K : PySem.W.Frag} {mg : Str → Option Value} {base : Heap}
def spWholeV (K : PySem.W.Frag) : Sp := fun vs H Q _ => ∃ (v : V) (t : String), vs = [v] ∧ Pl K H v t ∧ Q (.bl (isInt v)) H
theorem ok_is_wholeV {f : Addr} {fd : FuncData} (F : Fun K "is_whole" "is_whole" sIsWhole f fd) (z_isinstance : mg "isinstance" = none) (z_int : mg "int" = none) (z_bool : mg "bool" = none) : FnOk P w K mg base CX0 1 f fd ["value"] (spWholeV K) := by
  refine F.ok scIsWhole (fun vs H Q E h => ?_) (fun cdv A outer s H vs Q E hr h => ?_)
  · obtain ⟨_, _, rfl, _⟩ := h
    rfl
  obtain ⟨v, t, rfl, hv, q⟩ := h
  refine ⟨_, (pss_one (ps_ret (pe_and (pe_callB call_isi (by rfl) z_isinstance (by decide +kernel) (pa_cons (pv 0) (pa_cons (pe_bltn (v := .ty "int") (u := .type "int") (by rfl) z_int (by decide +kernel) rfl) pa_nil))) (pe_one (pe_not (pe_callB call_isi (by rfl) z_isinstance (by decide +kernel) (pa_cons (pv 0) (pa_cons (pe_bltn (v := .ty "bool") (u := .type "bool") (by rfl) z_bool (by decide +kernel) rfl) pa_nil)))))))), ?_⟩
  cases hv with
  | non => exact ⟨_, rfl, _, _, _, _, false, rfl, .ty "int", (Pl.non (K := K) (H := H)).ty, kit_ty (by decide +kernel), false, rfl, q⟩
  | bl b => exact ⟨_, rfl, _, _, _, _, true, rfl, .ty "int", (Pl.bl (K := K) (H := H) b).ty, kit_ty (by decide +kernel), true, rfl, _, rfl, _, _, _, _, true, rfl, .ty "bool", (Pl.bl (K := K) (H := H) b).ty, kit_ty (by decide +kernel), true, rfl, q⟩
  | int i => exact ⟨_, rfl, _, _, _, _, true, rfl, .ty "int", (Pl.int (K := K) (H := H) i).ty, kit_ty (by decide +kernel), true, rfl, _, rfl, _, _, _, _, false, rfl, .ty "bool", (Pl.int (K := K) (H := H) i).ty, kit_ty (by decide +kernel), false, rfl, q⟩
  | str s => exact ⟨_, rfl, _, _, _, _, false, rfl, .ty "int", (Pl.str (K := K) (H := H) s).ty, kit_ty (by decide +kernel), false, rfl, q⟩
  | lst e => exact ⟨_, rfl, _, _, _, _, false, rfl, .ty "int", (Pl.lst (K := K) e).ty, kit_ty (by decide +kernel), false, rfl, q⟩
  | tup e => exact ⟨_, rfl, _, _, _, _, false, rfl, .ty "int", (Pl.tup (K := K) e).ty, kit_ty (by decide +kernel), false, rfl, q⟩
  | dict e => exact ⟨_, rfl, _, _, _, _, false, rfl, .ty "int", (Pl.dict (K := K) e).ty, kit_ty (by decide +kernel), false, rfl, q⟩
def spBetweenV (K : PySem.W.Frag) : Sp := fun vs H Q _ => ∃ (v : V) (t : String) (lo hi : Int), vs = [v, .int lo, .int hi] ∧ Pl K H v t ∧ Q (.bl (inRange lo hi v)) H
theorem ok_is_betweenV {f g : Addr} {fd gd : FuncData} (F : Fun K "is_between" "is_between" sIsBetween f fd) (GIsWhole : FnOk P w K mg base CX0 1 g gd ["value"] (spWholeV K)) (AIsWhole : At K mg "is_whole" g gd ["value"]) : FnOk P w K mg base CX0 2 f fd ["value", "low", "high"] (spBetweenV K) := by
  refine F.ok scIsBetween (fun vs H Q E h => ?_) (fun cdv A outer s H vs Q E hr h => ?_)
  · obtain ⟨_, _, _, _, rfl, _⟩ := h
    rfl
  obtain ⟨v, t, lo, hi, rfl, hv, q⟩ := h
  refine ⟨_, (pss_one (ps_ret (pe_and (pe_call GIsWhole (hr.mono (by decide)) rfl AIsWhole.m AIsWhole.kp AIsWhole.b .nil pass0 (pa_cons (pv 0) pa_nil)) (pe_one (pe_chain op_le op_le (pv 1) (pv 0) (pv 2)))))), ?_⟩
  refine ⟨_, rfl, v, t, rfl, hv, isInt v, rfl, ?_⟩
  cases v with
  | int i =>
    have q' : Q (.bl (decide (lo ≤ i) && decide (i ≤ hi))) H := q
    refine ⟨_, rfl, _, rfl, _, _, rfl, rfl, _, rfl, ?_⟩
    by_cases h1 : lo ≤ i
    · rw [decide_eq_true h1] at q' ⊢
      exact ⟨_, rfl, _, _, rfl, rfl, q'⟩
    · rw [decide_eq_false h1] at q' ⊢
      exact q'
  | non => exact q
  | bl _ => exact q
  | str _ => exact q
  | byt _ => exact q
  | flt _ => exact q
  | ref _ => exact q
  | ty _ => exact q
theorem whole_of {k : Nat} {f : Addr} {fd : FuncData} (F : FnOk P w K mg base CX0 k f fd ["value"] (spWholeV K)) : FnOk P w K mg base CX0 k f fd ["value"] spWhole :=
  F.imp fun vs H Q E h => by
    obtain ⟨i, rfl, q⟩ := h
    exact ⟨_, _, rfl, .int i, q⟩
theorem between_of {k : Nat} {f : Addr} {fd : FuncData} (F : FnOk P w K mg base CX0 k f fd ["value", "low", "high"] (spBetweenV K)) : FnOk P w K mg base CX0 k f fd ["value", "low", "high"] spBetween :=
  F.imp fun vs H Q E h => by
    obtain ⟨v, lo, hi, rfl, q⟩ := h
    exact ⟨_, _, _, _, rfl, .int v, q⟩
end
end LT

namespace LT
open PySem PySem.Spec PyProof.Rows L2
theorem bits_nat (k : Nat) : Builtin.Int.intBits (k : Int) = if k = 0 then 0 else k.log2 + 1 := by
  unfold Builtin.Int.intBits
  by_cases h : k = 0
  · subst h; rfl
  · rw [if_neg h, if_neg (by simpa using h)]
    rfl
theorem bits_lb {m : Nat} (h : 1 ≤ m) : Builtin.Int.intBits ((m - 1 : Nat) : Int) = lb m := by
  rw [bits_nat]
  unfold lb
  by_cases k : m ≤ 1
  · rw [if_pos k, if_pos (by omega)]
  · rw [if_neg k, if_neg (by omega)]
theorem lb100 {m : Nat} (h : m ≤ 10 ^ 30) : lb m ≤ 100 := lb_le (Nat.le_trans h (by decide))
theorem fmod_of_dvd {a b : Nat} (h : a ∣ b) : Int.fmod (b : Int) (a : Int) = 0 := by
  rw [Int.fmod_eq_emod_of_nonneg _ (Int.natCast_nonneg _)]
  exact Int.emod_eq_zero_of_dvd (Int.natCast_dvd_natCast.mpr h)
end LT

namespace LT
open PySem PySem.Spec PyProof.Rows L2
section
variable {P : Program} {w : World} {K : PySem.W.Frag} {mg : Str → Option Value} {base : Heap}
def spTree : Sp := fun vs H Q _ => ∃ (n b m : Nat) (v : V), vs = [.int n, v] ∧ Nd H v (b, b + m) ∧ 1 ≤ m ∧ b + m ≤ n ∧ n ≤ 10 ^ 30 ∧ tree n b m ∧ Q (.bl true) H
theorem ok_is_tree_node {f g : Addr} {fd gd : FuncData} (F : Fun K "is_tree_node" "is_tree_node" sIsTreeNode f fd) (GIsBetween : FnOk P w K mg base CX0 2 g gd ["value", "low", "high"] spBetween) (AIsBetween : At K mg "is_between" g gd ["value", "low", "high"])
    (z_isinstance : mg "isinstance" = none) (z_tuple : mg "tuple" = none) (z_len : mg "len" = none) : FnOk P w K mg base CX0 3 f fd ["size", "value"] spTree := by
  refine F.ok scIsTreeNode (fun vs H Q E h => ?_) (fun cdv A outer s H vs Q E hr h => ?_)
  · obtain ⟨_, _, _, _, rfl, _⟩ := h
    rfl
  obtain ⟨n, b, m, v, rfl, ⟨p, rfl, hp⟩, hm, hn, h30, ht, q⟩ := h
  refine ⟨_, (pss_cons (ps_if (PW.pt (pw_or (pt_not (pt_val (pe_callB call_isi (by rfl) z_isinstance (by decide +kernel) (pa_cons (pv 1) (pa_cons (pe_bltn (v := .ty "tuple") (u := .type "tuple") (by rfl) z_tuple (by decide +kernel) rfl) pa_nil))))) (pw_or1 (pt_cmpR op_ne (pe_callB call_len_seq (by rfl) z_len PySem.boot_len (pa_cons (pv 1) pa_nil)) pe_int (nomark _)))))
    (pss_one (ps_ret pe_bl))
    pss_nil)
    (pss_cons (ps_asg (pv 1) (pg_tup (by rfl) (pgs_cons (pg_name (i := 2) scIsTreeNode.nd rfl (Or.inl rfl)) (pgs_cons (pg_name (i := 3) scIsTreeNode.nd rfl (Or.inl rfl)) pgs_nil))))
    (pss_cons (ps_if (PW.pt (pw_or (pt_not (pt_val (pe_call GIsBetween (hr.mono (by decide)) rfl AIsBetween.m AIsBetween.kp AIsBetween.b .nil pass0 (pa_cons (pv 2) (pa_cons pe_int (pa_cons (pe_op op_sub (pv 0) pe_int) pa_nil)))))) (pw_or1 (pt_not (pt_val (pe_call GIsBetween (hr.mono (by decide)) rfl AIsBetween.m AIsBetween.kp AIsBetween.b .nil pass0 (pa_cons (pv 3) (pa_cons (pe_op op_add (pv 2) pe_int) (pa_cons (pv 0) pa_nil)))))))))
    (pss_one (ps_ret pe_bl))
    pss_nil)
    (pss_cons (ps_set (i := 4) scIsTreeNode.nd rfl (Or.inl rfl) (pe_op op_shl pe_int (pe_bits (pe_op op_sub (pe_op op_sub (pv 3) (pv 2)) pe_int))))
    (pss_one (ps_ret (pe_and (pe_cmpR op_eq (pe_op op_modN (pv 2) (pv 4)) pe_int (nomark _)) (pe_one (pe_or (pe_cmpR op_eq (pe_op op_sub (pv 3) (pv 2)) (pv 4) (nomark _)) (pe_one (pe_cmpR op_eq (pv 3) (pv 0) (nomark _)))))))))))), ?_⟩
  refine ⟨_, rfl, _, _, _, _, true, rfl, .ty "tuple", .base (.tup hp), kit_ty (by decide +kernel), true, rfl, ?_⟩
  refine ⟨_, rfl, p, _, rfl, .inr (SqT.of hp), rfl, false, rfl, ?_⟩
  refine ⟨_, rfl, p, _, rfl, SqT.of hp, rfl, _, _, rfl, _, _, rfl, rfl, ?_⟩
  refine ⟨_, rfl, _, rfl, _, _, rfl, rfl, _, _, _, rfl, true, ?_, ?_⟩
  · exact congrArg V.bl (by rw [Bool.and_eq_true]; exact ⟨decide_eq_true (by omega), decide_eq_true (by show (b : Int) ≤ n - 1; omega)⟩)
  refine ⟨_, rfl, _, rfl, _, _, rfl, rfl, _, rfl, _, _, _, rfl, true, ?_, ?_⟩
  · exact congrArg V.bl (by rw [Bool.and_eq_true]; exact ⟨decide_eq_true (by show (b : Int) + 1 ≤ ((b + m : Nat) : Int); omega), decide_eq_true (by show ((b + m : Nat) : Int) ≤ n; omega)⟩)
  have e1 : ((b + m : Nat) : Int) - (b : Int) - 1 = ((m - 1 : Nat) : Int) := by omega
  refine ⟨_, rfl, _, rfl, _, _, rfl, rfl, _, _, rfl, rfl, _, rfl, ?_⟩
  dsimp only
  rw [e1, bits_lb hm]
  have l100 := lb100 (show m ≤ 10 ^ 30 by omega)
  refine ⟨_, _, rfl, rfl, ⟨Int.natCast_nonneg _, by omega, by decide⟩, ?_⟩
  have e2 : (1 : Int) * 2 ^ ((lb m : Nat) : Int).toNat = ((2 ^ lb m : Nat) : Int) := by rw [Int.one_mul, Int.toNat_natCast]; exact (Int.natCast_pow 2 (lb m)).symm
  dsimp only
  rw [e2]
  obtain ⟨d, k⟩ := ht
  have pz : 0 < 2 ^ lb m := Nat.pow_pos (by decide)
  generalize 2 ^ lb m = R at d k pz
  refine ⟨_, rfl, _, rfl, _, _, rfl, rfl, by omega, rfl, true, ?_, ?_⟩
  · show V.bl (decide (V.int (Int.fmod (b : Int) (R : Int)) = V.int 0)) = V.bl true
    rw [fmod_of_dvd d, decide_eq_true rfl]
  refine ⟨_, rfl, _, rfl, _, _, rfl, rfl, _, rfl, rfl, _, rfl, ite2 (fun c => q) (fun c => ?_)⟩
  have c1 : ¬ V.int (((b + m : Nat) : Int) - (b : Int)) = V.int (R : Int) := of_decide_eq_false (Bool.eq_false_iff.mpr c)
  refine ⟨_, rfl, _, rfl, rfl, ?_⟩
  have e4 : b + m = n := by
    rcases k with k | k
    · exact absurd (congrArg V.int (by omega)) c1
    · exact k
  show Q (V.bl (decide (V.int ((b + m : Nat) : Int) = V.int (n : Int)))) H
  rw [decide_eq_true (by rw [e4])]
  exact q
def spCheckNode : Sp := fun vs H Q _ => ∃ (n b m : Nat) (v : V), vs = [.int n, v] ∧ Nd H v (b, b + m) ∧ 1 ≤ m ∧ b + m ≤ n ∧ n ≤ 10 ^ 30 ∧ tree n b m ∧ Q .non H
theorem ok_check_node {f g : Addr} {fd gd : FuncData} (F : Fun K "check_node" "check_node" sCheckNode f fd) (GIsTreeNode : FnOk P w K mg base CX0 3 g gd ["size", "value"] spTree) (AIsTreeNode : At K mg "is_tree_node" g gd ["size", "value"]) : FnOk P w K mg base CX0 4 f fd ["size", "node"] spCheckNode := by
  refine F.ok scCheckNode (fun vs H Q E h => ?_) (fun cdv A outer s H vs Q E hr h => ?_)
  · obtain ⟨_, _, _, _, rfl, _⟩ := h
    rfl
  obtain ⟨n, b, m, v, rfl, hv, hm, hn, h30, ht, q⟩ := h
  refine ⟨_, (pss_one (ps_if (pt_not (pt_val (pe_call GIsTreeNode (hr.mono (by decide)) rfl AIsTreeNode.m AIsTreeNode.kp AIsTreeNode.b .nil pass0 (pa_cons (pv 0) (pa_cons (pv 1) pa_nil)))))
    (pss_one ps_never)
    pss_nil)), ?_⟩
  refine ⟨_, rfl, _, rfl, n, b, m, v, rfl, hv, hm, hn, h30, ht, true, rfl, q⟩
end
end LT

namespace LT
open PySem PySem.Spec PyProof.Rows L2
section
variable {P : Program} {w : World} {K : PySem.W.Frag} {mg : Str → Option Value} {base : Heap}
def spPower : Sp := fun vs H Q _ => ∃ (k : Nat), vs = [.int k] ∧ 1 ≤ k ∧ k ≤ 10 ^ 30 ∧ Q (.int ((2 ^ k.log2 : Nat) : Int)) H
theorem ok_power_within {f : Addr} {fd : FuncData} (F : Fun K "power_within" "power_within" sPowerWithin f fd) : FnOk P w K mg base CX0 1 f fd ["number"] spPower := by
  refine F.ok scPowerWithin (fun vs H Q E h => ?_) (fun cdv A outer s H vs Q E hr h => ?_)
  · obtain ⟨_, rfl, _⟩ := h
    rfl
  obtain ⟨k, rfl, h1, h30, q⟩ := h
  refine ⟨_, (pss_one (ps_ret (pe_op op_shl pe_int (pe_op op_sub (pe_bits (pv 0)) pe_int)))), ?_⟩
  refine ⟨_, rfl, _, rfl, _, _, rfl, rfl, ?_⟩
  dsimp only
  have e : ((Builtin.Int.intBits (k : Int) : Nat) : Int) - 1 = ((k.log2 : Nat) : Int) := by
    rw [bits_nat, if_neg (by omega)]
    omega
  rw [e]
  have l100 : k.log2 < 100 := (Nat.log2_lt (by omega)).mpr (Nat.lt_of_le_of_lt h30 (by decide))
  refine ⟨_, _, rfl, rfl, ⟨Int.natCast_nonneg _, by omega, by decide⟩, ?_⟩
  have e2 : (1 : Int) * 2 ^ ((k.log2 : Nat) : Int).toNat = ((2 ^ k.log2 : Nat) : Int) := by rw [Int.one_mul, Int.toNat_natCast]; exact (Int.natCast_pow 2 _).symm
  show Q (.int ((1 : Int) * 2 ^ ((k.log2 : Nat) : Int).toNat)) H
  rw [e2]
  exact q
end
end LT

namespace LT
open PySem PySem.Spec PyProof.Rows L2
section
variable {P : Program} {w : World} {K : PySem.W.Frag} {mg : Str → Option Value} {base : Heap}
def spBag : Sp := fun vs H Q _ => ∃ c : Int, vs = [.int c] ∧ ∀ (H' : Hp) (p : Addr), Same H H' → H p = none → BagAt H' p → Q (.ref p) H'
theorem ok_law_bag {f : Addr} {fd : FuncData} (F : Fun K "_law_bag" "_law_bag" sLawBag f fd) (z_max : mg "max" = none) : FnOk P w K mg base CX0 1 f fd ["cell"] spBag := by
  refine F.ok scLawBag (fun vs H Q E h => ?_) (fun cdv A outer s H vs Q E hr h => ?_)
  · obtain ⟨_, rfl, _⟩ := h
    rfl
  obtain ⟨c, rfl, q⟩ := h
  refine ⟨_, (pss_one (ps_ret (pe_lst (pa_cons (pe_callB (call_max2 rfl) (by rfl) z_max (by decide +kernel) (pa_cons pe_int (pa_cons (pe_op op_sub (pv 0) (pe_op op_pow pe_int pe_int)) pa_nil))) (pa_cons (pv 0) (pa_cons pe_int pa_nil)))))), ?_⟩
  refine ⟨_, rfl, _, _, rfl, rfl, ⟨by decide, by decide, by decide⟩, _, _, rfl, rfl, _, _, rfl, _, rfl, (by show 3 ≤ sizeLine; decide), fun p np => ?_⟩
  exact q _ p (same_upd np) np ⟨_, _, _, upd_same⟩
theorem fm0 (x : Int) {m : Int} (h : 0 < m) : 0 ≤ x.fmod m := by
  rw [Int.fmod_eq_emod_of_nonneg _ (by omega)]
  exact Int.emod_nonneg _ (by omega)
theorem fm1 (x : Int) {m : Int} (h : 0 < m) : x.fmod m < m := by
  rw [Int.fmod_eq_emod_of_nonneg _ (by omega)]
  exact Int.emod_lt_of_pos _ h
def spPick : Sp := fun vs H Q _ => ∃ (b : Addr) (many : Int), vs = [.ref b, .int many] ∧ 0 < many ∧ many.natAbs < 2 ^ 250 ∧ BagAt H b ∧
  ∀ (r : Int) (H' : Hp), 0 ≤ r → r < many → (∀ a, a ≠ b → H' a = H a) → BagAt H' b → Q (.int r) H'
theorem ok_law_pick {f : Addr} {fd : FuncData} (F : Fun K "_law_pick" "_law_pick" sLawPick f fd) (z_int : mg "int" = none) : FnOk P w K mg base CX0 1 f fd ["bag", "many"] spPick := by
  refine F.ok scLawPick (fun vs H Q E h => ?_) (fun cdv A outer s H vs Q E hr h => ?_)
  · obtain ⟨_, _, rfl, _⟩ := h
    rfl
  obtain ⟨b, many, rfl, hm, hm2, ⟨x, y, z, h0⟩, q⟩ := h
  refine ⟨_, (pss_cons (ps_asg (pe_op op_add (pe_ix ix_list (pv 0) pe_int (fun _ _ => rfl)) pe_int) (pg_sub (pv 0) pe_int set_list))
    (pss_cons (ps_if (pt_cmpR op_gt (pe_ix ix_list (pv 0) pe_int (fun _ _ => rfl)) pe_int (nomark _))
    (pss_cons (ps_set (i := 2) scLawPick.nd rfl (Or.inl rfl) (pe_op op_modN (pe_callTy call_int1 (by rfl) z_int (by decide +kernel) (pa_cons (pe_ix ix_list (pv 0) pe_int (fun _ _ => rfl)) pa_nil)) (pv 1)))
    (pss_cons (ps_asg (pe_op op_fdivW (pe_callTy call_int1 (by rfl) z_int (by decide +kernel) (pa_cons (pe_ix ix_list (pv 0) pe_int (fun _ _ => rfl)) pa_nil)) (pv 1)) (pg_sub (pv 0) pe_int set_list))
    (pss_one (ps_ret (pv 2)))))
    pss_nil)
    (pss_cons (ps_par (i := 3) (j := 4) (by rfl) scLawPick.nd rfl rfl (by decide) rfl rfl (pa_cons (pe_callTy call_int1 (by rfl) z_int (by decide +kernel) (pa_cons (pe_ix ix_list (pv 0) pe_int (fun _ _ => rfl)) pa_nil)) (pa_cons (pe_callTy call_int1 (by rfl) z_int (by decide +kernel) (pa_cons (pe_ix ix_list (pv 0) pe_int (fun _ _ => rfl)) pa_nil)) pa_nil)) (by rfl))
    (pss_cons (ps_set (i := 5) scLawPick.nd rfl (Or.inl rfl) (pe_op op_modN (pe_callTy call_int1 (by rfl) z_int (by decide +kernel) (pa_cons (pe_op op_add (pe_op op_add (pe_op op_mul (pe_op op_modN (pv 3) pe_int) pe_int) (pe_op op_mul (pv 4) pe_int)) pe_int) pa_nil)) pe_int))
    (pss_cons (ps_set (i := 6) scLawPick.nd rfl (Or.inl rfl) (pe_op op_modN (pe_callTy call_int1 (by rfl) z_int (by decide +kernel) (pa_cons (pe_op op_add (pe_op op_mul (pv 5) (pv 5)) (pe_op op_mul (pv 4) pe_int)) pa_nil)) pe_int))
    (pss_cons (ps_set (i := 7) scLawPick.nd rfl (Or.inl rfl) (pe_op op_fdivW (pe_callTy call_int1 (by rfl) z_int (by decide +kernel) (pa_cons (pe_op op_add (pe_op op_mul (pv 5) pe_int) (pv 6)) pa_nil)) pe_int))
    (pss_cons (ps_if (pt_cmpR op_gt (pv 1) (pe_op op_pow pe_int pe_int) (nomark _))
    (pss_one (ps_set (i := 7) scLawPick.nd rfl (Or.inl rfl) (pe_op op_add (pe_op op_pow (pv 7) pe_int) (pv 6))))
    pss_nil)
    (pss_one (ps_ret (pe_op op_modN (pe_callTy call_int1 (by rfl) z_int (by decide +kernel) (pa_cons (pv 7) pa_nil)) (pv 1))))))))))), ?_⟩
  refine ⟨_, rfl, b, _, _, _, rfl, rfl, SqL.of h0, atI_nat (j := 2) rfl, _, _, rfl, rfl, _, rfl, b, _, _, 2, rfl, rfl, h0, rfl, ?_⟩
  dsimp only
  have h1 : (upd H b (.lst ([.int x, .int y, .int z].set 2 (.int (z + 1))))) b = some (.lst [.int x, .int y, .int (z + 1)]) := upd_same
  have k1 : ∀ a, a ≠ b → (upd H b (.lst ([.int x, .int y, .int z].set 2 (.int (z + 1))))) a = H a := fun a ha => upd_ne ha
  generalize upd H b (.lst ([.int x, .int y, .int z].set 2 (.int (z + 1)))) = H1 at h1 k1
  refine ⟨_, rfl, b, _, _, _, rfl, rfl, SqL.of h1, atI_nat (j := 0) rfl, _, _, rfl, rfl, _, rfl, ite2 (fun c => ?_) (fun c => ?_)⟩
  · refine ⟨_, rfl, b, _, _, _, rfl, rfl, SqL.of h1, atI_nat (j := 0) rfl, .inl ⟨_, rfl, _, rfl, _, _, rfl, rfl, by omega, ?_⟩⟩
    refine ⟨_, rfl, b, _, _, _, rfl, rfl, SqL.of h1, atI_nat (j := 0) rfl, .inl ⟨_, rfl, _, rfl, _, _, rfl, rfl, wide_div hm hm2 (by decide) (by decide), _, rfl, b, _, _, 0, rfl, rfl, h1, rfl, ?_⟩⟩
    refine ⟨_, rfl, ?_⟩
    exact q _ _ (fm0 x hm) (fm1 x hm) (fun a ha => by rw [upd_ne ha]; exact k1 a ha) ⟨_, _, _, upd_same⟩
  · refine ⟨_, rfl, b, _, _, _, rfl, rfl, SqL.of h1, atI_nat (j := 1) rfl, .inl ⟨_, rfl, _, rfl, b, _, _, _, rfl, rfl, SqL.of h1, atI_nat (j := 2) rfl, .inl ⟨_, rfl, _, _, rfl, ?_⟩⟩⟩
    refine ⟨_, rfl, _, _, rfl, rfl, (by show (2147483629 : Int) ≠ 0; decide), _, _, rfl, rfl, .inr ⟨by decide, by decide⟩, _, rfl, _, _, rfl, rfl, .inr ⟨by decide, by decide⟩, _, _, rfl, rfl, _, _, rfl, rfl, .inl ⟨_, rfl, _, _, rfl, rfl, (by show (2147483647 : Int) ≠ 0; decide), ?_⟩⟩
    dsimp only
    have a0 := fm0 (y.fmod 2147483629 * 48271 + (z + 1) * 69621 + 12345) (m := 2147483647) (by decide)
    have a1 := fm1 (y.fmod 2147483629 * 48271 + (z + 1) * 69621 + 12345) (m := 2147483647) (by decide)
    generalize (y.fmod 2147483629 * 48271 + (z + 1) * 69621 + 12345).fmod 2147483647 = fi at a0 a1
    refine ⟨_, rfl, _, rfl, _, _, rfl, rfl, .inl ⟨by omega, by omega⟩, _, rfl, _, _, rfl, rfl, .inr ⟨by decide, by decide⟩, _, _, rfl, rfl, .inl ⟨_, rfl, _, _, rfl, rfl, (by show (2147483587 : Int) ≠ 0; decide), ?_⟩⟩
    dsimp only
    have b0 := fm0 (fi * fi + (z + 1) * 40692) (m := 2147483587) (by decide)
    have b1 := fm1 (fi * fi + (z + 1) * 40692) (m := 2147483587) (by decide)
    generalize (fi * fi + (z + 1) * 40692).fmod 2147483587 = se at b0 b1
    refine ⟨_, rfl, _, _, rfl, rfl, .inl ⟨by omega, by omega⟩, _, rfl, _, _, rfl, rfl, .inl ⟨_, rfl, _, _, rfl, rfl, wide_div (b := 6) (by decide) (by decide) (by decide) (by decide), ?_⟩⟩
    dsimp only
    have c0 : 0 ≤ (fi * 2147483587 + se) / 32 := by omega
    have c1 : (fi * 2147483587 + se) / 32 < 2 ^ 62 := by omega
    generalize (fi * 2147483587 + se) / 32 = dr at c0 c1
    refine ⟨_, rfl, _, _, rfl, rfl, ⟨by decide, by decide, by decide⟩, _, _, rfl, rfl, _, rfl, ite2 (fun c => ?_) (fun c => ?_)⟩
    · refine ⟨_, rfl, _, _, rfl, rfl, ⟨by decide, by decide, by omega⟩, _, rfl, _, _, rfl, rfl, ?_⟩
      refine ⟨_, rfl, .inl ⟨_, rfl, _, rfl, _, _, rfl, rfl, by omega, ?_⟩⟩
      exact q _ _ (fm0 _ hm) (fm1 _ hm) k1 ⟨_, _, _, h1⟩
    · refine ⟨_, rfl, .inl ⟨_, rfl, _, rfl, _, _, rfl, rfl, by omega, ?_⟩⟩
      exact q _ _ (fm0 _ hm) (fm1 _ hm) k1 ⟨_, _, _, h1⟩
end
end LT

namespace LT
/-- the nodes from (b, b + m) down, as the law lists them -/
def nodesF : Nat → Nat → Nat → List (Nat × Nat)
  | 0, _, _ => []
  | i + 1, b, m => if m ≤ 1 then [(b, b + m)] else (b, b + m) :: (nodesF i b (gp m) ++ nodesF i (b + gp m) (m - gp m))
theorem nodesF_one {i b m : Nat} (h : m ≤ 1) : nodesF (i + 1) b m = [(b, b + m)] := if_pos h
theorem nodesF_two {i b m : Nat} (h : ¬ m ≤ 1) : nodesF (i + 1) b m = (b, b + m) :: (nodesF i b (gp m) ++ nodesF i (b + gp m) (m - gp m)) := if_neg h
theorem gp_half {i m : Nat} (h : 2 ≤ m) (k : 2 * m ≤ 2 ^ (i + 1)) : 2 * gp m ≤ 2 ^ i ∧ 2 * (m - gp m) ≤ 2 ^ i := by
  have g1 := gp_lt h
  have g2 := gp_ge h
  have p := Nat.pow_succ (n := 2) (m := i)
  have : gp m < 2 ^ i := by omega
  unfold gp at this ⊢
  have e := (Nat.pow_lt_pow_iff_right (by decide : 1 < 2)).mp this
  have e2 : 2 ^ ((m - 1).log2 + 1) ≤ 2 ^ i := Nat.pow_le_pow_right (by decide) (by omega)
  rw [Nat.pow_succ] at e2
  unfold gp at g1 g2
  omega
theorem nodesF_len : ∀ (i b m : Nat), 1 ≤ m → 2 * m ≤ 2 ^ i → (nodesF i b m).length = 2 * m - 1
  | 0, b, m, h1, h2 => by simp at h2; omega
  | i + 1, b, m, h1, h2 => by
    by_cases c : m ≤ 1
    · rw [nodesF_one c]
      simp
      omega
    · rw [nodesF_two c, List.length_cons, List.length_append]
      have g1 := gp_lt (m := m) (by omega)
      have g3 := gp_pos m
      obtain ⟨k1, k2⟩ := gp_half (by omega) h2
      rw [nodesF_len i b (gp m) g3 k1, nodesF_len i (b + gp m) (m - gp m) (by omega) k2]
      omega
/-- a node of tree(n) -/
def isN (n : Nat) (x : Nat × Nat) : Prop := x.1 < x.2 ∧ x.2 ≤ n ∧ tree n x.1 (x.2 - x.1)
theorem mul_le_of_lt {R a b : Nat} (h1 : R ∣ a) (h2 : R ∣ b) (h : a < b) : a + R ≤ b := by
  obtain ⟨x, rfl⟩ := h1
  obtain ⟨y, rfl⟩ := h2
  have : x < y := Nat.lt_of_mul_lt_mul_left h
  calc R * x + R = R * (x + 1) := by rw [Nat.mul_succ]
    _ ≤ R * y := Nat.mul_le_mul_left R this
/-- a node within another one is it, or lies within one of its halves -/
theorem node_in {n b m : Nat} (h : 2 ≤ m) (t : tree n b m) (hn : b + m ≤ n) {x : Nat × Nat} (hx : isN n x) (h1 : b ≤ x.1) (h2 : x.2 ≤ b + m) : x = (b, b + m) ∨ x.2 ≤ b + gp m ∨ b + gp m ≤ x.1 := by
  obtain ⟨x1, x2⟩ := x
  obtain ⟨k1, k2, d, k3⟩ := hx
  simp only at k1 k2 d k3 h1 h2
  by_cases c1 : x2 ≤ b + gp m
  · exact .inr (.inl c1)
  by_cases c2 : b + gp m ≤ x1
  · exact .inr (.inr c2)
  left
  obtain ⟨td, tk⟩ := t
  have e := lb_gp h
  rw [e] at td tk
  have g1 := gp_lt h
  have g2 := gp_ge h
  have gR : gp m = 2 ^ Nat.log2 (m - 1) := rfl
  generalize hr : lb (x2 - x1) = r at d k3
  have ge := lb_ge (x2 - x1)
  rw [hr] at ge
  by_cases c : r ≤ Nat.log2 (m - 1)
  · -- small: a multiple of 2 ^ r below b + gp m ends there at most
    have dg : 2 ^ r ∣ gp m := by rw [gR]; exact Nat.pow_dvd_pow 2 c
    have db : 2 ^ r ∣ b := Nat.dvd_trans dg (Nat.dvd_trans (Nat.dvd_mul_left _ _) td)
    have := mul_le_of_lt d (Nat.dvd_add db dg) (by omega : x1 < b + gp m)
    omega
  · have dd : 2 * gp m ∣ 2 ^ r := by
      rw [gR, Nat.mul_comm, ← Nat.pow_succ]
      exact Nat.pow_dvd_pow 2 (by omega)
    have dx := Nat.dvd_trans dd d
    have ex : x1 = b := by
      by_cases z : b < x1
      · have := mul_le_of_lt td dx z
        omega
      · omega
    subst ex
    have le : 2 * gp m ≤ 2 ^ r := Nat.le_of_dvd (Nat.pow_pos (by decide)) dd
    have rl : r ≤ Nat.log2 (m - 1) + 1 := by
      rw [← hr]
      refine lb_le ?_
      rw [Nat.pow_succ, ← gR]
      omega
    have e2 : 2 ^ r ≤ 2 * gp m := by
      rw [gR, Nat.mul_comm, ← Nat.pow_succ]
      exact Nat.pow_le_pow_right (by decide) rl
    have : x2 = x1 + m := by
      rcases k3 with k3 | k3 <;> omega
    rw [this]
theorem mem_nodesF (n : Nat) (x : Nat × Nat) : ∀ (i b m : Nat), 1 ≤ m → 2 * m ≤ 2 ^ i → tree n b m → b + m ≤ n → (x ∈ nodesF i b m ↔ isN n x ∧ b ≤ x.1 ∧ x.2 ≤ b + m)
  | 0, b, m, h1, h2, _, _ => by simp at h2; omega
  | i + 1, b, m, h1, h2, t, hn => by
    by_cases c : m ≤ 1
    · have em : m = 1 := by omega
      subst em
      rw [nodesF_one (by omega), List.mem_singleton]
      constructor
      · rintro rfl
        exact ⟨⟨by simp, by simpa using hn, by simpa using t⟩, by simp, by simp⟩
      · rintro ⟨⟨k1, _⟩, k2, k3⟩
        have : x.1 = b ∧ x.2 = b + 1 := by omega
        exact Prod.ext this.1 this.2
    · rw [nodesF_two c, List.mem_cons, List.mem_append]
      have g1 := gp_lt (m := m) (by omega)
      have g3 := gp_pos m
      obtain ⟨k1, k2⟩ := gp_half (by omega) h2
      have e : b + gp m + (m - gp m) = b + m := by omega
      have il := mem_nodesF n x i b (gp m) g3 k1 (tree_low (by omega) t) (by omega)
      have ih := mem_nodesF n x i (b + gp m) (m - gp m) (by omega) k2 (tree_high (by omega) t) (by omega)
      rw [il, ih, e]
      constructor
      · rintro (rfl | ⟨p, q, r⟩ | ⟨p, q, r⟩)
        · exact ⟨⟨by simp; omega, by simpa using hn, by simpa using t⟩, by simp, by simp⟩
        · exact ⟨p, q, by omega⟩
        · exact ⟨p, by omega, r⟩
      · rintro ⟨p, q, r⟩
        rcases node_in (by omega) t hn p q r with z | z | z
        · exact .inl z
        · exact .inr (.inl ⟨p, q, z⟩)
        · exact .inr (.inr ⟨p, z, r⟩)
instance (n : Nat) (x : Nat × Nat) : Decidable (tree n x.1 (x.2 - x.1)) := by unfold tree; infer_instance
instance (n : Nat) (x : Nat × Nat) : Decidable (isN n x) := by unfold isN; infer_instance
end LT

namespace LT
open PySem PySem.Spec PyProof.Rows L2
def tnV (n : Nat) : V → V → Bool
  | .int b, .int e => decide (0 ≤ b ∧ isN n (b.toNat, e.toNat))
  | _, _ => false
theorem tn_out {n : Nat} {b e : Int} (h : ¬ (0 ≤ b ∧ b < e ∧ e ≤ n)) : tnV n (.int b) (.int e) = false := by
  refine decide_eq_false (fun ⟨h0, k⟩ => h ⟨h0, ?_, ?_⟩)
  · have := k.1
    simp only at this
    omega
  · have := k.1
    have := k.2.1
    simp only at *
    omega
/-- what may be asked whether it is a node -/
inductive Ask (K : PySem.W.Frag) (H : Hp) (n : Nat) : V → Bool → Prop
  | kind {v : V} {t : String} : Pl K H v t → t ≠ "tuple" → Ask K H n v false
  | long {p : Addr} {xs : List V} : H p = some (.tup xs) → xs.length ≠ 2 → xs.length ≤ 1000 → Ask K H n (.ref p) false
  | pair {p : Addr} {v1 v2 : V} {t1 t2 : String} : H p = some (.tup [v1, v2]) → Pl K H v1 t1 → Pl K H v2 t2 → Ask K H n (.ref p) (tnV n v1 v2)
theorem kit_tup {t : String} {K : PySem.W.Frag} {H : Hp} {v : V} (h : Pl K H v t) (hn : t ≠ "tuple") : PySem.W.kitOne K (.type t) (.type "tuple") = some false := by
  cases h with
  | non => exact kit_ty (by decide +kernel)
  | bl _ => exact kit_ty (by decide +kernel)
  | int _ => exact kit_ty (by decide +kernel)
  | str _ => exact kit_ty (by decide +kernel)
  | lst _ => exact kit_ty (by decide +kernel)
  | tup _ => exact absurd rfl hn
  | dict _ => exact kit_ty (by decide +kernel)
section
variable {P : Program} {w : World} {K : PySem.W.Frag} {mg : Str → Option Value} {base : Heap}
def spTreeV (K : PySem.W.Frag) : Sp := fun vs H Q _ => ∃ (n : Nat) (v : V) (r : Bool), vs = [.int n, v] ∧ 1 ≤ n ∧ n ≤ 10 ^ 30 ∧ Ask K H n v r ∧ Q (.bl r) H
theorem ok_is_tree_nodeV {f g : Addr} {fd gd : FuncData} (F : Fun K "is_tree_node" "is_tree_node" sIsTreeNode f fd) (GIsBetween : FnOk P w K mg base CX0 2 g gd ["value", "low", "high"] (spBetweenV K)) (AIsBetween : At K mg "is_between" g gd ["value", "low", "high"])
    (z_isinstance : mg "isinstance" = none) (z_tuple : mg "tuple" = none) (z_len : mg "len" = none) : FnOk P w K mg base CX0 3 f fd ["size", "value"] (spTreeV K) := by
  refine F.ok scIsTreeNode (fun vs H Q E h => ?_) (fun cdv A outer s H vs Q E hr h => ?_)
  · obtain ⟨_, _, _, rfl, _⟩ := h
    rfl
  obtain ⟨n, v, r, rfl, n1, h30, ask, q⟩ := h
  refine ⟨_, (pss_cons (ps_if (PW.pt (pw_or (pt_not (pt_val (pe_callB call_isi (by rfl) z_isinstance (by decide +kernel) (pa_cons (pv 1) (pa_cons (pe_bltn (v := .ty "tuple") (u := .type "tuple") (by rfl) z_tuple (by decide +kernel) rfl) pa_nil))))) (pw_or1 (pt_cmpR op_ne (pe_callB call_len_seq (by rfl) z_len PySem.boot_len (pa_cons (pv 1) pa_nil)) pe_int (nomark _)))))
    (pss_one (ps_ret pe_bl))
    pss_nil)
    (pss_cons (ps_asg (pv 1) (pg_tup (by rfl) (pgs_cons (pg_name (i := 2) scIsTreeNode.nd rfl (Or.inl rfl)) (pgs_cons (pg_name (i := 3) scIsTreeNode.nd rfl (Or.inl rfl)) pgs_nil))))
    (pss_cons (ps_if (PW.pt (pw_or (pt_not (pt_val (pe_call GIsBetween (hr.mono (by decide)) rfl AIsBetween.m AIsBetween.kp AIsBetween.b .nil pass0 (pa_cons (pv 2) (pa_cons pe_int (pa_cons (pe_op op_sub (pv 0) pe_int) pa_nil)))))) (pw_or1 (pt_not (pt_val (pe_call GIsBetween (hr.mono (by decide)) rfl AIsBetween.m AIsBetween.kp AIsBetween.b .nil pass0 (pa_cons (pv 3) (pa_cons (pe_op op_add (pv 2) pe_int) (pa_cons (pv 0) pa_nil)))))))))
    (pss_one (ps_ret pe_bl))
    pss_nil)
    (pss_cons (ps_set (i := 4) scIsTreeNode.nd rfl (Or.inl rfl) (pe_op op_shl pe_int (pe_bits (pe_op op_sub (pe_op op_sub (pv 3) (pv 2)) pe_int))))
    (pss_one (ps_ret (pe_and (pe_cmpR op_eq (pe_op op_modN (pv 2) (pv 4)) pe_int (nomark _)) (pe_one (pe_or (pe_cmpR op_eq (pe_op op_sub (pv 3) (pv 2)) (pv 4) (nomark _)) (pe_one (pe_cmpR op_eq (pv 3) (pv 0) (nomark _)))))))))))), ?_⟩
  cases ask with
  | @kind _ t hv ht => exact ⟨_, rfl, _, _, _, _, false, rfl, .ty "tuple", hv.ty, kit_tup hv ht, false, rfl, q⟩
  | @long p xs hp hl h1000 =>
    refine ⟨_, rfl, _, _, _, _, true, rfl, .ty "tuple", .base (.tup hp), kit_ty (by decide +kernel), true, rfl, ?_⟩
    refine ⟨_, rfl, p, _, rfl, .inr (SqT.of hp), rfl, true, ?_, q⟩
    refine congrArg V.bl ?_
    rw [Bool.not_eq_true']
    exact decide_eq_false (fun z => hl (by have := V.int.inj z; omega))
  | @pair p v1 v2 ty1 ty2 hp p1 p2 =>
    refine ⟨_, rfl, _, _, _, _, true, rfl, .ty "tuple", .base (.tup hp), kit_ty (by decide +kernel), true, rfl, ?_⟩
    refine ⟨_, rfl, p, _, rfl, .inr (SqT.of hp), rfl, false, rfl, ?_⟩
    refine ⟨_, rfl, p, _, rfl, SqT.of hp, rfl, _, _, rfl, _, _, rfl, rfl, ?_⟩
    refine ⟨_, rfl, _, rfl, _, _, rfl, rfl, v1, ty1, _, _, rfl, p1, inRange 0 ((n : Int) - 1) v1, rfl, ?_⟩
    cases h1 : inRange 0 ((n : Int) - 1) v1 with
    | false =>
      have e : tnV n v1 v2 = false := by
        cases v1 with
        | int b =>
          cases v2 with
          | int e =>
            refine tn_out (fun k => ?_)
            have h1' : (decide (0 ≤ b) && decide (b ≤ (n : Int) - 1)) = false := h1
            rw [decide_eq_true k.1, decide_eq_true (show b ≤ (n : Int) - 1 by omega)] at h1'
            exact absurd h1' (by decide)
          | _ => rfl
        | _ => rfl
      rw [e] at q
      exact q
    | true =>
      cases p1 with
      | int b =>
        have h1' : (decide (0 ≤ b) && decide (b ≤ (n : Int) - 1)) = true := h1
        rw [Bool.and_eq_true] at h1'
        have b0 := of_decide_eq_true h1'.1
        have b1 := of_decide_eq_true h1'.2
        refine ⟨_, rfl, _, rfl, _, _, rfl, rfl, _, rfl, v2, ty2, _, _, rfl, p2, inRange (b + 1) (n : Int) v2, rfl, ?_⟩
        cases h2 : inRange (b + 1) (n : Int) v2 with
        | false =>
          have e : tnV n (.int b) v2 = false := by
            cases v2 with
            | int e =>
              refine tn_out (fun k => ?_)
              have h2' : (decide (b + 1 ≤ e) && decide (e ≤ (n : Int))) = false := h2
              rw [decide_eq_true (show b + 1 ≤ e by omega), decide_eq_true k.2.2] at h2'
              exact absurd h2' (by decide)
            | _ => rfl
          rw [e] at q
          exact q
        | true =>
          cases p2 with
          | int e =>
            have h2' : (decide (b + 1 ≤ e) && decide (e ≤ (n : Int))) = true := h2
            rw [Bool.and_eq_true] at h2'
            have e0 := of_decide_eq_true h2'.1
            have e1 := of_decide_eq_true h2'.2
            obtain ⟨bn, rfl⟩ := Int.eq_ofNat_of_zero_le b0
            obtain ⟨en, rfl⟩ := Int.eq_ofNat_of_zero_le (show 0 ≤ e by omega)
            have hlt : bn < en := by omega
            have ev : tnV n (.int (bn : Int)) (.int (en : Int)) = decide (isN n (bn, en)) := by
              show decide (0 ≤ (bn : Int) ∧ isN n ((bn : Int).toNat, (en : Int).toNat)) = decide (isN n (bn, en))
              rw [Int.toNat_natCast, Int.toNat_natCast]
              by_cases k : isN n (bn, en)
              · rw [decide_eq_true k, decide_eq_true ⟨b0, k⟩]
              · rw [decide_eq_false k, decide_eq_false (fun z => k z.2)]
            rw [ev] at q
            have em : (en : Int) - (bn : Int) - 1 = ((en - bn - 1 : Nat) : Int) := by omega
            refine ⟨_, rfl, _, rfl, _, _, rfl, rfl, _, _, rfl, rfl, _, rfl, ?_⟩
            dsimp only
            rw [em, bits_lb (show 1 ≤ en - bn by omega)]
            have l100 := lb100 (show en - bn ≤ 10 ^ 30 by omega)
            refine ⟨_, _, rfl, rfl, ⟨Int.natCast_nonneg _, by omega, by decide⟩, ?_⟩
            have e2 : (1 : Int) * 2 ^ ((lb (en - bn) : Nat) : Int).toNat = ((2 ^ lb (en - bn) : Nat) : Int) := by rw [Int.one_mul, Int.toNat_natCast]; exact (Int.natCast_pow 2 _).symm
            dsimp only
            rw [e2]
            have pz : 0 < 2 ^ lb (en - bn) := Nat.pow_pos (by decide)
            have isE : isN n (bn, en) ↔ (bn % 2 ^ lb (en - bn) = 0 ∧ (en - bn = 2 ^ lb (en - bn) ∨ en = n)) := by
              unfold isN tree
              simp only
              constructor
              · rintro ⟨_, _, k1, k2⟩
                exact ⟨Nat.mod_eq_zero_of_dvd k1, k2.elim .inl (fun z => .inr (by omega))⟩
              · rintro ⟨k1, k2⟩
                exact ⟨hlt, by omega, Nat.dvd_of_mod_eq_zero k1, k2.elim .inl (fun z => .inr (by omega))⟩
            generalize 2 ^ lb (en - bn) = R at pz isE
            have fm : Int.fmod (bn : Int) (R : Int) = ((bn % R : Nat) : Int) := by
              rw [Int.fmod_eq_emod_of_nonneg _ (Int.natCast_nonneg _)]
              exact (Int.natCast_emod _ _).symm
            refine ⟨_, rfl, _, rfl, _, _, rfl, rfl, by omega, rfl, decide (bn % R = 0), ?_, ?_⟩
            · show V.bl (decide (V.int (Int.fmod (bn : Int) (R : Int)) = V.int 0)) = V.bl (decide (bn % R = 0))
              rw [fm]
              refine congrArg V.bl ?_
              by_cases k : bn % R = 0
              · rw [decide_eq_true k, k]; rfl
              · rw [decide_eq_false k]
                exact decide_eq_false (fun z => k (by have := V.int.inj z; omega))
            by_cases k : bn % R = 0
            · rw [decide_eq_true k]
              refine iteT ?_
              refine ⟨_, rfl, _, rfl, _, _, rfl, rfl, _, rfl, rfl, _, rfl, ite2 (fun c => ?_) (fun c => ?_)⟩
              · have c1 : V.int ((en : Int) - (bn : Int)) = V.int (R : Int) := of_decide_eq_true c
                have c2 := V.int.inj c1
                rw [decide_eq_true (isE.mpr ⟨k, .inl (by omega)⟩)] at q
                exact q
              · have c1 : ¬ V.int ((en : Int) - (bn : Int)) = V.int (R : Int) := of_decide_eq_false (Bool.eq_false_iff.mpr c)
                refine ⟨_, rfl, _, rfl, rfl, ?_⟩
                have ed : decide (V.int (en : Int) = V.int (n : Int)) = decide (isN n (bn, en)) := by
                  by_cases z : en = n
                  · rw [decide_eq_true (isE.mpr ⟨k, .inr z⟩), decide_eq_true (by rw [z])]
                  · rw [decide_eq_false (fun y => z (by have := V.int.inj y; omega)), decide_eq_false (fun y => (isE.mp y).2.elim (fun u => c1 (congrArg V.int (by omega))) z)]
                show Q (.bl (decide (V.int (en : Int) = V.int (n : Int)))) H
                rw [ed]
                exact q
            · rw [decide_eq_false k]
              refine iteF ?_
              rw [decide_eq_false (fun z => k (isE.mp z).1)] at q
              exact q
          | _ => exact absurd h2 (by intro z; cases z)
      | _ => exact absurd h1 (by intro z; cases z)
/-- the promise for pairs that are nodes -/
theorem tree_ofV {k : Nat} {f : Addr} {fd : FuncData} (F : FnOk P w K mg base CX0 k f fd ["size", "value"] (spTreeV K)) : FnOk P w K mg base CX0 k f fd ["size", "value"] spTree :=
  F.imp fun vs H Q E h => by
    obtain ⟨n, b, m, v, rfl, ⟨p, rfl, hp⟩, hm, hn, h30, ht, q⟩ := h
    refine ⟨n, _, _, rfl, by omega, h30, .pair hp (.int _) (.int _), ?_⟩
    have e : tnV n (.int (b : Int)) (.int ((b + m : Nat) : Int)) = true := by
      refine decide_eq_true ⟨Int.natCast_nonneg _, ?_⟩
      rw [Int.toNat_natCast, Int.toNat_natCast]
      refine ⟨by simp only; omega, hn, ?_⟩
      show tree n b (b + m - b)
      rw [Nat.add_sub_cancel_left]
      exact ht
    show Q (.bl (tnV n (.int (b : Int)) (.int ((b + m : Nat) : Int)))) H
    rw [e]
    exact q
def spIsNode (K : PySem.W.Frag) : Sp := spTreeV K
theorem ok_is_node {f g g2 : Addr} {fd gd gd2 : FuncData} (F : Fun K "is_node" "is_node" sIsNode f fd) (GCheckSize : FnOk P w K mg base CX0 3 g gd ["size"] spCheckSize) (ACheckSize : At K mg "check_size" g gd ["size"])
    (GIsTreeNode : FnOk P w K mg base CX0 3 g2 gd2 ["size", "value"] (spTreeV K)) (AIsTreeNode : At K mg "is_tree_node" g2 gd2 ["size", "value"]) : FnOk P w K mg base CX0 4 f fd ["size", "value"] (spIsNode K) := by
  refine F.ok scIsNode (fun vs H Q E h => ?_) (fun cdv A outer s H vs Q E hr h => ?_)
  · obtain ⟨_, _, _, rfl, _⟩ := h
    rfl
  obtain ⟨n, v, r, rfl, n1, h30, ask, q⟩ := h
  refine ⟨_, (pss_cons (ps_expr (pe_call GCheckSize (hr.mono (by decide)) rfl ACheckSize.m ACheckSize.kp ACheckSize.b .nil pass0 (pa_cons (pv 0) pa_nil)))
    (pss_one (ps_ret (pe_call GIsTreeNode (hr.mono (by decide)) rfl AIsTreeNode.m AIsTreeNode.kp AIsTreeNode.b .nil pass0 (pa_cons (pv 0) (pa_cons (pv 1) pa_nil)))))), ?_⟩
  refine ⟨_, rfl, n, rfl, by omega, by omega, ?_⟩
  exact ⟨_, rfl, _, rfl, n, v, r, rfl, n1, h30, ask, q⟩
end
end LT

namespace LT
open PySem PySem.Spec PyProof.Rows L2
/-! ### lists of ints as data -/
theorem ints_lay : ∀ ns : List Int, PyData.canLayAll0 (ns.map PyData.int) = true
  | [] => by simp [PyData.canLayAll0]
  | n :: ns => by simp [PyData.canLayAll0, PyData.canLay0, ints_lay ns]
theorem ints_depth : ∀ ns : List Int, PyData.depthAll (ns.map PyData.int) ≤ 1
  | [] => by simp [PyData.depthAll]
  | n :: ns => by
    have := ints_depth ns
    simp only [List.map_cons, PyData.depthAll, PyData.depth]
    omega
theorem ints_shaped (ns : List Int) : SeqAt.shaped (.list (ns.map PyData.int)) = true := by
  have h := ints_depth ns
  have h2 : PyData.depth (.list (ns.map PyData.int)) ≤ 64 := by
    simp only [PyData.depth]
    omega
  show (PyData.canLay0 (.list (ns.map PyData.int)) && decide (PyData.depth (.list (ns.map PyData.int)) ≤ 64)) = true
  rw [Bool.and_eq_true]
  exact ⟨by simp only [PyData.canLay0]; exact ints_lay ns, decide_eq_true h2⟩
theorem ints_dp {K : PySem.W.Frag} {H : Hp} : ∀ ns : List Int, DpAll K H (ns.map V.int) (ns.map PyData.int)
  | [] => .nil
  | n :: ns => .cons (.int n) (ints_dp ns)
theorem ints_nil : ∀ ns : List Int, PyData.eqv (.list (ns.map PyData.int)) (.list []) = ns.isEmpty
  | [] => by simp only [List.map_nil, PyData.eqv, PyData.eqvAll, List.isEmpty_nil]
  | n :: ns => by simp only [List.map_cons, PyData.eqv, PyData.eqvAll, List.isEmpty_cons]
theorem nil_shaped : SeqAt.shaped (.list []) = true := ints_shaped []
end LT

namespace LT
open PySem PySem.Spec PyProof.Rows L2
def nd (x : Nat × Nat) : PyData := .tuple [.int x.1, .int x.2]
theorem nds_lay : ∀ l : List (Nat × Nat), PyData.canLayAll0 (l.map nd) = true
  | [] => by simp [PyData.canLayAll0]
  | x :: l => by simp [PyData.canLayAll0, nd, PyData.canLay0, nds_lay l]
theorem nds_depth : ∀ l : List (Nat × Nat), PyData.depthAll (l.map nd) ≤ 2
  | [] => by simp [PyData.depthAll]
  | x :: l => by
    have := nds_depth l
    simp only [List.map_cons, PyData.depthAll, nd, PyData.depth]
    omega
theorem nds_shaped (l : List (Nat × Nat)) : SeqAt.shaped (.list (l.map nd)) = true := by
  have h := nds_depth l
  have h2 : PyData.depth (.list (l.map nd)) ≤ 64 := by
    simp only [PyData.depth]
    omega
  show (PyData.canLay0 (.list (l.map nd)) && decide (PyData.depth (.list (l.map nd)) ≤ 64)) = true
  rw [Bool.and_eq_true]
  exact ⟨by simp only [PyData.canLay0]; exact nds_lay l, decide_eq_true h2⟩
theorem nds_dp {K : PySem.W.Frag} {H : Hp} : ∀ {vs : List V} {l : List (Nat × Nat)}, All2 (Nd H) vs l → DpAll K H vs (l.map nd)
  | _, _, .nil => .nil
  | _, _, .cons h t => .cons h.dp (nds_dp t)
theorem nds_any (l : List (Nat × Nat)) (x : Nat × Nat) : (l.map nd).any (fun z => PyData.eqv z (.tuple [.int x.1, .int x.2])) = decide (x ∈ l) := by
  induction l with
  | nil => simp
  | cons y l ih =>
    rw [List.map_cons, List.any_cons, ih]
    show (PyData.eqv (.tuple [.int y.1, .int y.2]) _ || _) = _
    rw [nd_eqv]
    by_cases c : x = y
    · subst c
      simp
    · have e : (decide ((y.1 : Int) = (x.1 : Int)) && decide ((y.2 : Int) = (x.2 : Int))) = false := by
        rw [Bool.and_eq_false_iff]
        by_cases c1 : y.1 = x.1
        · right
          refine decide_eq_false (fun z => c (Prod.ext c1.symm ?_))
          omega
        · left
          exact decide_eq_false (fun z => c1 (by omega))
      rw [e, Bool.false_or]
      simp [c]
end LT

namespace LT
open PySem PySem.Spec PyProof.Rows L2
/-- the parts of the log's entries around b in rooms of 2 ^ j -/
def cutAt (n b j : Nat) : Nat × Nat := (b - b % 2 ^ j, min (b - b % 2 ^ j + 2 ^ j) n)
/-- a half of a node -/
def isHalf (B M : Nat) (x : Nat × Nat) : Prop := x = (B, B + gp M) ∨ x = (B + gp M, B + M)
theorem cut_here {n b m : Nat} (t : tree n b m) (hn : b + m ≤ n) : cutAt n b (lb m) = (b, b + m) := by
  obtain ⟨d, k⟩ := t
  unfold cutAt
  rw [Nat.mod_eq_zero_of_dvd d, Nat.sub_zero]
  have := lb_ge m
  refine Prod.ext rfl ?_
  simp only
  rcases k with k | k
  · rw [← k]; exact Nat.min_eq_left hn
  · rw [k]; exact Nat.min_eq_right (by omega)
theorem mod_of_room {R B b : Nat} (d : R ∣ B) (h1 : B ≤ b) (h2 : b < B + R) : b - b % R = B := by
  obtain ⟨x, rfl⟩ := d
  have e : b % R = b - R * x := by
    have h : b = R * x + (b - R * x) := by omega
    rw [h, Nat.mul_add_mod, Nat.mod_eq_of_lt (by omega), Nat.add_sub_cancel_left]
  omega
theorem cut_above {n B M b : Nat} (t : tree n B M) (hn : B + M ≤ n) (h1 : B ≤ b) (h2 : b < B + M) : cutAt n b (lb M) = (B, B + M) := by
  rw [← cut_here t hn]
  have := lb_ge M
  unfold cutAt
  rw [mod_of_room t.1 h1 (by omega), mod_of_room t.1 (Nat.le_refl _) (by have := Nat.pow_pos (a := 2) (n := lb M) (by decide); omega)]
theorem half_lb {M : Nat} (h : 2 ≤ M) : lb M = Nat.log2 (M - 1) + 1 := by unfold lb; rw [if_neg (by omega)]
theorem cut_between {n B M : Nat} (h : 2 ≤ M) (t : tree n B M) (hn : B + M ≤ n) {x : Nat × Nat} (hx : isHalf B M x) {j : Nat} (h1 : lb (x.2 - x.1) ≤ j) (h2 : j < lb M) : cutAt n x.1 j = x := by
  have g1 := gp_lt h
  have g2 := gp_ge h
  have e1 := half_lb h
  have eg : lb (gp M) = Nat.log2 (M - 1) := by unfold gp; rw [lb_pow]
  rcases hx with rfl | rfl
  · simp only [Nat.add_sub_cancel_left] at h1
    have ej : j = lb (gp M) := by omega
    subst ej
    exact cut_here (tree_low h t) (by omega)
  · have em : B + M - (B + gp M) = M - gp M := by omega
    simp only at h1
    rw [em] at h1
    have th := tree_high h t
    by_cases c : j = lb (M - gp M)
    · subst c
      have := cut_here th (by omega)
      rw [show B + gp M + (M - gp M) = B + M by omega] at this
      exact this
    · have lt : lb (M - gp M) < lb (gp M) := by omega
      have hn2 : B + M = n := by
        rcases t.2 with k | k
        · exfalso
          have e2 := lb_gp h
          have e3 : M - gp M = gp M := by omega
          rw [e3] at lt
          omega
        · exact k
      unfold cutAt
      have dj : 2 ^ j ∣ B + gp M := by
        have d1 : 2 ^ j ∣ gp M := by unfold gp; exact Nat.pow_dvd_pow 2 (by omega)
        have d2 : gp M ∣ B := by
          have k := t.1
          rw [lb_gp h] at k
          exact Nat.dvd_trans (Nat.dvd_mul_left _ _) k
        exact Nat.dvd_add (Nat.dvd_trans d1 d2) d1
      simp only
      rw [Nat.mod_eq_zero_of_dvd dj, Nat.sub_zero]
      refine Prod.ext rfl ?_
      simp only
      have k1 := lb_ge (M - gp M)
      have k2 : 2 ^ lb (M - gp M) ≤ 2 ^ j := Nat.pow_le_pow_right (by decide) h1
      rw [Nat.min_eq_right (by omega), hn2]
theorem half_ne {B M n : Nat} (h : 2 ≤ M) (hn : B + M ≤ n) {x : Nat × Nat} (hx : isHalf B M x) : x ≠ (0, n) ∧ x ≠ (B, B + M) ∧ B ≤ x.1 ∧ x.1 < x.2 ∧ x.2 ≤ B + M := by
  have g1 := gp_lt h
  have g3 := gp_pos M
  rcases hx with rfl | rfl
  · refine ⟨fun z => ?_, fun z => ?_, Nat.le_refl _, by simp only; omega, by simp only; omega⟩
    · have := congrArg Prod.snd z; simp only at this; omega
    · have := congrArg Prod.snd z; simp only at this; omega
  · refine ⟨fun z => ?_, fun z => ?_, by simp only; omega, by simp only; omega, Nat.le_refl _⟩
    · have := congrArg Prod.fst z; simp only at this; omega
    · have := congrArg Prod.fst z; simp only at this; omega
theorem half_tree {B M n : Nat} (h : 2 ≤ M) (t : tree n B M) {x : Nat × Nat} (hx : isHalf B M x) : tree n x.1 (x.2 - x.1) := by
  have g1 := gp_lt h
  rcases hx with rfl | rfl
  · simp only [Nat.add_sub_cancel_left]
    exact tree_low h t
  · simp only
    rw [show B + M - (B + gp M) = M - gp M by omega]
    exact tree_high h t
theorem half_lt {B M : Nat} (h : 2 ≤ M) {x : Nat × Nat} (hx : isHalf B M x) : lb (x.2 - x.1) < lb M := by
  have g1 := gp_lt h
  have g2 := gp_ge h
  have e1 := half_lb h
  have eg : lb (gp M) = Nat.log2 (M - 1) := by unfold gp; rw [lb_pow]
  rcases hx with rfl | rfl
  · simp only [Nat.add_sub_cancel_left]
    omega
  · simp only
    rw [show B + M - (B + gp M) = M - gp M by omega]
    have : lb (M - gp M) ≤ Nat.log2 (M - 1) := lb_le (by unfold gp at g1 g2 ⊢; omega)
    omega
theorem nd_is (x y : Nat × Nat) : PyData.eqv (nd x) (nd y) = decide (x = y) := by
  show PyData.eqv (.tuple [.int x.1, .int x.2]) (.tuple [.int y.1, .int y.2]) = _
  rw [nd_eqv]
  by_cases c : x = y
  · subst c; simp
  · rw [decide_eq_false c, Bool.and_eq_false_iff]
    by_cases c1 : x.1 = y.1
    · right
      exact decide_eq_false (fun z => c (Prod.ext c1 (by omega)))
    · left
      exact decide_eq_false (fun z => c1 (by omega))
section
variable {P : Program} {w : World} {K : PySem.W.Frag} {mg : Str → Option Value} {base : Heap}
/-- the halves of any node -/
def spHalvesA : Sp := fun vs H Q _ => ∃ (n b m : Nat) (v : V), vs = [.int n, v] ∧ Nd H v (b, b + m) ∧ 1 ≤ m ∧ b + m ≤ n ∧ n ≤ 10 ^ 30 ∧ tree n b m ∧
  ((m = 1 ∧ Q .non H) ∨ (2 ≤ m ∧ ∀ (H' : Hp) (q : Addr) (l h : V), Same H H' → H q = none → H' q = some (.tup [l, h]) → Nd H' l (b, b + gp m) → Nd H' h (b + gp m, b + m) → Q (.ref q) H'))
theorem ok_halvesA {f g1 g2 g3 : Addr} {fd d1 d2 d3 : FuncData} (F : Fun K "halves" "halves" sHalves f fd) (GCheckSize : FnOk P w K mg base CX0 3 g1 d1 ["size"] spCheckSize) (ACheckSize : At K mg "check_size" g1 d1 ["size"])
    (GCheckNode : FnOk P w K mg base CX0 4 g2 d2 ["size", "node"] spCheckNode) (ACheckNode : At K mg "check_node" g2 d2 ["size", "node"]) (GPowerWithin : FnOk P w K mg base CX0 1 g3 d3 ["number"] spPower) (APowerWithin : At K mg "power_within" g3 d3 ["number"]) :
    FnOk P w K mg base CX0 5 f fd ["size", "node"] spHalvesA := by
  refine F.ok scHalves (fun vs H Q E h => ?_) (fun cdv A outer s H vs Q E hr h => ?_)
  · obtain ⟨_, _, _, _, rfl, _⟩ := h
    rfl
  obtain ⟨n, b, m, v, rfl, hv, hm, hn, h30, ht, q⟩ := h
  refine ⟨_, (pss_cons (ps_expr (pe_call GCheckSize (hr.mono (by decide)) rfl ACheckSize.m ACheckSize.kp ACheckSize.b .nil pass0 (pa_cons (pv 0) pa_nil)))
    (pss_cons (ps_expr (pe_call GCheckNode (hr.mono (by decide)) rfl ACheckNode.m ACheckNode.kp ACheckNode.b .nil pass0 (pa_cons (pv 0) (pa_cons (pv 1) pa_nil))))
    (pss_cons (ps_asg (pv 1) (pg_tup (by rfl) (pgs_cons (pg_name (i := 2) scHalves.nd rfl (Or.inl rfl)) (pgs_cons (pg_name (i := 3) scHalves.nd rfl (Or.inl rfl)) pgs_nil))))
    (pss_cons (ps_if (pt_cmpR op_eq (pe_op op_sub (pv 3) (pv 2)) pe_int (nomark _))
    (pss_one (ps_ret pe_non))
    pss_nil)
    (pss_cons (ps_set (i := 4) scHalves.nd rfl (Or.inl rfl) (pe_op op_add (pv 2) (pe_call GPowerWithin (hr.mono (by decide)) rfl APowerWithin.m APowerWithin.kp APowerWithin.b .nil pass0 (pa_cons (pe_op op_sub (pe_op op_sub (pv 3) (pv 2)) pe_int) pa_nil))))
    (pss_one (ps_ret (pe_tup (pa_cons (pe_tup (pa_cons (pv 2) (pa_cons (pv 4) pa_nil))) (pa_cons (pe_tup (pa_cons (pv 4) (pa_cons (pv 3) pa_nil))) pa_nil)))))))))), ?_⟩
  refine ⟨_, rfl, n, rfl, by omega, by omega, ?_⟩
  refine ⟨_, rfl, _, rfl, n, b, m, v, rfl, hv, by omega, hn, h30, ht, ?_⟩
  obtain ⟨p, rfl, hp⟩ := id hv
  refine ⟨_, rfl, p, _, rfl, SqT.of hp, rfl, _, _, rfl, _, _, rfl, rfl, ?_⟩
  refine ⟨_, rfl, _, rfl, _, _, rfl, rfl, rfl, _, rfl, ite2 (fun c => ?_) (fun c => ?_)⟩
  · have c1 : V.int (((b + m : Nat) : Int) - (b : Int)) = V.int 1 := of_decide_eq_true c
    have := V.int.inj c1
    rcases q with ⟨_, q⟩ | ⟨h2, _⟩
    · exact q
    · omega
  have c1 : ¬ V.int (((b + m : Nat) : Int) - (b : Int)) = V.int 1 := of_decide_eq_false (Bool.eq_false_iff.mpr c)
  have c2 : m ≠ 1 := fun z => c1 (congrArg V.int (by omega))
  have q : ∀ (H' : Hp) (q : Addr) (l h : V), Same H H' → H q = none → H' q = some (.tup [l, h]) → Nd H' l (b, b + gp m) → Nd H' h (b + gp m, b + m) → Q (.ref q) H' := q.elim (fun z => absurd z.1 c2) (fun z => z.2)
  have e1 : ((b + m : Nat) : Int) - (b : Int) - 1 = ((m - 1 : Nat) : Int) := by omega
  refine ⟨_, rfl, _, rfl, _, rfl, _, _, rfl, rfl, _, _, rfl, rfl, m - 1, congrArg (fun z => [V.int z]) e1, by omega, by omega, _, _, rfl, rfl, ?_⟩
  have e2 : (b : Int) + ((2 ^ (m - 1).log2 : Nat) : Int) = ((b + gp m : Nat) : Int) := by unfold gp; omega
  have two : 2 ≤ sizeLine := by decide
  refine ⟨_, rfl, _, rfl, two, fun t1 n1 => ⟨_, rfl, _, rfl, two, fun t2 n2 => ⟨two, fun t3 n3 => ?_⟩⟩⟩
  dsimp only
  have s1 := same_upd (o := .tup [.int (b : Int), .int ((b : Int) + ((2 ^ (m - 1).log2 : Nat) : Int))]) n1
  have s2 := same_upd (o := .tup [.int ((b : Int) + ((2 ^ (m - 1).log2 : Nat) : Int)), .int ((b + m : Nat) : Int)]) n2
  have s3 := same_upd (o := .tup [.ref t1, .ref t2]) n3
  refine q _ t3 (.ref t1) (.ref t2) (s1.trans (s2.trans s3)) ((s1.trans s2).free n3) upd_same ⟨t1, rfl, s3 _ _ (s2 _ _ ?_)⟩ ⟨t2, rfl, s3 _ _ ?_⟩
  · rw [upd_same]
    dsimp only
    rw [e2]
  · rw [upd_same]
    dsimp only
    rw [e2]
/-- the node above -/
def spParent : Sp := fun vs H Q _ => ∃ (n : Nat) (x : Nat × Nat) (v : V), vs = [.int n, v] ∧ Nd H v x ∧ 1 ≤ n ∧ n ≤ 10 ^ 30 ∧
  ((x = (0, n) ∧ ∀ H', Same H H' → Q .non H') ∨ (∃ B M, 2 ≤ M ∧ tree n B M ∧ B + M ≤ n ∧ isHalf B M x ∧ ∀ (H' : Hp) (u : V), Same H H' → Nd H' u (B, B + M) → Q u H'))
theorem ok_parent {f g1 g2 : Addr} {fd d1 d2 : FuncData} (F : Fun K "parent" "parent" sParent f fd) (GCheckSize : FnOk P w K mg base CX0 3 g1 d1 ["size"] spCheckSize) (ACheckSize : At K mg "check_size" g1 d1 ["size"])
    (GCheckNode : FnOk P w K mg base CX0 4 g2 d2 ["size", "node"] spCheckNode) (ACheckNode : At K mg "check_node" g2 d2 ["size", "node"]) (z_min : mg "min" = none) :
    FnOk P w K mg base CX0 5 f fd ["size", "node"] spParent := by
  refine F.ok scParent (fun vs H Q E h => ?_) (fun cdv A outer s H vs Q E hr h => ?_)
  · obtain ⟨_, _, _, rfl, _⟩ := h
    rfl
  obtain ⟨n, x, v, rfl, hv, n1, h30, q⟩ := h
  have two : 2 ≤ sizeLine := by decide
  have hx : x.1 < x.2 ∧ x.2 ≤ n ∧ tree n x.1 (x.2 - x.1) := by
    rcases q with ⟨rfl, _⟩ | ⟨B, M, h2, t, hn, hh, _⟩
    · exact ⟨n1, Nat.le_refl _, tree_root n⟩
    · have k := half_ne h2 hn hh
      exact ⟨k.2.2.2.1, by omega, half_tree h2 t hh⟩
  obtain ⟨x1, x2, x3⟩ := hx
  refine ⟨_, (pss_cons (ps_expr (pe_call GCheckSize (hr.mono (by decide)) rfl ACheckSize.m ACheckSize.kp ACheckSize.b .nil pass0 (pa_cons (pv 0) pa_nil)))
    (pss_cons (ps_expr (pe_call GCheckNode (hr.mono (by decide)) rfl ACheckNode.m ACheckNode.kp ACheckNode.b .nil pass0 (pa_cons (pv 0) (pa_cons (pv 1) pa_nil))))
    (pss_cons (ps_if (pt_cmpR (op_eqD hr.units) (pv 1) (pe_tup (pa_cons pe_int (pa_cons (pv 0) pa_nil))) (nomark _))
    (pss_one (ps_ret pe_non))
    pss_nil)
    (pss_cons (ps_asg (pv 1) (pg_tup (by rfl) (pgs_cons (pg_name (i := 2) scParent.nd rfl (Or.inl rfl)) (pgs_cons (pg_name (i := 3) scParent.nd rfl (Or.inl rfl)) pgs_nil))))
    (pss_cons (ps_par (i := 4) (j := 5) (by rfl) scParent.nd rfl rfl (by decide) rfl rfl (pa_cons (pv 2) (pa_cons (pv 3) pa_nil)) (by rfl))
    (pss_cons (ps_set (i := 6) scParent.nd rfl (Or.inl rfl) (pe_op op_shl pe_int (pe_bits (pe_op op_sub (pe_op op_sub (pv 3) (pv 2)) pe_int))))
    (pss_cons (ps_while PassesOwn.never (pt_cmpR (op_eqD hr.units) (pe_tup (pa_cons (pv 4) (pa_cons (pv 5) pa_nil))) (pe_tup (pa_cons (pv 2) (pa_cons (pv 3) pa_nil))) (nomark _))
    (pss_cons (ps_set (i := 6) scParent.nd rfl (Or.inl rfl) (pe_op op_mul (pv 6) pe_int))
    (pss_cons (ps_set (i := 4) scParent.nd rfl (Or.inl rfl) (pe_op op_sub (pv 2) (pe_op op_modN (pv 2) (pv 6))))
    (pss_one (ps_set (i := 5) scParent.nd rfl (Or.inl rfl) (pe_callB (call_min2 rfl) (by rfl) z_min (by decide +kernel) (pa_cons (pe_op op_add (pv 4) (pv 6)) (pa_cons (pv 0) pa_nil))))))))
    (pss_one (ps_ret (pe_tup (pa_cons (pv 4) (pa_cons (pv 5) pa_nil)))))))))))), ?_⟩
  refine ⟨_, rfl, n, rfl, by omega, by omega, ?_⟩
  have ex : x.1 + (x.2 - x.1) = x.2 := by omega
  refine ⟨_, rfl, _, rfl, n, x.1, x.2 - x.1, v, rfl, by rw [ex]; exact hv, by omega, by omega, h30, x3, ?_⟩
  refine ⟨_, rfl, _, rfl, two, fun t0 n0 => ?_⟩
  have s0 := same_upd (o := .tup [.int 0, .int (n : Int)]) n0
  refine ⟨nd x, nd (0, n), (hv.same s0).dp, .tup (SqT.of upd_same) (.cons (.int _) (.cons (.int _) .nil)), nd_shaped _ _, nd_shaped _ _, ?_⟩
  rw [nd_is]
  generalize upd H t0 (.tup [.int 0, .int (n : Int)]) = H0 at s0
  refine ⟨_, rfl, ite2 (fun c => ?_) (fun c => ?_)⟩
  · have c1 : x = (0, n) := of_decide_eq_true c
    rcases q with ⟨_, q⟩ | ⟨B, M, h2, t, hn, hh, _⟩
    · exact q _ s0
    · exact absurd c1 (half_ne h2 hn hh).1
  have c1 : ¬ x = (0, n) := of_decide_eq_false (Bool.eq_false_iff.mpr c)
  obtain ⟨B, M, h2, t, hn, hh, q⟩ : ∃ B M, 2 ≤ M ∧ tree n B M ∧ B + M ≤ n ∧ isHalf B M x ∧ ∀ (H' : Hp) (u : V), Same H H' → Nd H' u (B, B + M) → Q u H' := q.elim (fun z => absurd z.1 c1) id
  obtain ⟨k1, k2, k3, k4, k5⟩ := half_ne h2 hn hh
  obtain ⟨p, rfl, hp⟩ := id hv
  refine ⟨_, rfl, p, _, rfl, SqT.of (s0 _ _ hp), rfl, _, _, rfl, _, _, rfl, rfl, ?_⟩
  have em : (x.2 : Int) - (x.1 : Int) - 1 = ((x.2 - x.1 - 1 : Nat) : Int) := by omega
  have hb : Builtin.Int.intBits ((x.2 : Int) - (x.1 : Int) - 1) = lb (x.2 - x.1) := by rw [em, bits_lb (by omega)]
  have l100 := lb100 (show x.2 - x.1 ≤ 10 ^ 30 by omega)
  have lM := lb100 (show M ≤ 10 ^ 30 by omega)
  have ll := half_lt h2 hh
  have e0 : cutAt n x.1 (lb (x.2 - x.1)) = x := by
    have := cut_here (m := x.2 - x.1) (half_tree h2 t hh) (by omega)
    rw [ex] at this
    exact this
  refine ⟨_, rfl, _, rfl, _, _, rfl, _, rfl, _, rfl, _, _, rfl, rfl, _, _, rfl, rfl, _, rfl, _, _, rfl, rfl, ⟨Int.natCast_nonneg _, by omega, by decide⟩, ?_⟩
  refine ⟨fun mu σ H' => ∃ j : Nat, σ = [some (.int n), some (.ref p), some (.int (x.1 : Int)), some (.int (x.2 : Int)), some (.int ((cutAt n x.1 j).1 : Int)), some (.int ((cutAt n x.1 j).2 : Int)), some (.int ((2 ^ j : Nat) : Int))] ∧ Same H H' ∧ lb (x.2 - x.1) ≤ j ∧ j ≤ lb M ∧ mu = lb M - j,
    ⟨lb M - lb (x.2 - x.1), lb (x.2 - x.1), ?_, s0, Nat.le_refl _, by omega, rfl⟩, ?_⟩
  · have e2 : (1 : Int) * 2 ^ ((Builtin.Int.intBits ((x.2 : Int) - (x.1 : Int) - 1) : Nat) : Int).toNat = ((2 ^ lb (x.2 - x.1) : Nat) : Int) := by rw [hb, Int.one_mul, Int.toNat_natCast]; exact (Int.natCast_pow 2 _).symm
    rw [e0, ← e2]
    rfl
  rintro mu σ H1 ⟨j, rfl, s1, j1, j2, rfl⟩
  refine ⟨_, rfl, _, rfl, two, fun t1 nt1 => ⟨_, rfl, _, rfl, two, fun t2 nt2 => ?_⟩⟩
  have st1 := same_upd (o := .tup [.int ((cutAt n x.1 j).1 : Int), .int ((cutAt n x.1 j).2 : Int)]) nt1
  have st2 := same_upd (o := .tup [.int (x.1 : Int), .int (x.2 : Int)]) nt2
  have sE := s1.trans (st1.trans st2)
  refine ⟨nd (cutAt n x.1 j), nd x, .tup (SqT.of (st2 _ _ upd_same)) (.cons (.int _) (.cons (.int _) .nil)), .tup (SqT.of upd_same) (.cons (.int _) (.cons (.int _) .nil)), nd_shaped _ _, nd_shaped _ _, ?_⟩
  rw [nd_is]
  refine ⟨_, rfl, ite2 (fun c => ?_) (fun c => ?_)⟩
  · have d1 : cutAt n x.1 j = x := of_decide_eq_true c
    have d2 : j < lb M := by
      by_cases z : j = lb M
      · subst z
        rw [cut_above t hn k3 (by omega)] at d1
        exact absurd d1.symm k2
      · omega
    have pj : 0 < 2 ^ (j + 1) := Nat.pow_pos (by decide)
    refine ⟨_, fun σ' H' h => h, _, rfl, _, _, rfl, rfl, .inr ⟨by decide, by decide⟩, ?_⟩
    have er : ((2 ^ j : Nat) : Int) * 2 = ((2 ^ (j + 1) : Nat) : Int) := by rw [Nat.pow_succ]; omega
    have fm : Int.fmod (x.1 : Int) ((2 ^ (j + 1) : Nat) : Int) = ((x.1 % 2 ^ (j + 1) : Nat) : Int) := by
      rw [Int.fmod_eq_emod_of_nonneg _ (Int.natCast_nonneg _)]
      exact (Int.natCast_emod _ _).symm
    have ef : (x.1 : Int) - ((x.1 % 2 ^ (j + 1) : Nat) : Int) = ((cutAt n x.1 (j + 1)).1 : Int) := by
      have := Nat.mod_le x.1 (2 ^ (j + 1))
      show _ = ((x.1 - x.1 % 2 ^ (j + 1) : Nat) : Int)
      omega
    have el : (if (n : Int) < ((cutAt n x.1 (j + 1)).1 : Int) + ((2 ^ (j + 1) : Nat) : Int) then (n : Int) else ((cutAt n x.1 (j + 1)).1 : Int) + ((2 ^ (j + 1) : Nat) : Int)) = ((cutAt n x.1 (j + 1)).2 : Int) := by
      show (if (n : Int) < ((x.1 - x.1 % 2 ^ (j + 1) : Nat) : Int) + ((2 ^ (j + 1) : Nat) : Int) then (n : Int) else ((x.1 - x.1 % 2 ^ (j + 1) : Nat) : Int) + ((2 ^ (j + 1) : Nat) : Int)) = ((min (x.1 - x.1 % 2 ^ (j + 1) + 2 ^ (j + 1)) n : Nat) : Int)
      split <;> omega
    refine ⟨_, rfl, _, rfl, _, rfl, _, _, rfl, rfl, ?_, _, _, rfl, rfl, ?_⟩
    · rw [er]; omega
    refine ⟨_, rfl, _, rfl, _, _, rfl, rfl, _, rfl, _, _, rfl, ?_⟩
    refine ⟨lb M - (j + 1), by omega, j + 1, ?_, sE, by omega, by omega, rfl⟩
    rw [← el, ← ef, ← fm, ← er]
    rfl
  · have d1 : ¬ cutAt n x.1 j = x := of_decide_eq_false (Bool.eq_false_iff.mpr c)
    have d2 : j = lb M := by
      by_cases z : j = lb M
      · exact z
      · exact absurd (cut_between h2 t hn hh j1 (by omega)) d1
    subst d2
    generalize upd (upd H1 t1 _) t2 _ = H3 at sE
    rw [cut_above t hn k3 (by omega)]
    refine ⟨_, rfl, _, rfl, two, fun t3 nt3 => ?_⟩
    have st3 := same_upd (o := .tup [.int (B : Int), .int ((B + M : Nat) : Int)]) nt3
    exact q _ (.ref t3) (sE.trans st3) ⟨t3, rfl, upd_same⟩
/-- the node beside -/
def spSibling : Sp := fun vs H Q _ => ∃ (n : Nat) (x : Nat × Nat) (v : V), vs = [.int n, v] ∧ Nd H v x ∧ 1 ≤ n ∧ n ≤ 10 ^ 30 ∧
  ((x = (0, n) ∧ ∀ H', Same H H' → Q .non H') ∨ (∃ B M y, 2 ≤ M ∧ tree n B M ∧ B + M ≤ n ∧ ((x = (B, B + gp M) ∧ y = (B + gp M, B + M)) ∨ (x = (B + gp M, B + M) ∧ y = (B, B + gp M))) ∧ ∀ (H' : Hp) (u : V), Same H H' → Nd H' u y → Q u H'))
theorem ok_sibling {f g1 g2 : Addr} {fd d1 d2 : FuncData} (F : Fun K "sibling" "sibling" sSibling f fd) (GParent : FnOk P w K mg base CX0 5 g1 d1 ["size", "node"] spParent) (AParent : At K mg "parent" g1 d1 ["size", "node"])
    (GHalves : FnOk P w K mg base CX0 5 g2 d2 ["size", "node"] spHalvesA) (AHalves : At K mg "halves" g2 d2 ["size", "node"]) : FnOk P w K mg base CX0 6 f fd ["size", "node"] spSibling := by
  refine F.ok scSibling (fun vs H Q E h => ?_) (fun cdv A outer s H vs Q E hr h => ?_)
  · obtain ⟨_, _, _, rfl, _⟩ := h
    rfl
  obtain ⟨n, x, v, rfl, hv, n1, h30, q⟩ := h
  have two : 2 ≤ sizeLine := by decide
  refine ⟨_, (pss_cons (ps_set (i := 2) scSibling.nd rfl (Or.inl rfl) (pe_call GParent (hr.mono (by decide)) rfl AParent.m AParent.kp AParent.b .nil pass0 (pa_cons (pv 0) (pa_cons (pv 1) pa_nil))))
    (pss_cons (ps_if (pt_cmpR op_isN (pv 2) pe_non (nomark _))
    (pss_one (ps_ret pe_non))
    pss_nil)
    (pss_cons (ps_asg (pe_call GHalves (hr.mono (by decide)) rfl AHalves.m AHalves.kp AHalves.b .nil pass0 (pa_cons (pv 0) (pa_cons (pv 2) pa_nil))) (pg_tup (by rfl) (pgs_cons (pg_name (i := 3) scSibling.nd rfl (Or.inl rfl)) (pgs_cons (pg_name (i := 4) scSibling.nd rfl (Or.inl rfl)) pgs_nil))))
    (pss_cons (ps_if (pt_cmpR (op_eqD hr.units) (pv 1) (pv 3) (nomark _))
    (pss_one (ps_ret (pv 4)))
    pss_nil)
    (pss_one (ps_ret (pv 3))))))), ?_⟩
  rcases q with ⟨hx, q⟩ | ⟨B, M, y, h2, t, hn, hh, q⟩
  · refine ⟨_, rfl, _, rfl, n, x, v, rfl, hv, n1, h30, .inl ⟨hx, fun H1 s1 => ?_⟩⟩
    exact ⟨_, rfl, rfl, _, rfl, iteT (q _ s1)⟩
  · have hx : isHalf B M x := hh.elim (fun z => .inl z.1) (fun z => .inr z.1)
    refine ⟨_, rfl, _, rfl, n, x, v, rfl, hv, n1, h30, .inr ⟨B, M, h2, t, hn, hx, fun H1 u s1 hu => ?_⟩⟩
    obtain ⟨up, rfl, hup⟩ := id hu
    refine ⟨_, rfl, rfl, _, rfl, iteF ?_⟩
    refine ⟨_, rfl, _, rfl, n, B, M, _, rfl, hu, by omega, hn, h30, t, .inr ⟨h2, fun H2 qa l h s2 nq hqa hl hhi => ?_⟩⟩
    refine ⟨qa, _, rfl, SqT.of hqa, rfl, _, _, rfl, _, _, rfl, rfl, ?_⟩
    have s12 := s1.trans s2
    refine ⟨_, rfl, _, rfl, nd x, nd (B, B + gp M), (hv.same s12).dp, hl.dp, nd_shaped _ _, nd_shaped _ _, ?_⟩
    rw [nd_is]
    have g3 := gp_pos M
    refine ⟨_, rfl, ite2 (fun c => ?_) (fun c => ?_)⟩
    · have c1 : x = (B, B + gp M) := of_decide_eq_true c
      refine ⟨_, rfl, q _ h s12 ?_⟩
      rcases hh with ⟨z1, z2⟩ | ⟨z1, z2⟩
      · rw [z2]; exact hhi
      · rw [z1] at c1
        have := congrArg Prod.fst c1
        simp only at this
        omega
    · have c1 : ¬ x = (B, B + gp M) := of_decide_eq_false (Bool.eq_false_iff.mpr c)
      refine ⟨_, rfl, q _ l s12 ?_⟩
      rcases hh with ⟨z1, z2⟩ | ⟨z1, z2⟩
      · exact absurd z1 c1
      · rw [z2]; exact hl
end
end LT

namespace LT
open PySem PySem.Spec PyProof.Rows L2
section
variable {P : Program} {w : World} {K : PySem.W.Frag} {mg : Str → Option Value} {base : Heap}
def spHalved : Sp := fun vs H Q _ => ∃ (x y : Nat) (v : V), vs = [v] ∧ Nd H v (x, y) ∧ x + 2 ≤ y ∧
  ∀ (H' : Hp) (q : Addr) (l h : V), Same H H' → H q = none → H' q = some (.tup [l, h]) → Nd H' l (x, x + gp (y - x)) → Nd H' h (x + gp (y - x), y) → Q (.ref q) H'
theorem ok_law_halved {f : Addr} {fd : FuncData} (F : Fun K "_law_halved" "_law_halved" sLawHalved f fd) : FnOk P w K mg base CX0 1 f fd ["node"] spHalved := by
  refine F.ok scLawHalved (fun vs H Q E h => ?_) (fun cdv A outer s H vs Q E hr h => ?_)
  · obtain ⟨_, _, _, rfl, _⟩ := h
    rfl
  obtain ⟨x, y, v, rfl, ⟨p, rfl, hp⟩, hxy, q⟩ := h
  refine ⟨_, (pss_cons (ps_asg (pv 0) (pg_tup (by rfl) (pgs_cons (pg_name (i := 1) scLawHalved.nd rfl (Or.inl rfl)) (pgs_cons (pg_name (i := 2) scLawHalved.nd rfl (Or.inl rfl)) pgs_nil))))
    (pss_cons (ps_set (i := 3) scLawHalved.nd rfl (Or.inl rfl) pe_int)
    (pss_cons (ps_while PassesOwn.never (pt_cmpR op_lt (pe_op op_mul pe_int (pv 3)) (pe_op op_sub (pv 2) (pv 1)) (nomark _))
    (pss_one (ps_set (i := 3) scLawHalved.nd rfl (Or.inl rfl) (pe_op op_mul pe_int (pv 3)))))
    (pss_one (ps_ret (pe_tup (pa_cons (pe_tup (pa_cons (pv 1) (pa_cons (pe_op op_add (pv 1) (pv 3)) pa_nil))) (pa_cons (pe_tup (pa_cons (pe_op op_add (pv 1) (pv 3)) (pa_cons (pv 2) pa_nil))) pa_nil)))))))), ?_⟩
  refine ⟨_, rfl, p, _, rfl, SqT.of hp, rfl, _, _, rfl, _, _, rfl, rfl, ?_⟩
  refine ⟨fun mu σ H' => ∃ j : Nat, σ = [some (.ref p), some (.int (x : Int)), some (.int (y : Int)), some (.int ((2 ^ j : Nat) : Int))] ∧ H' = H ∧ 2 ^ j < y - x ∧ mu = y - x - 2 ^ j, ⟨y - x - 1, 0, rfl, rfl, by simp; omega, by simp⟩, ?_⟩
  rintro m σ H1 ⟨j, rfl, rfl, hj, rfl⟩
  refine ⟨_, rfl, _, _, rfl, rfl, .inl ⟨by decide, by decide⟩, _, rfl, _, rfl, _, _, rfl, rfl, _, _, rfl, rfl, _, rfl, ite2 (fun c => ?_) (fun c => ?_)⟩
  · have c1 : 2 * ((2 ^ j : Nat) : Int) < (y : Int) - (x : Int) := of_decide_eq_true c
    have pj : 0 < 2 ^ j := Nat.pow_pos (by decide)
    refine ⟨_, fun σ' H' h => h, _, rfl, _, _, rfl, rfl, .inl ⟨by decide, by decide⟩, ?_⟩
    refine ⟨y - x - 2 ^ (j + 1), by rw [Nat.pow_succ]; omega, j + 1, ?_, rfl, by rw [Nat.pow_succ]; omega, rfl⟩
    have e : (2 : Int) * ((2 ^ j : Nat) : Int) = ((2 ^ (j + 1) : Nat) : Int) := by rw [Nat.pow_succ]; omega
    rw [← e]
    rfl
  · have c1 : ¬ 2 * ((2 ^ j : Nat) : Int) < (y : Int) - (x : Int) := of_decide_eq_false (Bool.eq_false_iff.mpr c)
    have g : gp (y - x) = 2 ^ j := gp_eq hj (by omega)
    have two : 2 ≤ sizeLine := by decide
    refine ⟨_, rfl, _, rfl, _, rfl, _, _, rfl, rfl, two, fun t1 n1 => ⟨_, rfl, _, rfl, _, _, rfl, rfl, _, rfl, two, fun t2 n2 => ⟨two, fun t3 n3 => ?_⟩⟩⟩
    have e2 : (x : Int) + ((2 ^ j : Nat) : Int) = ((x + gp (y - x) : Nat) : Int) := by rw [g]; omega
    dsimp only at n1 n2 n3 ⊢
    rw [e2] at n2 n3 ⊢
    have s1 := same_upd (o := .tup [.int (x : Int), .int ((x + gp (y - x) : Nat) : Int)]) n1
    have s2 := same_upd (o := .tup [.int ((x + gp (y - x) : Nat) : Int), .int (y : Int)]) n2
    have s3 := same_upd (o := .tup [.ref t1, .ref t2]) n3
    exact q _ t3 (.ref t1) (.ref t2) (s1.trans (s2.trans s3)) ((s1.trans s2).free n3) upd_same ⟨t1, rfl, s3 _ _ (s2 _ _ upd_same)⟩ ⟨t2, rfl, s3 _ _ upd_same⟩
end
end LT

namespace LT
open PySem PySem.Spec PyProof.Rows L2
/-! ### promises of defs that show things: what is being shown around them is told to be nothing -/
structure GOk (P : Program) (w : World) (K : PySem.W.Frag) (mg : Str → Option Value) (base : Heap) (k : Nat) (f : Addr) (fd : FuncData) (ps : List Str) (sp : Sp) : Prop where
  len : ∀ vs H Q E, sp vs H Q E → vs.length = ps.length
  run : ∀ (A : Around) (outer : List Env) (s : Shared) (H : Hp) (args : Args) (us : List Value) (vs : List V) (Q : VK), A.guards = some [] → Room k A → Env0 P w K mg base A outer s H → BindsTo s fd args (ps.zip us) → Vals vs us → sp vs H Q E0 →
    codeAny (model P w) A (.call (.ref f) args) (CR CX0 outer P w H s Q E0) s
section
variable {P : Program} {w : World} {K : PySem.W.Frag} {mg : Str → Option Value} {base : Heap} {k : Nat} {f : Addr} {fd : FuncData} {ps : List Str} {sp : Sp}
theorem GOk.of (F : FnOk P w K mg base CX0 k f fd ps sp) : GOk P w K mg base k f fd ps sp := by
  refine ⟨F.len, ?_⟩
  intro A outer s H args us vs Q _
  exact F.run A outer s H args us vs Q E0
theorem GOk.mono {j : Nat} (F : GOk P w K mg base j f fd ps sp) (h : j ≤ k) : GOk P w K mg base k f fd ps sp := by
  refine ⟨F.len, ?_⟩
  intro A outer s H args us vs Q hg hr
  exact F.run A outer s H args us vs Q hg (hr.mono h)
/-- a def by its body, as Fun.ok -/
theorem okG {x qual : Str} {st : Stmt} {N : List Str} (F : Fun K x qual st f fd) (S : FnScope N ps (defScope st)) (len : ∀ vs H Q E, sp vs H Q E → vs.length = ps.length)
    (body : ∀ (cdv : Value) (A : Around) (outer : List Env) (s : Shared) (H : Hp) (vs : List V) (Q : VK), A.guards = some [] → Room k (A.deeper (envOfC qual (defScope st) s.heap.objs.size f cdv)) → sp vs H Q E0 →
      ∃ t, PSs (cxOf CX0 P w K mg base N qual (defScope st) f cdv A outer s H E0).nox (defBody st) t ∧ t { nx := fun _ H' => Q .non H', rt := Q } (start N vs) H) : GOk P w K mg base (k + 1) f fd ps sp := by
  obtain ⟨oc, od, kV, doc, pm, an, cdv, ct, osl, e, lk, hcd⟩ := F.ex
  subst e
  refine ⟨len, ?_⟩
  intro A outer s H args us vs Q hg hr ev hb rv hsp
  have nvs := len _ _ _ _ hsp
  have there : K.In s.heap := ev.mod.kin.keeps (fun b o q => (ev.bs b o q).1)
  have noLim : s.heap.NoLimit := ev.mod.nolimit.keeps (fun b o q => (ev.bs b o q).1)
  have kinds : ∀ y ∈ ps.zip us, (defScope st).names.lookup y.1 = some .local ∨ ((defScope st).names.lookup y.1 = some .cell ∧ ((cellsFrom (s.heap.objs.size + 1) (defScope st).names []).lookup y.1).isSome = true) := by
    intro y hy
    rcases S.par y.1 (List.of_mem_zip hy).1 with q | q
    · exact Or.inl q
    · exact Or.inr ⟨q, PySem.W.cellsFrom_some _ _ _ (Or.inl q)⟩
  apply codeAny_call_function hr.depth (there _ _ lk) rfl S.co S.gen rfl (PySem.W.codeRec_of there hcd)
  apply hb
  apply wpAny_newFunctionEnv_cells S.kind kinds
  intro env he s1 made
  subst he
  refine ⟨noLim.keeps made.toInCall.keep, codeAny_func ?_⟩
  obtain ⟨t, ht, hq⟩ := body cdv A outer s H vs Q hg (hr.deeper _) hsp
  have I : Inv (cxOf CX0 P w K mg base N qual (defScope st) f cdv A outer s H E0) [] (start N vs) H s1 := inv_start S hr.hd ev nvs rv made
  have ran := ht.nox.run [] s1 (start N vs) H _ I hq
  apply wpAny_mono ran
  · intro fl s' hs
    have fin : ∀ {σ' : L2.St} {H' : Hp} {v : V} {u : Value}, Inv (cxOf CX0 P w K mg base N qual (defScope st) f cdv A outer s H E0) [] σ' H' s' → RelV v u → Q v H' → CE outer P w H s Q u s' := by
      intro σ' H' v u J r q
      exact ⟨v, H', J.os, J.bare, J.base, J.hok, r, q⟩
    match fl, hs with
    | .ret u, ⟨v, σ', H', J, r, q⟩ => exact fin J r q
    | .next, ⟨σ', H', J, q⟩ => exact fin (v := V.non) (u := Value.none) J rfl q
    | .brk, ⟨_, _, _, q⟩ => exact False.elim q
    | .cont, ⟨_, _, _, q⟩ => exact False.elim q
  · intro e s' hs
    exact hs
end
section
variable {X : Cx} {k : Nat} {f : Addr} {fd : FuncData} {ps : List Str} {sp : Sp} {x : Str} {p pos : Pos} {e : Expr} {es : List Expr} {t : TA}
theorem runG {pins : List (Addr × Obj)} {σ : L2.St} {H : Hp} {s : Shared} {Q : VK} {us : List Value} {vs : List V} (F : GOk X.prog X.w X.K X.mg X.base k f fd ps sp) (hg : X.A.guards = some []) (hr : Room k X.A) (hb : Binds X.K fd ps [])
    (I : Inv X pins σ H s) (rv : Vals vs us) (h : sp vs H Q E0) : wpAny (model X.prog X.w) X.A (call (.ref f) us) (EP X pins σ Q) X.xe s := by
  have n : (us ++ []).length = ps.length := by
    rw [List.append_nil, ← rv.length]
    exact F.len _ _ _ _ h
  have b := hb s us I.kIn n
  rw [List.append_nil] at b
  apply wpAny_call
  apply codeAny_mono (F.run X.A X.stack s H ⟨us, []⟩ us vs Q hg hr I.env0 b rv h)
  intro res s' hq
  match res, hq with
  | .error _, hq => exact False.elim hq
  | .ok (.ret u), hq => exact I.after hq
  | .ok .next, hq => exact False.elim hq
  | .ok .brk, hq => exact False.elim hq
  | .ok .cont, hq => exact False.elim hq
theorem pe_callG (F : GOk X.prog X.w X.K X.mg X.base k f fd ps sp) (hgd : X.A.guards = some []) (hr : Room k X.A) (hg : Gl X x) (hm : X.mg x = some (.ref f)) (hk : PySem.W.keepIn X.K (.ref f) = true) (hb : Binds X.K fd ps [])
    (ha : PA X (e :: es) t) (hdb : (x == ("__debug__" : Str)) = false := by decide) (he : starEach (e :: es) X.env = (false, eval e X.env) :: starEach es X.env := by rfl) (hpl : (backTo pos (starEach es X.env)).any (·.1) = false := by rfl) :
    PE X (.Call (.Name x p) (e :: es) [] pos) (tCall sp [] E0 t) := by
  constructor
  intro pins s σ H Q I h
  apply wpAny_Call_Name_kw
  refine ld_glob I hg hm ?_ hdb
  apply PySem.W.callWith_K (h₀ := X.base) I.ok.mod.kin hk _ he hpl
  apply thn (ha.run pos pins s σ H _ I h)
  intro us s1 hh
  obtain ⟨vs, H1, I1, rv, q⟩ := hh
  rw [List.append_nil] at q
  exact ⟨I1.kIn, runG F hgd hr hb I1 rv q⟩
/-- repr of lists and tuples of plain data -/
theorem call_repr (hg : X.A.guards = some []) (hu : X.A.units + 65 < cLine) :
    CallR X (.builtin "repr") (fun xs H Q => ∃ y d, xs = [y] ∧ Dp X.K H y d ∧ PyProof.Rows.isDisplay d = true ∧ SeqAt.shaped d = true ∧ d.showable = true ∧ d.shown.length ≤ sizeLine ∧ Q (.str d.shown) H) := by
  intro pins s σ H xs us Q I r h
  obtain ⟨y, d, rfl, hd, hi, hsh, hs, hl, q⟩ := h
  obtain ⟨u, rfl, r1⟩ := vals1 r
  obtain ⟨as, r2⟩ := Dp.reads I d y u hd r1
  obtain ⟨a, rfl⟩ := PyProof.Rows.isRef_of_reads r2 hi
  have dp := SeqAt.depth_of_shaped hsh
  refine repr_of_reads' r2 hs (PyData.noDict_hsm (PyData.hasDict_of_canLay d (SeqAt.canLay_of_shaped hsh))) hg (by omega) (fun _ _ q => q) ?_ hl
  intro h' u tk kept
  exact ⟨.str d.shown, H, I.kept kept, ⟨_, rfl⟩, q⟩
theorem call_reprB {s : Shared} {H : Hp} {sc : Scope} {ce : Env} {fp : List Addr} (hg : X.A.guards = some []) (hu : X.A.units + 65 < cLine) :
    CallR (X.blk s H sc ce fp) (.builtin "repr") (fun xs H Q => ∃ y d, xs = [y] ∧ Dp X.K H y d ∧ PyProof.Rows.isDisplay d = true ∧ SeqAt.shaped d = true ∧ d.showable = true ∧ d.shown.length ≤ sizeLine ∧ Q (.str d.shown) H) := call_repr (X := X.blk s H sc ce fp) hg hu
end
end LT

namespace LT
open PySem PySem.Spec PyProof.Rows L2
section
variable {P : Program} {w : World} {K : PySem.W.Frag} {mg mb : Str → Option Value} {k : Nat} {fa a : Addr} {fd : FuncData} {x : Str} {sp : Sp} {s₁ : Shared} {vs : List Value} {ns : List Int}
/-- what is told of the heap ahead of the law's call: the script alone, where it is no object of the top -/
def told (K : PySem.W.Frag) (a : Addr) (ob : Obj) (ns : List Int) : Hp := fun b => if b = a ∧ K.lookup a = none then some (.frz ob (.lst (ns.map V.int))) else none
theorem told_at {ob : Obj} {b : Addr} {u : HO} (h : told K a ob ns b = some u) : b = a ∧ K.lookup a = none ∧ u = .frz ob (.lst (ns.map V.int)) := by
  unfold told at h
  by_cases c : b = a ∧ K.lookup a = none
  · rw [if_pos c] at h
    exact ⟨c.1, c.2, (Option.some.inj h).symm⟩
  · rw [if_neg c] at h
    cases h
/-- the law's call, from a promise that asks that nothing is being shown -/
theorem lawG (there : K.In s₁.heap) (globs : s₁.heap.Ns mainGlobals mg) (blts : s₁.heap.Ns builtinsNs mb) (boot : ∀ y : Str, y ≠ "__name__" → mb y = bootBuiltins y) (noLim : s₁.heap.NoLimit) (noGens : s₁.gens = #[])
    (obj : s₁.heap.get? a = some { cls := .type "list", data := .seq vs.toArray }) (areI : IntsAre vs ns) (few : ns.length ≤ sizeLine) (hr : Room k callerA)
    (F : ∀ base : Heap, K.In base → base.Ns mainGlobals mg → GOk P w K mg base k fa fd [x] sp) (binds : ∀ (s : Shared) (u : Value), BindsTo s fd ⟨[u], []⟩ [(x, u)])
    (keeps : ∀ H : Hp, Only H → SqL K H a (ns.map V.int) → sp [.ref a] H (fun v _ => v = .bl true) E0) :
    codeAny (model P w) callerA (.call (.ref fa) ⟨[.ref a], []⟩) (fun r s' => r = .ok (.ret (.bool true)) ∧ OldK s₁.heap s'.heap ∧ s'.os = s₁.os ∧ AllBare s'.gens) s₁ := by
  generalize ho : ({ cls := .type "list", data := .seq vs.toArray } : Obj) = ob at obj
  have items := vals_ints areI
  have only : Only (told K a ob ns) := by
    intro b
    cases q : told K a ob ns b with
    | none => exact Or.inl rfl
    | some u => exact Or.inr ⟨ob, ns.map V.int, by rw [(told_at q).2.2]⟩
  have sq : SqL K (told K a ob ns) a (ns.map V.int) := by
    cases q : K.lookup a with
    | none => exact Or.inl (Or.inr ⟨ob, if_pos ⟨rfl, q⟩⟩)
    | some o =>
      have same : o = ob := Option.some.inj ((there a o q).symm.trans obj)
      subst same
      subst ho
      refine Or.inr ⟨_, vs.toArray, _, q, rfl, rfl, rfl, ?_, by simpa using items⟩
      rw [List.size_toArray, areI.length]
      exact few
  have fits : HOk P w (told K a ob ns) s₁.heap := by
    intro b u q
    obtain ⟨rfl, _, rfl⟩ := told_at q
    subst ho
    exact ⟨obj, by rw [List.length_map]; exact few, vs, _, items, obj⟩
  have behind : ∀ {b : Addr} {o : Obj}, s₁.heap.get? b = some o → told K a ob ns b = none → (hidT s₁.heap (told K a ob ns)).get? b = some o := fun q n => hidT_get q n
  have nsp : ∀ {b : Addr} {m : Str → Option Value}, s₁.heap.Ns b m → (hidT s₁.heap (told K a ob ns)).Ns b m := by
    rintro b m ⟨o, es, ep, q, d, r⟩
    refine ⟨o, es, ep, behind q ?_, d, r⟩
    cases z : told K a ob ns b with
    | none => rfl
    | some u =>
      obtain ⟨rfl, _, _⟩ := told_at z
      rw [obj] at q
      cases q
      subst ho
      cases (show Data.seq vs.toArray _ = Data.dict es ep from d)
  have inB : K.In (hidT s₁.heap (told K a ob ns)) := by
    intro b o q
    refine behind (there b o q) ?_
    cases z : told K a ob ns b with
    | none => rfl
    | some u =>
      obtain ⟨rfl, n, _⟩ := told_at z
      rw [n] at q
      cases q
  have M : Mod K mg (hidT s₁.heap (told K a ob ns)) := by
    obtain ⟨mc, c1, c2⟩ := noLim
    exact ⟨inB, nsp globs, ⟨mb, nsp blts, boot⟩, ⟨mc, nsp c1, c2⟩⟩
  have ev : Env0 P w K mg (hidT s₁.heap (told K a ob ns)) callerA [] s₁ (told K a ob ns) :=
    { frames := rfl, mod := M, bs := fun _ _ q => of_hidT q, bsz := Nat.le_of_eq (hidT_size _ _), funs := trivial, frf := fun b q => absurd (show b ∈ ([] : List Addr) from q) List.not_mem_nil, hok := fits, bare := .of_eq noGens }
  have ran := (F _ inB (nsp globs)).run callerA [] s₁ (told K a ob ns) ⟨[.ref a], []⟩ [.ref a] [.ref a] _ rfl hr ev (binds s₁ (.ref a)) (.cons rfl .nil) (keeps _ only sq)
  apply codeAny_mono ran
  intro res s' h
  match res, h with
  | .error _, h => exact False.elim h
  | .ok .next, h => exact False.elim h
  | .ok .brk, h => exact False.elim h
  | .ok .cont, h => exact False.elim h
  | .ok (.ret u), ⟨v, H', os, bare, un, hok', rv, q⟩ =>
    have qv : v = .bl true := q
    subst qv
    have qu : u = Value.bool true := rv
    subst qu
    refine ⟨rfl, OldK.of_keep ?_, os, bare⟩
    intro b o q1
    cases z : told K a ob ns b with
    | none => exact un.keep b o q1 z (fun m => absurd (show b ∈ ([] : List Addr) from m) List.not_mem_nil) List.not_mem_nil
    | some c =>
      obtain ⟨rfl, n, rfl⟩ := told_at z
      obtain ⟨e1, _⟩ := fits _ _ z
      obtain ⟨e2, _⟩ := hok' _ _ (un.frzs _ _ _ z)
      rw [q1] at e1
      cases e1
      exact e2
end
theorem walkG {l : PySem.W.OpenLaw} {n k : Nat} {q : Program} {loose : List Str} {XP : (Str → Option Value) → Heap → Prop} {YP : World → Heap → Prop} {d : DefRec} {K : Params → PySem.W.Frag} {sp : World → Sp} {x : Str}
    (hn : l.most = some n) (hn2 : n ≤ sizeLine) (hdf : d.params.defaults = []) (hr : Room k callerA) (hY : ∀ (w : World) (h : Heap), YP w h → (K w.params).In h)
    (F : ∀ (w : World) (mg : Str → Option Value) (fa : Addr) (h : Heap), (K w.params).In h → h.Ns mainGlobals mg → mg d.name = some (.ref fa) →
      ∃ fd : FuncData, (∀ (s : Shared) (u : Value), BindsTo s fd ⟨[u], []⟩ [(x, u)]) ∧ ∀ base : Heap, (K w.params).In base → base.Ns mainGlobals mg → GOk l.prog w (K w.params) mg base k fa fd [x] (sp w))
    (keeps : ∀ (w : World) (H : Hp) (a : Addr) (ns : List Int), ns.length ≤ n → Only H → SqL (K w.params) H a (ns.map V.int) → sp w [.ref a] H (fun v _ => v = .bl true) E0) :
    PySem.W.WalkO q loose XP YP l.row.toRowW d [] (fun f vs => PySem.call f vs) := by
  apply Att.attach_call hn hdf
  intro w s₀ s₁ mg mb fa o pm cd doc a vs ns G Y ho hd hcd hmg hobj hints hlen hg
  obtain ⟨fd, hb, hF⟩ := F w mg fa _ (hY w _ Y) G.T.g hmg
  exact lawG (hY w _ Y) G.T.g G.T.b G.T.builtins G.T.nolimit hg hobj hints (Nat.le_trans hlen hn2) hr hF hb (fun H hO hS => keeps w H a ns hlen hO hS)
end LT

namespace LT
open PySem PySem.Spec PyProof.Rows L2
/-! ### what is shown fits -/
def small (x : Nat × Nat) : Prop := x.1 ≤ 1000 ∧ x.2 ≤ 1000
theorem int_short {a : Nat} (h : a ≤ 1000000) : (PyData.shown (.int ((a : Nat) : Int))).length ≤ 13 := PyData.shown_int_le (by show a < 10 ^ 12; omega)
theorem int_weight {a : Nat} (h : a ≤ 1000000) : PyData.weight (.int ((a : Nat) : Int)) ≤ 20 := by
  show (if ((a : Nat) : Int) == 0 then 0 else ((a : Nat) : Int).natAbs.log2 + 1) ≤ 20
  split
  · omega
  · rename_i z
    have : ((a : Nat) : Int).natAbs = a := rfl
    rw [this]
    have a0 : a ≠ 0 := fun e => z (by subst e; rfl)
    have := (Nat.log2_lt (k := 20) a0).mpr (by omega)
    omega
theorem nds_short : ∀ l : List (Nat × Nat), (∀ x ∈ l, small x) → PyData.intsShortAll 13 (l.map nd) = true
  | [], _ => rfl
  | x :: l, h => by
    have hx := h x List.mem_cons_self
    simp only [List.map_cons, PyData.intsShortAll, nd, PyData.intsShort, Bool.and_eq_true, decide_eq_true_eq, Bool.and_true]
    exact ⟨⟨int_short (by have := hx.1; omega), int_short (by have := hx.2; omega)⟩, nds_short l fun y hy => h y (List.mem_cons_of_mem _ hy)⟩
theorem nds_weight : ∀ l : List (Nat × Nat), (∀ x ∈ l, small x) → PyData.weightAll (l.map nd) ≤ 43 * l.length
  | [], _ => Nat.le_refl _
  | x :: l, h => by
    have hx := h x List.mem_cons_self
    have ih := nds_weight l fun y hy => h y (List.mem_cons_of_mem _ hy)
    have w1 := int_weight (a := x.1) (by have := hx.1; omega)
    have w2 := int_weight (a := x.2) (by have := hx.2; omega)
    have e : PyData.weightAll ((x :: l).map nd) = (PyData.weight (.int ((x.1 : Nat) : Int)) + 1 + (PyData.weight (.int ((x.2 : Nat) : Int)) + 1 + 0)) + 1 + PyData.weightAll (l.map nd) := by
      simp only [List.map_cons, PyData.weightAll, nd, PyData.weight]
    rw [e, List.length_cons]
    omega
theorem nds_fits (l : List (Nat × Nat)) (h : ∀ x ∈ l, small x) (hl : l.length ≤ 1000) : (PyData.list (l.map nd)).shown.length ≤ sizeLine := by
  have w := nds_weight l h
  refine PyData.shown_fits (B := 13) (by decide) (by decide) (PyData.leavesShort_of_canLay0 13 _ ?_ ?_) ?_
  · simp only [PyData.canLay0]
    exact nds_lay l
  · simp only [PyData.intsShort]
    exact nds_short l h
  · show PyData.weightAll (l.map nd) ≤ 2 ^ 20
    omega
theorem nds_showable : ∀ l : List (Nat × Nat), (∀ x ∈ l, small x) → PyData.showableAll (l.map nd) = true
  | [], _ => rfl
  | x :: l, h => by
    have hx := h x List.mem_cons_self
    simp only [List.map_cons, PyData.showableAll, nd, PyData.showable, Bool.and_eq_true, Bool.and_true]
    exact ⟨⟨decide_eq_true (Nat.lt_of_le_of_lt (Nat.log2_le_self _) (by have := hx.1; show ((x.1 : Nat) : Int).natAbs < 1920; omega)), decide_eq_true (Nat.lt_of_le_of_lt (Nat.log2_le_self _) (by have := hx.2; show ((x.2 : Nat) : Int).natAbs < 1920; omega))⟩, nds_showable l fun y hy => h y (List.mem_cons_of_mem _ hy)⟩
def nats (l : List Nat) : List PyData := l.map fun a => .int ((a : Nat) : Int)
theorem nats_short : ∀ l : List Nat, (∀ x ∈ l, x ≤ 1000) → PyData.intsShortAll 13 (nats l) = true
  | [], _ => rfl
  | x :: l, h => by
    have hx := h x List.mem_cons_self
    simp only [nats, List.map_cons, PyData.intsShortAll, PyData.intsShort, Bool.and_eq_true, decide_eq_true_eq]
    exact ⟨int_short (by omega), nats_short l fun y hy => h y (List.mem_cons_of_mem _ hy)⟩
theorem nats_weight : ∀ l : List Nat, (∀ x ∈ l, x ≤ 1000) → PyData.weightAll (nats l) ≤ 21 * l.length
  | [], _ => Nat.le_refl _
  | x :: l, h => by
    have hx := h x List.mem_cons_self
    have ih := nats_weight l fun y hy => h y (List.mem_cons_of_mem _ hy)
    have w1 := int_weight (a := x) (by omega)
    have e : PyData.weightAll (nats (x :: l)) = PyData.weight (.int ((x : Nat) : Int)) + 1 + PyData.weightAll (nats l) := by
      simp only [nats, List.map_cons, PyData.weightAll]
    rw [e, List.length_cons]
    omega
theorem nats_lay (l : List Nat) : PyData.canLayAll0 (nats l) = true := by
  unfold nats
  have := ints_lay (l.map fun a => ((a : Nat) : Int))
  rw [List.map_map] at this
  exact this
theorem nats_shaped (l : List Nat) : SeqAt.shaped (.list (nats l)) = true := by
  have := ints_shaped (l.map fun a => ((a : Nat) : Int))
  rw [List.map_map] at this
  exact this
theorem nats_dp {K : PySem.W.Frag} {H : Hp} (l : List Nat) : DpAll K H (l.map fun a => V.int ((a : Nat) : Int)) (nats l) := by
  have := ints_dp (K := K) (H := H) (l.map fun a => ((a : Nat) : Int))
  rw [List.map_map, List.map_map] at this
  exact this
theorem nats_fits (l : List Nat) (h : ∀ x ∈ l, x ≤ 1000) (hl : l.length ≤ 1000) : (PyData.list (nats l)).shown.length ≤ sizeLine := by
  have w := nats_weight l h
  refine PyData.shown_fits (B := 13) (by decide) (by decide) (PyData.leavesShort_of_canLay0 13 _ ?_ ?_) ?_
  · simp only [PyData.canLay0]
    exact nats_lay l
  · simp only [PyData.intsShort]
    exact nats_short l h
  · show PyData.weightAll (nats l) ≤ 2 ^ 20
    omega
theorem nats_showable : ∀ l : List Nat, (∀ x ∈ l, x ≤ 1000) → PyData.showableAll (nats l) = true
  | [], _ => rfl
  | x :: l, h => by
    have hx := h x List.mem_cons_self
    simp only [nats, List.map_cons, PyData.showableAll, PyData.showable, Bool.and_eq_true]
    exact ⟨decide_eq_true (Nat.lt_of_le_of_lt (Nat.log2_le_self _) (by show ((x : Nat) : Int).natAbs < 1920; omega)), nats_showable l fun y hy => h y (List.mem_cons_of_mem _ hy)⟩
/-- a whole number and a pair of them -/
def numPair (a b c : Nat) : PyData := .list [.int ((a : Nat) : Int), .tuple [.int ((b : Nat) : Int), .int ((c : Nat) : Int)]]
theorem numPair_shaped (a b c : Nat) : SeqAt.shaped (numPair a b c) = true := by
  show (PyData.canLay0 _ && decide (PyData.depth _ ≤ 64)) = true
  simp [numPair, PyData.canLay0, PyData.canLayAll0, PyData.depth, PyData.depthAll]
theorem numPair_showable {a b c : Nat} (h1 : a ≤ 1000000) (h2 : b ≤ 1000) (h3 : c ≤ 1000) : (numPair a b c).showable = true := by
  simp only [numPair, PyData.showable, PyData.showableAll, Bool.and_eq_true, Bool.and_true]
  have big : ∀ x : Nat, x ≤ 1000000 → decide (((x : Nat) : Int).natAbs.log2 < 1920) = true := fun x hx => decide_eq_true (by
    show x.log2 < 1920
    by_cases z : x = 0
    · subst z; decide
    · have := (Nat.log2_lt (k := 20) z).mpr (by omega)
      omega)
  exact ⟨big a h1, big b (by omega), big c (by omega)⟩
theorem numPair_fits {a b c : Nat} (h1 : a ≤ 1000000) (h2 : b ≤ 1000) (h3 : c ≤ 1000) : (numPair a b c).shown.length ≤ sizeLine := by
  have w1 := int_weight h1
  have w2 := int_weight (a := b) (by omega)
  have w3 := int_weight (a := c) (by omega)
  refine PyData.shown_fits (B := 13) (by decide) (by decide) (PyData.leavesShort_of_canLay0 13 _ ?_ ?_) ?_
  · simp [numPair, PyData.canLay0, PyData.canLayAll0]
  · simp only [numPair, PyData.intsShort, PyData.intsShortAll, Bool.and_eq_true, decide_eq_true_eq, Bool.and_true]
    exact ⟨int_short h1, int_short (by omega), int_short (by omega)⟩
  · have e : (numPair a b c).weight = PyData.weight (.int ((a : Nat) : Int)) + 1 + ((PyData.weight (.int ((b : Nat) : Int)) + 1 + (PyData.weight (.int ((c : Nat) : Int)) + 1 + 0)) + 1 + 0) := by
      simp only [numPair, PyData.weight, PyData.weightAll]
    rw [e]
    omega
/-! ### repr of single values -/
def reprS : V → Str
  | .int i => toString i
  | .bl b => if b then "True" else "False"
  | _ => "None"
def reprOk : V → Prop
  | .int i => i.natAbs.log2 < 1920
  | .bl _ => True
  | .non => True
  | _ => False
theorem call_reprS {X : Cx} : CallR X (.builtin "repr") (fun xs H Q => ∃ v, xs = [v] ∧ reprOk v ∧ Q (.str (reprS v)) H) := by
  intro pins s σ H xs us Q I r h
  obtain ⟨v, rfl, ok, q⟩ := h
  cases v with
  | int i =>
    obtain ⟨u, rfl, t, rfl⟩ := vals1 r
    exact PySem.P.repr_of_int ok ⟨.str _, H, I.tok _, ⟨_, rfl⟩, q⟩
  | bl b =>
    obtain ⟨u, rfl, e⟩ := vals1 r
    cases (show u = Value.bool b from e)
    exact PySem.P.repr_of_bool ⟨.str _, H, I.tok _, ⟨_, rfl⟩, q⟩
  | non =>
    obtain ⟨u, rfl, e⟩ := vals1 r
    cases (show u = Value.none from e)
    exact PySem.P.repr_of_none ⟨.str _, H, I.tok _, ⟨_, rfl⟩, q⟩
  | str _ => exact ok.elim
  | byt _ => exact ok.elim
  | flt _ => exact ok.elim
  | ref _ => exact ok.elim
  | ty _ => exact ok.elim
end LT

namespace LT
open PySem PySem.Spec PyProof.Rows L2
theorem ndt_shaped (l : List (Nat × Nat)) : SeqAt.shaped (.tuple (l.map nd)) = true := by
  have h := nds_depth l
  have h2 : PyData.depth (.tuple (l.map nd)) ≤ 64 := by
    simp only [PyData.depth]
    omega
  show (PyData.canLay0 (.tuple (l.map nd)) && decide (PyData.depth (.tuple (l.map nd)) ≤ 64)) = true
  rw [Bool.and_eq_true]
  exact ⟨by simp only [PyData.canLay0]; exact nds_lay l, decide_eq_true h2⟩
theorem ndt_fits (l : List (Nat × Nat)) (h : ∀ x ∈ l, small x) (hl : l.length ≤ 1000) : (PyData.tuple (l.map nd)).shown.length ≤ sizeLine := by
  have w := nds_weight l h
  refine PyData.shown_fits (B := 13) (by decide) (by decide) (PyData.leavesShort_of_canLay0 13 _ ?_ ?_) ?_
  · simp only [PyData.canLay0]
    exact nds_lay l
  · simp only [PyData.intsShort]
    exact nds_short l h
  · show PyData.weightAll (l.map nd) ≤ 2 ^ 20
    omega
theorem ndt_showable (l : List (Nat × Nat)) (h : ∀ x ∈ l, small x) : (PyData.tuple (l.map nd)).showable = true := by
  simp only [PyData.showable]
  exact nds_showable l h
theorem ndl_showable (l : List (Nat × Nat)) (h : ∀ x ∈ l, small x) : (PyData.list (l.map nd)).showable = true := by
  simp only [PyData.showable]
  exact nds_showable l h
theorem tup_dp {K : PySem.W.Frag} {H : Hp} {p : Addr} {vs : List V} {l : List (Nat × Nat)} (h : H p = some (.tup vs)) (k : All2 (Nd H) vs l) : Dp K H (.ref p) (.tuple (l.map nd)) := .tup (SqT.of h) (nds_dp k)
theorem lst_dp {K : PySem.W.Frag} {H : Hp} {p : Addr} {vs : List V} {l : List (Nat × Nat)} (h : H p = some (.lst vs)) (k : All2 (Nd H) vs l) : Dp K H (.ref p) (.list (l.map nd)) := .lst (SqL.of h) (nds_dp k)
section
variable {P : Program} {w : World} {K : PySem.W.Frag} {mg : Str → Option Value} {base : Heap}
def spKin : Sp := fun vs H Q _ => ∃ (n b m : Nat) (v : V), vs = [.int n, v] ∧ Nd H v (b, b + m) ∧ 1 ≤ m ∧ b + m ≤ n ∧ n ≤ 1000 ∧ tree n b m ∧ ∀ H', Same H H' → Q (.bl true) H'
theorem ok_law_kin_right {f g1 g2 g3 g4 : Addr} {fd d1 d2 d3 d4 : FuncData} (F : Fun K "_law_kin_right" "_law_kin_right" sLawKinRight f fd)
    (GHalves : FnOk P w K mg base CX0 5 g1 d1 ["size", "node"] spHalvesA) (AHalves : At K mg "halves" g1 d1 ["size", "node"])
    (GParent : FnOk P w K mg base CX0 5 g2 d2 ["size", "node"] spParent) (AParent : At K mg "parent" g2 d2 ["size", "node"])
    (GSibling : FnOk P w K mg base CX0 6 g3 d3 ["size", "node"] spSibling) (ASibling : At K mg "sibling" g3 d3 ["size", "node"])
    (GLawHalved : FnOk P w K mg base CX0 1 g4 d4 ["node"] spHalved) (ALawHalved : At K mg "_law_halved" g4 d4 ["node"]) (z_repr : mg "repr" = none) :
    GOk P w K mg base 7 f fd ["size", "node"] spKin := by
  refine okG F scLawKinRight (fun vs H Q E h => ?_) (fun cdv A outer s H vs Q hg hr h => ?_)
  · obtain ⟨_, _, _, _, rfl, _⟩ := h
    rfl
  obtain ⟨n, b, m, v, rfl, hv, h1, hn, h1000, ht, q⟩ := h
  have two : 2 ≤ sizeLine := by decide
  refine ⟨_, (pss_cons (ps_if (pt_cmpR op_eq (pe_op op_sub (pe_ix ix_tup (pv 1) pe_int (fun _ _ => rfl)) (pe_ix ix_tup (pv 1) pe_int (fun _ _ => rfl))) pe_int (nomark _))
    (pss_one (ps_ret (pe_cmpR op_isN (pe_call GHalves (hr.mono (by decide)) rfl AHalves.m AHalves.kp AHalves.b .nil pass0 (pa_cons (pv 0) (pa_cons (pv 1) pa_nil))) pe_non (nomark _))))
    pss_nil)
    (pss_cons (ps_asg (pe_call GLawHalved (hr.mono (by decide)) rfl ALawHalved.m ALawHalved.kp ALawHalved.b .nil pass0 (pa_cons (pv 1) pa_nil)) (pg_tup (by rfl) (pgs_cons (pg_name (i := 2) scLawKinRight.nd rfl (Or.inl rfl)) (pgs_cons (pg_name (i := 3) scLawKinRight.nd rfl (Or.inl rfl)) pgs_nil))))
    (pss_cons (ps_if (pt_cmpR op_ne (pe_callB (call_repr hg (units1 hr)) (by rfl) z_repr (by decide +kernel) (pa_cons (pe_call GHalves (hr.mono (by decide)) rfl AHalves.m AHalves.kp AHalves.b .nil pass0 (pa_cons (pv 0) (pa_cons (pv 1) pa_nil))) pa_nil)) (pe_callB (call_repr hg (units1 hr)) (by rfl) z_repr (by decide +kernel) (pa_cons (pe_tup (pa_cons (pv 2) (pa_cons (pv 3) pa_nil))) pa_nil)) (nomark _))
    (pss_one (ps_ret pe_bl))
    pss_nil)
    (pss_cons (ps_if (pt_cmpR op_ne (pe_callB (call_repr hg (units1 hr)) (by rfl) z_repr (by decide +kernel) (pa_cons (pe_lst (pa_cons (pe_call GParent (hr.mono (by decide)) rfl AParent.m AParent.kp AParent.b .nil pass0 (pa_cons (pv 0) (pa_cons (pv 2) pa_nil))) (pa_cons (pe_call GParent (hr.mono (by decide)) rfl AParent.m AParent.kp AParent.b .nil pass0 (pa_cons (pv 0) (pa_cons (pv 3) pa_nil))) pa_nil))) pa_nil)) (pe_callB (call_repr hg (units1 hr)) (by rfl) z_repr (by decide +kernel) (pa_cons (pe_op op_rep (pe_lst (pa_cons (pv 1) pa_nil)) pe_int) pa_nil)) (nomark _))
    (pss_one (ps_ret pe_bl))
    pss_nil)
    (pss_one (ps_ret (pe_cmpR op_eq (pe_callB (call_repr hg (units1 hr)) (by rfl) z_repr (by decide +kernel) (pa_cons (pe_lst (pa_cons (pe_call GSibling (hr.mono (by decide)) rfl ASibling.m ASibling.kp ASibling.b .nil pass0 (pa_cons (pv 0) (pa_cons (pv 2) pa_nil))) (pa_cons (pe_call GSibling (hr.mono (by decide)) rfl ASibling.m ASibling.kp ASibling.b .nil pass0 (pa_cons (pv 0) (pa_cons (pv 3) pa_nil))) pa_nil))) pa_nil)) (pe_callB (call_repr hg (units1 hr)) (by rfl) z_repr (by decide +kernel) (pa_cons (pe_lst (pa_cons (pv 3) (pa_cons (pv 2) pa_nil))) pa_nil)) (nomark _)))))))), ?_⟩
  obtain ⟨vp, rfl, hvp⟩ := id hv
  have h30 : n ≤ 10 ^ 30 := by omega
  refine ⟨_, rfl, vp, _, _, _, rfl, rfl, SqT.of hvp, atI_nat (j := 1) rfl, _, rfl, vp, _, _, _, rfl, rfl, SqT.of hvp, atI_nat (j := 0) rfl, _, _, rfl, rfl, rfl, _, rfl, ite2 (fun c => ?_) (fun c => ?_)⟩
  · have c1 : V.int (((b + m : Nat) : Int) - (b : Int)) = V.int 1 := of_decide_eq_true c
    have c2 := V.int.inj c1
    exact ⟨_, rfl, _, rfl, n, b, m, _, rfl, hv, h1, hn, h30, ht, .inl ⟨by omega, rfl, q _ (Same.refl _)⟩⟩
  have c1 : ¬ V.int (((b + m : Nat) : Int) - (b : Int)) = V.int 1 := of_decide_eq_false (Bool.eq_false_iff.mpr c)
  have m2 : 2 ≤ m := by
    by_cases z : 2 ≤ m
    · exact z
    · exact absurd (congrArg V.int (by omega)) c1
  have g1 := gp_lt m2
  have g3 := gp_pos m
  have em : b + m - b = m := by omega
  have sm1 : small (b, b + m) := ⟨by simp only; omega, by simp only; omega⟩
  have sm2 : small (b, b + gp m) := ⟨by simp only; omega, by simp only; omega⟩
  have sm3 : small (b + gp m, b + m) := ⟨by simp only; omega, by simp only; omega⟩
  have small2 : ∀ {x y : Nat × Nat}, small x → small y → ∀ z ∈ [x, y], small z := fun h k z hz => by
    rcases List.mem_cons.mp hz with rfl | hz
    · exact h
    · rw [List.mem_singleton] at hz
      rw [hz]
      exact k
  refine ⟨_, rfl, b, b + m, _, rfl, hv, by omega, fun H1 qa l h s1 nqa hqa hl hh => ?_⟩
  rw [em] at hl hh
  refine ⟨qa, _, rfl, SqT.of hqa, rfl, _, _, rfl, _, _, rfl, rfl, ?_⟩
  -- the halves shown
  refine ⟨_, rfl, _, rfl, n, b, m, _, rfl, hv.same s1, h1, hn, h30, ht, .inr ⟨m2, fun H2 qb l2 k2 s2 nqb hqb hl2 hh2 => ?_⟩⟩
  refine ⟨_, _, rfl, tup_dp (l := [(b, b + gp m), (b + gp m, b + m)]) hqb (.cons hl2 (.cons hh2 .nil)), rfl, ndt_shaped _, ndt_showable _ (small2 sm2 sm3), ndt_fits _ (small2 sm2 sm3) (by show 2 ≤ 1000; decide), ?_⟩
  refine ⟨_, rfl, _, rfl, two, fun t3 nt3 => ?_⟩
  have s3 := same_upd (o := .tup [l, h]) nt3
  refine ⟨_, _, rfl, tup_dp (l := [(b, b + gp m), (b + gp m, b + m)]) upd_same (.cons (hl.same (s2.trans s3)) (.cons (hh.same (s2.trans s3)) .nil)), rfl, ndt_shaped _, ndt_showable _ (small2 sm2 sm3), ndt_fits _ (small2 sm2 sm3) (by show 2 ≤ 1000; decide), rfl, false, ?_, iteF ?_⟩
  · refine congrArg V.bl ?_
    rw [Bool.not_eq_false']
    exact decide_eq_true rfl
  have s13 := s1.trans (s2.trans s3)
  have hl3 := hl.same (s2.trans s3)
  have hh3 := hh.same (s2.trans s3)
  have hv3 := hv.same s13
  generalize upd H2 t3 (.tup [l, h]) = H3 at s13 hl3 hh3 hv3
  -- the nodes above
  refine ⟨_, rfl, _, rfl, n, _, l, rfl, hl3, by omega, h30, .inr ⟨b, m, m2, ht, hn, .inl rfl, fun H4 u4 s4 hu4 => ?_⟩⟩
  refine ⟨_, rfl, _, rfl, n, _, h, rfl, hh3.same s4, by omega, h30, .inr ⟨b, m, m2, ht, hn, .inr rfl, fun H5 u5 s5 hu5 => ⟨two, fun t6 nt6 => ?_⟩⟩⟩
  have s6 := same_upd (o := .lst [u4, u5]) nt6
  refine ⟨_, _, rfl, lst_dp (l := [(b, b + m), (b, b + m)]) upd_same (.cons (hu4.same (s5.trans s6)) (.cons (hu5.same s6) .nil)), rfl, nds_shaped _, ndl_showable _ (small2 sm1 sm1), nds_fits _ (small2 sm1 sm1) (by show 2 ≤ 1000; decide), ?_⟩
  have s46 := s4.trans (s5.trans s6)
  generalize upd H5 t6 (.lst [u4, u5]) = H6 at s46
  refine ⟨_, rfl, (by show 1 ≤ sizeLine; decide), fun t7 nt7 => ?_⟩
  have s7 := same_upd (o := .lst [.ref vp]) nt7
  refine ⟨t7, 2, _, rfl, rfl, upd_same, by decide, by decide, (by show 1 * 2 ≤ sizeLine; decide), fun t8 nt8 => ?_⟩
  have s8 := same_upd (o := .lst (List.replicate (2 : Int).toNat [V.ref vp]).flatten) nt8
  refine ⟨_, _, rfl, lst_dp (vs := [.ref vp, .ref vp]) (l := [(b, b + m), (b, b + m)]) upd_same (.cons (hv3.same (s46.trans (s7.trans s8))) (.cons (hv3.same (s46.trans (s7.trans s8))) .nil)), rfl, nds_shaped _, ndl_showable _ (small2 sm1 sm1), nds_fits _ (small2 sm1 sm1) (by show 2 ≤ 1000; decide), rfl, false, ?_, iteF ?_⟩
  · refine congrArg V.bl ?_
    rw [Bool.not_eq_false']
    exact decide_eq_true rfl
  have s18 := s13.trans (s46.trans (s7.trans s8))
  have hl8 := hl3.same (s46.trans (s7.trans s8))
  have hh8 := hh3.same (s46.trans (s7.trans s8))
  generalize upd (upd H6 t7 _) t8 _ = H8 at s18 hl8 hh8
  -- the nodes beside
  refine ⟨_, rfl, _, rfl, n, _, l, rfl, hl8, by omega, h30, .inr ⟨b, m, _, m2, ht, hn, .inl ⟨rfl, rfl⟩, fun H9 u9 s9 hu9 => ?_⟩⟩
  refine ⟨_, rfl, _, rfl, n, _, h, rfl, hh8.same s9, by omega, h30, .inr ⟨b, m, _, m2, ht, hn, .inr ⟨rfl, rfl⟩, fun H10 u10 s10 hu10 => ⟨two, fun t11 nt11 => ?_⟩⟩⟩
  have s11 := same_upd (o := .lst [u9, u10]) nt11
  refine ⟨_, _, rfl, lst_dp (l := [(b + gp m, b + m), (b, b + gp m)]) upd_same (.cons (hu9.same (s10.trans s11)) (.cons (hu10.same s11) .nil)), rfl, nds_shaped _, ndl_showable _ (small2 sm3 sm2), nds_fits _ (small2 sm3 sm2) (by show 2 ≤ 1000; decide), ?_⟩
  have s911 := s9.trans (s10.trans s11)
  generalize upd H10 t11 (.lst [u9, u10]) = H11 at s911
  refine ⟨_, rfl, _, rfl, two, fun t12 nt12 => ?_⟩
  have s12 := same_upd (o := .lst [h, l]) nt12
  refine ⟨_, _, rfl, lst_dp (l := [(b + gp m, b + m), (b, b + gp m)]) upd_same (.cons (hh8.same (s911.trans s12)) (.cons (hl8.same (s911.trans s12)) .nil)), rfl, nds_shaped _, ndl_showable _ (small2 sm3 sm2), nds_fits _ (small2 sm3 sm2) (by show 2 ≤ 1000; decide), rfl, ?_⟩
  have := q _ (s18.trans (s911.trans s12))
  rw [← decide_eq_true (rfl : V.str (PyData.list ([(b + gp m, b + m), (b, b + gp m)].map nd)).shown = _)] at this
  exact this
end
end LT

namespace LT
open PySem PySem.Spec PyProof.Rows L2
theorem Pl.same {K : PySem.W.Frag} {H H' : Hp} {v : V} {t : String} (h : Pl K H v t) (s : Same H H') : Pl K H' v t := by
  cases h with
  | non => exact .non
  | bl b => exact .bl b
  | int i => exact .int i
  | str x => exact .str x
  | lst e => exact .lst (s _ _ e)
  | tup e => exact .tup (s _ _ e)
  | dict e => exact .dict (s _ _ e)
theorem Ask.same {K : PySem.W.Frag} {H H' : Hp} {n : Nat} {v : V} {r : Bool} (h : Ask K H n v r) (s : Same H H') : Ask K H' n v r := by
  cases h with
  | kind h t => exact .kind (h.same s) t
  | long h l k => exact .long (s _ _ h) l k
  | pair h p q => exact .pair (s _ _ h) (p.same s) (q.same s)
/-- all of a list are no nodes -/
def NoNd (K : PySem.W.Frag) (H : Hp) (n : Nat) (l : List V) : Prop := ∀ v ∈ l, Ask K H n v false
theorem NoNd.same {K : PySem.W.Frag} {H H' : Hp} {n : Nat} {l : List V} (h : NoNd K H n l) (s : Same H H') : NoNd K H' n l := fun v hv => (h v hv).same s
theorem NoNd.nil {K : PySem.W.Frag} {H : Hp} {n : Nat} : NoNd K H n [] := fun _ h => by cases h
theorem NoNd.put {K : PySem.W.Frag} {H : Hp} {n : Nat} {l : List V} {v : V} (h : NoNd K H n l) (a : Ask K H n v false) : NoNd K H n (l ++ [v]) := fun u hu => by
  rcases List.mem_append.mp hu with k | k
  · exact h u k
  · rw [List.mem_singleton] at k
    rw [k]
    exact a
theorem NoNd.lst {K : PySem.W.Frag} {H : Hp} {n : Nat} {l : List V} {p : Addr} {xs : List V} (h : NoNd K H n l) (np : H p = none) : NoNd K (upd H p (.lst xs)) n (l ++ [.ref p]) :=
  NoNd.put (h.same (same_upd np)) (.kind (.lst upd_same) (by decide))
theorem NoNd.dict {K : PySem.W.Frag} {H : Hp} {n : Nat} {l : List V} {p : Addr} {kvs : List (Key × V)} (h : NoNd K H n l) (np : H p = none) : NoNd K (upd H p (.dK kvs)) n (l ++ [.ref p]) :=
  NoNd.put (h.same (same_upd np)) (.kind (.dict upd_same) (by decide))
theorem NoNd.long {K : PySem.W.Frag} {H : Hp} {n : Nat} {l : List V} {p : Addr} {xs : List V} (h : NoNd K H n l) (np : H p = none) (hl : xs.length ≠ 2) (hk : xs.length ≤ 1000) : NoNd K (upd H p (.tup xs)) n (l ++ [.ref p]) :=
  NoNd.put (h.same (same_upd np)) (.long upd_same hl hk)
theorem NoNd.pair {K : PySem.W.Frag} {H : Hp} {n : Nat} {l : List V} {p : Addr} {v1 v2 : V} {t1 t2 : String} (h : NoNd K H n l) (np : H p = none) (p1 : ∀ H, Pl K H v1 t1) (p2 : ∀ H, Pl K H v2 t2) (e : tnV n v1 v2 = false) : NoNd K (upd H p (.tup [v1, v2])) n (l ++ [.ref p]) := by
  refine NoNd.put (h.same (same_upd np)) ?_
  rw [← e]
  exact .pair upd_same (p1 _) (p2 _)
end LT

namespace LT
def nod (n : Nat) : List (Nat × Nat) := nodesF 8 0 n
def fl (x : Nat × Nat) : Bool := ((x.2 - x.1) &&& (x.2 - x.1 - 1)) == 0 && (x.1 &&& (x.2 - x.1 - 1)) == 0
end LT

namespace LT
open PySem PySem.Spec PyProof.Rows L2
/-- the edges as the program lists them -/
def edg (n : Nat) : List (Nat × Nat) := ((pk 101 n 0).map full).dropLast.map fun x => (x.1, n)
def ltN (x y : Nat × Nat) : Bool := if x.1 = y.1 then decide (x.2 < y.2) else decide (x.1 < y.1)
def upN : List (Nat × Nat) → Bool
  | [] => true
  | x :: l => l.all (ltN x) && upN l
theorem bare_ok : ∀ n, n < 71 → 1 ≤ n → (nod n).filter (fun x => !fl x) = edg n := by decide +kernel
theorem edg_up : ∀ n, n < 71 → upN (edg n) = true := by decide +kernel
def cst (x : Nat × Nat) : Int × Int := (x.1, x.2)
theorem upN_pair : ∀ l : List (Nat × Nat), upN l = true → (l.map cst).Pairwise (fun x y => SrtO.lexB y x = false)
  | [], _ => .nil
  | x :: l, h => by
    have h' : (l.all (ltN x) && upN l) = true := h
    rw [Bool.and_eq_true] at h'
    refine List.Pairwise.cons ?_ (upN_pair l h'.2)
    intro y hy
    obtain ⟨z, hz, rfl⟩ := List.mem_map.mp hy
    have k : ltN x z = true := List.all_eq_true.mp h'.1 z hz
    unfold ltN at k
    show (if ((z.1 : Nat) : Int) = ((x.1 : Nat) : Int) then decide (((z.2 : Nat) : Int) < ((x.2 : Nat) : Int)) else decide (((z.1 : Nat) : Int) < ((x.1 : Nat) : Int))) = false
    by_cases c : x.1 = z.1
    · rw [if_pos c] at k
      have := of_decide_eq_true k
      rw [if_pos (by omega)]
      exact decide_eq_false (by omega)
    · rw [if_neg c] at k
      have := of_decide_eq_true k
      rw [if_neg (by omega)]
      exact decide_eq_false (by omega)
theorem lex_anti (x y : Int × Int) (h1 : SrtO.lexB y x = false) (h2 : SrtO.lexB x y = false) : x = y := by
  unfold SrtO.lexB at h1 h2
  by_cases c : x.1 = y.1
  · rw [if_pos c.symm] at h1
    rw [if_pos c] at h2
    have := of_decide_eq_false h1
    have := of_decide_eq_false h2
    exact Prod.ext c (by omega)
  · rw [if_neg (fun z => c z.symm)] at h1
    rw [if_neg c] at h2
    have := of_decide_eq_false h1
    have := of_decide_eq_false h2
    omega
/-- the key of a pair in the heap -/
def kOf (H : Hp) : V → Int × Int
  | .ref a => match H a with
    | some (.tup [.int i, .int j]) => (i, j)
    | _ => (0, 0)
  | _ => (0, 0)
theorem kOf_nd {H : Hp} {v : V} {x : Nat × Nat} (h : Nd H v x) : kOf H v = cst x := by
  obtain ⟨p, rfl, q⟩ := h
  unfold kOf
  simp only [q]
  rfl
theorem keys_of {H : Hp} : ∀ {vs : List V} {l : List (Nat × Nat)}, All2 (Nd H) vs l → vs.map (kOf H) = l.map cst
  | _, _, .nil => rfl
  | _, _, .cons h t => by rw [List.map_cons, List.map_cons, kOf_nd h, keys_of t]
theorem cst_inj {x y : Nat × Nat} (h : cst x = cst y) : x = y := by
  have h1 := congrArg Prod.fst h
  have h2 := congrArg Prod.snd h
  unfold cst at h1 h2
  simp only at h1 h2
  exact Prod.ext (by omega) (by omega)
theorem of_keys {H : Hp} : ∀ (vs : List V) (l : List (Nat × Nat)), vs.map (kOf H) = l.map cst → (∀ v ∈ vs, ∃ x, Nd H v x) → All2 (Nd H) vs l
  | [], [], _, _ => .nil
  | [], y :: l, h, _ => by cases h
  | v :: vs, [], h, _ => by cases h
  | v :: vs, y :: l, h, k => by
    rw [List.map_cons, List.map_cons, List.cons.injEq] at h
    obtain ⟨x, hx⟩ := k v List.mem_cons_self
    have e : x = y := cst_inj (by rw [← kOf_nd hx]; exact h.1)
    subst e
    exact .cons hx (of_keys vs l h.2 fun u hu => k u (List.mem_cons_of_mem _ hu))
theorem All2.mem {α : Type} {R : V → α → Prop} : ∀ {vs : List V} {xs : List α} {v : V}, All2 R vs xs → v ∈ vs → ∃ x, x ∈ xs ∧ R v x
  | _, _, _, .cons h t, m => by
    rcases List.mem_cons.mp m with rfl | m
    · exact ⟨_, List.mem_cons_self, h⟩
    · obtain ⟨x, k1, k2⟩ := All2.mem t m
      exact ⟨x, List.mem_cons_of_mem _ k1, k2⟩
theorem sorted_is {H : Hp} {xs ys : List V} {l : List (Nat × Nat)} (hx : All2 (Nd H) xs l) (up : upN l = true) (h : SrtO.Srtd (ltP (kOf H)) ys) (p : ys.Perm xs) : All2 (Nd H) ys l := by
  refine of_keys ys l ?_ (fun v hv => ?_)
  · have p1 := p.map (kOf H)
    rw [keys_of hx] at p1
    refine List.Perm.eq_of_pairwise (le := fun x y => SrtO.lexB y x = false) (fun a b _ _ h1 h2 => lex_anti a b h1 h2) ?_ (upN_pair l up) p1
    exact List.pairwise_map.mpr h
  · obtain ⟨x, _, k⟩ := hx.mem (p.mem_iff.mp hv)
    exact ⟨x, k⟩
/-- two lists of nodes -/
def dbl (l k : List (Nat × Nat)) : PyData := .list [.list (l.map nd), .list (k.map nd)]
theorem dbl_shaped (l k : List (Nat × Nat)) : SeqAt.shaped (dbl l k) = true := by
  have h1 := nds_depth l
  have h2 := nds_depth k
  have h3 : PyData.depth (dbl l k) ≤ 64 := by
    simp only [dbl, PyData.depth, PyData.depthAll]
    omega
  show (PyData.canLay0 (dbl l k) && decide (PyData.depth (dbl l k) ≤ 64)) = true
  rw [Bool.and_eq_true]
  refine ⟨?_, decide_eq_true h3⟩
  simp only [dbl, PyData.canLay0, PyData.canLayAll0, Bool.and_eq_true, Bool.and_true]
  exact ⟨nds_lay l, nds_lay k⟩
theorem dbl_showable (l k : List (Nat × Nat)) (h1 : ∀ x ∈ l, small x) (h2 : ∀ x ∈ k, small x) : (dbl l k).showable = true := by
  simp only [dbl, PyData.showable, PyData.showableAll, Bool.and_eq_true, Bool.and_true]
  exact ⟨nds_showable l h1, nds_showable k h2⟩
theorem dbl_fits (l k : List (Nat × Nat)) (h1 : ∀ x ∈ l, small x) (h2 : ∀ x ∈ k, small x) (l1 : l.length ≤ 1000) (l2 : k.length ≤ 1000) : (dbl l k).shown.length ≤ sizeLine := by
  have w1 := nds_weight l h1
  have w2 := nds_weight k h2
  refine PyData.shown_fits (B := 13) (by decide) (by decide) (PyData.leavesShort_of_canLay0 13 _ ?_ ?_) ?_
  · simp only [dbl, PyData.canLay0, PyData.canLayAll0, Bool.and_eq_true, Bool.and_true]
    exact ⟨nds_lay l, nds_lay k⟩
  · simp only [dbl, PyData.intsShort, PyData.intsShortAll, Bool.and_eq_true, Bool.and_true]
    exact ⟨nds_short l h1, nds_short k h2⟩
  · have e : PyData.weight (dbl l k) = PyData.weightAll (l.map nd) + 1 + (PyData.weightAll (k.map nd) + 1 + 0) := by
      simp only [dbl, PyData.weight, PyData.weightAll]
    rw [e]
    omega
theorem dbl_dp {K : PySem.W.Frag} {H : Hp} {p a b : Addr} {us vs : List V} {l k : List (Nat × Nat)} (h : H p = some (.lst [.ref a, .ref b])) (ha : H a = some (.lst us)) (hb : H b = some (.lst vs)) (hu : All2 (Nd H) us l) (hv : All2 (Nd H) vs k) : Dp K H (.ref p) (dbl l k) :=
  .lst (SqL.of h) (.cons (lst_dp ha hu) (.cons (lst_dp hb hv) .nil))
end LT

namespace LT
open PySem PySem.Spec PyProof.Rows L2
theorem log2_is {r h : Nat} (h1 : 2 ^ h ≤ r) (h2 : r < 2 ^ (h + 1)) : r.log2 = h := (Nat.log2_eq_iff (by have := Nat.pow_pos (a := 2) (n := h) (by decide); omega)).mpr ⟨h1, h2⟩
theorem pk_step : ∀ (i n b : Nat), n % 2 ^ i ≠ 0 → ∃ h, h < i ∧ pk i n b = (b, h) :: pk h n (b + 2 ^ h) ∧ n % 2 ^ i = 2 ^ h + n % 2 ^ h
  | 0, n, b, hr => by simp [Nat.mod_one] at hr
  | i + 1, n, b, hr => by
    rw [mod_succ] at hr
    by_cases t : n.testBit i = true
    · refine ⟨i, Nat.lt_succ_self i, ?_, by rw [mod_succ, if_pos t]⟩
      show (if n.testBit i = true then _ else _) = _
      rw [if_pos t]
    · rw [if_neg t, Nat.zero_add] at hr
      obtain ⟨h, h1, h2, h3⟩ := pk_step i n b hr
      refine ⟨h, by omega, ?_, by rw [mod_succ, if_neg t, Nat.zero_add]; exact h3⟩
      show (if n.testBit i = true then _ else _) = _
      rw [if_neg t]
      exact h2
section
variable {P : Program} {w : World} {K : PySem.W.Frag} {mg : Str → Option Value} {base : Heap}
def spTops : Sp := fun vs H Q _ => ∃ (n : Nat), vs = [.int n] ∧ 1 ≤ n ∧ n ≤ 10 ^ 30 ∧ ∀ (H' : Hp) (p : Addr) (xs : List V), Same H H' → H p = none → H' p = some (.lst xs) → All2 (Nd H') xs ((pk 101 n 0).map full) → Q (.ref p) H'
theorem ok_peaks {f g1 g2 : Addr} {fd d1 d2 : FuncData} (F : Fun K "peaks" "peaks" sPeaks f fd) (GCheckSize : FnOk P w K mg base CX0 3 g1 d1 ["size"] spCheckSize) (ACheckSize : At K mg "check_size" g1 d1 ["size"])
    (GPowerWithin : FnOk P w K mg base CX0 1 g2 d2 ["number"] spPower) (APowerWithin : At K mg "power_within" g2 d2 ["number"]) : FnOk P w K mg base CX0 4 f fd ["size"] spTops := by
  refine F.ok scPeaks (fun vs H Q E h => ?_) (fun cdv A outer s H vs Q E hr h => ?_)
  · obtain ⟨_, rfl, _⟩ := h
    rfl
  obtain ⟨n, rfl, h1, h30, q⟩ := h
  refine ⟨_, (pss_cons (ps_expr (pe_call GCheckSize (hr.mono (by decide)) rfl ACheckSize.m ACheckSize.kp ACheckSize.b .nil pass0 (pa_cons (pv 0) pa_nil)))
    (pss_cons (ps_set (i := 1) scPeaks.nd rfl (Or.inl rfl) (pe_lst pa_nil))
    (pss_cons (ps_set (i := 2) scPeaks.nd rfl (Or.inl rfl) pe_int)
    (pss_cons (ps_while PassesOwn.never (pt_cmpR op_lt (pv 2) (pv 0) (nomark _))
    (pss_cons (ps_set (i := 3) scPeaks.nd rfl (Or.inl rfl) (pe_op op_add (pv 2) (pe_call GPowerWithin (hr.mono (by decide)) rfl APowerWithin.m APowerWithin.kp APowerWithin.b .nil pass0 (pa_cons (pe_op op_sub (pv 0) (pv 2)) pa_nil))))
    (pss_cons (ps_expr (pe_bm PySem.F.plainAttrs_list PySem.F.slot_list_append PySem.F.type_list_append mt_append (pv 1) (pa_cons (pe_tup (pa_cons (pv 2) (pa_cons (pv 3) pa_nil))) pa_nil)))
    (pss_one (ps_set (i := 2) scPeaks.nd rfl (Or.inl rfl) (pv 3))))))
    (pss_one (ps_ret (pv 1))))))), ?_⟩
  refine ⟨_, rfl, n, rfl, by omega, by omega, ?_⟩
  refine ⟨Nat.zero_le _, fun fa nf => ?_⟩
  have nm : n % 2 ^ 101 = n := Nat.mod_eq_of_lt (Nat.lt_of_le_of_lt h30 (by decide))
  refine ⟨fun mu σ H' => ∃ (i b : Nat) (v3 : Option V) (xs : List V) (done : List (Nat × Nat)), σ = [some (.int n), some (.ref fa), some (.int b), v3] ∧ Same H H' ∧ H' fa = some (.lst xs) ∧ All2 (Nd H') xs (done.map full) ∧ done ++ pk i n b = pk 101 n 0 ∧ b + n % 2 ^ i = n ∧ mu = n - b,
    ⟨n, 101, 0, none, [], [], rfl, same_upd nf, upd_same, .nil, rfl, by omega, by omega⟩, ?_⟩
  rintro m σ H1 ⟨i, b, v3, xs, done, rfl, sm, hf, hx, hd, hb, rfl⟩
  refine ⟨_, rfl, _, rfl, _, _, rfl, rfl, _, rfl, ite2 (fun c => ?_) (fun c => ?_)⟩
  · have c1 : (b : Int) < (n : Int) := of_decide_eq_true c
    obtain ⟨h, hi, hp, hm⟩ := pk_step i n b (by omega)
    have ph := Nat.pow_pos (a := 2) (n := h) (by decide)
    have lh : (n - b).log2 = h := log2_is (by omega) (by have := Nat.mod_lt n ph; rw [Nat.pow_succ]; omega)
    have dl : done.length ≤ 101 := by
      have k1 := congrArg List.length hd
      rw [List.length_append] at k1
      have k2 := pk_len 101 n 0
      omega
    refine ⟨fun σ' H' => ∃ mu, mu < n - b ∧ ∃ (i b : Nat) (v3 : Option V) (xs : List V) (done : List (Nat × Nat)), σ' = [some (.int n), some (.ref fa), some (.int b), v3] ∧ Same H H' ∧ H' fa = some (.lst xs) ∧ All2 (Nd H') xs (done.map full) ∧ done ++ pk i n b = pk 101 n 0 ∧ b + n % 2 ^ i = n ∧ mu = n - b, fun σ' H' h => h, ?_⟩
    have e1 : (n : Int) - (b : Int) = ((n - b : Nat) : Int) := by omega
    refine ⟨_, rfl, _, rfl, _, rfl, _, _, rfl, rfl, n - b, congrArg (fun z => [V.int z]) e1, by omega, by omega, _, _, rfl, rfl, ?_⟩
    have e2 : (b : Int) + ((2 ^ (n - b).log2 : Nat) : Int) = ((b + 2 ^ h : Nat) : Int) := by rw [lh]; omega
    dsimp only
    rw [e2]
    refine ⟨_, rfl, .inl ⟨rfl, _, SqL.of hf⟩, _, rfl, _, rfl, (by show 2 ≤ sizeLine; decide), fun t nt => ?_⟩
    have s1 := same_upd (o := .tup [.int (b : Int), .int ((b + 2 ^ h : Nat) : Int)]) nt
    have hf1 := s1 _ _ hf
    refine ⟨fa, _, _, rfl, rfl, hf1, szlt (by rw [hx.len, List.length_map]; omega), ?_⟩
    refine ⟨_, rfl, ?_⟩
    refine ⟨n - (b + 2 ^ h), by omega, h, b + 2 ^ h, _, xs ++ [.ref t], done ++ [(b, h)], rfl, ?_, upd_same, ?_, ?_, by omega, rfl⟩
    · exact fun a o k => by rw [upd_ne (ne_of_none k nf)]; exact s1 _ _ (sm _ _ k)
    · rw [List.map_append]
      refine (hx.mono (fun v x (k : Nd H1 v x) => (k.same s1).upd hf1)).app (.cons ?_ .nil)
      exact Nd.upd (x := full (b, h)) ⟨t, rfl, upd_same⟩ hf1
    · rw [← hd, hp, List.append_assoc]
      rfl
  · have c1 : ¬ (b : Int) < (n : Int) := of_decide_eq_false (Bool.eq_false_iff.mpr c)
    rw [pk_nil i n b (by omega), List.append_nil] at hd
    rw [hd] at hx
    exact ⟨_, rfl, q H1 fa xs sm nf hf hx⟩
end
end LT

namespace LT
open PySem PySem.Spec PyProof.Rows L2
theorem cut_last (xs : List V) : cutV xs none (some (-1)) = xs.dropLast := by
  unfold cutV
  have e : HT.sIx xs.length xs.length (some (-1)) = xs.length - 1 := by
    show (if (-1 : Int) < 0 then ((-1 : Int) + (xs.length : Int)).toNat else min (-1 : Int).toNat xs.length) = _
    rw [if_pos (by decide)]
    omega
  rw [e, HT.sIx_none, List.drop_zero, Nat.sub_zero, List.dropLast_eq_take]
theorem All2.droplast {α : Type} {R : V → α → Prop} : ∀ {vs : List V} {xs : List α}, All2 R vs xs → All2 R vs.dropLast xs.dropLast
  | _, _, .nil => .nil
  | _, _, .cons _ .nil => .nil
  | _, _, .cons h (.cons k t) => .cons h (All2.droplast (.cons k t))
section
variable {P : Program} {w : World} {K : PySem.W.Frag} {mg : Str → Option Value} {base : Heap}
def spEdges : Sp := fun vs H Q _ => ∃ (n : Nat), vs = [.int n] ∧ 1 ≤ n ∧ n ≤ 10 ^ 30 ∧ ∀ (H' : Hp) (p : Addr) (xs : List V), Same H H' → H p = none → H' p = some (.lst xs) → All2 (Nd H') xs (((pk 101 n 0).map full).dropLast.map fun x => (x.1, n)) → Q (.ref p) H'
theorem ok_edges {f g1 : Addr} {fd d1 : FuncData} (F : Fun K "edges" "edges" sEdges f fd) (GPeaks : FnOk P w K mg base CX0 4 g1 d1 ["size"] spTops) (APeaks : At K mg "peaks" g1 d1 ["size"]) : FnOk P w K mg base CX0 5 f fd ["size"] spEdges := by
  refine F.ok scEdges (fun vs H Q E h => ?_) (fun cdv A outer s H vs Q E hr h => ?_)
  · obtain ⟨_, rfl, _⟩ := h
    rfl
  obtain ⟨n, rfl, h1, h30, q⟩ := h
  refine ⟨_, (pss_one (ps_ret (pe_lc (own := [("begin", 1), ("_", 2)]) rfl scEdges.nd (pi_list (pe_slice sl_list (pe_call GPeaks (hr.mono (by decide)) rfl APeaks.m APeaks.kp APeaks.b .nil pass0 (pa_cons (pv 0) pa_nil)) po_none (po_some (pe_un un_neg pe_int)))) (blkOk_by (N := ["size", "begin", "_"]) (sc := defScope sEdges) (by decide +kernel)) (fun _ _ _ _ _ => (pg_tupB (n := 2) rfl (pgs_cons (pg_name (i := 1) scEdges.nd rfl (Or.inl rfl)) (pgs_cons (pg_name (i := 2) scEdges.nd rfl (Or.inl rfl)) pgs_nil)))) (fun _ _ _ _ _ => pts_nil) (fun _ _ _ _ _ => (pe_tup (pa_cons (pv 1) (pa_cons (pv 0) pa_nil))))))), ?_⟩
  refine ⟨_, rfl, n, rfl, h1, h30, fun H1 p xs sm np hp hx => ?_⟩
  have L101 : ((pk 101 n 0).map full).length ≤ 101 := by rw [List.length_map]; exact pk_len 101 n 0
  generalize (pk 101 n 0).map full = L at q hx L101
  refine ⟨1, rfl, -1, rfl, p, _, rfl, SqL.of hp, fun c nc => ?_⟩
  have sc := same_upd (o := .lst (cutV xs none (some (-1)))) nc
  have hc : (upd H1 c (.lst (cutV xs none (some (-1))))) c = some (.lst xs.dropLast) := by rw [upd_same, cut_last]
  have hx1 := (hx.mono (fun v x (k : Nd H1 v x) => k.same sc)).droplast
  generalize upd H1 c (.lst (cutV xs none (some (-1)))) = H2 at hc hx1 sc
  refine ⟨c, rfl, ⟨_, SqL.of hc⟩, fun D nD => lc_list (xs := xs.dropLast) (fun i H' => ∃ ys : List V, Same H2 H' ∧ H' D = some (.lst ys) ∧ All2 (Nd H') ys ((L.dropLast.take i).map fun x => (x.1, n))) ⟨[], same_upd nD, upd_same, .nil⟩ (fun i H' _ ⟨_, k, _⟩ => SqL.of (k _ _ hc)) ?_ ?_⟩
  · rintro i x H3 hi ⟨ys, s3, hD, hy3⟩
    obtain ⟨y, hy, xp, rfl, hxp⟩ := hx1.nth hi
    have il : i < L.dropLast.length := (List.getElem?_eq_some_iff.mp hy).1
    rw [List.length_dropLast] at il
    refine ⟨xp, _, rfl, SqT.of (s3 _ _ hxp), rfl, _, _, rfl, _, _, rfl, rfl, rfl, ?_⟩
    refine ⟨_, rfl, _, rfl, (by show 2 ≤ sizeLine; decide), fun t nt => ?_⟩
    have st := same_upd (o := .tup [.int (y.1 : Int), .int (n : Int)]) nt
    refine ⟨ys, st _ _ hD, szlt (by rw [hy3.len, List.length_map, List.length_take, List.length_dropLast]; omega), ys ++ [.ref t], ?_, upd_same, ?_⟩
    · exact fun a o k => by rw [upd_ne (ne_of_none k nD)]; exact st _ _ (s3 _ _ k)
    · rw [take_more hy, List.map_append]
      exact (hy3.mono (fun v x (k : Nd H3 v x) => (k.same st).upd (st _ _ hD))).app (.cons (Nd.upd (x := (y.1, n)) ⟨t, rfl, upd_same⟩ (st _ _ hD)) .nil)
  rintro H3 ⟨ys, s3, hD, hy3⟩
  have et : L.dropLast.take xs.dropLast.length = L.dropLast := List.take_of_length_le (by rw [hx1.len]; exact Nat.le_refl _)
  rw [et] at hy3
  refine q H3 D ys (sm.trans (sc.trans s3)) ?_ hD hy3
  exact (sm.trans sc).free nD
end
end LT

namespace LT
open PySem PySem.Spec PyProof.Rows L2
section
variable {P : Program} {w : World} {K : PySem.W.Frag} {mg : Str → Option Value} {base : Heap}
def spNodes (i : Nat) : Sp := fun vs H Q _ => ∃ (b m : Nat) (v : V), vs = [v] ∧ Nd H v (b, b + m) ∧ 1 ≤ m ∧ 2 * m ≤ 2 ^ i ∧ m ≤ 128 ∧
  ∀ (H' : Hp) (p : Addr) (xs : List V), Same H H' → H p = none → H' p = some (.lst xs) → All2 (Nd H') xs (nodesF i b m) → Q (.ref p) H'
theorem ok_nodes_step {i : Nat} {f g : Addr} {fd gd : FuncData} (F : Fun K "_law_nodes" "_law_nodes" sLawNodes f fd) (GLawNodes : FnOk P w K mg base CX0 (i + 1) f fd ["node"] (spNodes i)) (ALawNodes : At K mg "_law_nodes" f fd ["node"])
    (GLawHalved : FnOk P w K mg base CX0 1 g gd ["node"] spHalved) (ALawHalved : At K mg "_law_halved" g gd ["node"]) : FnOk P w K mg base CX0 (i + 1 + 1) f fd ["node"] (spNodes (i + 1)) := by
  refine F.ok scLawNodes (fun vs H Q E h => ?_) (fun cdv A outer s H vs Q E hr h => ?_)
  · obtain ⟨_, _, _, rfl, _⟩ := h
    rfl
  obtain ⟨b, m, v, rfl, hv, h1, h2, h128, q⟩ := h
  have hr1 : Room 1 _ := hr.mono (by omega)
  have hrn : Room (i + 1) _ := hr.mono (Nat.le_refl _)
  refine ⟨_, (pss_cons (ps_if (pt_cmpR op_eq (pe_op op_sub (pe_ix ix_tup (pv 0) pe_int (fun _ _ => rfl)) (pe_ix ix_tup (pv 0) pe_int (fun _ _ => rfl))) pe_int (nomark _)) (pss_one (ps_ret (pe_lst (pa_cons (pv 0) pa_nil)))) pss_nil)
    (pss_cons (ps_asg (pe_call GLawHalved hr1 rfl ALawHalved.m ALawHalved.kp ALawHalved.b .nil pass0 (pa_cons (pv 0) pa_nil)) (pg_tup (by rfl) (pgs_cons (pg_name (i := 1) scLawNodes.nd rfl (Or.inl rfl)) (pgs_cons (pg_name (i := 2) scLawNodes.nd rfl (Or.inl rfl)) pgs_nil))))
    (pss_one (ps_ret (pe_op op_cat (pe_op op_cat (pe_lst (pa_cons (pv 0) pa_nil)) (pe_call GLawNodes hrn rfl ALawNodes.m ALawNodes.kp ALawNodes.b .nil pass0 (pa_cons (pv 1) pa_nil))) (pe_call GLawNodes hrn rfl ALawNodes.m ALawNodes.kp ALawNodes.b .nil pass0 (pa_cons (pv 2) pa_nil))))))), ?_⟩
  obtain ⟨vp, rfl, hvp⟩ := id hv
  refine ⟨_, rfl, vp, _, _, _, rfl, rfl, SqT.of hvp, atI_nat (j := 1) rfl, _, rfl, vp, _, _, _, rfl, rfl, SqT.of hvp, atI_nat (j := 0) rfl, _, _, rfl, rfl, rfl, _, rfl, ite2 (fun c => ?_) (fun c => ?_)⟩
  · have c1 : V.int (((b + m : Nat) : Int) - (b : Int)) = V.int 1 := of_decide_eq_true c
    have c2 := V.int.inj c1
    refine ⟨_, rfl, (by show 1 ≤ sizeLine; decide), fun p np => ?_⟩
    have sp := same_upd (o := .lst [.ref vp]) np
    refine q _ p [.ref vp] sp np upd_same ?_
    rw [nodesF_one (by omega)]
    exact .cons (hv.same sp) .nil
  · have c1 : ¬ V.int (((b + m : Nat) : Int) - (b : Int)) = V.int 1 := of_decide_eq_false (Bool.eq_false_iff.mpr c)
    have hm : ¬ m ≤ 1 := fun z => c1 (congrArg V.int (by omega))
    obtain ⟨k1, k2⟩ := gp_half (by omega) h2
    have g1 := gp_lt (m := m) (by omega)
    have g3 := gp_pos m
    have em : b + m - b = m := by omega
    have ee : b + gp m + (m - gp m) = b + m := by omega
    refine ⟨_, rfl, b, b + m, _, rfl, hv, by omega, fun H1 qa l h s1 nqa hqa hl hh => ?_⟩
    rw [em] at hl hh
    refine ⟨qa, _, rfl, SqT.of hqa, rfl, _, _, rfl, _, _, rfl, rfl, ?_⟩
    refine ⟨_, rfl, (by show 1 ≤ sizeLine; decide), fun l1 nl1 => ?_⟩
    have s2 := same_upd (o := .lst [.ref vp]) nl1
    have hl1 : (upd H1 l1 (.lst [.ref vp])) l1 = some (.lst [.ref vp]) := upd_same
    generalize upd H1 l1 (.lst [.ref vp]) = H2 at s2 hl1
    refine ⟨_, rfl, b, gp m, l, rfl, hl.same s2, g3, k1, by omega, fun H3 p3 xs3 s3 np3 hp3 hx3 => ?_⟩
    have n3 : xs3.length ≤ 256 := by rw [hx3.len, nodesF_len i b (gp m) g3 k1]; omega
    refine ⟨l1, p3, _, _, rfl, rfl, s3 _ _ hl1, hp3, szle (by rw [List.length_singleton]; omega), fun l4 nl4 => ?_⟩
    have s4 := same_upd (o := .lst ([.ref vp] ++ xs3)) nl4
    have hl4 : (upd H3 l4 (.lst ([.ref vp] ++ xs3))) l4 = some (.lst ([.ref vp] ++ xs3)) := upd_same
    have s24 := (s2.trans s3).trans s4
    generalize upd H3 l4 (.lst ([.ref vp] ++ xs3)) = H4 at s4 hl4 s24
    have hh4 : Nd H4 h (b + gp m, b + gp m + (m - gp m)) := by rw [ee]; exact hh.same s24
    refine ⟨_, rfl, b + gp m, m - gp m, h, rfl, hh4, by omega, k2, by omega, fun H5 p5 xs5 s5 np5 hp5 hx5 => ?_⟩
    have n5 : xs5.length ≤ 256 := by rw [hx5.len, nodesF_len i _ _ (by omega) k2]; omega
    refine ⟨l4, p5, _, _, rfl, rfl, s5 _ _ hl4, hp5, szle (by rw [List.length_append, List.length_singleton]; omega), fun p np => ?_⟩
    have s6 := same_upd (o := .lst ([.ref vp] ++ xs3 ++ xs5)) np
    have sAll := s1.trans (s24.trans (s5.trans s6))
    refine q _ p ([.ref vp] ++ xs3 ++ xs5) sAll ?_ upd_same ?_
    · exact ((s1.trans s24).trans s5).free np
    · rw [nodesF_two hm]
      show All2 _ (V.ref vp :: (xs3 ++ xs5)) _
      exact .cons (hv.same sAll) ((hx3.mono (fun v x (k : Nd H3 v x) => k.same (s4.trans (s5.trans s6)))).app (hx5.mono (fun v x (k : Nd H5 v x) => k.same s6)))
theorem ok_law_nodes {f g : Addr} {fd gd : FuncData} (F : Fun K "_law_nodes" "_law_nodes" sLawNodes f fd) (A : At K mg "_law_nodes" f fd ["node"]) (GLawHalved : FnOk P w K mg base CX0 1 g gd ["node"] spHalved) (ALawHalved : At K mg "_law_halved" g gd ["node"]) :
    ∀ i, FnOk P w K mg base CX0 (i + 1) f fd ["node"] (spNodes i)
  | 0 => by
    have no : ∀ vs H Q E, ¬ spNodes 0 vs H Q E := fun vs H Q E h => by
      obtain ⟨b, m, v, _, _, h1, h2, _⟩ := h
      simp at h2
      omega
    exact ⟨fun vs H Q E h => absurd h (no vs H Q E), fun A outer s H args us vs Q E _ _ _ _ h => absurd h (no vs H Q E)⟩
  | i + 1 => ok_nodes_step F (ok_law_nodes F A GLawHalved ALawHalved i) A GLawHalved ALawHalved
end
end LT

namespace LT
open PySem PySem.Spec PyProof.Rows L2
section
variable {P : Program} {w : World} {K : PySem.W.Frag} {mg : Str → Option Value} {base : Heap}
def spPeaks : Sp := fun vs H Q _ => ∃ (n : Nat), vs = [.int n] ∧ ∀ (H' : Hp) (p : Addr) (xs : List V), Same H H' → H p = none → H' p = some (.lst xs) → All2 (Nd H') xs ((pk 101 n 0).map full) → Q (.ref p) H'
theorem shr_bit (n j : Nat) : Builtin.bitAnd ((n : Int) / 2 ^ j) 1 = if n.testBit j then 1 else 0 := by
  have e : (n : Int) / 2 ^ j = ((n / 2 ^ j : Nat) : Int) := by
    rw [← PySem.W.kbt_cast]
    exact (Int.natCast_ediv n (2 ^ j)).symm
  rw [e, bitAnd_m1, Nat.testBit_eq_decide_div_mod_eq]
  have h : n / 2 ^ j % 2 = 0 ∨ n / 2 ^ j % 2 = 1 := by omega
  rcases h with h | h
  · rw [h, if_neg (by decide)]; omega
  · rw [h, if_pos (by decide)]; omega
theorem ok_law_peaks {f : Addr} {fd : FuncData} (F : Fun K "_law_peaks" "_law_peaks" sLawPeaks f fd) (z_range : mg "range" = none) : FnOk P w K mg base CX0 1 f fd ["size"] spPeaks := by
  refine F.ok scLawPeaks (fun vs H Q E h => ?_) (fun cdv A outer s H vs Q E hr h => ?_)
  · obtain ⟨_, rfl, _⟩ := h
    rfl
  obtain ⟨n, rfl, q⟩ := h
  refine ⟨_, (pss_cons (ps_par (i := 1) (j := 2) (by rfl) scLawPeaks.nd rfl rfl (by decide) rfl rfl (pa_cons (pe_lst pa_nil) (pa_cons pe_int pa_nil)) (by rfl))
    (pss_cons (ps_for PassesOwn.never rfl (pi_range3 (by rfl) z_range (pa_cons pe_int (pa_cons (pe_un un_neg pe_int) (pa_cons (pe_un un_neg pe_int) pa_nil)))) (pg_name (i := 3) scLawPeaks.nd rfl (Or.inl rfl))
    (pss_one (ps_if (pt_cmpR op_eq (pe_op op_and (pe_op op_shr (pv 0) (pv 3)) pe_int) pe_int (nomark _))
    (pss_cons (ps_expr (pe_bm PySem.F.plainAttrs_list PySem.F.slot_list_append PySem.F.type_list_append mt_append (pv 1) (pa_cons (pe_tup (pa_cons (pv 2) (pa_cons (pe_op op_add (pv 2) (pe_op op_shl pe_int (pv 3))) pa_nil))) pa_nil)))
    (pss_one (ps_set (i := 2) scLawPeaks.nd rfl (Or.inl rfl) (pe_op op_add (pv 2) (pe_op op_shl pe_int (pv 3))))))
    pss_nil)))
    (pss_one (ps_ret (pv 1))))), ?_⟩
  refine ⟨Nat.zero_le _, fun fa nf => ?_⟩
  refine ⟨_, _, rfl, ?_⟩
  refine ⟨_, rfl, _, rfl, 100, -1, -1, 101, rfl, (show RgC 100 (-1) (-1) 101 from RgC.neg (by decide) (by decide) (by decide) (by decide)), ?_⟩
  refine for_rangeC (lo := 100) (c := -1) (n := 101) (fun i σ H' => ∃ (b : Nat) (v3 : Option V) (xs : List V) (done : List (Nat × Nat)), σ = [some (.int n), some (.ref fa), some (.int b), v3] ∧ Same H H' ∧ H' fa = some (.lst xs) ∧ All2 (Nd H') xs (done.map full) ∧ done ++ pk (101 - i) n b = pk 101 n 0)
    ⟨0, none, [], [], rfl, same_upd nf, upd_same, .nil, rfl⟩ ?_ ?_
  · rintro i σ H1 hi ⟨b, v3, xs, done, rfl, sm, hf, hx, hd⟩
    have ej : (100 : Int) + (i : Int) * (-1) = ((100 - i : Nat) : Int) := by omega
    have ei : 101 - i = (100 - i) + 1 := by omega
    rw [ej]
    rw [ei] at hd
    have ei2 : 101 - (i + 1) = 100 - i := by omega
    have hj : 100 - i ≤ 100 := by omega
    generalize 100 - i = j at hd ei2 hj
    refine ⟨_, rfl, _, rfl, _, _, rfl, rfl, Int.natCast_nonneg _, _, _, rfl, rfl, rfl, _, rfl, ite2 (fun c => ?_) (fun c => ?_)⟩
    · have c1 : V.int (Builtin.bitAnd ((n : Int) / 2 ^ ((j : Nat) : Int).toNat) 1) = V.int 1 := of_decide_eq_true c
      have c2 := V.int.inj c1
      rw [Int.toNat_natCast, shr_bit] at c2
      have tb : n.testBit j = true := by
        by_cases t : n.testBit j = true
        · exact t
        · rw [if_neg t] at c2; exact absurd c2 (by decide)
      have two : 2 ≤ sizeLine := by decide
      have dl : done.length ≤ 101 := by
        have k1 := congrArg List.length hd
        rw [List.length_append] at k1
        have k2 := pk_len 101 n 0
        omega
      have ep : (1 : Int) * 2 ^ ((j : Nat) : Int).toNat = ((2 ^ j : Nat) : Int) := by rw [Int.one_mul, Int.toNat_natCast]; exact (Int.natCast_pow 2 j).symm
      refine ⟨_, rfl, .inl ⟨rfl, _, SqL.of hf⟩, _, rfl, _, rfl, _, rfl, _, _, rfl, rfl, ⟨Int.natCast_nonneg _, by omega, by decide⟩, _, _, rfl, rfl, two, fun t nt => ?_⟩
      dsimp only
      rw [ep]
      have s1 := same_upd (o := .tup [.int (b : Int), .int ((b : Int) + ((2 ^ j : Nat) : Int))]) nt
      have hf1 := s1 _ _ hf
      refine ⟨fa, _, _, rfl, rfl, hf1, szlt (by rw [hx.len, List.length_map]; omega), ?_⟩
      refine ⟨_, rfl, _, rfl, _, _, rfl, rfl, ⟨Int.natCast_nonneg _, by omega, by decide⟩, _, _, rfl, rfl, ?_⟩
      dsimp only
      rw [ep]
      refine ⟨b + 2 ^ j, _, xs ++ [.ref t], done ++ [(b, j)], rfl, ?_, upd_same, ?_, ?_⟩
      · exact fun a o k => by rw [upd_ne (ne_of_none k nf)]; exact s1 _ _ (sm _ _ k)
      · rw [List.map_append]
        refine (hx.mono (fun v x (k : Nd H1 v x) => (k.same s1).upd hf1)).app (.cons ?_ .nil)
        exact Nd.upd (x := full (b, j)) ⟨t, rfl, upd_same⟩ hf1
      · rw [ei2, ← hd, List.append_assoc]
        show _ = done ++ (if n.testBit j = true then (b, j) :: pk j n (b + 2 ^ j) else pk j n b)
        rw [if_pos tb]
        rfl
    · have c1 : ¬ V.int (Builtin.bitAnd ((n : Int) / 2 ^ ((j : Nat) : Int).toNat) 1) = V.int 1 := of_decide_eq_false (Bool.eq_false_iff.mpr c)
      rw [Int.toNat_natCast, shr_bit] at c1
      have t : ¬ n.testBit j = true := fun t => c1 (by rw [if_pos t])
      refine ⟨b, _, xs, done, rfl, sm, hf, hx, ?_⟩
      rw [ei2, ← hd]
      show _ = done ++ (if n.testBit j = true then (b, j) :: pk j n (b + 2 ^ j) else pk j n b)
      rw [if_neg t]
  · rintro σ H1 ⟨b, v3, xs, done, rfl, sm, hf, hx, hd⟩
    have e : pk (101 - 101) n b = [] := rfl
    rw [e, List.append_nil] at hd
    rw [hd] at hx
    exact ⟨_, rfl, q H1 fa xs sm nf hf hx⟩
end
end LT

namespace LT
open PySem PySem.Spec PyProof.Rows L2
theorem lt_lb {m j : Nat} : 2 ^ j < m ↔ j < lb m := by
  constructor
  · intro h
    have := lb_ge m
    exact (Nat.pow_lt_pow_iff_right (by decide : 1 < 2)).mp (Nat.lt_of_lt_of_le h this)
  · intro h
    by_cases c : m ≤ 2 ^ j
    · have := lb_le c
      omega
    · omega
theorem and_nat (a b : Nat) : Builtin.bitAnd (a : Int) (b : Int) = ((a &&& b : Nat) : Int) := by
  rw [bitAnd_pp (Int.natCast_nonneg a) (Int.natCast_nonneg b), Int.toNat_natCast, Int.toNat_natCast]
theorem and_dec (a m : Nat) (h : 1 ≤ m) : decide (V.int (Builtin.bitAnd (a : Int) ((m : Int) - 1)) = V.int 0) = ((a &&& (m - 1)) == 0) := by
  rw [show (m : Int) - 1 = ((m - 1 : Nat) : Int) by omega, and_nat]
  by_cases c : (a &&& (m - 1)) = 0
  · rw [c]; rfl
  · rw [decide_eq_false (fun z => c (by have := V.int.inj z; omega))]
    exact (beq_eq_false_iff_ne.mpr c).symm
section
variable {P : Program} {w : World} {K : PySem.W.Frag} {mg : Str → Option Value} {base : Heap}
def spFull : Sp := fun vs H Q _ => ∃ (x : Nat × Nat) (v : V), vs = [v] ∧ Nd H v x ∧ x.1 < x.2 ∧ Q (.bl (fl x)) H
theorem ok_law_is_full {f : Addr} {fd : FuncData} (F : Fun K "_law_is_full" "_law_is_full" sLawIsFull f fd) : FnOk P w K mg base CX0 1 f fd ["node"] spFull := by
  refine F.ok scLawIsFull (fun vs H Q E h => ?_) (fun cdv A outer s H vs Q E hr h => ?_)
  · obtain ⟨_, _, rfl, _⟩ := h
    rfl
  obtain ⟨x, v, rfl, ⟨p, rfl, hp⟩, hlt, q⟩ := h
  refine ⟨_, (pss_cons (ps_set (i := 1) scLawIsFull.nd rfl (Or.inl rfl) (pe_op op_sub (pe_ix ix_tup (pv 0) pe_int (fun _ _ => rfl)) (pe_ix ix_tup (pv 0) pe_int (fun _ _ => rfl))))
    (pss_one (ps_ret (pe_and (pe_cmpR op_eq (pe_op op_and (pv 1) (pe_op op_sub (pv 1) pe_int)) pe_int (nomark _)) (pe_one (pe_cmpR op_eq (pe_op op_and (pe_ix ix_tup (pv 0) pe_int (fun _ _ => rfl)) (pe_op op_sub (pv 1) pe_int)) pe_int (nomark _))))))), ?_⟩
  refine ⟨_, rfl, p, _, _, _, rfl, rfl, SqT.of hp, atI_nat (j := 1) rfl, _, rfl, p, _, _, _, rfl, rfl, SqT.of hp, atI_nat (j := 0) rfl, _, _, rfl, rfl, ?_⟩
  have e1 : (x.2 : Int) - (x.1 : Int) = ((x.2 - x.1 : Nat) : Int) := by omega
  dsimp only
  rw [e1]
  refine ⟨_, rfl, _, rfl, _, _, rfl, rfl, _, _, rfl, rfl, rfl, ((x.2 - x.1) &&& (x.2 - x.1 - 1)) == 0, ?_, ?_⟩
  · exact congrArg V.bl (and_dec (x.2 - x.1) (x.2 - x.1) (by omega))
  unfold fl at q
  cases h : ((x.2 - x.1) &&& (x.2 - x.1 - 1)) == 0 with
  | false =>
    rw [h] at q
    exact q
  | true =>
    rw [h] at q
    refine ⟨_, rfl, p, _, _, _, rfl, rfl, SqT.of hp, atI_nat (j := 0) rfl, _, rfl, _, _, rfl, rfl, _, _, rfl, rfl, rfl, ?_⟩
    have e3 := and_dec x.1 (x.2 - x.1) (by omega)
    show Q (.bl (decide (V.int (Builtin.bitAnd (x.1 : Int) (((x.2 - x.1 : Nat) : Int) - 1)) = V.int 0))) H
    rw [e3]
    exact q
end
end LT

namespace LT
open PySem PySem.Spec PyProof.Rows L2
theorem script_at {ns : List Int} {lo hi : Option Int} {i : Nat} {x : V} (h : (cutV (ns.map V.int) lo hi ++ [.int 0])[i]? = some x) : ∃ c : Int, x = .int c := by
  have m := List.mem_of_getElem? h
  rcases List.mem_append.mp m with m | m
  · unfold cutV at m
    have m2 := List.mem_of_mem_drop (List.mem_of_mem_take m)
    obtain ⟨c, _, e⟩ := List.mem_map.mp m2
    exact ⟨c, e.symm⟩
  · exact ⟨0, List.mem_singleton.mp m⟩
theorem sqSame {K : PySem.W.Frag} {H H' : Hp} {a : Addr} {xs : List V} (h : SqL K H a xs) (e : Same H H') : SqL K H' a xs :=
  h.elim (fun h => .inl (h.elim (fun h => .inl (e _ _ h)) fun ⟨o, h⟩ => .inr ⟨o, e _ _ h⟩)) fun h => .inr h
def spLaw (K : PySem.W.Frag) : Sp := fun vs H Q _ => ∃ (a : Addr) (ns : List Int), vs = [.ref a] ∧ SqL K H a (ns.map V.int) ∧ ns.length ≤ 63 ∧ ∀ H', Q (.bl true) H'
end LT

namespace LT
open PySem PySem.Spec PyProof.Rows L2
def spRight : Sp := fun vs H Q _ => ∃ (bg : Addr) (n : Nat), vs = [.ref bg, .int n] ∧ n < 71 ∧ 1 ≤ n ∧ BagAt H bg ∧ ∀ (H' : Hp), But bg H H' → BagAt H' bg → Q (.bl true) H'
end LT

namespace LT
open PySem PySem.Spec PyProof.Rows L2
theorem sh7 : SeqAt.shaped (.list [.list ([(0, 4), (4, 6), (6, 7)].map nd), .list ([(0, 7), (4, 7)].map nd), .tuple ([(4, 6), (6, 7)].map nd), .none, nd (4, 7), nd (4, 7), .list (([] : List (Nat × Nat)).map nd)]) = true := by
  show (PyData.canLay0 _ && decide (PyData.depth _ ≤ 64)) = true
  simp [nd, PyData.canLay0, PyData.canLayAll0, PyData.depth, PyData.depthAll]
section
variable {P : Program} {w : World} {K : PySem.W.Frag} {mg : Str → Option Value} {base : Heap}
theorem ok_law {f g1 g2 g3 g4 g5 g6 g7 g8 : Addr} {fd d1 d2 d3 d4 d5 d6 d7 d8 : FuncData} (F : Fun K "law" "law" sLaw f fd)
    (GLawBag : FnOk P w K mg base CX0 1 g1 d1 ["cell"] spBag) (ALawBag : At K mg "_law_bag" g1 d1 ["cell"])
    (GLawPick : FnOk P w K mg base CX0 1 g2 d2 ["bag", "many"] spPick) (ALawPick : At K mg "_law_pick" g2 d2 ["bag", "many"])
    (GLawRight : GOk P w K mg base 10 g3 d3 ["bag", "size"] spRight) (ALawRight : At K mg "_law_right" g3 d3 ["bag", "size"])
    (GPeaks : FnOk P w K mg base CX0 4 g4 d4 ["size"] spTops) (APeaks : At K mg "peaks" g4 d4 ["size"])
    (GEdges : FnOk P w K mg base CX0 5 g5 d5 ["size"] spEdges) (AEdges : At K mg "edges" g5 d5 ["size"])
    (GHalves : FnOk P w K mg base CX0 5 g6 d6 ["size", "node"] spHalvesA) (AHalves : At K mg "halves" g6 d6 ["size", "node"])
    (GParent : FnOk P w K mg base CX0 5 g7 d7 ["size", "node"] spParent) (AParent : At K mg "parent" g7 d7 ["size", "node"])
    (GSibling : FnOk P w K mg base CX0 6 g8 d8 ["size", "node"] spSibling) (ASibling : At K mg "sibling" g8 d8 ["size", "node"])
    (z_range : mg "range" = none) : GOk P w K mg base 11 f fd ["script"] (spLaw K) := by
  refine okG F scLaw (fun vs H Q E h => ?_) (fun cdv A outer s H vs Q hg hr h => ?_)
  · obtain ⟨_, _, rfl, _⟩ := h
    rfl
  obtain ⟨a, ns, rfl, hS, h63, q⟩ := h
  refine' ⟨_, (pss_cons (ps_for PassesOwn.never rfl (pi_list (pe_op op_cat (pe_slice sl_list (pv 0) po_none (po_some pe_int)) (pe_lst (pa_cons pe_int pa_nil)))) (pg_name (i := 1) scLaw.nd rfl (Or.inl rfl))
    (pss_cons (ps_set (i := 2) scLaw.nd rfl (Or.inl rfl) (pe_call GLawBag (hr.mono (by decide)) rfl ALawBag.m ALawBag.kp ALawBag.b .nil pass0 (pa_cons (pv 1) pa_nil)))
    (pss_one (ps_for PassesOwn.never rfl (pi_range1 (by rfl) z_range (pa_cons pe_int pa_nil)) (pg_name (i := 3) scLaw.nd rfl (Or.inl rfl))
    (pss_one (ps_if (pt_not (pt_val (pe_callG GLawRight hg (hr.mono (by decide)) rfl ALawRight.m ALawRight.kp ALawRight.b (pa_cons (pv 2) (pa_cons (pe_op op_add pe_int (pe_call GLawPick (hr.mono (by decide)) rfl ALawPick.m ALawPick.kp ALawPick.b .nil pass0 (pa_cons (pv 2) (pa_cons pe_int pa_nil)))) pa_nil)))))
    (pss_one (ps_ret pe_bl))
    pss_nil))))))
    (pss_cons (ps_set (i := 4) scLaw.nd rfl (Or.inl rfl) (pe_lst (pa_cons (pe_call GPeaks (hr.mono (by decide)) rfl APeaks.m APeaks.kp APeaks.b .nil pass0 (pa_cons pe_int pa_nil)) (pa_cons (pe_call GEdges (hr.mono (by decide)) rfl AEdges.m AEdges.kp AEdges.b .nil pass0 (pa_cons pe_int pa_nil)) (pa_cons (pe_call GHalves (hr.mono (by decide)) rfl AHalves.m AHalves.kp AHalves.b .nil pass0 (pa_cons pe_int (pa_cons (pe_tup (pa_cons pe_int (pa_cons pe_int pa_nil))) pa_nil))) (pa_cons (pe_call GHalves (hr.mono (by decide)) rfl AHalves.m AHalves.kp AHalves.b .nil pass0 (pa_cons pe_int (pa_cons (pe_tup (pa_cons pe_int (pa_cons pe_int pa_nil))) pa_nil))) (pa_cons (pe_call GParent (hr.mono (by decide)) rfl AParent.m AParent.kp AParent.b .nil pass0 (pa_cons pe_int (pa_cons (pe_tup (pa_cons pe_int (pa_cons pe_int pa_nil))) pa_nil))) (pa_cons (pe_call GSibling (hr.mono (by decide)) rfl ASibling.m ASibling.kp ASibling.b .nil pass0 (pa_cons pe_int (pa_cons (pe_tup (pa_cons pe_int (pa_cons pe_int pa_nil))) pa_nil))) (pa_cons (pe_call GEdges (hr.mono (by decide)) rfl AEdges.m AEdges.kp AEdges.b .nil pass0 (pa_cons pe_int pa_nil)) pa_nil)))))))))
    (pss_one (ps_ret (pe_cmpR (op_eqD hr.units) (pv 4) (pe_lst (pa_cons (pe_lst (pa_cons (pe_tup (pa_cons pe_int (pa_cons pe_int pa_nil))) (pa_cons (pe_tup (pa_cons pe_int (pa_cons pe_int pa_nil))) (pa_cons (pe_tup (pa_cons pe_int (pa_cons pe_int pa_nil))) pa_nil)))) (pa_cons (pe_lst (pa_cons (pe_tup (pa_cons pe_int (pa_cons pe_int pa_nil))) (pa_cons (pe_tup (pa_cons pe_int (pa_cons pe_int pa_nil))) pa_nil))) (pa_cons (pe_tup (pa_cons (pe_tup (pa_cons pe_int (pa_cons pe_int pa_nil))) (pa_cons (pe_tup (pa_cons pe_int (pa_cons pe_int pa_nil))) pa_nil))) (pa_cons pe_non (pa_cons (pe_tup (pa_cons pe_int (pa_cons pe_int pa_nil))) (pa_cons (pe_tup (pa_cons pe_int (pa_cons pe_int pa_nil))) (pa_cons (pe_lst pa_nil) pa_nil)))))))) (nomark _)))))), ?_⟩
  refine ⟨_, rfl, 6, rfl, a, _, rfl, hS, fun c nc => ⟨(by show 1 ≤ sizeLine; decide), fun z nz => ?_⟩⟩
  have s1 := same_upd (o := .lst (cutV (ns.map V.int) none (some 6))) nc
  have s2 := same_upd (o := .lst [.int 0]) nz
  have hcl := cutV_length (ns.map V.int) none (some 6)
  rw [List.length_map] at hcl
  refine ⟨c, z, _, _, rfl, rfl, s2 _ _ upd_same, upd_same, szle (by rw [List.length_singleton]; omega), fun r nr => ?_⟩
  have s3 := same_upd (o := .lst (cutV (ns.map V.int) none (some 6) ++ [.int 0])) nr
  have hr0 : (upd (upd (upd H c (.lst (cutV (ns.map V.int) none (some 6)))) z (.lst [.int 0])) r (.lst (cutV (ns.map V.int) none (some 6) ++ [.int 0]))) r = some (.lst (cutV (ns.map V.int) none (some 6) ++ [.int 0])) := upd_same
  generalize upd (upd (upd H c (.lst (cutV (ns.map V.int) none (some 6)))) z (.lst [.int 0])) r (.lst (cutV (ns.map V.int) none (some 6) ++ [.int 0])) = H0 at hr0
  refine ⟨r, rfl, ⟨_, SqL.of hr0⟩, for_list (K := K) (a := r) (xs := cutV (ns.map V.int) none (some 6) ++ [.int 0]) (fun i σ H' => ∃ v1 v2 v3 : Option V, σ = [some (.ref a), v1, v2, v3, none] ∧ Same H0 H')
    ⟨none, none, none, rfl, Same.refl _⟩ (fun i σ H' _ ⟨_, _, _, _, s5⟩ => SqL.of (s5 _ _ hr0)) ?_ ?_⟩
  · rintro i x σ H1 hi ⟨v1, v2, v3, rfl, sm1⟩
    obtain ⟨cell, rfl⟩ := script_at hi
    refine ⟨_, rfl, cell, rfl, fun H2 b sm2 nb hb => ?_⟩
    have nb0 : H0 b = none := sm1.free nb
    refine ⟨2, rfl, by decide, by decide, for_range (lo := 0) (n := 2) (fun i σ H' => ∃ v3 : Option V, σ = [some (.ref a), some (.int cell), some (.ref b), v3, none] ∧ Same H0 H' ∧ BagAt H' b)
      ⟨v3, rfl, sm1.trans sm2, hb⟩ ?_ ?_⟩
    · rintro j σ H3 hj ⟨v3, rfl, sm3, hb3⟩
      refine ⟨_, rfl, _, rfl, b, 70, rfl, by decide, by decide, hb3, fun r4 H4 r40 r41 k4 hb4 => ⟨_, _, rfl, rfl, ?_⟩⟩
      obtain ⟨n4, rfl⟩ := Int.eq_ofNat_of_zero_le r40
      have e : ([V.ref b, V.int (1 + (n4 : Int))] : List V) = [V.ref b, V.int ((1 + n4 : Nat) : Int)] := by
        rw [show ((1 + n4 : Nat) : Int) = 1 + (n4 : Int) by omega]
      refine ⟨b, 1 + n4, e, by omega, by omega, hb4, fun H6 B6 hb6 => ⟨true, rfl, ?_⟩⟩
      exact ⟨_, rfl, fun u o k => B6 _ _ (ne_of_none k nb0) (by rw [k4 u (ne_of_none k nb0)]; exact sm3 _ _ k), hb6⟩
    · rintro σ H3 ⟨v3, rfl, sm3, hb3⟩
      exact ⟨_, _, _, rfl, sm3⟩
  · rintro σ H1 ⟨v1, v2, v3, rfl, sm1⟩
    have g3 : gp 3 = 2 := by decide +kernel
    have g7 : gp 7 = 4 := by decide +kernel
    have t3 : tree 7 4 3 := by unfold tree; decide +kernel
    have t7 : tree 7 0 7 := tree_root 7
    have t1 : tree 7 2 1 := by unfold tree; decide +kernel
    have pk7 : (pk 101 7 0).map full = [(0, 4), (4, 6), (6, 7)] := by decide +kernel
    have eg7 : ((pk 101 7 0).map full).dropLast.map (fun x => (x.1, 7)) = [(0, 7), (4, 7)] := by decide +kernel
    have eg8 : ((pk 101 8 0).map full).dropLast.map (fun x => (x.1, 8)) = [] := by decide +kernel
    refine ⟨7, rfl, by decide, by decide, fun G1 p1 xs1 S1 np1 hp1 hx1 => ?_⟩
    refine ⟨7, rfl, by decide, by decide, fun G2 p2 xs2 S2 np2 hp2 hx2 => ?_⟩
    rw [pk7] at hx1
    have hx2 : All2 (Nd G2) xs2 [(0, 7), (4, 7)] := by rw [← eg7]; exact hx2
    refine ⟨(by show 2 ≤ sizeLine; decide), fun a3 m3 => ?_⟩
    have S3 := same_upd (o := .tup [.int 4, .int 7]) m3
    have f3 : (upd G2 a3 (.tup [.int 4, .int 7])) a3 = some (.tup [.int 4, .int 7]) := upd_same
    generalize upd G2 a3 (.tup [.int 4, .int 7]) = G3 at S3 f3 ⊢
    refine ⟨7, 4, 3, _, rfl, ⟨a3, rfl, f3⟩, by decide, by decide, by decide, t3, .inr ⟨by decide, fun G4 p3 l3 h3 S4 np3 hp3 hl3 hh3 => ?_⟩⟩
    rw [g3] at hl3 hh3
    refine ⟨(by show 2 ≤ sizeLine; decide), fun a5 m5 => ?_⟩
    have S5 := same_upd (o := .tup [.int 2, .int 3]) m5
    have f5 : (upd G4 a5 (.tup [.int 2, .int 3])) a5 = some (.tup [.int 2, .int 3]) := upd_same
    generalize upd G4 a5 (.tup [.int 2, .int 3]) = G5 at S5 f5 ⊢
    refine ⟨7, 2, 1, _, rfl, ⟨a5, rfl, f5⟩, by decide, by decide, by decide, t1, .inl ⟨rfl, ?_⟩⟩
    refine ⟨(by show 2 ≤ sizeLine; decide), fun a6 m6 => ?_⟩
    have S6 := same_upd (o := .tup [.int 4, .int 6]) m6
    have f6 : (upd G5 a6 (.tup [.int 4, .int 6])) a6 = some (.tup [.int 4, .int 6]) := upd_same
    generalize upd G5 a6 (.tup [.int 4, .int 6]) = G6 at S6 f6 ⊢
    refine ⟨7, (4, 6), _, rfl, ⟨a6, rfl, f6⟩, by decide, by decide, .inr ⟨4, 3, by decide, t3, by decide, .inl (by rw [g3]), fun G7 u4 S7 hu4 => ?_⟩⟩
    refine ⟨(by show 2 ≤ sizeLine; decide), fun a8 m8 => ?_⟩
    have S8 := same_upd (o := .tup [.int 0, .int 4]) m8
    have f8 : (upd G7 a8 (.tup [.int 0, .int 4])) a8 = some (.tup [.int 0, .int 4]) := upd_same
    generalize upd G7 a8 (.tup [.int 0, .int 4]) = G8 at S8 f8 ⊢
    refine ⟨7, (0, 4), _, rfl, ⟨a8, rfl, f8⟩, by decide, by decide, .inr ⟨0, 7, (4, 7), by decide, t7, by decide, .inl ⟨by rw [g7], by rw [g7]⟩, fun G9 u5 S9 hu5 => ?_⟩⟩
    refine ⟨8, rfl, by decide, by decide, fun G10 p6 xs6 S10 np6 hp6 hx6 => ?_⟩
    have hx6 : All2 (Nd G10) xs6 [] := by rw [← eg8]; exact hx6
    refine ⟨(by show 7 ≤ sizeLine; decide), fun a11 m11 => ?_⟩
    have S11 := same_upd (o := .lst [.ref p1, .ref p2, .ref p3, .non, u4, u5, .ref p6]) m11
    have f11 : (upd G10 a11 (.lst [.ref p1, .ref p2, .ref p3, .non, u4, u5, .ref p6])) a11 = some (.lst [.ref p1, .ref p2, .ref p3, .non, u4, u5, .ref p6]) := upd_same
    generalize upd G10 a11 (.lst [.ref p1, .ref p2, .ref p3, .non, u4, u5, .ref p6]) = G11 at S11 f11 ⊢
    refine ⟨_, rfl, (by show 2 ≤ sizeLine; decide), fun a12 m12 => ?_⟩
    have S12 := same_upd (o := .tup [.int 0, .int 4]) m12
    have f12 : (upd G11 a12 (.tup [.int 0, .int 4])) a12 = some (.tup [.int 0, .int 4]) := upd_same
    generalize upd G11 a12 (.tup [.int 0, .int 4]) = G12 at S12 f12 ⊢
    refine ⟨(by show 2 ≤ sizeLine; decide), fun a13 m13 => ?_⟩
    have S13 := same_upd (o := .tup [.int 4, .int 6]) m13
    have f13 : (upd G12 a13 (.tup [.int 4, .int 6])) a13 = some (.tup [.int 4, .int 6]) := upd_same
    generalize upd G12 a13 (.tup [.int 4, .int 6]) = G13 at S13 f13 ⊢
    refine ⟨(by show 2 ≤ sizeLine; decide), fun a14 m14 => ?_⟩
    have S14 := same_upd (o := .tup [.int 6, .int 7]) m14
    have f14 : (upd G13 a14 (.tup [.int 6, .int 7])) a14 = some (.tup [.int 6, .int 7]) := upd_same
    generalize upd G13 a14 (.tup [.int 6, .int 7]) = G14 at S14 f14 ⊢
    refine ⟨(by show 3 ≤ sizeLine; decide), fun a15 m15 => ?_⟩
    have S15 := same_upd (o := .lst [.ref a12, .ref a13, .ref a14]) m15
    have f15 : (upd G14 a15 (.lst [.ref a12, .ref a13, .ref a14])) a15 = some (.lst [.ref a12, .ref a13, .ref a14]) := upd_same
    generalize upd G14 a15 (.lst [.ref a12, .ref a13, .ref a14]) = G15 at S15 f15 ⊢
    refine ⟨(by show 2 ≤ sizeLine; decide), fun a16 m16 => ?_⟩
    have S16 := same_upd (o := .tup [.int 0, .int 7]) m16
    have f16 : (upd G15 a16 (.tup [.int 0, .int 7])) a16 = some (.tup [.int 0, .int 7]) := upd_same
    generalize upd G15 a16 (.tup [.int 0, .int 7]) = G16 at S16 f16 ⊢
    refine ⟨(by show 2 ≤ sizeLine; decide), fun a17 m17 => ?_⟩
    have S17 := same_upd (o := .tup [.int 4, .int 7]) m17
    have f17 : (upd G16 a17 (.tup [.int 4, .int 7])) a17 = some (.tup [.int 4, .int 7]) := upd_same
    generalize upd G16 a17 (.tup [.int 4, .int 7]) = G17 at S17 f17 ⊢
    refine ⟨(by show 2 ≤ sizeLine; decide), fun a18 m18 => ?_⟩
    have S18 := same_upd (o := .lst [.ref a16, .ref a17]) m18
    have f18 : (upd G17 a18 (.lst [.ref a16, .ref a17])) a18 = some (.lst [.ref a16, .ref a17]) := upd_same
    generalize upd G17 a18 (.lst [.ref a16, .ref a17]) = G18 at S18 f18 ⊢
    refine ⟨(by show 2 ≤ sizeLine; decide), fun a19 m19 => ?_⟩
    have S19 := same_upd (o := .tup [.int 4, .int 6]) m19
    have f19 : (upd G18 a19 (.tup [.int 4, .int 6])) a19 = some (.tup [.int 4, .int 6]) := upd_same
    generalize upd G18 a19 (.tup [.int 4, .int 6]) = G19 at S19 f19 ⊢
    refine ⟨(by show 2 ≤ sizeLine; decide), fun a20 m20 => ?_⟩
    have S20 := same_upd (o := .tup [.int 6, .int 7]) m20
    have f20 : (upd G19 a20 (.tup [.int 6, .int 7])) a20 = some (.tup [.int 6, .int 7]) := upd_same
    generalize upd G19 a20 (.tup [.int 6, .int 7]) = G20 at S20 f20 ⊢
    refine ⟨(by show 2 ≤ sizeLine; decide), fun a21 m21 => ?_⟩
    have S21 := same_upd (o := .tup [.ref a19, .ref a20]) m21
    have f21 : (upd G20 a21 (.tup [.ref a19, .ref a20])) a21 = some (.tup [.ref a19, .ref a20]) := upd_same
    generalize upd G20 a21 (.tup [.ref a19, .ref a20]) = G21 at S21 f21 ⊢
    refine ⟨(by show 2 ≤ sizeLine; decide), fun a22 m22 => ?_⟩
    have S22 := same_upd (o := .tup [.int 4, .int 7]) m22
    have f22 : (upd G21 a22 (.tup [.int 4, .int 7])) a22 = some (.tup [.int 4, .int 7]) := upd_same
    generalize upd G21 a22 (.tup [.int 4, .int 7]) = G22 at S22 f22 ⊢
    refine ⟨(by show 2 ≤ sizeLine; decide), fun a23 m23 => ?_⟩
    have S23 := same_upd (o := .tup [.int 4, .int 7]) m23
    have f23 : (upd G22 a23 (.tup [.int 4, .int 7])) a23 = some (.tup [.int 4, .int 7]) := upd_same
    generalize upd G22 a23 (.tup [.int 4, .int 7]) = G23 at S23 f23 ⊢
    refine ⟨(by show 0 ≤ sizeLine; decide), fun a24 m24 => ?_⟩
    have S24 := same_upd (o := .lst []) m24
    have f24 : (upd G23 a24 (.lst [])) a24 = some (.lst []) := upd_same
    generalize upd G23 a24 (.lst []) = G24 at S24 f24 ⊢
    refine ⟨(by show 7 ≤ sizeLine; decide), fun a25 m25 => ?_⟩
    have S25 := same_upd (o := .lst [.ref a15, .ref a18, .ref a21, .non, .ref a22, .ref a23, .ref a24]) m25
    have f25 : (upd G24 a25 (.lst [.ref a15, .ref a18, .ref a21, .non, .ref a22, .ref a23, .ref a24])) a25 = some (.lst [.ref a15, .ref a18, .ref a21, .non, .ref a22, .ref a23, .ref a24]) := upd_same
    generalize upd G24 a25 (.lst [.ref a15, .ref a18, .ref a21, .non, .ref a22, .ref a23, .ref a24]) = G25 at S25 f25 ⊢
    have R25 := Same.refl G25
    have R24 := S25.trans R25
    have R23 := S24.trans R24
    have R22 := S23.trans R23
    have R21 := S22.trans R22
    have R20 := S21.trans R21
    have R19 := S20.trans R20
    have R18 := S19.trans R19
    have R17 := S18.trans R18
    have R16 := S17.trans R17
    have R15 := S16.trans R16
    have R14 := S15.trans R15
    have R13 := S14.trans R14
    have R12 := S13.trans R13
    have R11 := S12.trans R12
    have R10 := S11.trans R11
    have R9 := S10.trans R10
    have R8 := S9.trans R9
    have R7 := S8.trans R8
    have R6 := S7.trans R7
    have R5 := S6.trans R6
    have R4 := S5.trans R5
    have R3 := S4.trans R4
    have R2 := S3.trans R3
    have R1 := S2.trans R2
    refine ⟨.list [.list ([(0, 4), (4, 6), (6, 7)].map nd), .list ([(0, 7), (4, 7)].map nd), .tuple ([(4, 6), (6, 7)].map nd), .none, nd (4, 7), nd (4, 7), .list (([] : List (Nat × Nat)).map nd)], .list [.list ([(0, 4), (4, 6), (6, 7)].map nd), .list ([(0, 7), (4, 7)].map nd), .tuple ([(4, 6), (6, 7)].map nd), .none, nd (4, 7), nd (4, 7), .list (([] : List (Nat × Nat)).map nd)], ?_, ?_, ?_, ?_, ?_⟩
    · exact .lst (SqL.of (R11 _ _ f11)) (.cons (lst_dp (R1 _ _ hp1) (hx1.mono (fun v x (k : Nd G1 v x) => k.same R1))) (.cons (lst_dp (R2 _ _ hp2) (hx2.mono (fun v x (k : Nd G2 v x) => k.same R2))) (.cons (tup_dp (l := [(4, 6), (6, 7)]) (R4 _ _ hp3) (.cons (hl3.same R4) (.cons (hh3.same R4) .nil))) (.cons .non (.cons (Nd.dp (x := (4, 7)) (hu4.same R7)) (.cons (Nd.dp (x := (4, 7)) (hu5.same R9)) (.cons (lst_dp (R10 _ _ hp6) (hx6.mono (fun v x (k : Nd G10 v x) => k.same R10))) .nil)))))))
    · exact .lst (SqL.of (R25 _ _ f25)) (.cons (lst_dp (R15 _ _ f15) (.cons (x := (0, 4)) ⟨a12, rfl, R12 _ _ f12⟩ (.cons (x := (4, 6)) ⟨a13, rfl, R13 _ _ f13⟩ (.cons (x := (6, 7)) ⟨a14, rfl, R14 _ _ f14⟩ .nil)))) (.cons (lst_dp (R18 _ _ f18) (.cons (x := (0, 7)) ⟨a16, rfl, R16 _ _ f16⟩ (.cons (x := (4, 7)) ⟨a17, rfl, R17 _ _ f17⟩ .nil))) (.cons (tup_dp (R21 _ _ f21) (.cons (x := (4, 6)) ⟨a19, rfl, R19 _ _ f19⟩ (.cons (x := (6, 7)) ⟨a20, rfl, R20 _ _ f20⟩ .nil))) (.cons .non (.cons (Nd.dp (x := (4, 7)) ⟨a22, rfl, R22 _ _ f22⟩) (.cons (Nd.dp (x := (4, 7)) ⟨a23, rfl, R23 _ _ f23⟩) (.cons (lst_dp (l := []) (R24 _ _ f24) .nil) .nil)))))))
    · exact sh7
    · exact sh7
    rw [SeqAt.eqv_refl _ (SeqAt.canLay_of_shaped sh7)]
    exact q _
end
end LT

namespace LT
open PySem PySem.Spec PyProof.Rows L2
theorem nod_len {n : Nat} (h : n < 71) (h1 : 1 ≤ n) : (nod n).length = 2 * n - 1 := nodesF_len 8 0 n h1 (by omega)
theorem nod_mem {n : Nat} (h : n < 71) (h1 : 1 ≤ n) (x : Nat × Nat) : x ∈ nod n ↔ isN n x := by
  unfold nod
  rw [mem_nodesF n x 8 0 n h1 (by omega) (tree_root n) (by omega)]
  constructor
  · exact fun z => z.1
  · exact fun z => ⟨z, Nat.zero_le _, by have := z.2.1; omega⟩
theorem pk_at : ∀ (i m b : Nat) (x : Nat × Nat), x ∈ pk i m b → x.1 + 2 ^ x.2 ≤ b + m % 2 ^ i
  | 0, _, _, _, h => by simp [pk] at h
  | i + 1, m, b, x, h => by
    rw [mod_succ]
    unfold pk at h
    cases t : m.testBit i with
    | true =>
      rw [t] at h; simp at h
      rw [if_pos rfl]
      rcases h with h | h
      · subst h; simp only; omega
      · have := pk_at i m _ x h; omega
    | false =>
      rw [t] at h; simp at h
      have := pk_at i m b x h
      rw [if_neg (by decide)]
      omega
theorem pk_small {n : Nat} (h : n ≤ 1000) : ∀ z ∈ pk 101 n 0, small (full z) := fun z hz => by
  have k := pk_at 101 n 0 z hz
  rw [Nat.mod_eq_of_lt (Nat.lt_of_le_of_lt h (by decide))] at k
  have := Nat.pow_pos (a := 2) (n := z.2) (by decide)
  exact ⟨by show z.1 ≤ 1000; omega, by show z.1 + 2 ^ z.2 ≤ 1000; omega⟩
theorem tops_small {n : Nat} (h : n ≤ 1000) : ∀ x ∈ (pk 101 n 0).map full, small x := fun x hx => by
  obtain ⟨z, hz, rfl⟩ := List.mem_map.mp hx
  exact pk_small h z hz
theorem edg_small {n : Nat} (h : n ≤ 1000) : ∀ x ∈ edg n, small x := fun x hx => by
  obtain ⟨y, hy, rfl⟩ := List.mem_map.mp hx
  have k := List.dropLast_subset _ hy
  obtain ⟨z, hz, rfl⟩ := List.mem_map.mp k
  exact ⟨(pk_small h z hz).1, h⟩
theorem big40 {n : Nat} (h : n < 71) : tnV n (.int 0) (.int (10 ^ (40 : Int).toNat)) = false := tn_out (fun z => by
  have : (71 : Int) < 10 ^ (40 : Int).toNat := by decide
  omega)
theorem root_node {n : Nat} (h : 1 ≤ n) : tnV n (.int 0) (.int (n : Int)) = true := by
  refine decide_eq_true ⟨Int.le_refl _, ?_⟩
  rw [Int.toNat_natCast]
  exact ⟨h, Nat.le_refl _, tree_root n⟩
theorem Nd.but {H H' : Hp} {v : V} {x : Nat × Nat} {bg : Addr} (h : Nd H v x) (hb : BagAt H bg) (B : But bg H H') : Nd H' v x := by
  obtain ⟨p, e, q⟩ := h
  refine ⟨p, e, B _ _ (fun z => ?_) q⟩
  obtain ⟨_, _, _, e2⟩ := hb
  rw [← z, q] at e2
  cases e2
section
variable {P : Program} {w : World} {K : PySem.W.Frag} {mg : Str → Option Value} {base : Heap}
theorem ok_law_right {f g1 g2 g3 g4 g5 g6 g7 g8 g9 g10 : Addr} {fd d1 d2 d3 d4 d5 d6 d7 d8 d9 d10 : FuncData} (F : Fun K "_law_right" "_law_right" sLawRight f fd)
    (GLawNodes : FnOk P w K mg base CX0 9 g1 d1 ["node"] (spNodes 8)) (ALawNodes : At K mg "_law_nodes" g1 d1 ["node"])
    (GLawKinRight : GOk P w K mg base 7 g2 d2 ["size", "node"] spKin) (ALawKinRight : At K mg "_law_kin_right" g2 d2 ["size", "node"])
    (GParent : FnOk P w K mg base CX0 5 g3 d3 ["size", "node"] spParent) (AParent : At K mg "parent" g3 d3 ["size", "node"])
    (GSibling : FnOk P w K mg base CX0 6 g4 d4 ["size", "node"] spSibling) (ASibling : At K mg "sibling" g4 d4 ["size", "node"])
    (GLawIsFull : FnOk P w K mg base CX0 1 g5 d5 ["node"] spFull) (ALawIsFull : At K mg "_law_is_full" g5 d5 ["node"])
    (GPeaks : FnOk P w K mg base CX0 4 g6 d6 ["size"] spTops) (APeaks : At K mg "peaks" g6 d6 ["size"])
    (GEdges : FnOk P w K mg base CX0 5 g7 d7 ["size"] spEdges) (AEdges : At K mg "edges" g7 d7 ["size"])
    (GLawPeaks : FnOk P w K mg base CX0 1 g8 d8 ["size"] spPeaks) (ALawPeaks : At K mg "_law_peaks" g8 d8 ["size"])
    (GIsNode : FnOk P w K mg base CX0 4 g9 d9 ["size", "value"] (spIsNode K)) (AIsNode : At K mg "is_node" g9 d9 ["size", "value"])
    (GLawPick : FnOk P w K mg base CX0 1 g10 d10 ["bag", "many"] spPick) (ALawPick : At K mg "_law_pick" g10 d10 ["bag", "many"])
    (z_repr : mg "repr" = none) (z_sorted : mg "sorted" = none) (z_range : mg "range" = none) :
    GOk P w K mg base 10 f fd ["bag", "size"] spRight := by
  refine okG F scLawRight (fun vs H Q E h => ?_) (fun cdv A outer s H vs Q hg hr h => ?_)
  · obtain ⟨_, _, rfl, _⟩ := h
    rfl
  obtain ⟨bg, n, rfl, hn, n1, hb, q⟩ := h
  refine' ⟨_, (pss_cons (ps_set (i := 2) scLawRight.nd rfl (Or.inl rfl) (pe_call GLawNodes (hr.mono (by decide)) rfl ALawNodes.m ALawNodes.kp ALawNodes.b .nil pass0 (pa_cons (pe_tup (pa_cons pe_int (pa_cons (pv 1) pa_nil))) pa_nil)))
    (pss_cons (ps_if (pt_cmpR (op_neD hr.units) (pe_lc (own := [("node", 3)]) rfl scLawRight.nd (pi_list (pv 2)) (blkOk_by (N := ["bag", "size", "every", "node", "bare", "turn", "told", "odd", "value"]) (sc := defScope sLawRight) (by decide +kernel)) (fun _ _ _ _ _ => (pg_name (i := 3) scLawRight.nd rfl (Or.inl rfl))) (fun _ _ _ _ _ => pts_one (pt_not (pt_val (pe_callG GLawKinRight hg (hr.mono (by decide)) rfl ALawKinRight.m ALawKinRight.kp ALawKinRight.b (pa_cons (pv 1) (pa_cons (pv 3) pa_nil)))))) (fun _ _ _ _ _ => (pv 3))) (pe_lst pa_nil) (nomark _))
    (pss_one (ps_ret pe_bl))
    pss_nil)
    (pss_cons (ps_if (PW.pt (pw_or (pt_cmpR op_notN (pe_call GParent (hr.mono (by decide)) rfl AParent.m AParent.kp AParent.b .nil pass0 (pa_cons (pv 1) (pa_cons (pe_tup (pa_cons pe_int (pa_cons (pv 1) pa_nil))) pa_nil))) pe_non (nomark _)) (pw_or1 (pt_cmpR op_notN (pe_call GSibling (hr.mono (by decide)) rfl ASibling.m ASibling.kp ASibling.b .nil pass0 (pa_cons (pv 1) (pa_cons (pe_tup (pa_cons pe_int (pa_cons (pv 1) pa_nil))) pa_nil))) pe_non (nomark _)))))
    (pss_one (ps_ret pe_bl))
    pss_nil)
    (pss_cons (ps_set (i := 4) scLawRight.nd rfl (Or.inl rfl) (pe_callB cr_sortedPO (by rfl) z_sorted (by decide +kernel) (pa_cons (pe_lc (own := [("node", 3)]) rfl scLawRight.nd (pi_list (pv 2)) (blkOk_by (N := ["bag", "size", "every", "node", "bare", "turn", "told", "odd", "value"]) (sc := defScope sLawRight) (by decide +kernel)) (fun _ _ _ _ _ => (pg_name (i := 3) scLawRight.nd rfl (Or.inl rfl))) (fun _ _ _ _ _ => pts_one (pt_not (pt_val (pe_call GLawIsFull (hr.mono (by decide)) rfl ALawIsFull.m ALawIsFull.kp ALawIsFull.b .nil pass0 (pa_cons (pv 3) pa_nil))))) (fun _ _ _ _ _ => (pv 3))) pa_nil)))
    (pss_cons (ps_for PassesOwn.never rfl (pi_tup (pe_tup (pa_cons pe_int (pa_cons pe_int pa_nil)))) (pg_name (i := 5) scLawRight.nd rfl (Or.inl rfl))
    (pss_cons (ps_set (i := 6) scLawRight.nd rfl (Or.inl rfl) (pe_lst (pa_cons (pe_call GPeaks (hr.mono (by decide)) rfl APeaks.m APeaks.kp APeaks.b .nil pass0 (pa_cons (pv 1) pa_nil)) (pa_cons (pe_call GEdges (hr.mono (by decide)) rfl AEdges.m AEdges.kp AEdges.b .nil pass0 (pa_cons (pv 1) pa_nil)) pa_nil))))
    (pss_cons (ps_if (pt_cmpR op_ne (pe_callB (call_repr hg (units1 hr)) (by rfl) z_repr (by decide +kernel) (pa_cons (pv 6) pa_nil)) (pe_callB (call_repr hg (units1 hr)) (by rfl) z_repr (by decide +kernel) (pa_cons (pe_lst (pa_cons (pe_call GLawPeaks (hr.mono (by decide)) rfl ALawPeaks.m ALawPeaks.kp ALawPeaks.b .nil pass0 (pa_cons (pv 1) pa_nil)) (pa_cons (pv 4) pa_nil))) pa_nil)) (nomark _))
    (pss_one (ps_ret pe_bl))
    pss_nil)
    (pss_cons (ps_expr (pe_bm PySem.F.plainAttrs_list PySem.F.slot_list_append PySem.F.type_list_append mt_append (pe_ix ix_list (pv 6) pe_int (fun _ _ => rfl)) (pa_cons pe_non pa_nil)))
    (pss_one (ps_expr (pe_bm PySem.F.plainAttrs_list PySem.F.slot_list_append PySem.F.type_list_append mt_append (pe_ix ix_list (pv 6) pe_int (fun _ _ => rfl)) (pa_cons pe_non pa_nil))))))))
    (pss_cons (ps_for PassesOwn.never rfl (pi_range1 (by rfl) z_range (pa_cons pe_int pa_nil)) (pg_name (i := 5) scLawRight.nd rfl (Or.inl rfl))
    (pss_cons (ps_set (i := 3) scLawRight.nd rfl (Or.inl rfl) (pe_tup (pa_cons (pe_call GLawPick (hr.mono (by decide)) rfl ALawPick.m ALawPick.kp ALawPick.b .nil pass0 (pa_cons (pv 0) (pa_cons (pe_op op_add (pv 1) pe_int) pa_nil))) (pa_cons (pe_call GLawPick (hr.mono (by decide)) rfl ALawPick.m ALawPick.kp ALawPick.b .nil pass0 (pa_cons (pv 0) (pa_cons (pe_op op_add (pv 1) pe_int) pa_nil))) pa_nil))))
    (pss_one (ps_if (pt_cmpR op_ne (pe_callB call_reprS (by rfl) z_repr (by decide +kernel) (pa_cons (pe_call GIsNode (hr.mono (by decide)) rfl AIsNode.m AIsNode.kp AIsNode.b .nil pass0 (pa_cons (pv 1) (pa_cons (pv 3) pa_nil))) pa_nil)) (pe_callB call_reprS (by rfl) z_repr (by decide +kernel) (pa_cons (pe_cmpR (op_inD (units1 hr)) (pv 3) (pv 2) (by rfl)) pa_nil)) (nomark _))
    (pss_one (ps_ret pe_bl))
    pss_nil))))
    (pss_cons (ps_set (i := 7) scLawRight.nd rfl (Or.inl rfl) (pe_lst (pa_cons pe_non (pa_cons pe_int (pa_cons pe_bl (pa_cons pe_str (pa_cons pe_str (pa_cons (pe_lst pa_nil) (pa_cons (pe_lst (pa_cons pe_int (pa_cons pe_int pa_nil))) (pa_cons (pe_tup pa_nil) (pa_cons (pe_tup (pa_cons pe_int pa_nil)) (pa_cons (pe_tup (pa_cons pe_int (pa_cons pe_int (pa_cons pe_int pa_nil)))) (pa_cons (pe_tup (pa_cons pe_int (pa_cons pe_non pa_nil))) (pa_cons (pe_tup (pa_cons pe_str (pa_cons pe_str pa_nil))) (pa_cons pe_dnewK (pa_cons (pe_tup (pa_cons pe_bl (pa_cons pe_int pa_nil))) pa_nil))))))))))))))))
    (pss_cons (ps_set (i := 7) scLawRight.nd rfl (Or.inl rfl) (pe_op op_cat (pv 7) (pe_lst (pa_cons (pe_tup (pa_cons pe_int (pa_cons pe_bl pa_nil))) (pa_cons (pe_tup (pa_cons (pe_un un_neg pe_int) (pa_cons pe_int pa_nil))) (pa_cons (pe_tup (pa_cons pe_int (pa_cons pe_int pa_nil))) (pa_cons (pe_tup (pa_cons pe_int (pa_cons pe_int pa_nil))) (pa_cons (pe_tup (pa_cons pe_int (pa_cons (pe_op op_add (pv 1) pe_int) pa_nil))) (pa_cons (pe_tup (pa_cons (pv 1) (pa_cons (pe_op op_add (pv 1) pe_int) pa_nil))) (pa_cons (pe_tup (pa_cons (pe_op op_sub pe_int (pv 1)) (pa_cons (pv 1) pa_nil))) pa_nil))))))))))
    (pss_cons (ps_set (i := 7) scLawRight.nd rfl (Or.inl rfl) (pe_op op_cat (pv 7) (pe_lst (pa_cons (pe_tup (pa_cons pe_int (pa_cons (pe_op op_pow pe_int pe_int) pa_nil))) (pa_cons (pe_tup (pa_cons (pe_tup (pa_cons pe_int (pa_cons pe_int pa_nil))) pa_nil)) pa_nil)))))
    (pss_one (ps_ret (pe_and (pe_cmpR (op_eqD hr.units) (pe_lc (own := [("value", 8)]) rfl scLawRight.nd (pi_list (pv 7)) (blkOk_by (N := ["bag", "size", "every", "node", "bare", "turn", "told", "odd", "value"]) (sc := defScope sLawRight) (by decide +kernel)) (fun _ _ _ _ _ => (pg_name (i := 8) scLawRight.nd rfl (Or.inl rfl))) (fun _ _ _ _ _ => pts_one (pt_cmpR op_notBl (pe_call GIsNode (hr.mono (by decide)) rfl AIsNode.m AIsNode.kp AIsNode.b .nil pass0 (pa_cons (pv 1) (pa_cons (pv 8) pa_nil))) pe_bl (nomark _))) (fun _ _ _ _ _ => (pv 8))) (pe_lst pa_nil) (nomark _)) (pe_one (pe_cmpR op_isBl (pe_call GIsNode (hr.mono (by decide)) rfl AIsNode.m AIsNode.kp AIsNode.b .nil pass0 (pa_cons (pv 1) (pa_cons (pe_tup (pa_cons pe_int (pa_cons (pv 1) pa_nil))) pa_nil))) pe_bl (nomark _))))))))))))))), ?_⟩
  have two : 2 ≤ sizeLine := by decide
  have h30 : n ≤ 10 ^ 30 := by omega
  -- every
  refine ⟨_, rfl, two, fun t1 nt1 => ?_⟩
  have st1 := same_upd (o := .tup [.int 0, .int (n : Int)]) nt1
  refine ⟨0, n, _, rfl, ⟨t1, rfl, by rw [upd_same, Nat.zero_add]; rfl⟩, n1, by omega, by omega, fun H1 p1 xs s1 np1 hp1 hx => ?_⟩
  have sH1 := st1.trans s1
  have hb1 := hb.same sH1
  have lenN := nod_len hn n1
  have xl : xs.length = 2 * n - 1 := by rw [hx.len]; exact lenN
  have hx : All2 (Nd H1) xs (nod n) := hx
  have et : (nod n).take xs.length = nod n := List.take_of_length_le (by rw [hx.len]; exact Nat.le_refl _)
  -- the kin of each
  refine ⟨_, rfl, p1, rfl, ⟨_, SqL.of hp1⟩, fun D nD => lc_list (xs := xs) (fun i H' => Same H1 H' ∧ H' D = some (.lst [])) ⟨same_upd nD, upd_same⟩ (fun i H' _ k => SqL.of (k.1 _ _ hp1)) ?_ ?_⟩
  · rintro i x H2 hi ⟨s2, hD⟩
    obtain ⟨y, hyN, hny⟩ := hx.nth hi
    have yN := (nod_mem hn n1 y).mp (List.mem_of_getElem? hyN)
    have ey : y.1 + (y.2 - y.1) = y.2 := by have := yN.1; omega
    refine ⟨rfl, ?_⟩
    refine ⟨_, rfl, _, rfl, n, y.1, y.2 - y.1, x, rfl, by rw [ey]; exact hny.same s2, by have := yN.1; omega, by have := yN.2.1; omega, by omega, yN.2.2, fun H3 s3 => ⟨true, rfl, ?_⟩⟩
    exact ⟨s2.trans s3, s3 _ _ hD⟩
  rintro H2 ⟨s2, hD⟩
  refine ⟨by decide, fun l1 nl1 => ?_⟩
  have sl1 := same_upd (o := .lst []) nl1
  refine ⟨.list [], .list [], .lst (SqL.of (sl1 _ _ hD)) .nil, .lst (SqL.of upd_same) .nil, nil_shaped, nil_shaped, false, ?_, iteF ?_⟩
  · refine congrArg V.bl ?_
    rw [Bool.not_eq_false']
    exact SeqAt.eqv_refl _ (SeqAt.canLay_of_shaped nil_shaped)
  have s3 := s2.trans sl1
  have hp3 := s3 _ _ hp1
  have hx3 := hx.mono (fun v x (k : Nd H1 v x) => k.same s3)
  have sH3 := sH1.trans s3
  generalize upd H2 l1 (.lst []) = H3 at hp3 hx3 sH3
  -- the root
  refine ⟨_, rfl, _, rfl, two, fun t4 nt4 => ?_⟩
  have s4 := same_upd (o := .tup [.int 0, .int (n : Int)]) nt4
  refine ⟨n, (0, n), _, rfl, ⟨t4, rfl, upd_same⟩, n1, h30, .inl ⟨rfl, fun H5 s5 => ?_⟩⟩
  refine ⟨rfl, false, rfl, ?_⟩
  refine ⟨_, rfl, _, rfl, two, fun t6 nt6 => ?_⟩
  have s6 := same_upd (o := .tup [.int 0, .int (n : Int)]) nt6
  refine ⟨n, (0, n), _, rfl, ⟨t6, rfl, upd_same⟩, n1, h30, .inl ⟨rfl, fun H7 s7 => ?_⟩⟩
  refine ⟨rfl, false, rfl, ?_⟩
  refine iteF ?_
  have s37 := s4.trans (s5.trans (s6.trans s7))
  have hp7 := s37 _ _ hp3
  have hx7 := hx3.mono (fun v x (k : Nd H3 v x) => k.same s37)
  have sH7 := sH3.trans s37
  -- the edges
  refine ⟨_, rfl, p1, rfl, ⟨_, SqL.of hp7⟩, fun D2 nD2 => lc_list (xs := xs) (fun i H' => ∃ zs : List V, Same H7 H' ∧ H' D2 = some (.lst zs) ∧ All2 (Nd H') zs (((nod n).take i).filter fun x => !fl x)) ⟨[], same_upd nD2, upd_same, .nil⟩ (fun i H' _ ⟨_, k, _⟩ => SqL.of (k _ _ hp7)) ?_ ?_⟩
  · rintro i x H8 hi ⟨zs, s8, hD, hz⟩
    obtain ⟨y, hyN, hny⟩ := hx7.nth hi
    have il : i < (nod n).length := (List.getElem?_eq_some_iff.mp hyN).1
    have yN := (nod_mem hn n1 y).mp (List.mem_of_getElem? hyN)
    have zl : zs.length ≤ 141 := by
      rw [hz.len]
      refine Nat.le_trans (List.length_filter_le _ _) ?_
      rw [List.length_take]
      omega
    refine ⟨rfl, ?_⟩
    refine ⟨_, rfl, y, _, rfl, hny.same s8, yN.1, fl y, rfl, ?_⟩
    have tk := take_more hyN
    cases hf : fl y with
    | true =>
      refine ⟨zs, s8, hD, ?_⟩
      rw [tk, List.filter_append, List.filter_cons, if_neg (by rw [hf]; decide), List.filter_nil, List.append_nil]
      exact hz
    | false =>
      refine ⟨_, rfl, zs, hD, szlt (by omega), zs ++ [x], ?_, upd_same, ?_⟩
      · exact fun a o k => by rw [upd_ne (ne_of_none k nD2)]; exact s8 _ _ k
      · rw [tk, List.filter_append, List.filter_cons, if_pos (by rw [hf]; decide), List.filter_nil]
        exact (hz.mono (fun v x (k : Nd H8 v x) => k.upd hD)).app (.cons ((hny.same s8).upd hD) .nil)
  rintro H8 ⟨zs, s8, hD2, hz⟩
  rw [et, bare_ok n hn n1] at hz
  refine ⟨D2, zs, kOf H8, rfl, SqL.of hD2, fun x hx' => ?_, fun ys p9 srt stb np9 => ?_⟩
  · obtain ⟨y, _, t, rfl, ht⟩ := hz.mem hx'
    exact ⟨t, rfl, by rw [kOf_nd (x := y) ⟨t, rfl, ht⟩]; exact ht⟩
  have hbare : All2 (Nd H8) ys (edg n) := sorted_is hz (edg_up n hn) srt stb.perm
  have s9 := same_upd (o := .lst ys) np9
  have s79 := s8.trans s9
  have hp9 : (upd H8 p9 (.lst ys)) p9 = some (.lst ys) := upd_same
  have hy9 := hbare.mono (fun v x (k : Nd H8 v x) => k.same s9)
  have hx9 := hx7.mono (fun v x (k : Nd H7 v x) => k.same s79)
  have hp19 := s79 _ _ hp7
  have sH9 := sH7.trans s79
  generalize upd H8 p9 (.lst ys) = H9 at s9 s79 hp9 hy9 hx9 hp19 sH9
  refine ⟨two, fun tt ntt => ?_⟩
  have stt := same_upd (o := .tup [.int 0, .int 1]) ntt
  have htt : (upd H9 tt (.tup [.int 0, .int 1])) tt = some (.tup [.int 0, .int 1]) := upd_same
  generalize upd H9 tt (.tup [.int 0, .int 1]) = H10 at stt htt
  have eL : ((pk 101 n 0).map full).length ≤ 101 := by rw [List.length_map]; exact pk_len 101 n 0
  have eE : (edg n).length ≤ 101 := by unfold edg; rw [List.length_map, List.length_dropLast]; omega
  refine ⟨tt, rfl, ⟨_, SqT.of htt⟩, for_tup (K := K) (a := tt) (xs := [.int 0, .int 1]) (fun i σ H' => ∃ v5 v6 : Option V, σ = [some (.ref bg), some (.int n), some (.ref p1), none, some (.ref p9), v5, v6, none, none] ∧ Same H10 H')
    ⟨none, none, rfl, Same.refl _⟩ (fun i σ H' _ ⟨_, _, _, s5⟩ => SqT.of (s5 _ _ htt)) ?_ ?_⟩
  · rintro i x σ H11 hi ⟨v5, v6, rfl, s11⟩
    refine ⟨_, rfl, n, rfl, n1, h30, fun H12 q12 us s12 nq12 hq12 hu => ?_⟩
    refine ⟨_, rfl, n, rfl, n1, h30, fun H13 q13 vs s13 nq13 hq13 hv => ⟨two, fun l14 nl14 => ?_⟩⟩
    have hv : All2 (Nd H13) vs (edg n) := hv
    have s14 := same_upd (o := .lst [.ref q12, .ref q13]) nl14
    have ts := tops_small (n := n) (by omega)
    have es := edg_small (n := n) (by omega)
    have h14 : (upd H13 l14 (.lst [.ref q12, .ref q13])) l14 = some (.lst [.ref q12, .ref q13]) := upd_same
    have hq12' := s14 _ _ (s13 _ _ hq12)
    have hq13' := s14 _ _ hq13
    have hu' := hu.mono (fun v x (k : Nd H12 v x) => k.same (s13.trans s14))
    have hv' := hv.mono (fun v x (k : Nd H13 v x) => k.same s14)
    have q123 : q13 ≠ q12 := fun z => by rw [z, hq12] at nq13; cases nq13
    have s114 := s12.trans (s13.trans s14)
    generalize upd H13 l14 (.lst [.ref q12, .ref q13]) = H14 at h14 hq12' hq13' hu' hv' s114
    refine ⟨_, rfl, _, dbl ((pk 101 n 0).map full) (edg n), rfl, dbl_dp h14 hq12' hq13' hu' hv', rfl, dbl_shaped _ _, dbl_showable _ _ ts es, dbl_fits _ _ ts es (by omega) (by omega), ?_⟩
    refine ⟨_, rfl, n, rfl, fun H15 q15 us2 s15 nq15 hq15 hu2 => ?_⟩
    refine ⟨_, rfl, two, fun l16 nl16 => ?_⟩
    have s16 := same_upd (o := .lst [.ref q15, .ref p9]) nl16
    have sb := stt.trans (s11.trans (s114.trans (s15.trans s16)))
    refine ⟨_, dbl ((pk 101 n 0).map full) (edg n), rfl, dbl_dp upd_same (s16 _ _ hq15) (sb _ _ hp9) (hu2.mono (fun v x (k : Nd H15 v x) => k.same s16)) (hy9.mono (fun v x (k : Nd H9 v x) => k.same sb)), rfl, dbl_shaped _ _, dbl_showable _ _ ts es, dbl_fits _ _ ts es (by omega) (by omega), rfl, false, ?_, iteF ?_⟩
    · refine congrArg V.bl ?_
      rw [Bool.not_eq_false']
      exact decide_eq_true rfl
    have s1516 := s15.trans s16
    have h16 := s1516 _ _ h14
    have hq12s := s1516 _ _ hq12'
    have hq13s := s1516 _ _ hq13'
    have s1016 := s11.trans (s114.trans s1516)
    have nq12' : H10 q12 = none := s11.free nq12
    have nq13' : H10 q13 = none := (s11.trans s12).free nq13
    generalize upd H15 l16 (.lst [.ref q15, .ref p9]) = H16 at h16 hq12s hq13s s1016
    refine ⟨_, rfl, l14, _, _, _, rfl, rfl, SqL.of h16, atI_nat (j := 0) rfl, .inl ⟨rfl, _, SqL.of hq12s⟩, q12, _, _, rfl, rfl, hq12s, szlt (by rw [hu.len]; omega), ?_⟩
    have l14q : l14 ≠ q12 := fun z => by rw [z, s13 _ _ hq12] at nl14; cases nl14
    have h17 : (upd H16 q12 (.lst (us ++ [.non]))) l14 = some (.lst [.ref q12, .ref q13]) := by rw [upd_ne l14q]; exact h16
    have hq13t : (upd H16 q12 (.lst (us ++ [.non]))) q13 = some (.lst vs) := by rw [upd_ne q123]; exact hq13s
    have s17 : Same H10 (upd H16 q12 (.lst (us ++ [.non]))) := fun a o k => by rw [upd_ne (ne_of_none k nq12')]; exact s1016 _ _ k
    generalize upd H16 q12 (.lst (us ++ [.non])) = H17 at h17 hq13t s17
    refine ⟨_, rfl, l14, _, _, _, rfl, rfl, SqL.of h17, atI_nat (j := 1) rfl, .inl ⟨rfl, _, SqL.of hq13t⟩, q13, _, _, rfl, rfl, hq13t, szlt (by rw [hv.len]; omega), ?_⟩
    exact ⟨_, _, rfl, fun a o k => by rw [upd_ne (ne_of_none k nq13')]; exact s17 _ _ k⟩
  rintro σ H11 ⟨v5, v6, rfl, s11⟩
  have p1b : p1 ≠ bg := fun z => by
    obtain ⟨_, _, _, e⟩ := hb.same st1
    rw [← z, np1] at e
    cases e
  have s911 := stt.trans s11
  have hp11 := s911 _ _ hp19
  have hx11 := hx9.mono (fun v x (k : Nd H9 v x) => k.same s911)
  have sH11 := sH9.trans s911
  have hb11 := hb.same sH11
  -- pairs
  refine ⟨30, rfl, by decide, by decide, for_range (lo := 0) (n := 30) (fun i σ H' => ∃ v3 v5 : Option V, σ = [some (.ref bg), some (.int n), some (.ref p1), v3, some (.ref p9), v5, v6, none, none] ∧ But bg H11 H' ∧ BagAt H' bg)
    ⟨none, v5, rfl, But.refl _ _, hb11⟩ ?_ ?_⟩
  · rintro i σ H12 hi ⟨v3, v5, rfl, B12, hb12⟩
    refine ⟨_, rfl, _, rfl, _, _, rfl, rfl, bg, (n : Int) + 3, rfl, by omega, (show _ < 2 ^ 250 by omega), hb12, fun r H13 r0 r1 k13 hb13 => ?_⟩
    obtain ⟨a, rfl⟩ := Int.eq_ofNat_of_zero_le r0
    refine ⟨_, rfl, _, rfl, _, _, rfl, rfl, bg, (n : Int) + 4, rfl, by omega, (show _ < 2 ^ 250 by omega), hb13, fun r H14 r140 r141 k14 hb14 => ⟨two, fun t nt => ?_⟩⟩
    obtain ⟨b, rfl⟩ := Int.eq_ofNat_of_zero_le r140
    have st := same_upd (o := .tup [.int (a : Int), .int (b : Int)]) nt
    have B14 : But bg H11 H14 := fun u o h k => by rw [k14 u h, k13 u h]; exact B12 u o h k
    have B15 := B14.trans (But.of st)
    have ht : (upd H14 t (.tup [.int (a : Int), .int (b : Int)])) t = some (.tup [.int (a : Int), .int (b : Int)]) := upd_same
    have hb15 := hb14.same st
    generalize upd H14 t (.tup [.int (a : Int), .int (b : Int)]) = H15 at st B15 ht hb15
    have ev : tnV n (.int (a : Int)) (.int (b : Int)) = decide ((a, b) ∈ nod n) := by
      show decide (0 ≤ (a : Int) ∧ isN n ((a : Int).toNat, (b : Int).toNat)) = decide ((a, b) ∈ nod n)
      rw [Int.toNat_natCast, Int.toNat_natCast]
      have k := nod_mem hn n1 (a, b)
      by_cases c : isN n (a, b)
      · rw [decide_eq_true (k.mpr c), decide_eq_true ⟨Int.natCast_nonneg _, c⟩]
      · rw [decide_eq_false (fun z => c (k.mp z)), decide_eq_false (fun z => c z.2)]
    refine ⟨_, rfl, _, rfl, n, _, _, rfl, n1, h30, .pair ht (.int _) (.int _), _, rfl, trivial, ?_⟩
    refine ⟨_, rfl, _, rfl, nd (a, b), (nod n).map nd, .tup (SqT.of ht) (.cons (.int _) (.cons (.int _) .nil)), .lst (SqL.of (B15 _ _ p1b hp11)) (nds_dp (hx11.mono (fun v x (k : Nd H11 v x) => k.but hb11 B15))), nd_shaped _ _, nds_shaped _, ?_⟩
    have ea : ((nod n).map nd).any (fun z => PyData.eqv z (nd (a, b))) = decide ((a, b) ∈ nod n) := nds_any (nod n) (a, b)
    refine ⟨_, rfl, trivial, rfl, false, ?_, iteF ?_⟩
    · rw [ea, ev]
      refine congrArg V.bl ?_
      rw [Bool.not_eq_false']
      exact decide_eq_true rfl
    exact ⟨_, _, rfl, B15, hb15⟩
  rintro σ H12 ⟨v3, v5', rfl, B12, hb12⟩
  have BH : But bg H H12 := (But.of sH11).trans B12
  have S0 : Same H12 H12 := Same.refl _
  have T0 : Same H12 H12 := Same.refl _
  have N0 : NoNd K H12 n [.non, .int 0, .bl true, .str "", .str "0-1"] := ((((NoNd.nil.put (.kind .non (by decide))).put (.kind (.int 0) (by decide))).put (.kind (.bl true) (by decide))).put (.kind (.str "") (by decide))).put (.kind (.str "0-1") (by decide))
  refine ⟨(by show 0 ≤ sizeLine; decide), fun a1 m1 => ?_⟩
  have S1 := S0.trans (same_upd (o := .lst []) m1)
  have T1 := T0.trans (same_upd (o := .lst []) m1)
  have N1 : NoNd K (upd H12 a1 (.lst [])) n _ := N0.lst m1
  generalize upd H12 a1 (.lst []) = G1 at S1 T1 N1 ⊢
  refine ⟨(by show 2 ≤ sizeLine; decide), fun a2 m2 => ?_⟩
  have S2 := S1.trans (same_upd (o := .lst [.int 0, .int 1]) m2)
  have T2 := T1.trans (same_upd (o := .lst [.int 0, .int 1]) m2)
  have N2 : NoNd K (upd G1 a2 (.lst [.int 0, .int 1])) n _ := N1.lst m2
  generalize upd G1 a2 (.lst [.int 0, .int 1]) = G2 at S2 T2 N2 ⊢
  refine ⟨(by show 0 ≤ sizeLine; decide), fun a3 m3 => ?_⟩
  have S3 := S2.trans (same_upd (o := .tup []) m3)
  have T3 := T2.trans (same_upd (o := .tup []) m3)
  have N3 : NoNd K (upd G2 a3 (.tup [])) n _ := N2.long m3 (by decide) (by decide)
  generalize upd G2 a3 (.tup []) = G3 at S3 T3 N3 ⊢
  refine ⟨(by show 1 ≤ sizeLine; decide), fun a4 m4 => ?_⟩
  have S4 := S3.trans (same_upd (o := .tup [.int 0]) m4)
  have T4 := T3.trans (same_upd (o := .tup [.int 0]) m4)
  have N4 : NoNd K (upd G3 a4 (.tup [.int 0])) n _ := N3.long m4 (by simp) (by simp)
  generalize upd G3 a4 (.tup [.int 0]) = G4 at S4 T4 N4 ⊢
  refine ⟨(by show 3 ≤ sizeLine; decide), fun a5 m5 => ?_⟩
  have S5 := S4.trans (same_upd (o := .tup [.int 0, .int 1, .int 1]) m5)
  have T5 := T4.trans (same_upd (o := .tup [.int 0, .int 1, .int 1]) m5)
  have N5 : NoNd K (upd G4 a5 (.tup [.int 0, .int 1, .int 1])) n _ := N4.long m5 (by simp) (by simp)
  generalize upd G4 a5 (.tup [.int 0, .int 1, .int 1]) = G5 at S5 T5 N5 ⊢
  refine ⟨(by show 2 ≤ sizeLine; decide), fun a6 m6 => ?_⟩
  have S6 := S5.trans (same_upd (o := .tup [.int 0, .non]) m6)
  have T6 := T5.trans (same_upd (o := .tup [.int 0, .non]) m6)
  have N6 : NoNd K (upd G5 a6 (.tup [.int 0, .non])) n _ := N5.pair m6 (fun _ => .int _) (fun _ => .non) rfl
  generalize upd G5 a6 (.tup [.int 0, .non]) = G6 at S6 T6 N6 ⊢
  refine ⟨(by show 2 ≤ sizeLine; decide), fun a7 m7 => ?_⟩
  have S7 := S6.trans (same_upd (o := .tup [.str "0", .str "1"]) m7)
  have T7 := T6.trans (same_upd (o := .tup [.str "0", .str "1"]) m7)
  have N7 : NoNd K (upd G6 a7 (.tup [.str "0", .str "1"])) n _ := N6.pair m7 (fun _ => .str _) (fun _ => .str _) rfl
  generalize upd G6 a7 (.tup [.str "0", .str "1"]) = G7 at S7 T7 N7 ⊢
  refine fun a8 m8 => ?_
  have S8 := S7.trans (same_upd (o := .dK []) m8)
  have T8 := T7.trans (same_upd (o := .dK []) m8)
  have N8 : NoNd K (upd G7 a8 (.dK [])) n _ := N7.dict m8
  generalize upd G7 a8 (.dK []) = G8 at S8 T8 N8 ⊢
  refine ⟨(by show 2 ≤ sizeLine; decide), fun a9 m9 => ?_⟩
  have S9 := S8.trans (same_upd (o := .tup [.bl false, .int 1]) m9)
  have T9 := T8.trans (same_upd (o := .tup [.bl false, .int 1]) m9)
  have N9 : NoNd K (upd G8 a9 (.tup [.bl false, .int 1])) n _ := N8.pair m9 (fun _ => .bl _) (fun _ => .int _) rfl
  generalize upd G8 a9 (.tup [.bl false, .int 1]) = G9 at S9 T9 N9 ⊢
  refine ⟨(by show 14 ≤ sizeLine; decide), fun l1 m10 => ?_⟩
  have S10 := S9.trans (same_upd (o := .lst [.non, .int 0, .bl true, .str "", .str "0-1", .ref a1, .ref a2, .ref a3, .ref a4, .ref a5, .ref a6, .ref a7, .ref a8, .ref a9]) m10)
  have T10 := T9.trans (same_upd (o := .lst [.non, .int 0, .bl true, .str "", .str "0-1", .ref a1, .ref a2, .ref a3, .ref a4, .ref a5, .ref a6, .ref a7, .ref a8, .ref a9]) m10)
  have N10 := N9.same (same_upd (o := .lst [.non, .int 0, .bl true, .str "", .str "0-1", .ref a1, .ref a2, .ref a3, .ref a4, .ref a5, .ref a6, .ref a7, .ref a8, .ref a9]) m10)
  have hl1 : (upd G9 l1 (.lst [.non, .int 0, .bl true, .str "", .str "0-1", .ref a1, .ref a2, .ref a3, .ref a4, .ref a5, .ref a6, .ref a7, .ref a8, .ref a9])) l1 = some (.lst [.non, .int 0, .bl true, .str "", .str "0-1", .ref a1, .ref a2, .ref a3, .ref a4, .ref a5, .ref a6, .ref a7, .ref a8, .ref a9]) := upd_same
  generalize upd G9 l1 (.lst [.non, .int 0, .bl true, .str "", .str "0-1", .ref a1, .ref a2, .ref a3, .ref a4, .ref a5, .ref a6, .ref a7, .ref a8, .ref a9]) = G10 at S10 T10 N10 hl1 ⊢
  have T10 : Same G10 G10 := Same.refl _
  refine ⟨_, rfl, (by show 2 ≤ sizeLine; decide), fun a11 m11 => ?_⟩
  have S11 := S10.trans (same_upd (o := .tup [.int 0, .bl true]) m11)
  have T11 := T10.trans (same_upd (o := .tup [.int 0, .bl true]) m11)
  have N11 : NoNd K (upd G10 a11 (.tup [.int 0, .bl true])) n _ := N10.pair m11 (fun _ => .int _) (fun _ => .bl _) rfl
  generalize upd G10 a11 (.tup [.int 0, .bl true]) = G11 at S11 T11 N11 ⊢
  refine ⟨1, rfl, (by show 2 ≤ sizeLine; decide), fun a12 m12 => ?_⟩
  have S12 := S11.trans (same_upd (o := .tup [.int (-1), .int 0]) m12)
  have T12 := T11.trans (same_upd (o := .tup [.int (-1), .int 0]) m12)
  have N12 : NoNd K (upd G11 a12 (.tup [.int (-1), .int 0])) n _ := N11.pair m12 (fun _ => .int _) (fun _ => .int _) (tn_out (by omega))
  generalize upd G11 a12 (.tup [.int (-1), .int 0]) = G12 at S12 T12 N12 ⊢
  refine ⟨(by show 2 ≤ sizeLine; decide), fun a13 m13 => ?_⟩
  have S13 := S12.trans (same_upd (o := .tup [.int 0, .int 0]) m13)
  have T13 := T12.trans (same_upd (o := .tup [.int 0, .int 0]) m13)
  have N13 : NoNd K (upd G12 a13 (.tup [.int 0, .int 0])) n _ := N12.pair m13 (fun _ => .int _) (fun _ => .int _) (tn_out (by omega))
  generalize upd G12 a13 (.tup [.int 0, .int 0]) = G13 at S13 T13 N13 ⊢
  refine ⟨(by show 2 ≤ sizeLine; decide), fun a14 m14 => ?_⟩
  have S14 := S13.trans (same_upd (o := .tup [.int 1, .int 0]) m14)
  have T14 := T13.trans (same_upd (o := .tup [.int 1, .int 0]) m14)
  have N14 : NoNd K (upd G13 a14 (.tup [.int 1, .int 0])) n _ := N13.pair m14 (fun _ => .int _) (fun _ => .int _) (tn_out (by omega))
  generalize upd G13 a14 (.tup [.int 1, .int 0]) = G14 at S14 T14 N14 ⊢
  refine ⟨_, rfl, _, _, rfl, rfl, (by show 2 ≤ sizeLine; decide), fun a15 m15 => ?_⟩
  have S15 := S14.trans (same_upd (o := .tup [.int 0, .int ((n : Int) + 1)]) m15)
  have T15 := T14.trans (same_upd (o := .tup [.int 0, .int ((n : Int) + 1)]) m15)
  have N15 : NoNd K (upd G14 a15 (.tup [.int 0, .int ((n : Int) + 1)])) n _ := N14.pair m15 (fun _ => .int _) (fun _ => .int _) (tn_out (by omega))
  generalize upd G14 a15 (.tup [.int 0, .int ((n : Int) + 1)]) = G15 at S15 T15 N15 ⊢
  refine ⟨_, rfl, _, rfl, _, _, rfl, rfl, (by show 2 ≤ sizeLine; decide), fun a16 m16 => ?_⟩
  have S16 := S15.trans (same_upd (o := .tup [.int (n : Int), .int ((n : Int) + 1)]) m16)
  have T16 := T15.trans (same_upd (o := .tup [.int (n : Int), .int ((n : Int) + 1)]) m16)
  have N16 : NoNd K (upd G15 a16 (.tup [.int (n : Int), .int ((n : Int) + 1)])) n _ := N15.pair m16 (fun _ => .int _) (fun _ => .int _) (tn_out (by omega))
  generalize upd G15 a16 (.tup [.int (n : Int), .int ((n : Int) + 1)]) = G16 at S16 T16 N16 ⊢
  refine ⟨_, rfl, _, _, rfl, rfl, _, rfl, (by show 2 ≤ sizeLine; decide), fun a17 m17 => ?_⟩
  have S17 := S16.trans (same_upd (o := .tup [.int (0 - (n : Int)), .int (n : Int)]) m17)
  have T17 := T16.trans (same_upd (o := .tup [.int (0 - (n : Int)), .int (n : Int)]) m17)
  have N17 : NoNd K (upd G16 a17 (.tup [.int (0 - (n : Int)), .int (n : Int)])) n _ := N16.pair m17 (fun _ => .int _) (fun _ => .int _) (tn_out (by omega))
  generalize upd G16 a17 (.tup [.int (0 - (n : Int)), .int (n : Int)]) = G17 at S17 T17 N17 ⊢
  refine ⟨(by show 7 ≤ sizeLine; decide), fun l2 m18 => ?_⟩
  have S18 := S17.trans (same_upd (o := .lst [.ref a11, .ref a12, .ref a13, .ref a14, .ref a15, .ref a16, .ref a17]) m18)
  have T18 := T17.trans (same_upd (o := .lst [.ref a11, .ref a12, .ref a13, .ref a14, .ref a15, .ref a16, .ref a17]) m18)
  have N18 := N17.same (same_upd (o := .lst [.ref a11, .ref a12, .ref a13, .ref a14, .ref a15, .ref a16, .ref a17]) m18)
  have hl2 : (upd G17 l2 (.lst [.ref a11, .ref a12, .ref a13, .ref a14, .ref a15, .ref a16, .ref a17])) l2 = some (.lst [.ref a11, .ref a12, .ref a13, .ref a14, .ref a15, .ref a16, .ref a17]) := upd_same
  generalize upd G17 l2 (.lst [.ref a11, .ref a12, .ref a13, .ref a14, .ref a15, .ref a16, .ref a17]) = G18 at S18 T18 N18 hl2 ⊢
  have hl1b := T18 _ _ hl1
  refine ⟨l1, l2, _, _, rfl, rfl, hl1b, hl2, (by show 21 ≤ sizeLine; decide), fun l3 m19 => ?_⟩
  have S19 := S18.trans (same_upd (o := .lst ([V.non, .int 0, .bl true, .str "", .str "0-1", .ref a1, .ref a2, .ref a3, .ref a4, .ref a5, .ref a6, .ref a7, .ref a8, .ref a9] ++ [.ref a11, .ref a12, .ref a13, .ref a14, .ref a15, .ref a16, .ref a17])) m19)
  have T19 := T18.trans (same_upd (o := .lst ([V.non, .int 0, .bl true, .str "", .str "0-1", .ref a1, .ref a2, .ref a3, .ref a4, .ref a5, .ref a6, .ref a7, .ref a8, .ref a9] ++ [.ref a11, .ref a12, .ref a13, .ref a14, .ref a15, .ref a16, .ref a17])) m19)
  have N19 := N18.same (same_upd (o := .lst ([V.non, .int 0, .bl true, .str "", .str "0-1", .ref a1, .ref a2, .ref a3, .ref a4, .ref a5, .ref a6, .ref a7, .ref a8, .ref a9] ++ [.ref a11, .ref a12, .ref a13, .ref a14, .ref a15, .ref a16, .ref a17])) m19)
  have hl3 : (upd G18 l3 (.lst ([V.non, .int 0, .bl true, .str "", .str "0-1", .ref a1, .ref a2, .ref a3, .ref a4, .ref a5, .ref a6, .ref a7, .ref a8, .ref a9] ++ [.ref a11, .ref a12, .ref a13, .ref a14, .ref a15, .ref a16, .ref a17]))) l3 = some (.lst ([V.non, .int 0, .bl true, .str "", .str "0-1", .ref a1, .ref a2, .ref a3, .ref a4, .ref a5, .ref a6, .ref a7, .ref a8, .ref a9] ++ [.ref a11, .ref a12, .ref a13, .ref a14, .ref a15, .ref a16, .ref a17])) := upd_same
  generalize upd G18 l3 (.lst ([V.non, .int 0, .bl true, .str "", .str "0-1", .ref a1, .ref a2, .ref a3, .ref a4, .ref a5, .ref a6, .ref a7, .ref a8, .ref a9] ++ [.ref a11, .ref a12, .ref a13, .ref a14, .ref a15, .ref a16, .ref a17])) = G19 at S19 T19 N19 hl3 ⊢
  have T19 : Same G19 G19 := Same.refl _
  refine ⟨_, rfl, _, _, rfl, rfl, ⟨by decide, by decide, by decide⟩, (by show 2 ≤ sizeLine; decide), fun a20 m20 => ?_⟩
  have S20 := S19.trans (same_upd (o := .tup [.int 0, .int (10 ^ (40 : Int).toNat)]) m20)
  have T20 := T19.trans (same_upd (o := .tup [.int 0, .int (10 ^ (40 : Int).toNat)]) m20)
  have N20 : NoNd K (upd G19 a20 (.tup [.int 0, .int (10 ^ (40 : Int).toNat)])) n _ := N19.pair m20 (fun _ => .int _) (fun _ => .int _) (big40 hn)
  generalize upd G19 a20 (.tup [.int 0, .int (10 ^ (40 : Int).toNat)]) = G20 at S20 T20 N20 ⊢
  refine ⟨(by show 2 ≤ sizeLine; decide), fun a21 m21 => ?_⟩
  have S21 := S20.trans (same_upd (o := .tup [.int 0, .int 1]) m21)
  have T21 := T20.trans (same_upd (o := .tup [.int 0, .int 1]) m21)
  have N21 : NoNd K (upd G20 a21 (.tup [.int 0, .int 1])) n _ := N20.same (same_upd m21)
  generalize upd G20 a21 (.tup [.int 0, .int 1]) = G21 at S21 T21 N21 ⊢
  refine ⟨(by show 1 ≤ sizeLine; decide), fun a22 m22 => ?_⟩
  have S22 := S21.trans (same_upd (o := .tup [.ref a21]) m22)
  have T22 := T21.trans (same_upd (o := .tup [.ref a21]) m22)
  have N22 : NoNd K (upd G21 a22 (.tup [.ref a21])) n _ := N21.long m22 (by simp) (by simp)
  generalize upd G21 a22 (.tup [.ref a21]) = G22 at S22 T22 N22 ⊢
  refine ⟨(by show 2 ≤ sizeLine; decide), fun l4 m23 => ?_⟩
  have S23 := S22.trans (same_upd (o := .lst [.ref a20, .ref a22]) m23)
  have T23 := T22.trans (same_upd (o := .lst [.ref a20, .ref a22]) m23)
  have N23 := N22.same (same_upd (o := .lst [.ref a20, .ref a22]) m23)
  have hl4 : (upd G22 l4 (.lst [.ref a20, .ref a22])) l4 = some (.lst [.ref a20, .ref a22]) := upd_same
  generalize upd G22 l4 (.lst [.ref a20, .ref a22]) = G23 at S23 T23 N23 hl4 ⊢
  have hl3b := T23 _ _ hl3
  refine ⟨l3, l4, _, _, rfl, rfl, hl3b, hl4, (by show 23 ≤ sizeLine; decide), fun l5 m24 => ?_⟩
  have S24 := S23.trans (same_upd (o := .lst (([V.non, .int 0, .bl true, .str "", .str "0-1", .ref a1, .ref a2, .ref a3, .ref a4, .ref a5, .ref a6, .ref a7, .ref a8, .ref a9] ++ [.ref a11, .ref a12, .ref a13, .ref a14, .ref a15, .ref a16, .ref a17]) ++ [.ref a20, .ref a22])) m24)
  have T24 := T23.trans (same_upd (o := .lst (([V.non, .int 0, .bl true, .str "", .str "0-1", .ref a1, .ref a2, .ref a3, .ref a4, .ref a5, .ref a6, .ref a7, .ref a8, .ref a9] ++ [.ref a11, .ref a12, .ref a13, .ref a14, .ref a15, .ref a16, .ref a17]) ++ [.ref a20, .ref a22])) m24)
  have N24 := N23.same (same_upd (o := .lst (([V.non, .int 0, .bl true, .str "", .str "0-1", .ref a1, .ref a2, .ref a3, .ref a4, .ref a5, .ref a6, .ref a7, .ref a8, .ref a9] ++ [.ref a11, .ref a12, .ref a13, .ref a14, .ref a15, .ref a16, .ref a17]) ++ [.ref a20, .ref a22])) m24)
  have hl5 : (upd G23 l5 (.lst (([V.non, .int 0, .bl true, .str "", .str "0-1", .ref a1, .ref a2, .ref a3, .ref a4, .ref a5, .ref a6, .ref a7, .ref a8, .ref a9] ++ [.ref a11, .ref a12, .ref a13, .ref a14, .ref a15, .ref a16, .ref a17]) ++ [.ref a20, .ref a22]))) l5 = some (.lst (([V.non, .int 0, .bl true, .str "", .str "0-1", .ref a1, .ref a2, .ref a3, .ref a4, .ref a5, .ref a6, .ref a7, .ref a8, .ref a9] ++ [.ref a11, .ref a12, .ref a13, .ref a14, .ref a15, .ref a16, .ref a17]) ++ [.ref a20, .ref a22])) := upd_same
  generalize upd G23 l5 (.lst (([V.non, .int 0, .bl true, .str "", .str "0-1", .ref a1, .ref a2, .ref a3, .ref a4, .ref a5, .ref a6, .ref a7, .ref a8, .ref a9] ++ [.ref a11, .ref a12, .ref a13, .ref a14, .ref a15, .ref a16, .ref a17]) ++ [.ref a20, .ref a22])) = G24 at S24 T24 N24 hl5 ⊢
  have NE : NoNd K G24 n (([V.non, .int 0, .bl true, .str "", .str "0-1", .ref a1, .ref a2, .ref a3, .ref a4, .ref a5, .ref a6, .ref a7, .ref a8, .ref a9] ++ [.ref a11, .ref a12, .ref a13, .ref a14, .ref a15, .ref a16, .ref a17]) ++ [.ref a20, .ref a22]) := N24
  generalize (([V.non, .int 0, .bl true, .str "", .str "0-1", .ref a1, .ref a2, .ref a3, .ref a4, .ref a5, .ref a6, .ref a7, .ref a8, .ref a9] ++ [.ref a11, .ref a12, .ref a13, .ref a14, .ref a15, .ref a16, .ref a17]) ++ [.ref a20, .ref a22]) = LL at hl5 NE
  clear T0 N0 T1 N1 T2 N2 T3 N3 T4 N4 T5 N5 T6 N6 T7 N7 T8 N8 T9 N9 T10 N10 T11 N11 T12 N12 T13 N13 T14 N14 T15 N15 T16 N16 T17 N17 T18 N18 T19 N19 T20 N20 T21 N21 T22 N22 T23 N23 T24 N24
  have SE := S24
  -- what is no node
  refine ⟨_, rfl, l5, rfl, ⟨_, SqL.of hl5⟩, fun D5 nD5 => lc_list (xs := LL) (fun i H' => Same G24 H' ∧ H' D5 = some (.lst [])) ⟨same_upd nD5, upd_same⟩ (fun i H' _ k => SqL.of (k.1 _ _ hl5)) ?_ ?_⟩
  · rintro i x H2 hi ⟨s2, hD⟩
    refine ⟨rfl, ?_⟩
    refine ⟨_, rfl, _, rfl, n, x, false, rfl, n1, h30, (NE x (List.mem_of_getElem? hi)).same s2, ?_⟩
    exact ⟨false, false, rfl, rfl, false, rfl, s2, hD⟩
  rintro H13 ⟨s13, hD⟩
  refine ⟨by decide, fun l6 nl6 => ?_⟩
  have sl6 := same_upd (o := .lst []) nl6
  refine ⟨.list [], .list [], .lst (SqL.of (sl6 _ _ hD)) .nil, .lst (SqL.of upd_same) .nil, nil_shaped, nil_shaped, ?_⟩
  rw [SeqAt.eqv_refl _ (SeqAt.canLay_of_shaped nil_shaped)]
  refine ⟨true, rfl, ?_⟩
  refine iteT ?_
  refine ⟨_, rfl, _, rfl, two, fun t7 nt7 => ⟨n, _, tnV n (.int 0) (.int (n : Int)), rfl, n1, h30, .pair upd_same (.int _) (.int _), tnV n (.int 0) (.int (n : Int)), true, rfl, rfl, ?_⟩⟩
  rw [root_node n1]
  have SZ := SE.trans (s13.trans (sl6.trans (same_upd (o := .tup [.int 0, .int (n : Int)]) nt7)))
  exact q _ (BH.trans (But.of SZ)) (hb12.same SZ)
end
end LT

namespace LT
open PySem PySem.Spec PyProof.Rows L2
theorem all_mk {l : PySem.W.OpenLaw} {w : World} {K : PySem.W.Frag} {h : Heap} {mg : Str → Option Value} {fa f0 f1 f2 f3 f4 f5 f6 f7 f8 f9 f10 f11 f12 f13 f14 f15 f16 f17 f18 f19 f20 : Addr} (X : K.In h) (G : h.Ns mainGlobals mg) (hfa : mg "law" = some (.ref fa))
    {od0 an0 od1 an1 od2 an2 od3 an3 od4 an4 od5 an5 od6 an6 od7 an7 od8 an8 od9 an9 od10 an10 od11 an11 od12 an12 od13 an13 od14 an14 od15 an15 od16 an16 od17 an17 od18 an18 od19 an19 od20 an20 : Option Addr} {sl0 sl1 sl2 sl3 sl4 sl5 sl6 sl7 sl8 sl9 sl10 sl11 sl12 sl13 sl14 sl15 sl16 sl17 sl18 sl19 sl20 : Array (Option Value)} {oc0 kV0 dc0 pm0 cd0 ct0 oc1 kV1 dc1 pm1 cd1 ct1 oc2 kV2 dc2 pm2 cd2 ct2 oc3 kV3 dc3 pm3 cd3 ct3 oc4 kV4 dc4 pm4 cd4 ct4 oc5 kV5 dc5 pm5 cd5 ct5 oc6 kV6 dc6 pm6 cd6 ct6 oc7 kV7 dc7 pm7 cd7 ct7 oc8 kV8 dc8 pm8 cd8 ct8 oc9 kV9 dc9 pm9 cd9 ct9 oc10 kV10 dc10 pm10 cd10 ct10 oc11 kV11 dc11 pm11 cd11 ct11 oc12 kV12 dc12 pm12 cd12 ct12 oc13 kV13 dc13 pm13 cd13 ct13 oc14 kV14 dc14 pm14 cd14 ct14 oc15 kV15 dc15 pm15 cd15 ct15 oc16 kV16 dc16 pm16 cd16 ct16 oc17 kV17 dc17 pm17 cd17 ct17 oc18 kV18 dc18 pm18 cd18 ct18 oc19 kV19 dc19 pm19 cd19 ct19 oc20 kV20 dc20 pm20 cd20 ct20 : Value}
    (a0 : PySem.W.nsIn K mainGlobals "is_whole" = some (some (.ref f0))) (l0 : K.lookup f0 = some ⟨oc0, od0, .func (PySem.W.fnOf "is_whole" "is_whole" (defArgs sIsWhole) (defBody sIsWhole) (defScope sIsWhole) .none kV0 dc0 pm0 an0 cd0 ct0), sl0⟩) (c0 : PySem.W.codeIn K cd0 "is_whole" = true) (k0 : PySem.W.keepIn K (.ref f0) = true)
    (a1 : PySem.W.nsIn K mainGlobals "is_between" = some (some (.ref f1))) (l1 : K.lookup f1 = some ⟨oc1, od1, .func (PySem.W.fnOf "is_between" "is_between" (defArgs sIsBetween) (defBody sIsBetween) (defScope sIsBetween) .none kV1 dc1 pm1 an1 cd1 ct1), sl1⟩) (c1 : PySem.W.codeIn K cd1 "is_between" = true) (k1 : PySem.W.keepIn K (.ref f1) = true)
    (a2 : PySem.W.nsIn K mainGlobals "is_tree_node" = some (some (.ref f2))) (l2 : K.lookup f2 = some ⟨oc2, od2, .func (PySem.W.fnOf "is_tree_node" "is_tree_node" (defArgs sIsTreeNode) (defBody sIsTreeNode) (defScope sIsTreeNode) .none kV2 dc2 pm2 an2 cd2 ct2), sl2⟩) (c2 : PySem.W.codeIn K cd2 "is_tree_node" = true) (k2 : PySem.W.keepIn K (.ref f2) = true)
    (a3 : PySem.W.nsIn K mainGlobals "check_size" = some (some (.ref f3))) (l3 : K.lookup f3 = some ⟨oc3, od3, .func (PySem.W.fnOf "check_size" "check_size" (defArgs sCheckSize) (defBody sCheckSize) (defScope sCheckSize) .none kV3 dc3 pm3 an3 cd3 ct3), sl3⟩) (c3 : PySem.W.codeIn K cd3 "check_size" = true) (k3 : PySem.W.keepIn K (.ref f3) = true)
    (a4 : PySem.W.nsIn K mainGlobals "check_node" = some (some (.ref f4))) (l4 : K.lookup f4 = some ⟨oc4, od4, .func (PySem.W.fnOf "check_node" "check_node" (defArgs sCheckNode) (defBody sCheckNode) (defScope sCheckNode) .none kV4 dc4 pm4 an4 cd4 ct4), sl4⟩) (c4 : PySem.W.codeIn K cd4 "check_node" = true) (k4 : PySem.W.keepIn K (.ref f4) = true)
    (a5 : PySem.W.nsIn K mainGlobals "power_within" = some (some (.ref f5))) (l5 : K.lookup f5 = some ⟨oc5, od5, .func (PySem.W.fnOf "power_within" "power_within" (defArgs sPowerWithin) (defBody sPowerWithin) (defScope sPowerWithin) .none kV5 dc5 pm5 an5 cd5 ct5), sl5⟩) (c5 : PySem.W.codeIn K cd5 "power_within" = true) (k5 : PySem.W.keepIn K (.ref f5) = true)
    (a6 : PySem.W.nsIn K mainGlobals "peaks" = some (some (.ref f6))) (l6 : K.lookup f6 = some ⟨oc6, od6, .func (PySem.W.fnOf "peaks" "peaks" (defArgs sPeaks) (defBody sPeaks) (defScope sPeaks) .none kV6 dc6 pm6 an6 cd6 ct6), sl6⟩) (c6 : PySem.W.codeIn K cd6 "peaks" = true) (k6 : PySem.W.keepIn K (.ref f6) = true)
    (a7 : PySem.W.nsIn K mainGlobals "edges" = some (some (.ref f7))) (l7 : K.lookup f7 = some ⟨oc7, od7, .func (PySem.W.fnOf "edges" "edges" (defArgs sEdges) (defBody sEdges) (defScope sEdges) .none kV7 dc7 pm7 an7 cd7 ct7), sl7⟩) (c7 : PySem.W.codeIn K cd7 "edges" = true) (k7 : PySem.W.keepIn K (.ref f7) = true)
    (a8 : PySem.W.nsIn K mainGlobals "is_node" = some (some (.ref f8))) (l8 : K.lookup f8 = some ⟨oc8, od8, .func (PySem.W.fnOf "is_node" "is_node" (defArgs sIsNode) (defBody sIsNode) (defScope sIsNode) .none kV8 dc8 pm8 an8 cd8 ct8), sl8⟩) (c8 : PySem.W.codeIn K cd8 "is_node" = true) (k8 : PySem.W.keepIn K (.ref f8) = true)
    (a9 : PySem.W.nsIn K mainGlobals "halves" = some (some (.ref f9))) (l9 : K.lookup f9 = some ⟨oc9, od9, .func (PySem.W.fnOf "halves" "halves" (defArgs sHalves) (defBody sHalves) (defScope sHalves) .none kV9 dc9 pm9 an9 cd9 ct9), sl9⟩) (c9 : PySem.W.codeIn K cd9 "halves" = true) (k9 : PySem.W.keepIn K (.ref f9) = true)
    (a10 : PySem.W.nsIn K mainGlobals "parent" = some (some (.ref f10))) (l10 : K.lookup f10 = some ⟨oc10, od10, .func (PySem.W.fnOf "parent" "parent" (defArgs sParent) (defBody sParent) (defScope sParent) .none kV10 dc10 pm10 an10 cd10 ct10), sl10⟩) (c10 : PySem.W.codeIn K cd10 "parent" = true) (k10 : PySem.W.keepIn K (.ref f10) = true)
    (a11 : PySem.W.nsIn K mainGlobals "sibling" = some (some (.ref f11))) (l11 : K.lookup f11 = some ⟨oc11, od11, .func (PySem.W.fnOf "sibling" "sibling" (defArgs sSibling) (defBody sSibling) (defScope sSibling) .none kV11 dc11 pm11 an11 cd11 ct11), sl11⟩) (c11 : PySem.W.codeIn K cd11 "sibling" = true) (k11 : PySem.W.keepIn K (.ref f11) = true)
    (a12 : PySem.W.nsIn K mainGlobals "_law_bag" = some (some (.ref f12))) (l12 : K.lookup f12 = some ⟨oc12, od12, .func (PySem.W.fnOf "_law_bag" "_law_bag" (defArgs sLawBag) (defBody sLawBag) (defScope sLawBag) .none kV12 dc12 pm12 an12 cd12 ct12), sl12⟩) (c12 : PySem.W.codeIn K cd12 "_law_bag" = true) (k12 : PySem.W.keepIn K (.ref f12) = true)
    (a13 : PySem.W.nsIn K mainGlobals "_law_pick" = some (some (.ref f13))) (l13 : K.lookup f13 = some ⟨oc13, od13, .func (PySem.W.fnOf "_law_pick" "_law_pick" (defArgs sLawPick) (defBody sLawPick) (defScope sLawPick) .none kV13 dc13 pm13 an13 cd13 ct13), sl13⟩) (c13 : PySem.W.codeIn K cd13 "_law_pick" = true) (k13 : PySem.W.keepIn K (.ref f13) = true)
    (a14 : PySem.W.nsIn K mainGlobals "_law_halved" = some (some (.ref f14))) (l14 : K.lookup f14 = some ⟨oc14, od14, .func (PySem.W.fnOf "_law_halved" "_law_halved" (defArgs sLawHalved) (defBody sLawHalved) (defScope sLawHalved) .none kV14 dc14 pm14 an14 cd14 ct14), sl14⟩) (c14 : PySem.W.codeIn K cd14 "_law_halved" = true) (k14 : PySem.W.keepIn K (.ref f14) = true)
    (a15 : PySem.W.nsIn K mainGlobals "_law_nodes" = some (some (.ref f15))) (l15 : K.lookup f15 = some ⟨oc15, od15, .func (PySem.W.fnOf "_law_nodes" "_law_nodes" (defArgs sLawNodes) (defBody sLawNodes) (defScope sLawNodes) .none kV15 dc15 pm15 an15 cd15 ct15), sl15⟩) (c15 : PySem.W.codeIn K cd15 "_law_nodes" = true) (k15 : PySem.W.keepIn K (.ref f15) = true)
    (a16 : PySem.W.nsIn K mainGlobals "_law_peaks" = some (some (.ref f16))) (l16 : K.lookup f16 = some ⟨oc16, od16, .func (PySem.W.fnOf "_law_peaks" "_law_peaks" (defArgs sLawPeaks) (defBody sLawPeaks) (defScope sLawPeaks) .none kV16 dc16 pm16 an16 cd16 ct16), sl16⟩) (c16 : PySem.W.codeIn K cd16 "_law_peaks" = true) (k16 : PySem.W.keepIn K (.ref f16) = true)
    (a17 : PySem.W.nsIn K mainGlobals "_law_is_full" = some (some (.ref f17))) (l17 : K.lookup f17 = some ⟨oc17, od17, .func (PySem.W.fnOf "_law_is_full" "_law_is_full" (defArgs sLawIsFull) (defBody sLawIsFull) (defScope sLawIsFull) .none kV17 dc17 pm17 an17 cd17 ct17), sl17⟩) (c17 : PySem.W.codeIn K cd17 "_law_is_full" = true) (k17 : PySem.W.keepIn K (.ref f17) = true)
    (a18 : PySem.W.nsIn K mainGlobals "_law_kin_right" = some (some (.ref f18))) (l18 : K.lookup f18 = some ⟨oc18, od18, .func (PySem.W.fnOf "_law_kin_right" "_law_kin_right" (defArgs sLawKinRight) (defBody sLawKinRight) (defScope sLawKinRight) .none kV18 dc18 pm18 an18 cd18 ct18), sl18⟩) (c18 : PySem.W.codeIn K cd18 "_law_kin_right" = true) (k18 : PySem.W.keepIn K (.ref f18) = true)
    (a19 : PySem.W.nsIn K mainGlobals "_law_right" = some (some (.ref f19))) (l19 : K.lookup f19 = some ⟨oc19, od19, .func (PySem.W.fnOf "_law_right" "_law_right" (defArgs sLawRight) (defBody sLawRight) (defScope sLawRight) .none kV19 dc19 pm19 an19 cd19 ct19), sl19⟩) (c19 : PySem.W.codeIn K cd19 "_law_right" = true) (k19 : PySem.W.keepIn K (.ref f19) = true)
    (a20 : PySem.W.nsIn K mainGlobals "law" = some (some (.ref f20))) (l20 : K.lookup f20 = some ⟨oc20, od20, .func (PySem.W.fnOf "law" "law" (defArgs sLaw) (defBody sLaw) (defScope sLaw) .none kV20 dc20 pm20 an20 cd20 ct20), sl20⟩) (c20 : PySem.W.codeIn K cd20 "law" = true) (k20 : PySem.W.keepIn K (.ref f20) = true)
    (z_bool : PySem.W.nsIn K mainGlobals "bool" = some none)
    (z_int : PySem.W.nsIn K mainGlobals "int" = some none)
    (z_isinstance : PySem.W.nsIn K mainGlobals "isinstance" = some none)
    (z_len : PySem.W.nsIn K mainGlobals "len" = some none)
    (z_max : PySem.W.nsIn K mainGlobals "max" = some none)
    (z_min : PySem.W.nsIn K mainGlobals "min" = some none)
    (z_range : PySem.W.nsIn K mainGlobals "range" = some none)
    (z_repr : PySem.W.nsIn K mainGlobals "repr" = some none)
    (z_sorted : PySem.W.nsIn K mainGlobals "sorted" = some none)
    (z_tuple : PySem.W.nsIn K mainGlobals "tuple" = some none)
    {t_MOST_ENTRIES : Tok} (g_MOST_ENTRIES : PySem.W.nsIn K mainGlobals "MOST_ENTRIES" = some (some (.int 1000000000000000000000000000000 t_MOST_ENTRIES)))
    : ∃ fd : FuncData, (∀ (s : Shared) (v : Value), BindsTo s fd ⟨[v], []⟩ [("script", v)]) ∧ ∀ base : Heap, K.In base → base.Ns mainGlobals mg → GOk l.prog w K mg base 11 fa fd ["script"] (spLaw K) := by
  have e := hfa.symm.trans (PySem.W.mg_of X G a20)
  cases e
  have FIsWhole := fun_mk (st := sIsWhole) l0 c0 k0
  have FIsBetween := fun_mk (st := sIsBetween) l1 c1 k1
  have FIsTreeNode := fun_mk (st := sIsTreeNode) l2 c2 k2
  have FCheckSize := fun_mk (st := sCheckSize) l3 c3 k3
  have FCheckNode := fun_mk (st := sCheckNode) l4 c4 k4
  have FPowerWithin := fun_mk (st := sPowerWithin) l5 c5 k5
  have FPeaks := fun_mk (st := sPeaks) l6 c6 k6
  have FEdges := fun_mk (st := sEdges) l7 c7 k7
  have FIsNode := fun_mk (st := sIsNode) l8 c8 k8
  have FHalves := fun_mk (st := sHalves) l9 c9 k9
  have FParent := fun_mk (st := sParent) l10 c10 k10
  have FSibling := fun_mk (st := sSibling) l11 c11 k11
  have FLawBag := fun_mk (st := sLawBag) l12 c12 k12
  have FLawPick := fun_mk (st := sLawPick) l13 c13 k13
  have FLawHalved := fun_mk (st := sLawHalved) l14 c14 k14
  have FLawNodes := fun_mk (st := sLawNodes) l15 c15 k15
  have FLawPeaks := fun_mk (st := sLawPeaks) l16 c16 k16
  have FLawIsFull := fun_mk (st := sLawIsFull) l17 c17 k17
  have FLawKinRight := fun_mk (st := sLawKinRight) l18 c18 k18
  have FLawRight := fun_mk (st := sLawRight) l19 c19 k19
  have FLaw := fun_mk (st := sLaw) l20 c20 k20
  have AIsWhole : At K mg "is_whole" f0 (PySem.W.fnOf "is_whole" "is_whole" (defArgs sIsWhole) (defBody sIsWhole) (defScope sIsWhole) .none kV0 dc0 pm0 an0 cd0 ct0) ["value"] := ⟨PySem.W.mg_of X G a0, k0, FIsWhole.binds (ps := ["value"]) fun _ _ _ _ _ _ us hl => match us, hl with | [_], _ => rfl⟩
  have AIsBetween : At K mg "is_between" f1 (PySem.W.fnOf "is_between" "is_between" (defArgs sIsBetween) (defBody sIsBetween) (defScope sIsBetween) .none kV1 dc1 pm1 an1 cd1 ct1) ["value", "low", "high"] := ⟨PySem.W.mg_of X G a1, k1, FIsBetween.binds (ps := ["value", "low", "high"]) fun _ _ _ _ _ _ us hl => match us, hl with | [_, _, _], _ => rfl⟩
  have AIsTreeNode : At K mg "is_tree_node" f2 (PySem.W.fnOf "is_tree_node" "is_tree_node" (defArgs sIsTreeNode) (defBody sIsTreeNode) (defScope sIsTreeNode) .none kV2 dc2 pm2 an2 cd2 ct2) ["size", "value"] := ⟨PySem.W.mg_of X G a2, k2, FIsTreeNode.binds (ps := ["size", "value"]) fun _ _ _ _ _ _ us hl => match us, hl with | [_, _], _ => rfl⟩
  have ACheckSize : At K mg "check_size" f3 (PySem.W.fnOf "check_size" "check_size" (defArgs sCheckSize) (defBody sCheckSize) (defScope sCheckSize) .none kV3 dc3 pm3 an3 cd3 ct3) ["size"] := ⟨PySem.W.mg_of X G a3, k3, FCheckSize.binds (ps := ["size"]) fun _ _ _ _ _ _ us hl => match us, hl with | [_], _ => rfl⟩
  have ACheckNode : At K mg "check_node" f4 (PySem.W.fnOf "check_node" "check_node" (defArgs sCheckNode) (defBody sCheckNode) (defScope sCheckNode) .none kV4 dc4 pm4 an4 cd4 ct4) ["size", "node"] := ⟨PySem.W.mg_of X G a4, k4, FCheckNode.binds (ps := ["size", "node"]) fun _ _ _ _ _ _ us hl => match us, hl with | [_, _], _ => rfl⟩
  have APowerWithin : At K mg "power_within" f5 (PySem.W.fnOf "power_within" "power_within" (defArgs sPowerWithin) (defBody sPowerWithin) (defScope sPowerWithin) .none kV5 dc5 pm5 an5 cd5 ct5) ["number"] := ⟨PySem.W.mg_of X G a5, k5, FPowerWithin.binds (ps := ["number"]) fun _ _ _ _ _ _ us hl => match us, hl with | [_], _ => rfl⟩
  have APeaks : At K mg "peaks" f6 (PySem.W.fnOf "peaks" "peaks" (defArgs sPeaks) (defBody sPeaks) (defScope sPeaks) .none kV6 dc6 pm6 an6 cd6 ct6) ["size"] := ⟨PySem.W.mg_of X G a6, k6, FPeaks.binds (ps := ["size"]) fun _ _ _ _ _ _ us hl => match us, hl with | [_], _ => rfl⟩
  have AEdges : At K mg "edges" f7 (PySem.W.fnOf "edges" "edges" (defArgs sEdges) (defBody sEdges) (defScope sEdges) .none kV7 dc7 pm7 an7 cd7 ct7) ["size"] := ⟨PySem.W.mg_of X G a7, k7, FEdges.binds (ps := ["size"]) fun _ _ _ _ _ _ us hl => match us, hl with | [_], _ => rfl⟩
  have AIsNode : At K mg "is_node" f8 (PySem.W.fnOf "is_node" "is_node" (defArgs sIsNode) (defBody sIsNode) (defScope sIsNode) .none kV8 dc8 pm8 an8 cd8 ct8) ["size", "value"] := ⟨PySem.W.mg_of X G a8, k8, FIsNode.binds (ps := ["size", "value"]) fun _ _ _ _ _ _ us hl => match us, hl with | [_, _], _ => rfl⟩
  have AHalves : At K mg "halves" f9 (PySem.W.fnOf "halves" "halves" (defArgs sHalves) (defBody sHalves) (defScope sHalves) .none kV9 dc9 pm9 an9 cd9 ct9) ["size", "node"] := ⟨PySem.W.mg_of X G a9, k9, FHalves.binds (ps := ["size", "node"]) fun _ _ _ _ _ _ us hl => match us, hl with | [_, _], _ => rfl⟩
  have AParent : At K mg "parent" f10 (PySem.W.fnOf "parent" "parent" (defArgs sParent) (defBody sParent) (defScope sParent) .none kV10 dc10 pm10 an10 cd10 ct10) ["size", "node"] := ⟨PySem.W.mg_of X G a10, k10, FParent.binds (ps := ["size", "node"]) fun _ _ _ _ _ _ us hl => match us, hl with | [_, _], _ => rfl⟩
  have ASibling : At K mg "sibling" f11 (PySem.W.fnOf "sibling" "sibling" (defArgs sSibling) (defBody sSibling) (defScope sSibling) .none kV11 dc11 pm11 an11 cd11 ct11) ["size", "node"] := ⟨PySem.W.mg_of X G a11, k11, FSibling.binds (ps := ["size", "node"]) fun _ _ _ _ _ _ us hl => match us, hl with | [_, _], _ => rfl⟩
  have ALawBag : At K mg "_law_bag" f12 (PySem.W.fnOf "_law_bag" "_law_bag" (defArgs sLawBag) (defBody sLawBag) (defScope sLawBag) .none kV12 dc12 pm12 an12 cd12 ct12) ["cell"] := ⟨PySem.W.mg_of X G a12, k12, FLawBag.binds (ps := ["cell"]) fun _ _ _ _ _ _ us hl => match us, hl with | [_], _ => rfl⟩
  have ALawPick : At K mg "_law_pick" f13 (PySem.W.fnOf "_law_pick" "_law_pick" (defArgs sLawPick) (defBody sLawPick) (defScope sLawPick) .none kV13 dc13 pm13 an13 cd13 ct13) ["bag", "many"] := ⟨PySem.W.mg_of X G a13, k13, FLawPick.binds (ps := ["bag", "many"]) fun _ _ _ _ _ _ us hl => match us, hl with | [_, _], _ => rfl⟩
  have ALawHalved : At K mg "_law_halved" f14 (PySem.W.fnOf "_law_halved" "_law_halved" (defArgs sLawHalved) (defBody sLawHalved) (defScope sLawHalved) .none kV14 dc14 pm14 an14 cd14 ct14) ["node"] := ⟨PySem.W.mg_of X G a14, k14, FLawHalved.binds (ps := ["node"]) fun _ _ _ _ _ _ us hl => match us, hl with | [_], _ => rfl⟩
  have ALawNodes : At K mg "_law_nodes" f15 (PySem.W.fnOf "_law_nodes" "_law_nodes" (defArgs sLawNodes) (defBody sLawNodes) (defScope sLawNodes) .none kV15 dc15 pm15 an15 cd15 ct15) ["node"] := ⟨PySem.W.mg_of X G a15, k15, FLawNodes.binds (ps := ["node"]) fun _ _ _ _ _ _ us hl => match us, hl with | [_], _ => rfl⟩
  have ALawPeaks : At K mg "_law_peaks" f16 (PySem.W.fnOf "_law_peaks" "_law_peaks" (defArgs sLawPeaks) (defBody sLawPeaks) (defScope sLawPeaks) .none kV16 dc16 pm16 an16 cd16 ct16) ["size"] := ⟨PySem.W.mg_of X G a16, k16, FLawPeaks.binds (ps := ["size"]) fun _ _ _ _ _ _ us hl => match us, hl with | [_], _ => rfl⟩
  have ALawIsFull : At K mg "_law_is_full" f17 (PySem.W.fnOf "_law_is_full" "_law_is_full" (defArgs sLawIsFull) (defBody sLawIsFull) (defScope sLawIsFull) .none kV17 dc17 pm17 an17 cd17 ct17) ["node"] := ⟨PySem.W.mg_of X G a17, k17, FLawIsFull.binds (ps := ["node"]) fun _ _ _ _ _ _ us hl => match us, hl with | [_], _ => rfl⟩
  have ALawKinRight : At K mg "_law_kin_right" f18 (PySem.W.fnOf "_law_kin_right" "_law_kin_right" (defArgs sLawKinRight) (defBody sLawKinRight) (defScope sLawKinRight) .none kV18 dc18 pm18 an18 cd18 ct18) ["size", "node"] := ⟨PySem.W.mg_of X G a18, k18, FLawKinRight.binds (ps := ["size", "node"]) fun _ _ _ _ _ _ us hl => match us, hl with | [_, _], _ => rfl⟩
  have ALawRight : At K mg "_law_right" f19 (PySem.W.fnOf "_law_right" "_law_right" (defArgs sLawRight) (defBody sLawRight) (defScope sLawRight) .none kV19 dc19 pm19 an19 cd19 ct19) ["bag", "size"] := ⟨PySem.W.mg_of X G a19, k19, FLawRight.binds (ps := ["bag", "size"]) fun _ _ _ _ _ _ us hl => match us, hl with | [_, _], _ => rfl⟩
  have z_bool := PySem.W.mg_none_of X G z_bool
  have z_int := PySem.W.mg_none_of X G z_int
  have z_isinstance := PySem.W.mg_none_of X G z_isinstance
  have z_len := PySem.W.mg_none_of X G z_len
  have z_max := PySem.W.mg_none_of X G z_max
  have z_min := PySem.W.mg_none_of X G z_min
  have z_range := PySem.W.mg_none_of X G z_range
  have z_repr := PySem.W.mg_none_of X G z_repr
  have z_sorted := PySem.W.mg_none_of X G z_sorted
  have z_tuple := PySem.W.mg_none_of X G z_tuple
  have g_MOST_ENTRIES := PySem.W.mg_of X G g_MOST_ENTRIES
  refine ⟨PySem.W.fnOf "law" "law" (defArgs sLaw) (defBody sLaw) (defScope sLaw) .none kV20 dc20 pm20 an20 cd20 ct20, fun s v => .of_eq rfl, fun base _ _ => ?_⟩
  have GIsWhole := ok_is_wholeV (P := l.prog) (w := w) (base := base) FIsWhole z_isinstance z_int z_bool
  have GIsBetween := ok_is_betweenV FIsBetween GIsWhole AIsWhole
  have GIsTreeNode := ok_is_tree_nodeV FIsTreeNode GIsBetween AIsBetween z_isinstance z_tuple z_len
  have GCheckSize := ok_check_size FCheckSize (between_of GIsBetween) AIsBetween g_MOST_ENTRIES
  have GCheckNode := ok_check_node FCheckNode (tree_ofV GIsTreeNode) AIsTreeNode
  have GPowerWithin := ok_power_within (P := l.prog) (w := w) (mg := mg) (base := base) FPowerWithin
  have GPeaks := ok_peaks FPeaks GCheckSize ACheckSize GPowerWithin APowerWithin
  have GEdges := ok_edges FEdges GPeaks APeaks
  have GIsNode := ok_is_node FIsNode GCheckSize ACheckSize GIsTreeNode AIsTreeNode
  have GHalves := ok_halvesA FHalves GCheckSize ACheckSize GCheckNode ACheckNode GPowerWithin APowerWithin
  have GParent := ok_parent FParent GCheckSize ACheckSize GCheckNode ACheckNode z_min
  have GSibling := ok_sibling FSibling GParent AParent GHalves AHalves
  have GLawBag := ok_law_bag (P := l.prog) (w := w) (base := base) FLawBag z_max
  have GLawPick := ok_law_pick (P := l.prog) (w := w) (base := base) FLawPick z_int
  have GLawHalved := ok_law_halved (P := l.prog) (w := w) (mg := mg) (base := base) FLawHalved
  have GLawNodes := ok_law_nodes FLawNodes ALawNodes GLawHalved ALawHalved 8
  have GLawPeaks := ok_law_peaks (P := l.prog) (w := w) (base := base) FLawPeaks z_range
  have GLawIsFull := ok_law_is_full (P := l.prog) (w := w) (mg := mg) (base := base) FLawIsFull
  have GLawKinRight := ok_law_kin_right FLawKinRight GHalves AHalves GParent AParent GSibling ASibling GLawHalved ALawHalved z_repr
  have GLawRight := ok_law_right FLawRight GLawNodes ALawNodes GLawKinRight ALawKinRight GParent AParent GSibling ASibling GLawIsFull ALawIsFull GPeaks APeaks GEdges AEdges GLawPeaks ALawPeaks GIsNode AIsNode GLawPick ALawPick z_repr z_sorted z_range
  exact ok_law FLaw GLawBag ALawBag GLawPick ALawPick GLawRight ALawRight GPeaks APeaks GEdges AEdges GHalves AHalves GParent AParent GSibling ASibling z_range
end LT
open PySem PySem.W PyProof.Rows
set_option maxRecDepth 100000 in
set_option maxHeartbeats 0 in
theorem PySem.Challenge.cw_logtrees_k01_trees_built_holds : PySem.Challenge.rw_logtrees_k01_trees_built.Holds := by
  w_on; o_law; k_head; (case hw => w_witness2)
  k_fill
  refine LT.walkG (l := PySem.Challenge.rw_logtrees_k01_trees_built) (n := 63) (k := 11) (x := "script") (sp := fun w => LT.spLaw _) rfl (by decide) rfl ⟨rfl, by decide, by decide⟩ (fun w h Y => PySem.W.kIn_of Y) ?F (fun _ _ a ns hl _ hS => ⟨a, ns, rfl, hS, hl, fun _ => rfl⟩)
  case F =>
    intro w mg fa h KX G hmg
    refine' LT.all_mk KX G hmg ?a0 ?l0 ?c0 ?k0 ?a1 ?l1 ?c1 ?k1 ?a2 ?l2 ?c2 ?k2 ?a3 ?l3 ?c3 ?k3 ?a4 ?l4 ?c4 ?k4 ?a5 ?l5 ?c5 ?k5 ?a6 ?l6 ?c6 ?k6 ?a7 ?l7 ?c7 ?k7 ?a8 ?l8 ?c8 ?k8 ?a9 ?l9 ?c9 ?k9 ?a10 ?l10 ?c10 ?k10 ?a11 ?l11 ?c11 ?k11 ?a12 ?l12 ?c12 ?k12 ?a13 ?l13 ?c13 ?k13 ?a14 ?l14 ?c14 ?k14 ?a15 ?l15 ?c15 ?k15 ?a16 ?l16 ?c16 ?k16 ?a17 ?l17 ?c17 ?k17 ?a18 ?l18 ?c18 ?k18 ?a19 ?l19 ?c19 ?k19 ?a20 ?l20 ?c20 ?k20 ?z_bool ?z_int ?z_isinstance ?z_len ?z_max ?z_min ?z_range ?z_repr ?z_sorted ?z_tuple ?g_MOST_ENTRIES
    (case a0 => k_is)
    (case l0 => k_is)
    (case c0 => k_is)
    (case k0 => k_is)
    (case a1 => k_is)
    (case l1 => k_is)
    (case c1 => k_is)
    (case k1 => k_is)
    (case a2 => k_is)
    (case l2 => k_is)
    (case c2 => k_is)
    (case k2 => k_is)
    (case a3 => k_is)
    (case l3 => k_is)
    (case c3 => k_is)
    (case k3 => k_is)
    (case a4 => k_is)
    (case l4 => k_is)
    (case c4 => k_is)
    (case k4 => k_is)
    (case a5 => k_is)
    (case l5 => k_is)
    (case c5 => k_is)
    (case k5 => k_is)
    (case a6 => k_is)
    (case l6 => k_is)
    (case c6 => k_is)
    (case k6 => k_is)
    (case a7 => k_is)
    (case l7 => k_is)
    (case c7 => k_is)
    (case k7 => k_is)
    (case a8 => k_is)
    (case l8 => k_is)
    (case c8 => k_is)
    (case k8 => k_is)
    (case a9 => k_is)
    (case l9 => k_is)
    (case c9 => k_is)
    (case k9 => k_is)
    (case a10 => k_is)
    (case l10 => k_is)
    (case c10 => k_is)
    (case k10 => k_is)
    (case a11 => k_is)
    (case l11 => k_is)
    (case c11 => k_is)
    (case k11 => k_is)
    (case a12 => k_is)
    (case l12 => k_is)
    (case c12 => k_is)
    (case k12 => k_is)
    (case a13 => k_is)
    (case l13 => k_is)
    (case c13 => k_is)
    (case k13 => k_is)
    (case a14 => k_is)
    (case l14 => k_is)
    (case c14 => k_is)
    (case k14 => k_is)
    (case a15 => k_is)
    (case l15 => k_is)
    (case c15 => k_is)
    (case k15 => k_is)
    (case a16 => k_is)
    (case l16 => k_is)
    (case c16 => k_is)
    (case k16 => k_is)
    (case a17 => k_is)
    (case l17 => k_is)
    (case c17 => k_is)
    (case k17 => k_is)
    (case a18 => k_is)
    (case l18 => k_is)
    (case c18 => k_is)
    (case k18 => k_is)
    (case a19 => k_is)
    (case l19 => k_is)
    (case c19 => k_is)
    (case k19 => k_is)
    (case a20 => k_is)
    (case l20 => k_is)
    (case c20 => k_is)
    (case k20 => k_is)
    (case z_bool => k_is)
    (case z_int => k_is)
    (case z_isinstance => k_is)
    (case z_len => k_is)
    (case z_max => k_is)
    (case z_min => k_is)
    (case z_range => k_is)
    (case z_repr => k_is)
    (case z_sorted => k_is)
    (case z_tuple => k_is)
    (case g_MOST_ENTRIES => k_is)
