import PyProof.Rows.All
import Wide.All
import OpenK.AllK
import Wide.FinOn
import HandS.ForMost
import HandS.Wide
import HandS.WideBits
import HandS.IsInst
import HandS.Style
import HandS.Deep
import HandS.RaiseMore
import HandS.Conv
import HandS.Flow
import HandS.SortRule
import HandS.Exc
import HandS.ExcOwn
import HandS.ExcValue
import HandS.ExcIs
import HandS.WordsExc
import PyProof.ReprRoads
import PyProof.Rows.NestShow
import PySem.Challenge.RW_logtrees_k04_errors_of_shapes
set_option Elab.async false
set_option linter.all false
set_option maxRecDepth 100000
set_option maxHeartbeats 4000000
namespace LT
/-- the greatest power of two less than m (m from 2) -/
def gp (m : Nat) : Nat := 2 ^ Nat.log2 (m - 1)
theorem gp_pos (m : Nat) : 0 < gp m := Nat.pow_pos (by decide)
theorem gp_lt {m : Nat} (h : 2 ≤ m) : gp m < m := by
  have := Nat.log2_self_le (n := m - 1) (by omega)
  unfold gp; omega
theorem gp_ge {m : Nat} (h : 2 ≤ m) : m ≤ 2 * gp m := by
  have := Nat.lt_log2_self (n := m - 1)
  unfold gp; rw [Nat.pow_succ] at this; omega
theorem pow_eq_of {i j : Nat} {m : Nat} (h1 : 2 ^ i < m) (h2 : m ≤ 2 * 2 ^ i) (h3 : 2 ^ j < m) (h4 : m ≤ 2 * 2 ^ j) : i = j := by
  have a : 2 ^ i < 2 ^ (j + 1) := by rw [Nat.pow_succ]; omega
  have b : 2 ^ j < 2 ^ (i + 1) := by rw [Nat.pow_succ]; omega
  have a' := (Nat.pow_lt_pow_iff_right (by decide : 1 < 2)).mp a
  have b' := (Nat.pow_lt_pow_iff_right (by decide : 1 < 2)).mp b
  omega
theorem gp_eq {i m : Nat} (h1 : 2 ^ i < m) (h2 : m ≤ 2 * 2 ^ i) : gp m = 2 ^ i := by
  have h : 2 ≤ m := by have := Nat.pow_pos (a := 2) (n := i) (by decide); omega
  have := pow_eq_of (gp_lt h) (gp_ge h) h1 h2
  unfold gp; rw [this]
theorem gp_pow (i : Nat) : gp (2 ^ (i + 1)) = 2 ^ i := gp_eq (by rw [Nat.pow_succ]; have := Nat.pow_pos (a := 2) (n := i) (by decide); omega) (by rw [Nat.pow_succ]; omega)

/-- siblings from the root's half down to the leaf's: nodes as (begin, length-end) pairs -/
def sib (b m e : Nat) : List (Nat × Nat) :=
  if h : m ≤ 1 then [] else
    if e < b + gp m then (b + gp m, b + m) :: sib b (gp m) e
    else (b, b + gp m) :: sib (b + gp m) (m - gp m) e
termination_by m
decreasing_by
  · exact gp_lt (by omega)
  · have := gp_pos m; omega
theorem sib_one {b m e : Nat} (h : m ≤ 1) : sib b m e = [] := by rw [sib]; simp [h]
theorem sib_low {b m e : Nat} (h : 2 ≤ m) (k : e < b + gp m) : sib b m e = (b + gp m, b + m) :: sib b (gp m) e := by
  rw [sib]; rw [dif_neg (by omega), if_pos k]
theorem sib_high {b m e : Nat} (h : 2 ≤ m) (k : ¬ e < b + gp m) : sib b m e = (b, b + gp m) :: sib (b + gp m) (m - gp m) e := by
  rw [sib]; rw [dif_neg (by omega), if_neg k]

/-! ### joining up again -/
def join (x y : Nat × Nat) : Nat × Nat := (min x.1 y.1, max x.2 y.2)
/-- the halves of a node -/
def halv (x : Nat × Nat) : (Nat × Nat) × (Nat × Nat) := ((x.1, x.1 + gp (x.2 - x.1)), (x.1 + gp (x.2 - x.1), x.2))
def ok1 (x y : Nat × Nat) : Prop := (join x y).1 + 2 ≤ (join x y).2 ∧ (halv (join x y) = (x, y) ∨ halv (join x y) = (y, x))
def oks : Nat × Nat → List (Nat × Nat) → Prop
  | _, [] => True
  | x, y :: r => ok1 x y ∧ oks (join x y) r
def top : Nat × Nat → List (Nat × Nat) → Nat × Nat
  | x, [] => x
  | x, y :: r => top (join x y) r
theorem oks_append : ∀ (x : Nat × Nat) (l r : List (Nat × Nat)), oks x l → oks (top x l) r → oks x (l ++ r)
  | _, [], _, _, h => h
  | x, y :: l, r, h1, h2 => ⟨h1.1, oks_append (join x y) l r h1.2 h2⟩
theorem top_append : ∀ (x : Nat × Nat) (l r : List (Nat × Nat)), top x (l ++ r) = top (top x l) r
  | _, [], _ => rfl
  | x, y :: l, r => top_append (join x y) l r
theorem sib_up : ∀ (m b e : Nat), b ≤ e → e < b + m → oks (e, e + 1) (sib b m e).reverse ∧ top (e, e + 1) (sib b m e).reverse = (b, b + m) := by
  intro m
  induction m using Nat.strongRecOn with
  | ind m ih =>
    intro b e h1 h2
    by_cases hm : m ≤ 1
    · have : m = 1 := by omega
      subst this
      rw [sib_one (by omega)]
      have : e = b := by omega
      subst this
      exact ⟨True.intro, rfl⟩
    · have g1 := gp_lt (m := m) (by omega)
      have g2 := gp_pos m
      by_cases k : e < b + gp m
      · rw [sib_low (by omega) k, List.reverse_cons]
        obtain ⟨p, q⟩ := ih (gp m) g1 b e h1 k
        have j : join (b, b + gp m) (b + gp m, b + m) = (b, b + m) := by
          unfold join; simp only []; rw [Nat.min_eq_left (by omega), Nat.max_eq_right (by omega)]
        refine ⟨oks_append _ _ _ p ?_, ?_⟩
        · rw [q]
          refine ⟨⟨?_, .inl ?_⟩, True.intro⟩
          · rw [j]; simp only []; omega
          · rw [j]; unfold halv; simp only []; rw [Nat.add_sub_cancel_left]
        · rw [top_append, q]; exact j
      · rw [sib_high (by omega) k, List.reverse_cons]
        obtain ⟨p, q⟩ := ih (m - gp m) (by omega) (b + gp m) e (by omega) (by omega)
        have e2 : b + gp m + (m - gp m) = b + m := by omega
        rw [e2] at q
        have j : join (b + gp m, b + m) (b, b + gp m) = (b, b + m) := by
          unfold join; simp only []; rw [Nat.min_eq_right (by omega), Nat.max_eq_left (by omega)]
        refine ⟨oks_append _ _ _ p ?_, ?_⟩
        · rw [q]
          refine ⟨⟨?_, .inr ?_⟩, True.intro⟩
          · rw [j]; simp only []; omega
          · rw [j]; unfold halv; simp only []; rw [Nat.add_sub_cancel_left]
        · rw [top_append, q]; exact j
theorem sib_len_pow (i : Nat) : ∀ (b e : Nat), b ≤ e → e < b + 2 ^ i → (sib b (2 ^ i) e).length = i := by
  induction i with
  | zero => intro b e h1 h2; rw [sib_one (by simp)]; rfl
  | succ i ih =>
    intro b e h1 h2
    have h3 : 2 ≤ 2 ^ (i + 1) := by rw [Nat.pow_succ]; have := Nat.pow_pos (a := 2) (n := i) (by decide); omega
    have g := gp_pow i
    have e2 : 2 ^ (i + 1) - 2 ^ i = 2 ^ i := by rw [Nat.pow_succ]; omega
    by_cases k : e < b + gp (2 ^ (i + 1))
    · rw [sib_low h3 k, List.length_cons, g, ih b e h1 (by omega)]
    · rw [sib_high h3 k, List.length_cons, g, e2, ih (b + 2 ^ i) e (by omega) (by rw [Nat.pow_succ] at h2; omega)]
/-! ### the peaks by digits: (begin, height) -/
def pk : Nat → Nat → Nat → List (Nat × Nat)
  | 0, _, _ => []
  | i + 1, n, b => if n.testBit i then (b, i) :: pk i n (b + 2 ^ i) else pk i n b
theorem mod_succ (n i : Nat) : n % 2 ^ (i + 1) = (if n.testBit i then 2 ^ i else 0) + n % 2 ^ i := by
  rw [Nat.mod_pow_succ, Nat.testBit_eq_decide_div_mod_eq, Nat.add_comm]
  have h : n / 2 ^ i % 2 = 0 ∨ n / 2 ^ i % 2 = 1 := by omega
  rcases h with h | h <;> rw [h] <;> simp
theorem pk_nil : ∀ (i n b : Nat), n % 2 ^ i = 0 → pk i n b = []
  | 0, _, _, _ => rfl
  | i + 1, n, b, h => by
    rw [mod_succ] at h
    have p := Nat.pow_pos (a := 2) (n := i) (by decide)
    unfold pk
    cases t : n.testBit i with
    | true => rw [t] at h; simp at h
    | false => rw [t] at h; simp at h; simp; exact pk_nil i n b h
theorem pk_ne : ∀ (i n b : Nat), n % 2 ^ i ≠ 0 → pk i n b ≠ []
  | 0, _, _, h => by simp [Nat.mod_one] at h
  | i + 1, n, b, h => by
    rw [mod_succ] at h
    unfold pk
    cases t : n.testBit i with
    | true => simp
    | false => rw [t] at h; simp at h; simp; exact pk_ne i n b (by omega)
theorem pk_begin : ∀ (i n b : Nat) (x : Nat × Nat), x ∈ pk i n b → b ≤ x.1 ∧ x.2 < i
  | 0, _, _, _, h => by simp [pk] at h
  | i + 1, n, b, x, h => by
    unfold pk at h
    cases t : n.testBit i with
    | true =>
      rw [t] at h; simp at h
      rcases h with h | h
      · subst h; exact ⟨Nat.le_refl _, Nat.lt_succ_self _⟩
      · have := pk_begin i n _ x h; have p := Nat.pow_pos (a := 2) (n := i) (by decide); omega
    | false =>
      rw [t] at h; simp at h
      have := pk_begin i n _ x h; omega
/-- what the law says of the levels: s the place of the first row, of t rows in all -/
def lev (t : Nat) : Nat → List (Nat × Nat) → List (Nat × Nat × Nat)
  | _, [] => []
  | s, x :: r => (x.1, x.1 + 2 ^ x.2, x.2 + min (s + 1) (t - 1)) :: lev t (s + 1) r
def due (e : Nat) (l : List (Nat × Nat × Nat)) : List Nat := (l.filter fun x => decide (x.1 ≤ e) && decide (e < x.2.1)).map fun x => x.2.2
theorem due_none (t e : Nat) : ∀ (l : List (Nat × Nat)) (s : Nat), (∀ x ∈ l, e < x.1) → due e (lev t s l) = []
  | [], _, _ => rfl
  | x :: r, s, h => by
    have h1 := h x (List.mem_cons_self)
    have ih := due_none t e r (s + 1) fun y hy => h y (List.mem_cons_of_mem _ hy)
    show List.map _ (List.filter _ ((x.1, x.1 + 2 ^ x.2, x.2 + min (s + 1) (t - 1)) :: lev t (s + 1) r)) = []
    rw [List.filter_cons, if_neg (by simp; omega)]
    exact ih
theorem due_is (n e : Nat) : ∀ (i b s : Nat), b ≤ e → e < b + n % 2 ^ i → due e (lev (s + (pk i n b).length) s (pk i n b)) = [(sib b (n % 2 ^ i) e).length + min s (s + (pk i n b).length - 1)] := by
  intro i
  induction i with
  | zero => intro b s h1 h2; simp [Nat.mod_one] at h2; omega
  | succ i ih =>
    intro b s h1 h2
    have p := Nat.pow_pos (a := 2) (n := i) (by decide)
    have ml := Nat.mod_lt n p
    cases t : n.testBit i with
    | false =>
      have e1 : n % 2 ^ (i + 1) = n % 2 ^ i := by rw [mod_succ, t]; simp
      have e2 : pk (i + 1) n b = pk i n b := by show (if n.testBit i = true then _ else _) = _; rw [t]; simp
      rw [e1] at h2
      rw [e1, e2]; exact ih b s h1 h2
    | true =>
      have e1 : n % 2 ^ (i + 1) = 2 ^ i + n % 2 ^ i := by rw [mod_succ, t]; simp
      have e2 : pk (i + 1) n b = (b, i) :: pk i n (b + 2 ^ i) := by show (if n.testBit i = true then _ else _) = _; rw [t]; simp
      rw [e1] at h2
      rw [e1, e2, List.length_cons]
      by_cases r0 : n % 2 ^ i = 0
      · rw [pk_nil i n _ r0, r0]
        rw [r0] at h2
        rw [Nat.add_zero] at h2
        rw [Nat.add_zero (2 ^ i), sib_len_pow i b e h1 h2]
        show List.map _ (List.filter _ [(b, b + 2 ^ i, i + min (s + 1) (s + (0 + 1) - 1))]) = _
        rw [List.filter_cons, if_pos (by simp; omega)]
        simp
      · have hne : 1 ≤ (pk i n (b + 2 ^ i)).length := by
          have := pk_ne i n (b + 2 ^ i) r0
          cases hh : pk i n (b + 2 ^ i) with
          | nil => exact absurd hh this
          | cons _ _ => rw [List.length_cons]; omega
        have g : gp (2 ^ i + n % 2 ^ i) = 2 ^ i := gp_eq (by omega) (by omega)
        by_cases k : e < b + 2 ^ i
        · rw [sib_low (by omega) (by rw [g]; exact k), g, List.length_cons, sib_len_pow i b e h1 k]
          have d := due_none (s + ((pk i n (b + 2 ^ i)).length + 1)) e (pk i n (b + 2 ^ i)) (s + 1) fun x hx => by have := pk_begin _ _ _ x hx; omega
          show List.map _ (List.filter _ ((b, b + 2 ^ i, i + min (s + 1) (s + ((pk i n (b + 2 ^ i)).length + 1) - 1)) :: lev (s + ((pk i n (b + 2 ^ i)).length + 1)) (s + 1) (pk i n (b + 2 ^ i)))) = _
          rw [List.filter_cons, if_pos (by simp; omega), List.map_cons]
          have d' : List.map (fun x => x.2.2) (List.filter (fun x => decide (x.1 ≤ e) && decide (e < x.2.1)) (lev (s + ((pk i n (b + 2 ^ i)).length + 1)) (s + 1) (pk i n (b + 2 ^ i)))) = [] := d
          rw [d']
          simp
          omega
        · rw [sib_high (by omega) (by rw [g]; exact k), g, List.length_cons, Nat.add_sub_cancel_left]
          have q := ih (b + 2 ^ i) (s + 1) (by omega) (by omega)
          have e3 : s + 1 + (pk i n (b + 2 ^ i)).length = s + ((pk i n (b + 2 ^ i)).length + 1) := by omega
          rw [e3] at q
          show List.map _ (List.filter _ ((b, b + 2 ^ i, i + min (s + 1) (s + ((pk i n (b + 2 ^ i)).length + 1) - 1)) :: lev (s + ((pk i n (b + 2 ^ i)).length + 1)) (s + 1) (pk i n (b + 2 ^ i)))) = _
          rw [List.filter_cons, if_neg (by simp; omega)]
          refine Eq.trans q ?_
          congr 1
          omega
/-! ### which pairs are nodes -/
/-- the bits of m - 1 -/
def lb (m : Nat) : Nat := if m ≤ 1 then 0 else Nat.log2 (m - 1) + 1
theorem lb_le {x i : Nat} (h : x ≤ 2 ^ i) : lb x ≤ i := by
  unfold lb
  by_cases k : x ≤ 1
  · rw [if_pos k]; omega
  · rw [if_neg k]
    have h1 := Nat.log2_self_le (n := x - 1) (by omega)
    have h2 : 2 ^ Nat.log2 (x - 1) < 2 ^ i := by omega
    exact (Nat.pow_lt_pow_iff_right (by decide : 1 < 2)).mp h2
theorem lb_ge (x : Nat) : x ≤ 2 ^ lb x := by
  unfold lb
  by_cases k : x ≤ 1
  · rw [if_pos k]; omega
  · rw [if_neg k]
    have := Nat.lt_log2_self (n := x - 1)
    omega
theorem lb_pow (i : Nat) : lb (2 ^ i) = i := by
  have h1 := lb_le (Nat.le_refl (2 ^ i))
  have h2 := (Nat.pow_le_pow_iff_right (by decide : 1 < 2)).mp (lb_ge (2 ^ i))
  omega
theorem lb_gp {m : Nat} (h : 2 ≤ m) : 2 ^ lb m = 2 * gp m := by
  unfold lb gp; rw [if_neg (by omega), Nat.pow_succ]; omega
def tree (n b m : Nat) : Prop := 2 ^ lb m ∣ b ∧ (m = 2 ^ lb m ∨ b + m = n)
theorem tree_root (n : Nat) : tree n 0 n := ⟨Nat.dvd_zero _, .inr (Nat.zero_add _)⟩
theorem tree_low {n b m : Nat} (h : 2 ≤ m) (t : tree n b m) : tree n b (gp m) := by
  obtain ⟨d, _⟩ := t
  rw [lb_gp h] at d
  have e : 2 ^ lb (gp m) = gp m := by unfold gp; rw [lb_pow]
  exact ⟨by rw [e]; exact Nat.dvd_trans (Nat.dvd_mul_left _ _) d, .inl e.symm⟩
theorem tree_high {n b m : Nat} (h : 2 ≤ m) (t : tree n b m) : tree n (b + gp m) (m - gp m) := by
  obtain ⟨d, k⟩ := t
  rw [lb_gp h] at d k
  have g1 := gp_lt h
  have g2 := gp_ge h
  have dg : 2 ^ lb (m - gp m) ∣ gp m := by
    have : lb (m - gp m) ≤ Nat.log2 (m - 1) := lb_le (by unfold gp at g1 g2 ⊢; omega)
    exact Nat.pow_dvd_pow 2 this
  refine ⟨Nat.dvd_add (Nat.dvd_trans dg (Nat.dvd_trans (Nat.dvd_mul_left _ _) d)) dg, ?_⟩
  rcases k with k | k
  · left
    have e : m - gp m = gp m := by omega
    rw [e]
    unfold gp; rw [lb_pow]
  · right; omega
theorem sib_len_le : ∀ (m b e : Nat), b ≤ e → e < b + m → (sib b m e).length ≤ lb m := by
  intro m
  induction m using Nat.strongRecOn with
  | ind m ih =>
    intro b e h1 h2
    by_cases hm : m ≤ 1
    · rw [sib_one hm]; exact Nat.zero_le _
    · have g1 := gp_lt (m := m) (by omega)
      have g2 := gp_ge (m := m) (by omega)
      have g3 := gp_pos m
      have e1 : lb m = Nat.log2 (m - 1) + 1 := by unfold lb; rw [if_neg hm]
      by_cases k : e < b + gp m
      · rw [sib_low (by omega) k, List.length_cons]
        have := ih (gp m) g1 b e h1 k
        have e2 : lb (gp m) = Nat.log2 (m - 1) := by unfold gp; rw [lb_pow]
        omega
      · rw [sib_high (by omega) k, List.length_cons]
        have := ih (m - gp m) (by omega) (b + gp m) e (by omega) (by omega)
        have e2 : lb (m - gp m) ≤ Nat.log2 (m - 1) := lb_le (by unfold gp at g1 g2 ⊢; omega)
        omega
end LT
namespace LT
open PySem PySem.Spec PyProof.Rows L2
def topS (i : Nat) : Stmt := PySem.Challenge.pw_logtrees_k04_errors_of_shapes.main.body.getD i (.Pass ⟨0, 0, 0, 0⟩)
abbrev sIsWhole : Stmt := topS 19
theorem scIsWhole : FnScope ["value"] ["value"] (defScope sIsWhole) := ⟨rfl, rfl, rfl, by decide +kernel, rfl, by decide +kernel, by decide +kernel⟩
abbrev sIsBetween : Stmt := topS 20
theorem scIsBetween : FnScope ["value", "low", "high"] ["value", "low", "high"] (defScope sIsBetween) := ⟨rfl, rfl, rfl, by decide +kernel, rfl, by decide +kernel, by decide +kernel⟩
abbrev sIsTreeNode : Stmt := topS 21
theorem scIsTreeNode : FnScope ["size", "value", "begin", "end", "room"] ["size", "value"] (defScope sIsTreeNode) := ⟨rfl, rfl, rfl, by decide +kernel, rfl, by decide +kernel, by decide +kernel⟩
abbrev sCheckSize : Stmt := topS 22
theorem scCheckSize : FnScope ["size"] ["size"] (defScope sCheckSize) := ⟨rfl, rfl, rfl, by decide +kernel, rfl, by decide +kernel, by decide +kernel⟩
abbrev sCheckNode : Stmt := topS 23
theorem scCheckNode : FnScope ["size", "node"] ["size", "node"] (defScope sCheckNode) := ⟨rfl, rfl, rfl, by decide +kernel, rfl, by decide +kernel, by decide +kernel⟩
abbrev sCheckNumber : Stmt := topS 24
theorem scCheckNumber : FnScope ["number"] ["number"] (defScope sCheckNumber) := ⟨rfl, rfl, rfl, by decide +kernel, rfl, by decide +kernel, by decide +kernel⟩
abbrev sPowerWithin : Stmt := topS 26
theorem scPowerWithin : FnScope ["number"] ["number"] (defScope sPowerWithin) := ⟨rfl, rfl, rfl, by decide +kernel, rfl, by decide +kernel, by decide +kernel⟩
abbrev sPeaks : Stmt := topS 27
theorem scPeaks : FnScope ["size", "found", "begin", "end"] ["size"] (defScope sPeaks) := ⟨rfl, rfl, rfl, by decide +kernel, rfl, by decide +kernel, by decide +kernel⟩
abbrev sEdges : Stmt := topS 28
theorem scEdges : FnScope ["size", "begin", "_"] ["size"] (defScope sEdges) := ⟨rfl, rfl, rfl, by decide +kernel, rfl, by decide +kernel, by decide +kernel⟩
abbrev sIsNode : Stmt := topS 29
theorem scIsNode : FnScope ["size", "value"] ["size", "value"] (defScope sIsNode) := ⟨rfl, rfl, rfl, by decide +kernel, rfl, by decide +kernel, by decide +kernel⟩
abbrev sHalves : Stmt := topS 30
theorem scHalves : FnScope ["size", "node", "begin", "end", "middle"] ["size", "node"] (defScope sHalves) := ⟨rfl, rfl, rfl, by decide +kernel, rfl, by decide +kernel, by decide +kernel⟩
abbrev sParent : Stmt := topS 31
theorem scParent : FnScope ["size", "node", "begin", "end", "first", "last", "room"] ["size", "node"] (defScope sParent) := ⟨rfl, rfl, rfl, by decide +kernel, rfl, by decide +kernel, by decide +kernel⟩
abbrev sSibling : Stmt := topS 32
theorem scSibling : FnScope ["size", "node", "above", "low", "high"] ["size", "node"] (defScope sSibling) := ⟨rfl, rfl, rfl, by decide +kernel, rfl, by decide +kernel, by decide +kernel⟩
abbrev sNodeCount : Stmt := topS 33
theorem scNodeCount : FnScope ["size", "cut"] ["size"] (defScope sNodeCount) := ⟨rfl, rfl, rfl, by decide +kernel, rfl, by decide +kernel, by decide +kernel⟩
abbrev sCommonCount : Stmt := topS 34
theorem scCommonCount : FnScope ["size", "other", "full", "cut"] ["size", "other"] (defScope sCommonCount) := ⟨rfl, rfl, rfl, by decide +kernel, rfl, by decide +kernel, by decide +kernel⟩
abbrev sHeightCount : Stmt := topS 35
theorem scHeightCount : FnScope ["size", "number", "beside"] ["size", "number"] (defScope sHeightCount) := ⟨rfl, rfl, rfl, by decide +kernel, rfl, by decide +kernel, by decide +kernel⟩
abbrev sLawBag : Stmt := topS 37
theorem scLawBag : FnScope ["cell"] ["cell"] (defScope sLawBag) := ⟨rfl, rfl, rfl, by decide +kernel, rfl, by decide +kernel, by decide +kernel⟩
abbrev sLawPick : Stmt := topS 38
theorem scLawPick : FnScope ["bag", "many", "told", "seed", "turn", "first", "second", "drawn"] ["bag", "many"] (defScope sLawPick) := ⟨rfl, rfl, rfl, by decide +kernel, rfl, by decide +kernel, by decide +kernel⟩
abbrev sLawSize : Stmt := topS 39
theorem scLawSize : FnScope ["bag", "size"] ["bag"] (defScope sLawSize) := ⟨rfl, rfl, rfl, by decide +kernel, rfl, by decide +kernel, by decide +kernel⟩
abbrev sLawClass : Stmt := topS 40
theorem scLawClass : FnScope ["caught", "some", "found", "name", "is_one"] ["caught"] (defScope sLawClass) := ⟨rfl, rfl, rfl, by decide +kernel, rfl, by decide +kernel, by decide +kernel⟩
abbrev sLawBadIntegers : Stmt := topS 41
theorem scLawBadIntegers : FnScope ["low", "high", "found"] ["low", "high"] (defScope sLawBadIntegers) := ⟨rfl, rfl, rfl, by decide +kernel, rfl, by decide +kernel, by decide +kernel⟩
abbrev sLawBadNodes : Stmt := topS 42
theorem scLawBadNodes : FnScope ["size", "found"] ["size"] (defScope sLawBadNodes) := ⟨rfl, rfl, rfl, by decide +kernel, rfl, by decide +kernel, by decide +kernel⟩
abbrev sLawCalled : Stmt := topS 43
theorem scLawCalled : FnScope ["way", "size", "more"] ["way", "size", "more"] (defScope sLawCalled) := ⟨rfl, rfl, rfl, by decide +kernel, rfl, by decide +kernel, by decide +kernel⟩
abbrev sLawTold : Stmt := topS 44
theorem scLawTold : FnScope ["way", "size", "more", "caught", "e"] ["way", "size", "more"] (defScope sLawTold) := ⟨rfl, rfl, rfl, by decide +kernel, rfl, by decide +kernel, by decide +kernel⟩
abbrev sLawRight : Stmt := topS 45
theorem scLawRight : FnScope ["bag", "size", "bad", "more", "told", "way", "number"] ["bag"] (defScope sLawRight) := ⟨rfl, rfl, rfl, by decide +kernel, rfl, by decide +kernel, by decide +kernel⟩
abbrev sLaw : Stmt := topS 46
theorem scLaw : FnScope ["script", "cell", "bag"] ["script"] (defScope sLaw) := ⟨rfl, rfl, rfl, by decide +kernel, rfl, by decide +kernel, by decide +kernel⟩
/-- a def as it stands behind the top -/
structure At (K : PySem.W.Frag) (mg : Str → Option Value) (x : Str) (f : Addr) (fd : FuncData) (ps : List Str) : Prop where
  m : mg x = some (.ref f)
  kp : PySem.W.keepIn K (.ref f) = true
  b : Binds K fd ps []
theorem units1 {k : Nat} {A : Around} (r : Room k A) : A.units + 65 < cLine := by have := r.un; omega
/-- all but b as it was -/
def But (b : Addr) (H H' : Hp) : Prop := ∀ a o, a ≠ b → H a = some o → H' a = some o
theorem But.refl (b : Addr) (H : Hp) : But b H H := fun _ _ _ h => h
theorem But.trans {b : Addr} {H H1 H2 : Hp} (x : But b H H1) (y : But b H1 H2) : But b H H2 := fun a o n h => y a o n (x a o n h)
theorem But.of {b : Addr} {H H1 : Hp} (x : Same H H1) : But b H H1 := fun a o _ h => x a o h
theorem same_upd {H : Hp} {p : Addr} {o : HO} (h : H p = none) : Same H (upd H p o) := fun b x e => by
  rw [upd_ne (ne_of_none e h)]
  exact e
def BagAt (H : Hp) (b : Addr) : Prop := ∃ x y z : Int, H b = some (.lst [.int x, .int y, .int z])
theorem BagAt.same {H H' : Hp} {b : Addr} (h : BagAt H b) (s : Same H H') : BagAt H' b := by
  obtain ⟨x, y, z, e⟩ := h
  exact ⟨x, y, z, s _ _ e⟩
/-- a pair of ints -/
def Nd (H : Hp) (v : V) (x : Nat × Nat) : Prop := ∃ p, v = .ref p ∧ H p = some (.tup [.int x.1, .int x.2])
theorem Nd.same {H H' : Hp} {v : V} {x : Nat × Nat} (h : Nd H v x) (s : Same H H') : Nd H' v x := by
  obtain ⟨p, e, q⟩ := h
  exact ⟨p, e, s _ _ q⟩
theorem Nd.dp {K : PySem.W.Frag} {H : Hp} {v : V} {x : Nat × Nat} (h : Nd H v x) : Dp K H v (.tuple [.int x.1, .int x.2]) := by
  obtain ⟨p, rfl, q⟩ := h
  exact .tup (SqT.of q) (.cons (.int _) (.cons (.int _) .nil))
theorem nd_shaped (a b : Int) : SeqAt.shaped (.tuple [.int a, .int b]) = true := by
  show (PyData.canLay0 _ && decide (PyData.depth _ ≤ 64)) = true
  simp [PyData.canLay0, PyData.canLayAll0, PyData.depth, PyData.depthAll]
theorem nd_eqv (a b c d : Int) : PyData.eqv (.tuple [.int a, .int b]) (.tuple [.int c, .int d]) = (decide (a = c) && decide (b = d)) := by
  have e : PyData.eqv (.tuple [.int a, .int b]) (.tuple [.int c, .int d]) = ((a == c) && ((b == d) && true)) := by simp only [PyData.eqv, PyData.eqvAll]
  rw [e, Bool.and_true]
  by_cases h1 : a = c <;> by_cases h2 : b = d <;> simp [h1, h2]
/-- lists of values and what they stand for -/
inductive All2 {α : Type} (R : V → α → Prop) : List V → List α → Prop
  | nil : All2 R [] []
  | cons {v : V} {x : α} {vs : List V} {xs : List α} : R v x → All2 R vs xs → All2 R (v :: vs) (x :: xs)
section
variable {α : Type} {R R' : V → α → Prop}
theorem All2.mono (f : ∀ v x, R v x → R' v x) : ∀ {vs : List V} {xs : List α}, All2 R vs xs → All2 R' vs xs
  | _, _, .nil => .nil
  | _, _, .cons h t => .cons (f _ _ h) (All2.mono f t)
theorem All2.len : ∀ {vs : List V} {xs : List α}, All2 R vs xs → vs.length = xs.length
  | _, _, .nil => rfl
  | _, _, .cons _ t => by rw [List.length_cons, List.length_cons, All2.len t]
theorem All2.app : ∀ {vs : List V} {xs : List α} {us : List V} {ys : List α}, All2 R vs xs → All2 R us ys → All2 R (vs ++ us) (xs ++ ys)
  | _, _, _, _, .nil, h => h
  | _, _, _, _, .cons h t, k => .cons h (All2.app t k)
theorem All2.rev : ∀ {vs : List V} {xs : List α}, All2 R vs xs → All2 R vs.reverse xs.reverse
  | _, _, .nil => .nil
  | _, _, .cons h t => by
    rw [List.reverse_cons, List.reverse_cons]
    exact All2.app (All2.rev t) (.cons h .nil)
theorem All2.nth : ∀ {vs : List V} {xs : List α} {i : Nat} {v : V}, All2 R vs xs → vs[i]? = some v → ∃ x, xs[i]? = some x ∧ R v x
  | _, _, _, _, .nil, h => by simp at h
  | _, _, 0, _, .cons h t, e => by
    have := Option.some.inj e
    subst this
    exact ⟨_, rfl, h⟩
  | _, _, i + 1, _, .cons h t, e => by
    rw [List.getElem?_cons_succ] at e ⊢
    exact All2.nth t e
theorem All2.nth2 : ∀ {vs : List V} {xs : List α} {i : Nat} {x : α}, All2 R vs xs → xs[i]? = some x → ∃ v, vs[i]? = some v ∧ R v x
  | _, _, _, _, .nil, h => by simp at h
  | _, _, 0, _, .cons h t, e => by
    have := Option.some.inj e
    subst this
    exact ⟨_, rfl, h⟩
  | _, _, i + 1, _, .cons h t, e => by
    rw [List.getElem?_cons_succ] at e ⊢
    exact All2.nth2 t e
end

/-! ### rules within a comprehension: what they say of the written part is said of the def's -/
section
open PySem L2
variable {X : Cx} {s : Shared} {H : Hp} {sc : Scope} {ce : Env} {fp : List Addr}
theorem pg_tupB {es : List Expr} {k : Nat} {pos : Pos} {t : TGs} {n : Nat} (hc : X.calm = true) (h : PGs (X.blk s H sc ce fp) es t)
    (hn : (assignEach es (X.blk s H sc ce fp).env).length = n := by rfl) (hst : (assignEach es (X.blk s H sc ce fp).env).findIdx? (·.1) = none := by rfl) : PG (X.blk s H sc ce fp) (.Tuple es k pos) (gTup X.K n t) := pg_tup hc h hn hst
theorem ix_listB : IxR (X.blk s H sc ce fp) (rIxL X.K) := ix_list
theorem ix_tupB : IxR (X.blk s H sc ce fp) (rIxT X.K) := ix_tup
theorem call_len_seqB : CallR (X.blk s H sc ce fp) (.builtin "len") (fun xs H Q => ∃ p ys, xs = [.ref p] ∧ (SqL X.K H p ys ∨ SqT X.K H p ys) ∧ Q (.int ys.length) H) := call_len_seq
theorem op_eqDB (hu : X.A.units + 64 < cLine) : OpR (X.blk s H sc ce fp) (compareOp .Eq) (rEqD X.K) := op_eqD (X := X.blk s H sc ce fp) hu
theorem op_neDB (hu : X.A.units + 64 < cLine) : OpR (X.blk s H sc ce fp) (compareOp .NotEq) (rNeD X.K) := op_neD (X := X.blk s H sc ce fp) hu
theorem op_inDB (hu : X.A.units + 65 < cLine) : OpR (X.blk s H sc ce fp) (compareOp .In) (rInD X.K) := op_inD (X := X.blk s H sc ce fp) hu
theorem op_notInDB (hu : X.A.units + 65 < cLine) : OpR (X.blk s H sc ce fp) (compareOp .NotIn) (rNotInD X.K) := op_notInD (X := X.blk s H sc ce fp) hu
end
theorem Nd.upd {H : Hp} {v : V} {x : Nat × Nat} {s : Addr} {xs : List V} {o : HO} (h : Nd H v x) (hs : H s = some (.lst xs)) : Nd (upd H s o) v x := by
  obtain ⟨p, e, q⟩ := h
  exact ⟨p, e, by rw [upd_ne (ne_of q hs (by intro z; cases z))]; exact q⟩
def full (x : Nat × Nat) : Nat × Nat := (x.1, x.1 + 2 ^ x.2)
theorem pk_len : ∀ (i n b : Nat), (pk i n b).length ≤ i
  | 0, _, _ => Nat.le_refl _
  | i + 1, n, b => by
    show (if n.testBit i = true then (b, i) :: pk i n (b + 2 ^ i) else pk i n b).length ≤ i + 1
    by_cases t : n.testBit i = true
    · rw [if_pos t, List.length_cons]
      exact Nat.succ_le_succ (pk_len i n _)
    · rw [if_neg t]
      exact Nat.le_succ_of_le (pk_len i n b)
theorem take_more {α : Type} : ∀ {l : List α} {i : Nat} {x : α}, l[i]? = some x → l.take (i + 1) = l.take i ++ [x]
  | [], i, x, h => by simp at h
  | a :: l, 0, x, h => by
    have e : a = x := Option.some.inj h
    subst e
    rfl
  | a :: l, i + 1, x, h => by
    have ih := take_more (l := l) (i := i) (x := x) h
    show a :: l.take (i + 1) = a :: l.take i ++ [x]
    rw [ih]
    rfl
theorem szle {n : Nat} (h : n ≤ 100000) : n ≤ sizeLine := Nat.le_trans h (by decide)
theorem szlt {n : Nat} (h : n < 100000) : n < sizeLine := Nat.lt_of_lt_of_le h (by decide)
end LT

namespace LT
open PySem PySem.Spec PyProof.Rows L2
/-! ### a caught exception that is kept behind its suite -/
/-- an exception of the class cls at a, its own dict at d, if any -/
def ExK (cls : Value) (d : Option Addr) (a : Addr) : HO := .ext fun h => ∃ (ob : Obj) (fs : Array Value), h.get? a = some ob ∧ Zc cls d ob ∧ ob.data = .fields fs
theorem exK_ok {P : Program} {w : World} {H : Hp} {h : Heap} {a : Addr} {cls : Value} {d : Option Addr} {ob : Obj} {fs : Array Value} (e : h.get? a = some ob) (z : Zc cls d ob) (df : ob.data = .fields fs) : ObjOk P w H h a (ExK cls d a) :=
  ⟨⟨ob, fs, e, z, df⟩, ⟨ob, e⟩, fun _ _ ⟨o, v, q, r⟩ k => ⟨o, v, k o q, r⟩⟩
section
variable {X : Cx} {pins : List (Addr × Obj)} {σ : L2.St} {H : Hp} {s : Shared}
/-- it is told of from now on -/
theorem Inv.adopt {a : Addr} {cls : Value} {d : Option Addr} {ob : Obj} {fs : Array Value} (I : Inv X pins σ H s) (e : s.heap.get? a = some ob) (z : Zc cls d ob) (df : ob.data = .fields fs) (na : H a = none) (n0 : X.s_0.heap.get? a = none)
    (nL : a ≠ X.env.locals) (np : ∀ p ∈ X.pn ++ pins, p.1 ≠ a) : Inv X pins σ (upd H a (ExK cls d a)) s := by
  have ne0 : ∀ b o, X.s_0.heap.get? b = some o → b ≠ a := fun b o q y => by
    rw [y, n0] at q
    cases q
  refine ⟨I.ok, I.os, I.bare, ⟨I.base.keep, I.base.slot, ?_, I.base.there, ?_, ?_, ?_⟩, I.loc, I.cell, ?_, ?_, ?_, ?_, I.len⟩
  · intro b o q n hx
    rw [upd_ne (ne0 b o q)]
    exact I.base.free b o q n hx
  · intro b xs q
    have y := I.base.tups b xs q
    rw [upd_ne (ne_of_none y na)]
    exact y
  · intro b o u q
    have y := I.base.frzs b o u q
    rw [upd_ne (ne_of_none y na)]
    exact y
  · intro b ps q
    obtain ⟨m, y⟩ := I.base.tbls b ps q
    exact ⟨m, by rw [upd_ne (ne_of_none y na)]; exact y⟩
  · rw [upd_ne (fun y => nL y.symm)]
    exact I.free
  · intro x c q
    obtain ⟨v, o, ho, hd⟩ := I.cell x c q
    rw [upd_ne (fun y => by rw [y, e] at ho; cases ho; rw [df] at hd; cases hd)]
    exact I.freeC x c q
  · intro p hp
    obtain ⟨q1, q2, q3⟩ := I.pin p hp
    exact ⟨q1, by rw [upd_ne (np p hp)]; exact q2, q3⟩
  · exact HOk.laidN I.hok (fun _ _ q => q) na (exK_ok e z df)
end
/-- what the ends of a suite say, once the name of its clause has gone and the exception is told of -/
def endsK (i : Nat) (a : Addr) (cls : Value) (d : Option Addr) (D : Ends) : Ends :=
  { nx := fun σ' H' => H' a = none → D.nx (σ'.set i none) (upd H' a (ExK cls d a)), rt := fun v H' => H' a = none → D.rt v (upd H' a (ExK cls d a)),
    bk := fun σ' H' => H' a = none → D.bk (σ'.set i none) (upd H' a (ExK cls d a)), ct := fun σ' H' => H' a = none → D.ct (σ'.set i none) (upd H' a (ExK cls d a)) }
def wKeep (K : PySem.W.Frag) (c : Value) (i : Nat) (ts : Addr → Value → Option Addr → TS) (Wout : WX) (D : Ends) : WX := fun cls d σ H =>
  ∃ b, PySem.W.exmOne K cls c = some b ∧ (b = true → ∀ a, H a = none → ts a cls d (endsK i a cls d D) (σ.set i (some (.ref a))) H) ∧ (b = false → Wout cls d σ H)
section
variable {X : Cx} {x n : Str} {c : Value} {i : Nat} {body suite : List Stmt} {st0 : Stmt} {p1 p2 p3 : Pos} {tb : WX → TS} {ts : Addr → Value → Option Addr → TS} {Wout : WX}
theorem ps_try_keep (hst : X.stack = X.env :: X.outer) (hex : X.ex = []) (hfr : X.env.frame = some X.env.locals) (nod : X.N.Nodup) (slot : X.N[i]? = some n) (own : X.env.kindOf n = some .local) (hc : Names X x c) (tk : Takes X Wout)
    (hb : ∀ (W : WX) (pn : List (Addr × Obj)) (xe : Value → Shared → Prop), Takes (X.tr pn xe) W → PassesOwn (model X.prog X.w) X.A X.env xe → PSs (X.tr pn xe) body (tb W))
    (hsu : ∀ (a : Addr) (ob : Obj) (cls : Value) (d : Option Addr) (pn : List (Addr × Obj)), Zc cls d ob → (∃ fs, ob.data = .fields fs) → PSs (X.suite a ((a, ob) :: pn)) (st0 :: suite) (ts a cls d)) :
    PS X (.Try body [.ExceptHandler (some (.Name x p1)) (some n) (st0 :: suite) p2] [] [] p3) (fun D σ H => tb (wKeep X.K c i ts Wout D) D σ H) := by
  refine ⟨?_⟩
  intro pins s σ H D I h
  have okX := I.ok
  have frms : X.A.frames = some (X.env :: X.outer) := okX.frames.trans (congrArg some hst)
  have locn : Loc X.env.scope n := .inl own
  refine wpAny_Try_except ?_
  let land : Value → Shared → Prop := fun e u1 => wpAny (model X.prog X.w) X.A (noteFrame e X.env) (fun _ u2 => wpAny (model X.prog X.w) X.A (setFlight e none)
    (fun _ u3 => wpAny (model X.prog X.w) X.A (handleBy e X.env [.ExceptHandler (some (.Name x p1)) (some n) (st0 :: suite) p2]) (SP X pins D) X.xe u3) X.xe u2) X.xe u1
  have catch_ : Takes (X.tr (X.pn ++ pins) land) (wKeep X.K c i ts Wout D) := by
    rintro u s' ⟨a, B, sI, pins', τ, G, cls, d, rfl, J', ground, up, sky, na, os, ag, b, hb1, yes, no⟩
    have J : Inv X pins τ G sI := J'.ofTry okX
    have sky1 : Sky B (X.env :: X.outer) a (Zc cls d) X.env.locals s'.heap := hst ▸ sky
    show wpAny (model X.prog X.w) X.A (noteFrame (.ref a) X.env) _ _ _
    refine Sky.land Zc.steady frms hfr sky1 fun ha fa upa => ?_
    have Ja : Inv X pins τ G { s' with heap := ha } := J.landed ground fa.1 (up.trans upa) os ag
    obtain ⟨oa, va, geta, za, da⟩ := fa.there
    have offStack : a ∉ frs (X.env :: X.outer) := fun hm => by
      obtain ⟨_, o', e', hnf⟩ := Heap.FunFrames.mem fa.2.2.1 hm
      rw [geta] at e'
      cases e'
      exact hnf _ da
    have nL : a ≠ X.env.locals := fun y => offStack (List.mem_filterMap.mpr ⟨X.env, List.mem_cons_self, by rw [hfr, y]⟩)
    have nF : a ∉ X.fs := fun hm => by
      obtain ⟨e, he, q⟩ := List.mem_filterMap.mp hm
      exact offStack (List.mem_filterMap.mpr ⟨e, List.mem_cons_of_mem _ he, q⟩)
    -- it was not there before
    have newI : sI.heap.get? a = none := by
      cases q : sI.heap.get? a with
      | none => rfl
      | some o =>
        have y := ground a o q (by rw [hst]; exact offStack)
        rw [fa.2.1] at y
        cases y
    have new0 : X.s_0.heap.get? a = none := by
      cases q : X.s_0.heap.get? a with
      | none => rfl
      | some o =>
        obtain ⟨o', y⟩ := J.base.there a o q (by rw [hex]; exact List.not_mem_nil)
        rw [newI] at y
        cases y
    have npin : ∀ p ∈ X.pn ++ pins, p.1 ≠ a := fun p hp y => by
      have q := (J.pin p hp).1
      rw [y, newI] at q
      cases q
    have Sa := Ja.suite geta da na nL nF
    refine wpAny_handleBy_cons (codeAny_handlers_test ?_) (fun q => by cases q)
    have tyA : PySem.W.Looks (model X.prog X.w) ha (typeOf (.ref a)) cls := fun A Q E s k q => wpAny_typeOf_ref (k _ _ geta) (by rw [za.1]; exact q)
    have asked := PySem.W.exm_one (M := model X.prog X.w) (Ja.kIn) tyA hb1
    have named : ∀ {Q : Value → Shared → Prop} {E : Value → Shared → Prop}, Q c { s' with heap := ha } → wpAny (model X.prog X.w) (X.A.mark (some (.ref a))) (eval (.Name x p1) X.env) Q E { s' with heap := ha } := by
      intro Q E q
      obtain ⟨hg, hdbg, hm | ⟨hm, hv, hnn⟩⟩ := hc
      · exact ld_glob (X := X.suite a ((a, oa) :: (X.pn ++ pins))) Sa hg hm q hdbg
      · exact ld_blt (X := X.suite a ((a, oa) :: (X.pn ++ pins))) Sa hg hm hv q hnn hdbg
    refine named (asked.here ?_)
    cases b with
    | true =>
      refine codeAny_handlers_suite_as ?_
      refine HandSPX.lands_againZ fa fun hz fz upz => ?_
      have Jz : Inv X pins τ G { s' with heap := hz } := J.landed ground fz.1 ((up.trans upa).trans upz) os ag
      obtain ⟨oz, vz, getz, zz, dz⟩ := fz.there
      have Sz := Jz.suite getz dz na nL nF
      refine store_ok (X := X.suite a ((a, oz) :: (X.pn ++ pins))) (v := .ref a) Sz nod slot locn rfl ?_ (.inr own)
      intro s5 S5
      refine wpAny_mono ((hsu a oz cls d (X.pn ++ pins) zz ⟨_, dz⟩).run [] s5 _ G _ S5 (yes rfl a na)) ?_ (fun _ _ y => False.elim y)
      intro fl s6 sp
      have fin : ∀ {σ6 : L2.St} {H6 : Hp} {Q : Shared → Prop}, Inv (X.suite a ((a, oz) :: (X.pn ++ pins))) [] σ6 H6 s6 → H6 a = none ∧ ((∀ s7, Inv X pins (σ6.set i none) (upd H6 a (ExK cls d a)) s7 → Q s7) →
          wpAny (model X.prog X.w) X.A (do bindName X.env n .none; unbindBehindTheSuite X.env n p2) (fun _ s7 => Q s7) X.xe s6) := by
        intro σ6 H6 Q S6
        refine ⟨(S6.pin (a, oz) (List.mem_append_left _ List.mem_cons_self)).2.1, fun hq => ?_⟩
        refine gone_ok (X := X.suite a ((a, oz) :: (X.pn ++ pins))) S6 nod slot own fun s7 S7 => hq s7 ?_
        have pa := S7.pin (a, oz) (List.mem_append_left _ List.mem_cons_self)
        exact Inv.adopt (S7.unsuite okX) pa.1 zz dz pa.2.1 new0 nL npin
      cases fl with
      | next =>
        obtain ⟨σ6, H6, S6, q6⟩ := sp
        exact (fin S6).2 fun s7 J7 => ⟨_, _, J7, q6 (fin (Q := fun _ => True) S6).1⟩
      | brk =>
        obtain ⟨σ6, H6, S6, q6⟩ := sp
        exact (fin S6).2 fun s7 J7 => ⟨_, _, J7, q6 (fin (Q := fun _ => True) S6).1⟩
      | cont =>
        obtain ⟨σ6, H6, S6, q6⟩ := sp
        exact (fin S6).2 fun s7 J7 => ⟨_, _, J7, q6 (fin (Q := fun _ => True) S6).1⟩
      | ret u =>
        obtain ⟨v6, σ6, H6, S6, r6, q6⟩ := sp
        exact (fin S6).2 fun s7 J7 => ⟨_, _, _, J7, r6, q6 (fin (Q := fun _ => True) S6).1⟩
    | false =>
      show wpAny _ X.A (handleBy (.ref a) X.env []) _ _ _
      refine wpAny_handleBy_nil ?_
      obtain ⟨_, _, _, ob, fv, T, oT, ts', he, hz, hd, h1, hr⟩ := id fa
      unfold PySem.passOn
      refine wpAny_bind (wpAny_field he hd h1 ?_)
      rw [if_neg (show ¬ ((Value.ref T == Value.none) = true) from by simp)]
      have on_ : wpAny (model X.prog X.w) X.A (setFlight (.ref a) X.env.frame) (fun _ u4 => wpAny (model X.prog X.w) X.A (throw (.ref a) : Sem Flow) (SP X pins D) X.xe u4) X.xe { s' with heap := ha } := by
        rw [hfr]
        refine HandSPX.setFlight_upZ fa fun h4 hh4 up4 => wpAny_throw (tk _ _ ?_)
        exact ⟨a, B, sI, pins, τ, G, cls, d, rfl, J, ground, (up.trans upa).trans up4, .inr (.inr (by rw [hst]; exact hh4)), na, os, ag, no rfl⟩
      first
        | exact wpAny_bind (wpAny_pure (wpAny_bind on_))
        | exact wpAny_bind on_
  refine wpAny_mono ((hb (wKeep X.K c i ts Wout D) (X.pn ++ pins) land catch_ PassesOwn.looking).run [] s σ H D (I.toTry _) h) ?_ (fun e s1 he => he)
  intro fl s1 sp
  cases fl with
  | next =>
    obtain ⟨σ', H', J', q⟩ := sp
    exact wpAny_execs_nil ⟨σ', H', J'.ofTry okX, q⟩
  | brk =>
    obtain ⟨σ', H', J', q⟩ := sp
    exact ⟨σ', H', J'.ofTry okX, q⟩
  | cont =>
    obtain ⟨σ', H', J', q⟩ := sp
    exact ⟨σ', H', J'.ofTry okX, q⟩
  | ret u =>
    obtain ⟨v, σ', H', J', r, q⟩ := sp
    exact ⟨v, σ', H', J'.ofTry okX, r, q⟩
end
section
variable {X : Cx}
/-- isinstance(e, c), e an exception that is kept, without a dict of its own -/
def rIsK (K : PySem.W.Frag) : List V → Hp → VK → Prop := fun xs H Q => ∃ (a D : Addr) (c : V) (cv : Value) (b : Bool), xs = [.ref a, c] ∧ H a = some (ExK (.ref D) none a) ∧ ExcC K D ∧ (∀ u, RelV c u → u = cv) ∧ PySem.W.kitOne K (.ref D) cv = some b ∧ Q (.bl b) H
theorem call_isK : CallR X (.builtin "isinstance") (rIsK X.K) := by
  intro pins s σ H xs us Q I r h
  obtain ⟨a, D, c, cv, b, rfl, ha, C, hcv, e, q⟩ := h
  obtain ⟨u1, us1, rfl, r1, r2⟩ : ∃ u us', us = u :: us' ∧ RelV (.ref a) u ∧ Vals [c] us' := by
    cases r with | cons h t => exact ⟨_, _, rfl, h, t⟩
  obtain ⟨u2, rfl, r3⟩ := vals1 r2
  cases r1
  have ec := hcv _ r3
  subst ec
  obtain ⟨⟨ob, fs, hget, hz, hd⟩, _, _⟩ := I.hok a _ ha
  have J : PySem.W.InstAt s.heap a ob D none := by
    obtain ⟨oc, od, oda, osl⟩ := ob
    obtain ⟨z1, z2⟩ := hz
    dsimp only at z1 z2 hd
    subst z1 z2 hd
    exact ⟨hget, rfl, rfl, trivial⟩
  refine PySem.W.kia_one (PySem.W.handS_kitx_exc C.hg C.hk C.hs C.hd C.ha C.hn C.ht C.hm) I.kIn J e (fun z => nomatch z) ?_
  intro tk
  exact ⟨.bl b, H, I.kept (t' := tk) fun _ _ z => z, rfl, q⟩
end
end LT

namespace LT
open PySem PySem.Spec PyProof.Rows L2
section
variable {P : Program} {w : World} {K : PySem.W.Frag} {mg : Str → Option Value} {base : Heap}
def spWhole : Sp := fun vs H Q _ => ∃ i : Int, vs = [.int i] ∧ Q (.bl true) H
theorem ok_is_whole {f : Addr} {fd : FuncData} (F : Fun K "is_whole" "is_whole" sIsWhole f fd) (z_isinstance : mg "isinstance" = none) (z_int : mg "int" = none) (z_bool : mg "bool" = none) : FnOk P w K mg base CX0 1 f fd ["value"] spWhole := by
  refine F.ok scIsWhole (fun vs H Q E h => ?_) (fun cdv A outer s H vs Q E hr h => ?_)
  · obtain ⟨i, rfl, _⟩ := h
    rfl
  obtain ⟨i, rfl, q⟩ := h
  refine ⟨_, (pss_one (ps_ret (pe_and (pe_callB call_isi (by rfl) z_isinstance (by decide +kernel) (pa_cons (pv 0) (pa_cons (pe_bltn (v := .ty "int") (u := .type "int") (by rfl) z_int (by decide +kernel) rfl) pa_nil))) (pe_one (pe_not (pe_callB call_isi (by rfl) z_isinstance (by decide +kernel) (pa_cons (pv 0) (pa_cons (pe_bltn (v := .ty "bool") (u := .type "bool") (by rfl) z_bool (by decide +kernel) rfl) pa_nil)))))))), ?_⟩
  refine ⟨_, rfl, _, _, _, _, true, rfl, .ty "int", .base (.int i), kit_ty (by decide +kernel), true, rfl, ?_⟩
  refine ⟨_, rfl, _, _, _, _, false, rfl, .ty "bool", .base (.int i), kit_ty (by decide +kernel), false, rfl, ?_⟩
  exact q
def spBetween : Sp := fun vs H Q _ => ∃ v lo hi : Int, vs = [.int v, .int lo, .int hi] ∧ Q (.bl (decide (lo ≤ v) && decide (v ≤ hi))) H
theorem ok_is_between {f g : Addr} {fd gd : FuncData} (F : Fun K "is_between" "is_between" sIsBetween f fd) (GIsWhole : FnOk P w K mg base CX0 1 g gd ["value"] spWhole) (AIsWhole : At K mg "is_whole" g gd ["value"]) : FnOk P w K mg base CX0 2 f fd ["value", "low", "high"] spBetween := by
  refine F.ok scIsBetween (fun vs H Q E h => ?_) (fun cdv A outer s H vs Q E hr h => ?_)
  · obtain ⟨i, _, _, rfl, _⟩ := h
    rfl
  obtain ⟨v, lo, hi, rfl, q⟩ := h
  refine ⟨_, (pss_one (ps_ret (pe_and (pe_call GIsWhole (hr.mono (by decide)) rfl AIsWhole.m AIsWhole.kp AIsWhole.b .nil pass0 (pa_cons (pv 0) pa_nil)) (pe_one (pe_chain op_le op_le (pv 1) (pv 0) (pv 2)))))), ?_⟩
  refine ⟨_, rfl, v, rfl, true, rfl, ?_⟩
  refine ⟨_, rfl, _, rfl, _, _, rfl, rfl, _, rfl, ?_⟩
  by_cases h1 : lo ≤ v
  · rw [decide_eq_true h1] at q ⊢
    exact ⟨_, rfl, _, _, rfl, rfl, q⟩
  · rw [decide_eq_false h1] at q ⊢
    exact q
def spCheckSize : Sp := fun vs H Q _ => ∃ n : Int, vs = [.int n] ∧ 1 ≤ n ∧ n ≤ 10 ^ 30 ∧ Q .non H
theorem ok_check_size {f g : Addr} {fd gd : FuncData} {t : Tok} (F : Fun K "check_size" "check_size" sCheckSize f fd) (GIsBetween : FnOk P w K mg base CX0 2 g gd ["value", "low", "high"] spBetween) (AIsBetween : At K mg "is_between" g gd ["value", "low", "high"]) (g_MOST_ENTRIES : mg "MOST_ENTRIES" = some (.int 1000000000000000000000000000000 t)) : FnOk P w K mg base CX0 3 f fd ["size"] spCheckSize := by
  refine F.ok scCheckSize (fun vs H Q E h => ?_) (fun cdv A outer s H vs Q E hr h => ?_)
  · obtain ⟨i, rfl, _⟩ := h
    rfl
  obtain ⟨n, rfl, h1, h2, q⟩ := h
  refine ⟨_, (pss_one (ps_if (pt_not (pt_val (pe_call GIsBetween (hr.mono (by decide)) rfl AIsBetween.m AIsBetween.kp AIsBetween.b .nil pass0 (pa_cons (pv 0) (pa_cons pe_int (pa_cons (pe_glob (v := .int 1000000000000000000000000000000) rfl g_MOST_ENTRIES ⟨_, rfl⟩) pa_nil))))))
    (pss_one ps_never)
    pss_nil)), ?_⟩
  refine ⟨_, rfl, n, 1, 1000000000000000000000000000000, rfl, _, rfl, ?_⟩
  rw [decide_eq_true h1, decide_eq_true (show n ≤ 1000000000000000000000000000000 from h2)]
  exact q
end
end LT

namespace LT
open PySem PySem.Spec PyProof.Rows L2
/-- values of the plain kinds, with their types -/
inductive Pl (K : PySem.W.Frag) (H : Hp) : V → String → Prop
  | non : Pl K H .non "NoneType"
  | bl (b : Bool) : Pl K H (.bl b) "bool"
  | int (i : Int) : Pl K H (.int i) "int"
  | str (s : Str) : Pl K H (.str s) "str"
  | lst {a : Addr} {xs : List V} : H a = some (.lst xs) → Pl K H (.ref a) "list"
  | tup {a : Addr} {xs : List V} : H a = some (.tup xs) → Pl K H (.ref a) "tuple"
  | dict {a : Addr} {kvs : List (Key × V)} : H a = some (.dK kvs) → Pl K H (.ref a) "dict"
theorem Pl.ty {K : PySem.W.Frag} {H : Hp} {v : V} {t : String} (h : Pl K H v t) : TyX K H v (.type t) := by
  cases h with
  | non => exact .base .non
  | bl b => exact .base (.bl b)
  | int i => exact .base (.int i)
  | str s => exact .base (.str s)
  | lst e => exact .base (.lst e)
  | tup e => exact .base (.tup e)
  | dict e => exact .base (.dK e)
def isInt : V → Bool
  | .int _ => true
  | _ => false
def inRange (lo hi : Int) : V → Bool
  | .int i => decide (lo ≤ i) && decide (i ≤ hi)
  | _ => false
section
variable {P : Program} {w : World} {K : PySem.W.Frag} {mg : Str → Option Value} {base : Heap}
def spWholeV (K : PySem.W.Frag) : Sp := fun vs H Q _ => ∃ (v : V) (t : String), vs = [v] ∧ Pl K H v t ∧ Q (.bl (isInt v)) H
theorem ok_is_wholeV {f : Addr} {fd : FuncData} (F : Fun K "is_whole" "is_whole" sIsWhole f fd) (z_isinstance : mg "isinstance" = none) (z_int : mg "int" = none) (z_bool : mg "bool" = none) : FnOk P w K mg base CX0 1 f fd ["value"] (spWholeV K) := by
  refine F.ok scIsWhole (fun vs H Q E h => ?_) (fun cdv A outer s H vs Q E hr h => ?_)
  · obtain ⟨_, _, rfl, _⟩ := h
    rfl
  obtain ⟨v, t, rfl, hv, q⟩ := h
  refine ⟨_, (pss_one (ps_ret (pe_and (pe_callB call_isi (by rfl) z_isinstance (by decide +kernel) (pa_cons (pv 0) (pa_cons (pe_bltn (v := .ty "int") (u := .type "int") (by rfl) z_int (by decide +kernel) rfl) pa_nil))) (pe_one (pe_not (pe_callB call_isi (by rfl) z_isinstance (by decide +kernel) (pa_cons (pv 0) (pa_cons (pe_bltn (v := .ty "bool") (u := .type "bool") (by rfl) z_bool (by decide +kernel) rfl) pa_nil)))))))), ?_⟩
  cases hv with
  | non => exact ⟨_, rfl, _, _, _, _, false, rfl, .ty "int", (Pl.non (K := K) (H := H)).ty, kit_ty (by decide +kernel), false, rfl, q⟩
  | bl b => exact ⟨_, rfl, _, _, _, _, true, rfl, .ty "int", (Pl.bl (K := K) (H := H) b).ty, kit_ty (by decide +kernel), true, rfl, _, rfl, _, _, _, _, true, rfl, .ty "bool", (Pl.bl (K := K) (H := H) b).ty, kit_ty (by decide +kernel), true, rfl, q⟩
  | int i => exact ⟨_, rfl, _, _, _, _, true, rfl, .ty "int", (Pl.int (K := K) (H := H) i).ty, kit_ty (by decide +kernel), true, rfl, _, rfl, _, _, _, _, false, rfl, .ty "bool", (Pl.int (K := K) (H := H) i).ty, kit_ty (by decide +kernel), false, rfl, q⟩
  | str s => exact ⟨_, rfl, _, _, _, _, false, rfl, .ty "int", (Pl.str (K := K) (H := H) s).ty, kit_ty (by decide +kernel), false, rfl, q⟩
  | lst e => exact ⟨_, rfl, _, _, _, _, false, rfl, .ty "int", (Pl.lst (K := K) e).ty, kit_ty (by decide +kernel), false, rfl, q⟩
  | tup e => exact ⟨_, rfl, _, _, _, _, false, rfl, .ty "int", (Pl.tup (K := K) e).ty, kit_ty (by decide +kernel), false, rfl, q⟩
  | dict e => exact ⟨_, rfl, _, _, _, _, false, rfl, .ty "int", (Pl.dict (K := K) e).ty, kit_ty (by decide +kernel), false, rfl, q⟩
def spBetweenV (K : PySem.W.Frag) : Sp := fun vs H Q _ => ∃ (v : V) (t : String) (lo hi : Int), vs = [v, .int lo, .int hi] ∧ Pl K H v t ∧ Q (.bl (inRange lo hi v)) H
theorem ok_is_betweenV {f g : Addr} {fd gd : FuncData} (F : Fun K "is_between" "is_between" sIsBetween f fd) (GIsWhole : FnOk P w K mg base CX0 1 g gd ["value"] (spWholeV K)) (AIsWhole : At K mg "is_whole" g gd ["value"]) : FnOk P w K mg base CX0 2 f fd ["value", "low", "high"] (spBetweenV K) := by
  refine F.ok scIsBetween (fun vs H Q E h => ?_) (fun cdv A outer s H vs Q E hr h => ?_)
  · obtain ⟨_, _, _, _, rfl, _⟩ := h
    rfl
  obtain ⟨v, t, lo, hi, rfl, hv, q⟩ := h
  refine ⟨_, (pss_one (ps_ret (pe_and (pe_call GIsWhole (hr.mono (by decide)) rfl AIsWhole.m AIsWhole.kp AIsWhole.b .nil pass0 (pa_cons (pv 0) pa_nil)) (pe_one (pe_chain op_le op_le (pv 1) (pv 0) (pv 2)))))), ?_⟩
  refine ⟨_, rfl, v, t, rfl, hv, isInt v, rfl, ?_⟩
  cases v with
  | int i =>
    have q' : Q (.bl (decide (lo ≤ i) && decide (i ≤ hi))) H := q
    refine ⟨_, rfl, _, rfl, _, _, rfl, rfl, _, rfl, ?_⟩
    by_cases h1 : lo ≤ i
    · rw [decide_eq_true h1] at q' ⊢
      exact ⟨_, rfl, _, _, rfl, rfl, q'⟩
    · rw [decide_eq_false h1] at q' ⊢
      exact q'
  | non => exact q
  | bl _ => exact q
  | str _ => exact q
  | byt _ => exact q
  | flt _ => exact q
  | ref _ => exact q
  | ty _ => exact q
theorem whole_of {k : Nat} {f : Addr} {fd : FuncData} (F : FnOk P w K mg base CX0 k f fd ["value"] (spWholeV K)) : FnOk P w K mg base CX0 k f fd ["value"] spWhole :=
  F.imp fun vs H Q E h => by
    obtain ⟨i, rfl, q⟩ := h
    exact ⟨_, _, rfl, .int i, q⟩
theorem between_of {k : Nat} {f : Addr} {fd : FuncData} (F : FnOk P w K mg base CX0 k f fd ["value", "low", "high"] (spBetweenV K)) : FnOk P w K mg base CX0 k f fd ["value", "low", "high"] spBetween :=
  F.imp fun vs H Q E h => by
    obtain ⟨v, lo, hi, rfl, q⟩ := h
    exact ⟨_, _, _, _, rfl, .int v, q⟩
end
end LT

namespace LT
open PySem PySem.Spec PyProof.Rows L2
theorem bits_nat (k : Nat) : Builtin.Int.intBits (k : Int) = if k = 0 then 0 else k.log2 + 1 := by
  unfold Builtin.Int.intBits
  by_cases h : k = 0
  · subst h; rfl
  · rw [if_neg h, if_neg (by simpa using h)]
    rfl
theorem bits_lb {m : Nat} (h : 1 ≤ m) : Builtin.Int.intBits ((m - 1 : Nat) : Int) = lb m := by
  rw [bits_nat]
  unfold lb
  by_cases k : m ≤ 1
  · rw [if_pos k, if_pos (by omega)]
  · rw [if_neg k, if_neg (by omega)]
theorem lb100 {m : Nat} (h : m ≤ 10 ^ 30) : lb m ≤ 100 := lb_le (Nat.le_trans h (by decide))
theorem fmod_of_dvd {a b : Nat} (h : a ∣ b) : Int.fmod (b : Int) (a : Int) = 0 := by
  rw [Int.fmod_eq_emod_of_nonneg _ (Int.natCast_nonneg _)]
  exact Int.emod_eq_zero_of_dvd (Int.natCast_dvd_natCast.mpr h)
end LT

namespace LT
open PySem PySem.Spec PyProof.Rows L2
section
variable {P : Program} {w : World} {K : PySem.W.Frag} {mg : Str → Option Value} {base : Heap}
def spTree : Sp := fun vs H Q _ => ∃ (n b m : Nat) (v : V), vs = [.int n, v] ∧ Nd H v (b, b + m) ∧ 1 ≤ m ∧ b + m ≤ n ∧ n ≤ 10 ^ 30 ∧ tree n b m ∧ Q (.bl true) H
theorem ok_is_tree_node {f g : Addr} {fd gd : FuncData} (F : Fun K "is_tree_node" "is_tree_node" sIsTreeNode f fd) (GIsBetween : FnOk P w K mg base CX0 2 g gd ["value", "low", "high"] spBetween) (AIsBetween : At K mg "is_between" g gd ["value", "low", "high"])
    (z_isinstance : mg "isinstance" = none) (z_tuple : mg "tuple" = none) (z_len : mg "len" = none) : FnOk P w K mg base CX0 3 f fd ["size", "value"] spTree := by
  refine F.ok scIsTreeNode (fun vs H Q E h => ?_) (fun cdv A outer s H vs Q E hr h => ?_)
  · obtain ⟨_, _, _, _, rfl, _⟩ := h
    rfl
  obtain ⟨n, b, m, v, rfl, ⟨p, rfl, hp⟩, hm, hn, h30, ht, q⟩ := h
  refine ⟨_, (pss_cons (ps_if (PW.pt (pw_or (pt_not (pt_val (pe_callB call_isi (by rfl) z_isinstance (by decide +kernel) (pa_cons (pv 1) (pa_cons (pe_bltn (v := .ty "tuple") (u := .type "tuple") (by rfl) z_tuple (by decide +kernel) rfl) pa_nil))))) (pw_or1 (pt_cmpR op_ne (pe_callB call_len_seq (by rfl) z_len PySem.boot_len (pa_cons (pv 1) pa_nil)) pe_int (nomark _)))))
    (pss_one (ps_ret pe_bl))
    pss_nil)
    (pss_cons (ps_asg (pv 1) (pg_tup (by rfl) (pgs_cons (pg_name (i := 2) scIsTreeNode.nd rfl (Or.inl rfl)) (pgs_cons (pg_name (i := 3) scIsTreeNode.nd rfl (Or.inl rfl)) pgs_nil))))
    (pss_cons (ps_if (PW.pt (pw_or (pt_not (pt_val (pe_call GIsBetween (hr.mono (by decide)) rfl AIsBetween.m AIsBetween.kp AIsBetween.b .nil pass0 (pa_cons (pv 2) (pa_cons pe_int (pa_cons (pe_op op_sub (pv 0) pe_int) pa_nil)))))) (pw_or1 (pt_not (pt_val (pe_call GIsBetween (hr.mono (by decide)) rfl AIsBetween.m AIsBetween.kp AIsBetween.b .nil pass0 (pa_cons (pv 3) (pa_cons (pe_op op_add (pv 2) pe_int) (pa_cons (pv 0) pa_nil)))))))))
    (pss_one (ps_ret pe_bl))
    pss_nil)
    (pss_cons (ps_set (i := 4) scIsTreeNode.nd rfl (Or.inl rfl) (pe_op op_shl pe_int (pe_bits (pe_op op_sub (pe_op op_sub (pv 3) (pv 2)) pe_int))))
    (pss_one (ps_ret (pe_and (pe_cmpR op_eq (pe_op op_modN (pv 2) (pv 4)) pe_int (nomark _)) (pe_one (pe_or (pe_cmpR op_eq (pe_op op_sub (pv 3) (pv 2)) (pv 4) (nomark _)) (pe_one (pe_cmpR op_eq (pv 3) (pv 0) (nomark _)))))))))))), ?_⟩
  refine ⟨_, rfl, _, _, _, _, true, rfl, .ty "tuple", .base (.tup hp), kit_ty (by decide +kernel), true, rfl, ?_⟩
  refine ⟨_, rfl, p, _, rfl, .inr (SqT.of hp), rfl, false, rfl, ?_⟩
  refine ⟨_, rfl, p, _, rfl, SqT.of hp, rfl, _, _, rfl, _, _, rfl, rfl, ?_⟩
  refine ⟨_, rfl, _, rfl, _, _, rfl, rfl, _, _, _, rfl, true, ?_, ?_⟩
  · exact congrArg V.bl (by rw [Bool.and_eq_true]; exact ⟨decide_eq_true (by omega), decide_eq_true (by show (b : Int) ≤ n - 1; omega)⟩)
  refine ⟨_, rfl, _, rfl, _, _, rfl, rfl, _, rfl, _, _, _, rfl, true, ?_, ?_⟩
  · exact congrArg V.bl (by rw [Bool.and_eq_true]; exact ⟨decide_eq_true (by show (b : Int) + 1 ≤ ((b + m : Nat) : Int); omega), decide_eq_true (by show ((b + m : Nat) : Int) ≤ n; omega)⟩)
  have e1 : ((b + m : Nat) : Int) - (b : Int) - 1 = ((m - 1 : Nat) : Int) := by omega
  refine ⟨_, rfl, _, rfl, _, _, rfl, rfl, _, _, rfl, rfl, _, rfl, ?_⟩
  dsimp only
  rw [e1, bits_lb hm]
  have l100 := lb100 (show m ≤ 10 ^ 30 by omega)
  refine ⟨_, _, rfl, rfl, ⟨Int.natCast_nonneg _, by omega, by decide⟩, ?_⟩
  have e2 : (1 : Int) * 2 ^ ((lb m : Nat) : Int).toNat = ((2 ^ lb m : Nat) : Int) := by rw [Int.one_mul, Int.toNat_natCast]; exact (Int.natCast_pow 2 (lb m)).symm
  dsimp only
  rw [e2]
  obtain ⟨d, k⟩ := ht
  have pz : 0 < 2 ^ lb m := Nat.pow_pos (by decide)
  generalize 2 ^ lb m = R at d k pz
  refine ⟨_, rfl, _, rfl, _, _, rfl, rfl, by omega, rfl, true, ?_, ?_⟩
  · show V.bl (decide (V.int (Int.fmod (b : Int) (R : Int)) = V.int 0)) = V.bl true
    rw [fmod_of_dvd d, decide_eq_true rfl]
  refine ⟨_, rfl, _, rfl, _, _, rfl, rfl, _, rfl, rfl, _, rfl, ite2 (fun c => q) (fun c => ?_)⟩
  have c1 : ¬ V.int (((b + m : Nat) : Int) - (b : Int)) = V.int (R : Int) := of_decide_eq_false (Bool.eq_false_iff.mpr c)
  refine ⟨_, rfl, _, rfl, rfl, ?_⟩
  have e4 : b + m = n := by
    rcases k with k | k
    · exact absurd (congrArg V.int (by omega)) c1
    · exact k
  show Q (V.bl (decide (V.int ((b + m : Nat) : Int) = V.int (n : Int)))) H
  rw [decide_eq_true (by rw [e4])]
  exact q
def spCheckNode : Sp := fun vs H Q _ => ∃ (n b m : Nat) (v : V), vs = [.int n, v] ∧ Nd H v (b, b + m) ∧ 1 ≤ m ∧ b + m ≤ n ∧ n ≤ 10 ^ 30 ∧ tree n b m ∧ Q .non H
theorem ok_check_node {f g : Addr} {fd gd : FuncData} (F : Fun K "check_node" "check_node" sCheckNode f fd) (GIsTreeNode : FnOk P w K mg base CX0 3 g gd ["size", "value"] spTree) (AIsTreeNode : At K mg "is_tree_node" g gd ["size", "value"]) : FnOk P w K mg base CX0 4 f fd ["size", "node"] spCheckNode := by
  refine F.ok scCheckNode (fun vs H Q E h => ?_) (fun cdv A outer s H vs Q E hr h => ?_)
  · obtain ⟨_, _, _, _, rfl, _⟩ := h
    rfl
  obtain ⟨n, b, m, v, rfl, hv, hm, hn, h30, ht, q⟩ := h
  refine ⟨_, (pss_one (ps_if (pt_not (pt_val (pe_call GIsTreeNode (hr.mono (by decide)) rfl AIsTreeNode.m AIsTreeNode.kp AIsTreeNode.b .nil pass0 (pa_cons (pv 0) (pa_cons (pv 1) pa_nil)))))
    (pss_one ps_never)
    pss_nil)), ?_⟩
  refine ⟨_, rfl, _, rfl, n, b, m, v, rfl, hv, hm, hn, h30, ht, true, rfl, q⟩
end
end LT

namespace LT
open PySem PySem.Spec PyProof.Rows L2
section
variable {P : Program} {w : World} {K : PySem.W.Frag} {mg : Str → Option Value} {base : Heap}
def spCheckNumber : Sp := fun vs H Q _ => ∃ n : Int, vs = [.int n] ∧ Q .non H
theorem ok_check_number {f g : Addr} {fd gd : FuncData} (F : Fun K "check_number" "check_number" sCheckNumber f fd) (GIsWhole : FnOk P w K mg base CX0 1 g gd ["value"] spWhole) (AIsWhole : At K mg "is_whole" g gd ["value"]) : FnOk P w K mg base CX0 2 f fd ["number"] spCheckNumber := by
  refine F.ok scCheckNumber (fun vs H Q E h => ?_) (fun cdv A outer s H vs Q E hr h => ?_)
  · obtain ⟨_, rfl, _⟩ := h
    rfl
  obtain ⟨n, rfl, q⟩ := h
  refine ⟨_, (pss_one (ps_if (pt_not (pt_val (pe_call GIsWhole (hr.mono (by decide)) rfl AIsWhole.m AIsWhole.kp AIsWhole.b .nil pass0 (pa_cons (pv 0) pa_nil))))
    (pss_one ps_never)
    pss_nil)), ?_⟩
  exact ⟨_, rfl, n, rfl, true, rfl, q⟩
end
end LT

namespace LT
open PySem PySem.Spec PyProof.Rows L2
section
variable {P : Program} {w : World} {K : PySem.W.Frag} {mg : Str → Option Value} {base : Heap}
def spPower : Sp := fun vs H Q _ => ∃ (k : Nat), vs = [.int k] ∧ 1 ≤ k ∧ k ≤ 10 ^ 30 ∧ Q (.int ((2 ^ k.log2 : Nat) : Int)) H
theorem ok_power_within {f : Addr} {fd : FuncData} (F : Fun K "power_within" "power_within" sPowerWithin f fd) : FnOk P w K mg base CX0 1 f fd ["number"] spPower := by
  refine F.ok scPowerWithin (fun vs H Q E h => ?_) (fun cdv A outer s H vs Q E hr h => ?_)
  · obtain ⟨_, rfl, _⟩ := h
    rfl
  obtain ⟨k, rfl, h1, h30, q⟩ := h
  refine ⟨_, (pss_one (ps_ret (pe_op op_shl pe_int (pe_op op_sub (pe_bits (pv 0)) pe_int)))), ?_⟩
  refine ⟨_, rfl, _, rfl, _, _, rfl, rfl, ?_⟩
  dsimp only
  have e : ((Builtin.Int.intBits (k : Int) : Nat) : Int) - 1 = ((k.log2 : Nat) : Int) := by
    rw [bits_nat, if_neg (by omega)]
    omega
  rw [e]
  have l100 : k.log2 < 100 := (Nat.log2_lt (by omega)).mpr (Nat.lt_of_le_of_lt h30 (by decide))
  refine ⟨_, _, rfl, rfl, ⟨Int.natCast_nonneg _, by omega, by decide⟩, ?_⟩
  have e2 : (1 : Int) * 2 ^ ((k.log2 : Nat) : Int).toNat = ((2 ^ k.log2 : Nat) : Int) := by rw [Int.one_mul, Int.toNat_natCast]; exact (Int.natCast_pow 2 _).symm
  show Q (.int ((1 : Int) * 2 ^ ((k.log2 : Nat) : Int).toNat)) H
  rw [e2]
  exact q
end
end LT

namespace LT
open PySem PySem.Spec PyProof.Rows L2
section
variable {P : Program} {w : World} {K : PySem.W.Frag} {mg : Str → Option Value} {base : Heap}
def spBag : Sp := fun vs H Q _ => ∃ c : Int, vs = [.int c] ∧ ∀ (H' : Hp) (p : Addr), Same H H' → H p = none → BagAt H' p → Q (.ref p) H'
theorem ok_law_bag {f : Addr} {fd : FuncData} (F : Fun K "_law_bag" "_law_bag" sLawBag f fd) (z_max : mg "max" = none) : FnOk P w K mg base CX0 1 f fd ["cell"] spBag := by
  refine F.ok scLawBag (fun vs H Q E h => ?_) (fun cdv A outer s H vs Q E hr h => ?_)
  · obtain ⟨_, rfl, _⟩ := h
    rfl
  obtain ⟨c, rfl, q⟩ := h
  refine ⟨_, (pss_one (ps_ret (pe_lst (pa_cons (pe_callB (call_max2 rfl) (by rfl) z_max (by decide +kernel) (pa_cons pe_int (pa_cons (pe_op op_sub (pv 0) (pe_op op_pow pe_int pe_int)) pa_nil))) (pa_cons (pv 0) (pa_cons pe_int pa_nil)))))), ?_⟩
  refine ⟨_, rfl, _, _, rfl, rfl, ⟨by decide, by decide, by decide⟩, _, _, rfl, rfl, _, _, rfl, _, rfl, (by show 3 ≤ sizeLine; decide), fun p np => ?_⟩
  exact q _ p (same_upd np) np ⟨_, _, _, upd_same⟩
theorem fm0 (x : Int) {m : Int} (h : 0 < m) : 0 ≤ x.fmod m := by
  rw [Int.fmod_eq_emod_of_nonneg _ (by omega)]
  exact Int.emod_nonneg _ (by omega)
theorem fm1 (x : Int) {m : Int} (h : 0 < m) : x.fmod m < m := by
  rw [Int.fmod_eq_emod_of_nonneg _ (by omega)]
  exact Int.emod_lt_of_pos _ h
def spPick : Sp := fun vs H Q _ => ∃ (b : Addr) (many : Int), vs = [.ref b, .int many] ∧ 0 < many ∧ many.natAbs < 2 ^ 250 ∧ BagAt H b ∧
  ∀ (r : Int) (H' : Hp), 0 ≤ r → r < many → (∀ a, a ≠ b → H' a = H a) → BagAt H' b → Q (.int r) H'
theorem ok_law_pick {f : Addr} {fd : FuncData} (F : Fun K "_law_pick" "_law_pick" sLawPick f fd) (z_int : mg "int" = none) : FnOk P w K mg base CX0 1 f fd ["bag", "many"] spPick := by
  refine F.ok scLawPick (fun vs H Q E h => ?_) (fun cdv A outer s H vs Q E hr h => ?_)
  · obtain ⟨_, _, rfl, _⟩ := h
    rfl
  obtain ⟨b, many, rfl, hm, hm2, ⟨x, y, z, h0⟩, q⟩ := h
  refine ⟨_, (pss_cons (ps_asg (pe_op op_add (pe_ix ix_list (pv 0) pe_int (fun _ _ => rfl)) pe_int) (pg_sub (pv 0) pe_int set_list))
    (pss_cons (ps_if (pt_cmpR op_gt (pe_ix ix_list (pv 0) pe_int (fun _ _ => rfl)) pe_int (nomark _))
    (pss_cons (ps_set (i := 2) scLawPick.nd rfl (Or.inl rfl) (pe_op op_modN (pe_callTy call_int1 (by rfl) z_int (by decide +kernel) (pa_cons (pe_ix ix_list (pv 0) pe_int (fun _ _ => rfl)) pa_nil)) (pv 1)))
    (pss_cons (ps_asg (pe_op op_fdivW (pe_callTy call_int1 (by rfl) z_int (by decide +kernel) (pa_cons (pe_ix ix_list (pv 0) pe_int (fun _ _ => rfl)) pa_nil)) (pv 1)) (pg_sub (pv 0) pe_int set_list))
    (pss_one (ps_ret (pv 2)))))
    pss_nil)
    (pss_cons (ps_par (i := 3) (j := 4) (by rfl) scLawPick.nd rfl rfl (by decide) rfl rfl (pa_cons (pe_callTy call_int1 (by rfl) z_int (by decide +kernel) (pa_cons (pe_ix ix_list (pv 0) pe_int (fun _ _ => rfl)) pa_nil)) (pa_cons (pe_callTy call_int1 (by rfl) z_int (by decide +kernel) (pa_cons (pe_ix ix_list (pv 0) pe_int (fun _ _ => rfl)) pa_nil)) pa_nil)) (by rfl))
    (pss_cons (ps_set (i := 5) scLawPick.nd rfl (Or.inl rfl) (pe_op op_modN (pe_callTy call_int1 (by rfl) z_int (by decide +kernel) (pa_cons (pe_op op_add (pe_op op_add (pe_op op_mul (pe_op op_modN (pv 3) pe_int) pe_int) (pe_op op_mul (pv 4) pe_int)) pe_int) pa_nil)) pe_int))
    (pss_cons (ps_set (i := 6) scLawPick.nd rfl (Or.inl rfl) (pe_op op_modN (pe_callTy call_int1 (by rfl) z_int (by decide +kernel) (pa_cons (pe_op op_add (pe_op op_mul (pv 5) (pv 5)) (pe_op op_mul (pv 4) pe_int)) pa_nil)) pe_int))
    (pss_cons (ps_set (i := 7) scLawPick.nd rfl (Or.inl rfl) (pe_op op_fdivW (pe_callTy call_int1 (by rfl) z_int (by decide +kernel) (pa_cons (pe_op op_add (pe_op op_mul (pv 5) pe_int) (pv 6)) pa_nil)) pe_int))
    (pss_cons (ps_if (pt_cmpR op_gt (pv 1) (pe_op op_pow pe_int pe_int) (nomark _))
    (pss_one (ps_set (i := 7) scLawPick.nd rfl (Or.inl rfl) (pe_op op_add (pe_op op_pow (pv 7) pe_int) (pv 6))))
    pss_nil)
    (pss_one (ps_ret (pe_op op_modN (pe_callTy call_int1 (by rfl) z_int (by decide +kernel) (pa_cons (pv 7) pa_nil)) (pv 1))))))))))), ?_⟩
  refine ⟨_, rfl, b, _, _, _, rfl, rfl, SqL.of h0, atI_nat (j := 2) rfl, _, _, rfl, rfl, _, rfl, b, _, _, 2, rfl, rfl, h0, rfl, ?_⟩
  dsimp only
  have h1 : (upd H b (.lst ([.int x, .int y, .int z].set 2 (.int (z + 1))))) b = some (.lst [.int x, .int y, .int (z + 1)]) := upd_same
  have k1 : ∀ a, a ≠ b → (upd H b (.lst ([.int x, .int y, .int z].set 2 (.int (z + 1))))) a = H a := fun a ha => upd_ne ha
  generalize upd H b (.lst ([.int x, .int y, .int z].set 2 (.int (z + 1)))) = H1 at h1 k1
  refine ⟨_, rfl, b, _, _, _, rfl, rfl, SqL.of h1, atI_nat (j := 0) rfl, _, _, rfl, rfl, _, rfl, ite2 (fun c => ?_) (fun c => ?_)⟩
  · refine ⟨_, rfl, b, _, _, _, rfl, rfl, SqL.of h1, atI_nat (j := 0) rfl, .inl ⟨_, rfl, _, rfl, _, _, rfl, rfl, by omega, ?_⟩⟩
    refine ⟨_, rfl, b, _, _, _, rfl, rfl, SqL.of h1, atI_nat (j := 0) rfl, .inl ⟨_, rfl, _, rfl, _, _, rfl, rfl, wide_div hm hm2 (by decide) (by decide), _, rfl, b, _, _, 0, rfl, rfl, h1, rfl, ?_⟩⟩
    refine ⟨_, rfl, ?_⟩
    exact q _ _ (fm0 x hm) (fm1 x hm) (fun a ha => by rw [upd_ne ha]; exact k1 a ha) ⟨_, _, _, upd_same⟩
  · refine ⟨_, rfl, b, _, _, _, rfl, rfl, SqL.of h1, atI_nat (j := 1) rfl, .inl ⟨_, rfl, _, rfl, b, _, _, _, rfl, rfl, SqL.of h1, atI_nat (j := 2) rfl, .inl ⟨_, rfl, _, _, rfl, ?_⟩⟩⟩
    refine ⟨_, rfl, _, _, rfl, rfl, (by show (2147483629 : Int) ≠ 0; decide), _, _, rfl, rfl, .inr ⟨by decide, by decide⟩, _, rfl, _, _, rfl, rfl, .inr ⟨by decide, by decide⟩, _, _, rfl, rfl, _, _, rfl, rfl, .inl ⟨_, rfl, _, _, rfl, rfl, (by show (2147483647 : Int) ≠ 0; decide), ?_⟩⟩
    dsimp only
    have a0 := fm0 (y.fmod 2147483629 * 48271 + (z + 1) * 69621 + 12345) (m := 2147483647) (by decide)
    have a1 := fm1 (y.fmod 2147483629 * 48271 + (z + 1) * 69621 + 12345) (m := 2147483647) (by decide)
    generalize (y.fmod 2147483629 * 48271 + (z + 1) * 69621 + 12345).fmod 2147483647 = fi at a0 a1
    refine ⟨_, rfl, _, rfl, _, _, rfl, rfl, .inl ⟨by omega, by omega⟩, _, rfl, _, _, rfl, rfl, .inr ⟨by decide, by decide⟩, _, _, rfl, rfl, .inl ⟨_, rfl, _, _, rfl, rfl, (by show (2147483587 : Int) ≠ 0; decide), ?_⟩⟩
    dsimp only
    have b0 := fm0 (fi * fi + (z + 1) * 40692) (m := 2147483587) (by decide)
    have b1 := fm1 (fi * fi + (z + 1) * 40692) (m := 2147483587) (by decide)
    generalize (fi * fi + (z + 1) * 40692).fmod 2147483587 = se at b0 b1
    refine ⟨_, rfl, _, _, rfl, rfl, .inl ⟨by omega, by omega⟩, _, rfl, _, _, rfl, rfl, .inl ⟨_, rfl, _, _, rfl, rfl, wide_div (b := 6) (by decide) (by decide) (by decide) (by decide), ?_⟩⟩
    dsimp only
    have c0 : 0 ≤ (fi * 2147483587 + se) / 32 := by omega
    have c1 : (fi * 2147483587 + se) / 32 < 2 ^ 62 := by omega
    generalize (fi * 2147483587 + se) / 32 = dr at c0 c1
    refine ⟨_, rfl, _, _, rfl, rfl, ⟨by decide, by decide, by decide⟩, _, _, rfl, rfl, _, rfl, ite2 (fun c => ?_) (fun c => ?_)⟩
    · refine ⟨_, rfl, _, _, rfl, rfl, ⟨by decide, by decide, by omega⟩, _, rfl, _, _, rfl, rfl, ?_⟩
      refine ⟨_, rfl, .inl ⟨_, rfl, _, rfl, _, _, rfl, rfl, by omega, ?_⟩⟩
      exact q _ _ (fm0 _ hm) (fm1 _ hm) k1 ⟨_, _, _, h1⟩
    · refine ⟨_, rfl, .inl ⟨_, rfl, _, rfl, _, _, rfl, rfl, by omega, ?_⟩⟩
      exact q _ _ (fm0 _ hm) (fm1 _ hm) k1 ⟨_, _, _, h1⟩
end
end LT

namespace LT
/-- the nodes from (b, b + m) down, as the law lists them -/
def nodesF : Nat → Nat → Nat → List (Nat × Nat)
  | 0, _, _ => []
  | i + 1, b, m => if m ≤ 1 then [(b, b + m)] else (b, b + m) :: (nodesF i b (gp m) ++ nodesF i (b + gp m) (m - gp m))
theorem nodesF_one {i b m : Nat} (h : m ≤ 1) : nodesF (i + 1) b m = [(b, b + m)] := if_pos h
theorem nodesF_two {i b m : Nat} (h : ¬ m ≤ 1) : nodesF (i + 1) b m = (b, b + m) :: (nodesF i b (gp m) ++ nodesF i (b + gp m) (m - gp m)) := if_neg h
theorem gp_half {i m : Nat} (h : 2 ≤ m) (k : 2 * m ≤ 2 ^ (i + 1)) : 2 * gp m ≤ 2 ^ i ∧ 2 * (m - gp m) ≤ 2 ^ i := by
  have g1 := gp_lt h
  have g2 := gp_ge h
  have p := Nat.pow_succ (n := 2) (m := i)
  have : gp m < 2 ^ i := by omega
  unfold gp at this ⊢
  have e := (Nat.pow_lt_pow_iff_right (by decide : 1 < 2)).mp this
  have e2 : 2 ^ ((m - 1).log2 + 1) ≤ 2 ^ i := Nat.pow_le_pow_right (by decide) (by omega)
  rw [Nat.pow_succ] at e2
  unfold gp at g1 g2
  omega
theorem nodesF_len : ∀ (i b m : Nat), 1 ≤ m → 2 * m ≤ 2 ^ i → (nodesF i b m).length = 2 * m - 1
  | 0, b, m, h1, h2 => by simp at h2; omega
  | i + 1, b, m, h1, h2 => by
    by_cases c : m ≤ 1
    · rw [nodesF_one c]
      simp
      omega
    · rw [nodesF_two c, List.length_cons, List.length_append]
      have g1 := gp_lt (m := m) (by omega)
      have g3 := gp_pos m
      obtain ⟨k1, k2⟩ := gp_half (by omega) h2
      rw [nodesF_len i b (gp m) g3 k1, nodesF_len i (b + gp m) (m - gp m) (by omega) k2]
      omega
/-- a node of tree(n) -/
def isN (n : Nat) (x : Nat × Nat) : Prop := x.1 < x.2 ∧ x.2 ≤ n ∧ tree n x.1 (x.2 - x.1)
theorem mul_le_of_lt {R a b : Nat} (h1 : R ∣ a) (h2 : R ∣ b) (h : a < b) : a + R ≤ b := by
  obtain ⟨x, rfl⟩ := h1
  obtain ⟨y, rfl⟩ := h2
  have : x < y := Nat.lt_of_mul_lt_mul_left h
  calc R * x + R = R * (x + 1) := by rw [Nat.mul_succ]
    _ ≤ R * y := Nat.mul_le_mul_left R this
/-- a node within another one is it, or lies within one of its halves -/
theorem node_in {n b m : Nat} (h : 2 ≤ m) (t : tree n b m) (hn : b + m ≤ n) {x : Nat × Nat} (hx : isN n x) (h1 : b ≤ x.1) (h2 : x.2 ≤ b + m) : x = (b, b + m) ∨ x.2 ≤ b + gp m ∨ b + gp m ≤ x.1 := by
  obtain ⟨x1, x2⟩ := x
  obtain ⟨k1, k2, d, k3⟩ := hx
  simp only at k1 k2 d k3 h1 h2
  by_cases c1 : x2 ≤ b + gp m
  · exact .inr (.inl c1)
  by_cases c2 : b + gp m ≤ x1
  · exact .inr (.inr c2)
  left
  obtain ⟨td, tk⟩ := t
  have e := lb_gp h
  rw [e] at td tk
  have g1 := gp_lt h
  have g2 := gp_ge h
  have gR : gp m = 2 ^ Nat.log2 (m - 1) := rfl
  generalize hr : lb (x2 - x1) = r at d k3
  have ge := lb_ge (x2 - x1)
  rw [hr] at ge
  by_cases c : r ≤ Nat.log2 (m - 1)
  · -- small: a multiple of 2 ^ r below b + gp m ends there at most
    have dg : 2 ^ r ∣ gp m := by rw [gR]; exact Nat.pow_dvd_pow 2 c
    have db : 2 ^ r ∣ b := Nat.dvd_trans dg (Nat.dvd_trans (Nat.dvd_mul_left _ _) td)
    have := mul_le_of_lt d (Nat.dvd_add db dg) (by omega : x1 < b + gp m)
    omega
  · have dd : 2 * gp m ∣ 2 ^ r := by
      rw [gR, Nat.mul_comm, ← Nat.pow_succ]
      exact Nat.pow_dvd_pow 2 (by omega)
    have dx := Nat.dvd_trans dd d
    have ex : x1 = b := by
      by_cases z : b < x1
      · have := mul_le_of_lt td dx z
        omega
      · omega
    subst ex
    have le : 2 * gp m ≤ 2 ^ r := Nat.le_of_dvd (Nat.pow_pos (by decide)) dd
    have rl : r ≤ Nat.log2 (m - 1) + 1 := by
      rw [← hr]
      refine lb_le ?_
      rw [Nat.pow_succ, ← gR]
      omega
    have e2 : 2 ^ r ≤ 2 * gp m := by
      rw [gR, Nat.mul_comm, ← Nat.pow_succ]
      exact Nat.pow_le_pow_right (by decide) rl
    have : x2 = x1 + m := by
      rcases k3 with k3 | k3 <;> omega
    rw [this]
theorem mem_nodesF (n : Nat) (x : Nat × Nat) : ∀ (i b m : Nat), 1 ≤ m → 2 * m ≤ 2 ^ i → tree n b m → b + m ≤ n → (x ∈ nodesF i b m ↔ isN n x ∧ b ≤ x.1 ∧ x.2 ≤ b + m)
  | 0, b, m, h1, h2, _, _ => by simp at h2; omega
  | i + 1, b, m, h1, h2, t, hn => by
    by_cases c : m ≤ 1
    · have em : m = 1 := by omega
      subst em
      rw [nodesF_one (by omega), List.mem_singleton]
      constructor
      · rintro rfl
        exact ⟨⟨by simp, by simpa using hn, by simpa using t⟩, by simp, by simp⟩
      · rintro ⟨⟨k1, _⟩, k2, k3⟩
        have : x.1 = b ∧ x.2 = b + 1 := by omega
        exact Prod.ext this.1 this.2
    · rw [nodesF_two c, List.mem_cons, List.mem_append]
      have g1 := gp_lt (m := m) (by omega)
      have g3 := gp_pos m
      obtain ⟨k1, k2⟩ := gp_half (by omega) h2
      have e : b + gp m + (m - gp m) = b + m := by omega
      have il := mem_nodesF n x i b (gp m) g3 k1 (tree_low (by omega) t) (by omega)
      have ih := mem_nodesF n x i (b + gp m) (m - gp m) (by omega) k2 (tree_high (by omega) t) (by omega)
      rw [il, ih, e]
      constructor
      · rintro (rfl | ⟨p, q, r⟩ | ⟨p, q, r⟩)
        · exact ⟨⟨by simp; omega, by simpa using hn, by simpa using t⟩, by simp, by simp⟩
        · exact ⟨p, q, by omega⟩
        · exact ⟨p, by omega, r⟩
      · rintro ⟨p, q, r⟩
        rcases node_in (by omega) t hn p q r with z | z | z
        · exact .inl z
        · exact .inr (.inl ⟨p, q, z⟩)
        · exact .inr (.inr ⟨p, z, r⟩)
instance (n : Nat) (x : Nat × Nat) : Decidable (tree n x.1 (x.2 - x.1)) := by unfold tree; infer_instance
instance (n : Nat) (x : Nat × Nat) : Decidable (isN n x) := by unfold isN; infer_instance
end LT

namespace LT
open PySem PySem.Spec PyProof.Rows L2
def tnV (n : Nat) : V → V → Bool
  | .int b, .int e => decide (0 ≤ b ∧ isN n (b.toNat, e.toNat))
  | _, _ => false
theorem tn_out {n : Nat} {b e : Int} (h : ¬ (0 ≤ b ∧ b < e ∧ e ≤ n)) : tnV n (.int b) (.int e) = false := by
  refine decide_eq_false (fun ⟨h0, k⟩ => h ⟨h0, ?_, ?_⟩)
  · have := k.1
    simp only at this
    omega
  · have := k.1
    have := k.2.1
    simp only at *
    omega
/-- what may be asked whether it is a node -/
inductive Ask (K : PySem.W.Frag) (H : Hp) (n : Nat) : V → Bool → Prop
  | kind {v : V} {t : String} : Pl K H v t → t ≠ "tuple" → Ask K H n v false
  | long {p : Addr} {xs : List V} : H p = some (.tup xs) → xs.length ≠ 2 → xs.length ≤ 1000 → Ask K H n (.ref p) false
  | pair {p : Addr} {v1 v2 : V} {t1 t2 : String} : H p = some (.tup [v1, v2]) → Pl K H v1 t1 → Pl K H v2 t2 → Ask K H n (.ref p) (tnV n v1 v2)
theorem kit_tup {t : String} {K : PySem.W.Frag} {H : Hp} {v : V} (h : Pl K H v t) (hn : t ≠ "tuple") : PySem.W.kitOne K (.type t) (.type "tuple") = some false := by
  cases h with
  | non => exact kit_ty (by decide +kernel)
  | bl _ => exact kit_ty (by decide +kernel)
  | int _ => exact kit_ty (by decide +kernel)
  | str _ => exact kit_ty (by decide +kernel)
  | lst _ => exact kit_ty (by decide +kernel)
  | tup _ => exact absurd rfl hn
  | dict _ => exact kit_ty (by decide +kernel)
section
variable {P : Program} {w : World} {K : PySem.W.Frag} {mg : Str → Option Value} {base : Heap}
def spTreeV (K : PySem.W.Frag) : Sp := fun vs H Q _ => ∃ (n : Nat) (v : V) (r : Bool), vs = [.int n, v] ∧ 1 ≤ n ∧ n ≤ 10 ^ 30 ∧ Ask K H n v r ∧ Q (.bl r) H
theorem ok_is_tree_nodeV {f g : Addr} {fd gd : FuncData} (F : Fun K "is_tree_node" "is_tree_node" sIsTreeNode f fd) (GIsBetween : FnOk P w K mg base CX0 2 g gd ["value", "low", "high"] (spBetweenV K)) (AIsBetween : At K mg "is_between" g gd ["value", "low", "high"])
    (z_isinstance : mg "isinstance" = none) (z_tuple : mg "tuple" = none) (z_len : mg "len" = none) : FnOk P w K mg base CX0 3 f fd ["size", "value"] (spTreeV K) := by
  refine F.ok scIsTreeNode (fun vs H Q E h => ?_) (fun cdv A outer s H vs Q E hr h => ?_)
  · obtain ⟨_, _, _, rfl, _⟩ := h
    rfl
  obtain ⟨n, v, r, rfl, n1, h30, ask, q⟩ := h
  refine ⟨_, (pss_cons (ps_if (PW.pt (pw_or (pt_not (pt_val (pe_callB call_isi (by rfl) z_isinstance (by decide +kernel) (pa_cons (pv 1) (pa_cons (pe_bltn (v := .ty "tuple") (u := .type "tuple") (by rfl) z_tuple (by decide +kernel) rfl) pa_nil))))) (pw_or1 (pt_cmpR op_ne (pe_callB call_len_seq (by rfl) z_len PySem.boot_len (pa_cons (pv 1) pa_nil)) pe_int (nomark _)))))
    (pss_one (ps_ret pe_bl))
    pss_nil)
    (pss_cons (ps_asg (pv 1) (pg_tup (by rfl) (pgs_cons (pg_name (i := 2) scIsTreeNode.nd rfl (Or.inl rfl)) (pgs_cons (pg_name (i := 3) scIsTreeNode.nd rfl (Or.inl rfl)) pgs_nil))))
    (pss_cons (ps_if (PW.pt (pw_or (pt_not (pt_val (pe_call GIsBetween (hr.mono (by decide)) rfl AIsBetween.m AIsBetween.kp AIsBetween.b .nil pass0 (pa_cons (pv 2) (pa_cons pe_int (pa_cons (pe_op op_sub (pv 0) pe_int) pa_nil)))))) (pw_or1 (pt_not (pt_val (pe_call GIsBetween (hr.mono (by decide)) rfl AIsBetween.m AIsBetween.kp AIsBetween.b .nil pass0 (pa_cons (pv 3) (pa_cons (pe_op op_add (pv 2) pe_int) (pa_cons (pv 0) pa_nil)))))))))
    (pss_one (ps_ret pe_bl))
    pss_nil)
    (pss_cons (ps_set (i := 4) scIsTreeNode.nd rfl (Or.inl rfl) (pe_op op_shl pe_int (pe_bits (pe_op op_sub (pe_op op_sub (pv 3) (pv 2)) pe_int))))
    (pss_one (ps_ret (pe_and (pe_cmpR op_eq (pe_op op_modN (pv 2) (pv 4)) pe_int (nomark _)) (pe_one (pe_or (pe_cmpR op_eq (pe_op op_sub (pv 3) (pv 2)) (pv 4) (nomark _)) (pe_one (pe_cmpR op_eq (pv 3) (pv 0) (nomark _)))))))))))), ?_⟩
  cases ask with
  | @kind _ t hv ht => exact ⟨_, rfl, _, _, _, _, false, rfl, .ty "tuple", hv.ty, kit_tup hv ht, false, rfl, q⟩
  | @long p xs hp hl h1000 =>
    refine ⟨_, rfl, _, _, _, _, true, rfl, .ty "tuple", .base (.tup hp), kit_ty (by decide +kernel), true, rfl, ?_⟩
    refine ⟨_, rfl, p, _, rfl, .inr (SqT.of hp), rfl, true, ?_, q⟩
    refine congrArg V.bl ?_
    rw [Bool.not_eq_true']
    exact decide_eq_false (fun z => hl (by have := V.int.inj z; omega))
  | @pair p v1 v2 ty1 ty2 hp p1 p2 =>
    refine ⟨_, rfl, _, _, _, _, true, rfl, .ty "tuple", .base (.tup hp), kit_ty (by decide +kernel), true, rfl, ?_⟩
    refine ⟨_, rfl, p, _, rfl, .inr (SqT.of hp), rfl, false, rfl, ?_⟩
    refine ⟨_, rfl, p, _, rfl, SqT.of hp, rfl, _, _, rfl, _, _, rfl, rfl, ?_⟩
    refine ⟨_, rfl, _, rfl, _, _, rfl, rfl, v1, ty1, _, _, rfl, p1, inRange 0 ((n : Int) - 1) v1, rfl, ?_⟩
    cases h1 : inRange 0 ((n : Int) - 1) v1 with
    | false =>
      have e : tnV n v1 v2 = false := by
        cases v1 with
        | int b =>
          cases v2 with
          | int e =>
            refine tn_out (fun k => ?_)
            have h1' : (decide (0 ≤ b) && decide (b ≤ (n : Int) - 1)) = false := h1
            rw [decide_eq_true k.1, decide_eq_true (show b ≤ (n : Int) - 1 by omega)] at h1'
            exact absurd h1' (by decide)
          | _ => rfl
        | _ => rfl
      rw [e] at q
      exact q
    | true =>
      cases p1 with
      | int b =>
        have h1' : (decide (0 ≤ b) && decide (b ≤ (n : Int) - 1)) = true := h1
        rw [Bool.and_eq_true] at h1'
        have b0 := of_decide_eq_true h1'.1
        have b1 := of_decide_eq_true h1'.2
        refine ⟨_, rfl, _, rfl, _, _, rfl, rfl, _, rfl, v2, ty2, _, _, rfl, p2, inRange (b + 1) (n : Int) v2, rfl, ?_⟩
        cases h2 : inRange (b + 1) (n : Int) v2 with
        | false =>
          have e : tnV n (.int b) v2 = false := by
            cases v2 with
            | int e =>
              refine tn_out (fun k => ?_)
              have h2' : (decide (b + 1 ≤ e) && decide (e ≤ (n : Int))) = false := h2
              rw [decide_eq_true (show b + 1 ≤ e by omega), decide_eq_true k.2.2] at h2'
              exact absurd h2' (by decide)
            | _ => rfl
          rw [e] at q
          exact q
        | true =>
          cases p2 with
          | int e =>
            have h2' : (decide (b + 1 ≤ e) && decide (e ≤ (n : Int))) = true := h2
            rw [Bool.and_eq_true] at h2'
            have e0 := of_decide_eq_true h2'.1
            have e1 := of_decide_eq_true h2'.2
            obtain ⟨bn, rfl⟩ := Int.eq_ofNat_of_zero_le b0
            obtain ⟨en, rfl⟩ := Int.eq_ofNat_of_zero_le (show 0 ≤ e by omega)
            have hlt : bn < en := by omega
            have ev : tnV n (.int (bn : Int)) (.int (en : Int)) = decide (isN n (bn, en)) := by
              show decide (0 ≤ (bn : Int) ∧ isN n ((bn : Int).toNat, (en : Int).toNat)) = decide (isN n (bn, en))
              rw [Int.toNat_natCast, Int.toNat_natCast]
              by_cases k : isN n (bn, en)
              · rw [decide_eq_true k, decide_eq_true ⟨b0, k⟩]
              · rw [decide_eq_false k, decide_eq_false (fun z => k z.2)]
            rw [ev] at q
            have em : (en : Int) - (bn : Int) - 1 = ((en - bn - 1 : Nat) : Int) := by omega
            refine ⟨_, rfl, _, rfl, _, _, rfl, rfl, _, _, rfl, rfl, _, rfl, ?_⟩
            dsimp only
            rw [em, bits_lb (show 1 ≤ en - bn by omega)]
            have l100 := lb100 (show en - bn ≤ 10 ^ 30 by omega)
            refine ⟨_, _, rfl, rfl, ⟨Int.natCast_nonneg _, by omega, by decide⟩, ?_⟩
            have e2 : (1 : Int) * 2 ^ ((lb (en - bn) : Nat) : Int).toNat = ((2 ^ lb (en - bn) : Nat) : Int) := by rw [Int.one_mul, Int.toNat_natCast]; exact (Int.natCast_pow 2 _).symm
            dsimp only
            rw [e2]
            have pz : 0 < 2 ^ lb (en - bn) := Nat.pow_pos (by decide)
            have isE : isN n (bn, en) ↔ (bn % 2 ^ lb (en - bn) = 0 ∧ (en - bn = 2 ^ lb (en - bn) ∨ en = n)) := by
              unfold isN tree
              simp only
              constructor
              · rintro ⟨_, _, k1, k2⟩
                exact ⟨Nat.mod_eq_zero_of_dvd k1, k2.elim .inl (fun z => .inr (by omega))⟩
              · rintro ⟨k1, k2⟩
                exact ⟨hlt, by omega, Nat.dvd_of_mod_eq_zero k1, k2.elim .inl (fun z => .inr (by omega))⟩
            generalize 2 ^ lb (en - bn) = R at pz isE
            have fm : Int.fmod (bn : Int) (R : Int) = ((bn % R : Nat) : Int) := by
              rw [Int.fmod_eq_emod_of_nonneg _ (Int.natCast_nonneg _)]
              exact (Int.natCast_emod _ _).symm
            refine ⟨_, rfl, _, rfl, _, _, rfl, rfl, by omega, rfl, decide (bn % R = 0), ?_, ?_⟩
            · show V.bl (decide (V.int (Int.fmod (bn : Int) (R : Int)) = V.int 0)) = V.bl (decide (bn % R = 0))
              rw [fm]
              refine congrArg V.bl ?_
              by_cases k : bn % R = 0
              · rw [decide_eq_true k, k]; rfl
              · rw [decide_eq_false k]
                exact decide_eq_false (fun z => k (by have := V.int.inj z; omega))
            by_cases k : bn % R = 0
            · rw [decide_eq_true k]
              refine iteT ?_
              refine ⟨_, rfl, _, rfl, _, _, rfl, rfl, _, rfl, rfl, _, rfl, ite2 (fun c => ?_) (fun c => ?_)⟩
              · have c1 : V.int ((en : Int) - (bn : Int)) = V.int (R : Int) := of_decide_eq_true c
                have c2 := V.int.inj c1
                rw [decide_eq_true (isE.mpr ⟨k, .inl (by omega)⟩)] at q
                exact q
              · have c1 : ¬ V.int ((en : Int) - (bn : Int)) = V.int (R : Int) := of_decide_eq_false (Bool.eq_false_iff.mpr c)
                refine ⟨_, rfl, _, rfl, rfl, ?_⟩
                have ed : decide (V.int (en : Int) = V.int (n : Int)) = decide (isN n (bn, en)) := by
                  by_cases z : en = n
                  · rw [decide_eq_true (isE.mpr ⟨k, .inr z⟩), decide_eq_true (by rw [z])]
                  · rw [decide_eq_false (fun y => z (by have := V.int.inj y; omega)), decide_eq_false (fun y => (isE.mp y).2.elim (fun u => c1 (congrArg V.int (by omega))) z)]
                show Q (.bl (decide (V.int (en : Int) = V.int (n : Int)))) H
                rw [ed]
                exact q
            · rw [decide_eq_false k]
              refine iteF ?_
              rw [decide_eq_false (fun z => k (isE.mp z).1)] at q
              exact q
          | _ => exact absurd h2 (by intro z; cases z)
      | _ => exact absurd h1 (by intro z; cases z)
/-- the promise for pairs that are nodes -/
theorem tree_ofV {k : Nat} {f : Addr} {fd : FuncData} (F : FnOk P w K mg base CX0 k f fd ["size", "value"] (spTreeV K)) : FnOk P w K mg base CX0 k f fd ["size", "value"] spTree :=
  F.imp fun vs H Q E h => by
    obtain ⟨n, b, m, v, rfl, ⟨p, rfl, hp⟩, hm, hn, h30, ht, q⟩ := h
    refine ⟨n, _, _, rfl, by omega, h30, .pair hp (.int _) (.int _), ?_⟩
    have e : tnV n (.int (b : Int)) (.int ((b + m : Nat) : Int)) = true := by
      refine decide_eq_true ⟨Int.natCast_nonneg _, ?_⟩
      rw [Int.toNat_natCast, Int.toNat_natCast]
      refine ⟨by simp only; omega, hn, ?_⟩
      show tree n b (b + m - b)
      rw [Nat.add_sub_cancel_left]
      exact ht
    show Q (.bl (tnV n (.int (b : Int)) (.int ((b + m : Nat) : Int)))) H
    rw [e]
    exact q
def spIsNode (K : PySem.W.Frag) : Sp := spTreeV K
theorem ok_is_node {f g g2 : Addr} {fd gd gd2 : FuncData} (F : Fun K "is_node" "is_node" sIsNode f fd) (GCheckSize : FnOk P w K mg base CX0 3 g gd ["size"] spCheckSize) (ACheckSize : At K mg "check_size" g gd ["size"])
    (GIsTreeNode : FnOk P w K mg base CX0 3 g2 gd2 ["size", "value"] (spTreeV K)) (AIsTreeNode : At K mg "is_tree_node" g2 gd2 ["size", "value"]) : FnOk P w K mg base CX0 4 f fd ["size", "value"] (spIsNode K) := by
  refine F.ok scIsNode (fun vs H Q E h => ?_) (fun cdv A outer s H vs Q E hr h => ?_)
  · obtain ⟨_, _, _, rfl, _⟩ := h
    rfl
  obtain ⟨n, v, r, rfl, n1, h30, ask, q⟩ := h
  refine ⟨_, (pss_cons (ps_expr (pe_call GCheckSize (hr.mono (by decide)) rfl ACheckSize.m ACheckSize.kp ACheckSize.b .nil pass0 (pa_cons (pv 0) pa_nil)))
    (pss_one (ps_ret (pe_call GIsTreeNode (hr.mono (by decide)) rfl AIsTreeNode.m AIsTreeNode.kp AIsTreeNode.b .nil pass0 (pa_cons (pv 0) (pa_cons (pv 1) pa_nil)))))), ?_⟩
  refine ⟨_, rfl, n, rfl, by omega, by omega, ?_⟩
  exact ⟨_, rfl, _, rfl, n, v, r, rfl, n1, h30, ask, q⟩
end
end LT

namespace LT
open PySem PySem.Spec PyProof.Rows L2
/-! ### lists of ints as data -/
theorem ints_lay : ∀ ns : List Int, PyData.canLayAll0 (ns.map PyData.int) = true
  | [] => by simp [PyData.canLayAll0]
  | n :: ns => by simp [PyData.canLayAll0, PyData.canLay0, ints_lay ns]
theorem ints_depth : ∀ ns : List Int, PyData.depthAll (ns.map PyData.int) ≤ 1
  | [] => by simp [PyData.depthAll]
  | n :: ns => by
    have := ints_depth ns
    simp only [List.map_cons, PyData.depthAll, PyData.depth]
    omega
theorem ints_shaped (ns : List Int) : SeqAt.shaped (.list (ns.map PyData.int)) = true := by
  have h := ints_depth ns
  have h2 : PyData.depth (.list (ns.map PyData.int)) ≤ 64 := by
    simp only [PyData.depth]
    omega
  show (PyData.canLay0 (.list (ns.map PyData.int)) && decide (PyData.depth (.list (ns.map PyData.int)) ≤ 64)) = true
  rw [Bool.and_eq_true]
  exact ⟨by simp only [PyData.canLay0]; exact ints_lay ns, decide_eq_true h2⟩
theorem ints_dp {K : PySem.W.Frag} {H : Hp} : ∀ ns : List Int, DpAll K H (ns.map V.int) (ns.map PyData.int)
  | [] => .nil
  | n :: ns => .cons (.int n) (ints_dp ns)
theorem ints_nil : ∀ ns : List Int, PyData.eqv (.list (ns.map PyData.int)) (.list []) = ns.isEmpty
  | [] => by simp only [List.map_nil, PyData.eqv, PyData.eqvAll, List.isEmpty_nil]
  | n :: ns => by simp only [List.map_cons, PyData.eqv, PyData.eqvAll, List.isEmpty_cons]
theorem nil_shaped : SeqAt.shaped (.list []) = true := ints_shaped []
end LT

namespace LT
open PySem PySem.Spec PyProof.Rows L2
def nd (x : Nat × Nat) : PyData := .tuple [.int x.1, .int x.2]
theorem nds_lay : ∀ l : List (Nat × Nat), PyData.canLayAll0 (l.map nd) = true
  | [] => by simp [PyData.canLayAll0]
  | x :: l => by simp [PyData.canLayAll0, nd, PyData.canLay0, nds_lay l]
theorem nds_depth : ∀ l : List (Nat × Nat), PyData.depthAll (l.map nd) ≤ 2
  | [] => by simp [PyData.depthAll]
  | x :: l => by
    have := nds_depth l
    simp only [List.map_cons, PyData.depthAll, nd, PyData.depth]
    omega
theorem nds_shaped (l : List (Nat × Nat)) : SeqAt.shaped (.list (l.map nd)) = true := by
  have h := nds_depth l
  have h2 : PyData.depth (.list (l.map nd)) ≤ 64 := by
    simp only [PyData.depth]
    omega
  show (PyData.canLay0 (.list (l.map nd)) && decide (PyData.depth (.list (l.map nd)) ≤ 64)) = true
  rw [Bool.and_eq_true]
  exact ⟨by simp only [PyData.canLay0]; exact nds_lay l, decide_eq_true h2⟩
theorem nds_dp {K : PySem.W.Frag} {H : Hp} : ∀ {vs : List V} {l : List (Nat × Nat)}, All2 (Nd H) vs l → DpAll K H vs (l.map nd)
  | _, _, .nil => .nil
  | _, _, .cons h t => .cons h.dp (nds_dp t)
theorem nds_any (l : List (Nat × Nat)) (x : Nat × Nat) : (l.map nd).any (fun z => PyData.eqv z (.tuple [.int x.1, .int x.2])) = decide (x ∈ l) := by
  induction l with
  | nil => simp
  | cons y l ih =>
    rw [List.map_cons, List.any_cons, ih]
    show (PyData.eqv (.tuple [.int y.1, .int y.2]) _ || _) = _
    rw [nd_eqv]
    by_cases c : x = y
    · subst c
      simp
    · have e : (decide ((y.1 : Int) = (x.1 : Int)) && decide ((y.2 : Int) = (x.2 : Int))) = false := by
        rw [Bool.and_eq_false_iff]
        by_cases c1 : y.1 = x.1
        · right
          refine decide_eq_false (fun z => c (Prod.ext c1.symm ?_))
          omega
        · left
          exact decide_eq_false (fun z => c1 (by omega))
      rw [e, Bool.false_or]
      simp [c]
end LT

namespace LT
open PySem PySem.Spec PyProof.Rows L2
/-- the parts of the log's entries around b in rooms of 2 ^ j -/
def cutAt (n b j : Nat) : Nat × Nat := (b - b % 2 ^ j, min (b - b % 2 ^ j + 2 ^ j) n)
/-- a half of a node -/
def isHalf (B M : Nat) (x : Nat × Nat) : Prop := x = (B, B + gp M) ∨ x = (B + gp M, B + M)
theorem cut_here {n b m : Nat} (t : tree n b m) (hn : b + m ≤ n) : cutAt n b (lb m) = (b, b + m) := by
  obtain ⟨d, k⟩ := t
  unfold cutAt
  rw [Nat.mod_eq_zero_of_dvd d, Nat.sub_zero]
  have := lb_ge m
  refine Prod.ext rfl ?_
  simp only
  rcases k with k | k
  · rw [← k]; exact Nat.min_eq_left hn
  · rw [k]; exact Nat.min_eq_right (by omega)
theorem mod_of_room {R B b : Nat} (d : R ∣ B) (h1 : B ≤ b) (h2 : b < B + R) : b - b % R = B := by
  obtain ⟨x, rfl⟩ := d
  have e : b % R = b - R * x := by
    have h : b = R * x + (b - R * x) := by omega
    rw [h, Nat.mul_add_mod, Nat.mod_eq_of_lt (by omega), Nat.add_sub_cancel_left]
  omega
theorem cut_above {n B M b : Nat} (t : tree n B M) (hn : B + M ≤ n) (h1 : B ≤ b) (h2 : b < B + M) : cutAt n b (lb M) = (B, B + M) := by
  rw [← cut_here t hn]
  have := lb_ge M
  unfold cutAt
  rw [mod_of_room t.1 h1 (by omega), mod_of_room t.1 (Nat.le_refl _) (by have := Nat.pow_pos (a := 2) (n := lb M) (by decide); omega)]
theorem half_lb {M : Nat} (h : 2 ≤ M) : lb M = Nat.log2 (M - 1) + 1 := by unfold lb; rw [if_neg (by omega)]
theorem cut_between {n B M : Nat} (h : 2 ≤ M) (t : tree n B M) (hn : B + M ≤ n) {x : Nat × Nat} (hx : isHalf B M x) {j : Nat} (h1 : lb (x.2 - x.1) ≤ j) (h2 : j < lb M) : cutAt n x.1 j = x := by
  have g1 := gp_lt h
  have g2 := gp_ge h
  have e1 := half_lb h
  have eg : lb (gp M) = Nat.log2 (M - 1) := by unfold gp; rw [lb_pow]
  rcases hx with rfl | rfl
  · simp only [Nat.add_sub_cancel_left] at h1
    have ej : j = lb (gp M) := by omega
    subst ej
    exact cut_here (tree_low h t) (by omega)
  · have em : B + M - (B + gp M) = M - gp M := by omega
    simp only at h1
    rw [em] at h1
    have th := tree_high h t
    by_cases c : j = lb (M - gp M)
    · subst c
      have := cut_here th (by omega)
      rw [show B + gp M + (M - gp M) = B + M by omega] at this
      exact this
    · have lt : lb (M - gp M) < lb (gp M) := by omega
      have hn2 : B + M = n := by
        rcases t.2 with k | k
        · exfalso
          have e2 := lb_gp h
          have e3 : M - gp M = gp M := by omega
          rw [e3] at lt
          omega
        · exact k
      unfold cutAt
      have dj : 2 ^ j ∣ B + gp M := by
        have d1 : 2 ^ j ∣ gp M := by unfold gp; exact Nat.pow_dvd_pow 2 (by omega)
        have d2 : gp M ∣ B := by
          have k := t.1
          rw [lb_gp h] at k
          exact Nat.dvd_trans (Nat.dvd_mul_left _ _) k
        exact Nat.dvd_add (Nat.dvd_trans d1 d2) d1
      simp only
      rw [Nat.mod_eq_zero_of_dvd dj, Nat.sub_zero]
      refine Prod.ext rfl ?_
      simp only
      have k1 := lb_ge (M - gp M)
      have k2 : 2 ^ lb (M - gp M) ≤ 2 ^ j := Nat.pow_le_pow_right (by decide) h1
      rw [Nat.min_eq_right (by omega), hn2]
theorem half_ne {B M n : Nat} (h : 2 ≤ M) (hn : B + M ≤ n) {x : Nat × Nat} (hx : isHalf B M x) : x ≠ (0, n) ∧ x ≠ (B, B + M) ∧ B ≤ x.1 ∧ x.1 < x.2 ∧ x.2 ≤ B + M := by
  have g1 := gp_lt h
  have g3 := gp_pos M
  rcases hx with rfl | rfl
  · refine ⟨fun z => ?_, fun z => ?_, Nat.le_refl _, by simp only; omega, by simp only; omega⟩
    · have := congrArg Prod.snd z; simp only at this; omega
    · have := congrArg Prod.snd z; simp only at this; omega
  · refine ⟨fun z => ?_, fun z => ?_, by simp only; omega, by simp only; omega, Nat.le_refl _⟩
    · have := congrArg Prod.fst z; simp only at this; omega
    · have := congrArg Prod.fst z; simp only at this; omega
theorem half_tree {B M n : Nat} (h : 2 ≤ M) (t : tree n B M) {x : Nat × Nat} (hx : isHalf B M x) : tree n x.1 (x.2 - x.1) := by
  have g1 := gp_lt h
  rcases hx with rfl | rfl
  · simp only [Nat.add_sub_cancel_left]
    exact tree_low h t
  · simp only
    rw [show B + M - (B + gp M) = M - gp M by omega]
    exact tree_high h t
theorem half_lt {B M : Nat} (h : 2 ≤ M) {x : Nat × Nat} (hx : isHalf B M x) : lb (x.2 - x.1) < lb M := by
  have g1 := gp_lt h
  have g2 := gp_ge h
  have e1 := half_lb h
  have eg : lb (gp M) = Nat.log2 (M - 1) := by unfold gp; rw [lb_pow]
  rcases hx with rfl | rfl
  · simp only [Nat.add_sub_cancel_left]
    omega
  · simp only
    rw [show B + M - (B + gp M) = M - gp M by omega]
    have : lb (M - gp M) ≤ Nat.log2 (M - 1) := lb_le (by unfold gp at g1 g2 ⊢; omega)
    omega
theorem nd_is (x y : Nat × Nat) : PyData.eqv (nd x) (nd y) = decide (x = y) := by
  show PyData.eqv (.tuple [.int x.1, .int x.2]) (.tuple [.int y.1, .int y.2]) = _
  rw [nd_eqv]
  by_cases c : x = y
  · subst c; simp
  · rw [decide_eq_false c, Bool.and_eq_false_iff]
    by_cases c1 : x.1 = y.1
    · right
      exact decide_eq_false (fun z => c (Prod.ext c1 (by omega)))
    · left
      exact decide_eq_false (fun z => c1 (by omega))
section
variable {P : Program} {w : World} {K : PySem.W.Frag} {mg : Str → Option Value} {base : Heap}
/-- the halves of any node -/
def spHalvesA : Sp := fun vs H Q _ => ∃ (n b m : Nat) (v : V), vs = [.int n, v] ∧ Nd H v (b, b + m) ∧ 1 ≤ m ∧ b + m ≤ n ∧ n ≤ 10 ^ 30 ∧ tree n b m ∧
  ((m = 1 ∧ Q .non H) ∨ (2 ≤ m ∧ ∀ (H' : Hp) (q : Addr) (l h : V), Same H H' → H q = none → H' q = some (.tup [l, h]) → Nd H' l (b, b + gp m) → Nd H' h (b + gp m, b + m) → Q (.ref q) H'))
theorem ok_halvesA {f g1 g2 g3 : Addr} {fd d1 d2 d3 : FuncData} (F : Fun K "halves" "halves" sHalves f fd) (GCheckSize : FnOk P w K mg base CX0 3 g1 d1 ["size"] spCheckSize) (ACheckSize : At K mg "check_size" g1 d1 ["size"])
    (GCheckNode : FnOk P w K mg base CX0 4 g2 d2 ["size", "node"] spCheckNode) (ACheckNode : At K mg "check_node" g2 d2 ["size", "node"]) (GPowerWithin : FnOk P w K mg base CX0 1 g3 d3 ["number"] spPower) (APowerWithin : At K mg "power_within" g3 d3 ["number"]) :
    FnOk P w K mg base CX0 5 f fd ["size", "node"] spHalvesA := by
  refine F.ok scHalves (fun vs H Q E h => ?_) (fun cdv A outer s H vs Q E hr h => ?_)
  · obtain ⟨_, _, _, _, rfl, _⟩ := h
    rfl
  obtain ⟨n, b, m, v, rfl, hv, hm, hn, h30, ht, q⟩ := h
  refine ⟨_, (pss_cons (ps_expr (pe_call GCheckSize (hr.mono (by decide)) rfl ACheckSize.m ACheckSize.kp ACheckSize.b .nil pass0 (pa_cons (pv 0) pa_nil)))
    (pss_cons (ps_expr (pe_call GCheckNode (hr.mono (by decide)) rfl ACheckNode.m ACheckNode.kp ACheckNode.b .nil pass0 (pa_cons (pv 0) (pa_cons (pv 1) pa_nil))))
    (pss_cons (ps_asg (pv 1) (pg_tup (by rfl) (pgs_cons (pg_name (i := 2) scHalves.nd rfl (Or.inl rfl)) (pgs_cons (pg_name (i := 3) scHalves.nd rfl (Or.inl rfl)) pgs_nil))))
    (pss_cons (ps_if (pt_cmpR op_eq (pe_op op_sub (pv 3) (pv 2)) pe_int (nomark _))
    (pss_one (ps_ret pe_non))
    pss_nil)
    (pss_cons (ps_set (i := 4) scHalves.nd rfl (Or.inl rfl) (pe_op op_add (pv 2) (pe_call GPowerWithin (hr.mono (by decide)) rfl APowerWithin.m APowerWithin.kp APowerWithin.b .nil pass0 (pa_cons (pe_op op_sub (pe_op op_sub (pv 3) (pv 2)) pe_int) pa_nil))))
    (pss_one (ps_ret (pe_tup (pa_cons (pe_tup (pa_cons (pv 2) (pa_cons (pv 4) pa_nil))) (pa_cons (pe_tup (pa_cons (pv 4) (pa_cons (pv 3) pa_nil))) pa_nil)))))))))), ?_⟩
  refine ⟨_, rfl, n, rfl, by omega, by omega, ?_⟩
  refine ⟨_, rfl, _, rfl, n, b, m, v, rfl, hv, by omega, hn, h30, ht, ?_⟩
  obtain ⟨p, rfl, hp⟩ := id hv
  refine ⟨_, rfl, p, _, rfl, SqT.of hp, rfl, _, _, rfl, _, _, rfl, rfl, ?_⟩
  refine ⟨_, rfl, _, rfl, _, _, rfl, rfl, rfl, _, rfl, ite2 (fun c => ?_) (fun c => ?_)⟩
  · have c1 : V.int (((b + m : Nat) : Int) - (b : Int)) = V.int 1 := of_decide_eq_true c
    have := V.int.inj c1
    rcases q with ⟨_, q⟩ | ⟨h2, _⟩
    · exact q
    · omega
  have c1 : ¬ V.int (((b + m : Nat) : Int) - (b : Int)) = V.int 1 := of_decide_eq_false (Bool.eq_false_iff.mpr c)
  have c2 : m ≠ 1 := fun z => c1 (congrArg V.int (by omega))
  have q : ∀ (H' : Hp) (q : Addr) (l h : V), Same H H' → H q = none → H' q = some (.tup [l, h]) → Nd H' l (b, b + gp m) → Nd H' h (b + gp m, b + m) → Q (.ref q) H' := q.elim (fun z => absurd z.1 c2) (fun z => z.2)
  have e1 : ((b + m : Nat) : Int) - (b : Int) - 1 = ((m - 1 : Nat) : Int) := by omega
  refine ⟨_, rfl, _, rfl, _, rfl, _, _, rfl, rfl, _, _, rfl, rfl, m - 1, congrArg (fun z => [V.int z]) e1, by omega, by omega, _, _, rfl, rfl, ?_⟩
  have e2 : (b : Int) + ((2 ^ (m - 1).log2 : Nat) : Int) = ((b + gp m : Nat) : Int) := by unfold gp; omega
  have two : 2 ≤ sizeLine := by decide
  refine ⟨_, rfl, _, rfl, two, fun t1 n1 => ⟨_, rfl, _, rfl, two, fun t2 n2 => ⟨two, fun t3 n3 => ?_⟩⟩⟩
  dsimp only
  have s1 := same_upd (o := .tup [.int (b : Int), .int ((b : Int) + ((2 ^ (m - 1).log2 : Nat) : Int))]) n1
  have s2 := same_upd (o := .tup [.int ((b : Int) + ((2 ^ (m - 1).log2 : Nat) : Int)), .int ((b + m : Nat) : Int)]) n2
  have s3 := same_upd (o := .tup [.ref t1, .ref t2]) n3
  refine q _ t3 (.ref t1) (.ref t2) (s1.trans (s2.trans s3)) ((s1.trans s2).free n3) upd_same ⟨t1, rfl, s3 _ _ (s2 _ _ ?_)⟩ ⟨t2, rfl, s3 _ _ ?_⟩
  · rw [upd_same]
    dsimp only
    rw [e2]
  · rw [upd_same]
    dsimp only
    rw [e2]
/-- the node above -/
def spParent : Sp := fun vs H Q _ => ∃ (n : Nat) (x : Nat × Nat) (v : V), vs = [.int n, v] ∧ Nd H v x ∧ 1 ≤ n ∧ n ≤ 10 ^ 30 ∧
  ((x = (0, n) ∧ ∀ H', Same H H' → Q .non H') ∨ (∃ B M, 2 ≤ M ∧ tree n B M ∧ B + M ≤ n ∧ isHalf B M x ∧ ∀ (H' : Hp) (u : V), Same H H' → Nd H' u (B, B + M) → Q u H'))
theorem ok_parent {f g1 g2 : Addr} {fd d1 d2 : FuncData} (F : Fun K "parent" "parent" sParent f fd) (GCheckSize : FnOk P w K mg base CX0 3 g1 d1 ["size"] spCheckSize) (ACheckSize : At K mg "check_size" g1 d1 ["size"])
    (GCheckNode : FnOk P w K mg base CX0 4 g2 d2 ["size", "node"] spCheckNode) (ACheckNode : At K mg "check_node" g2 d2 ["size", "node"]) (z_min : mg "min" = none) :
    FnOk P w K mg base CX0 5 f fd ["size", "node"] spParent := by
  refine F.ok scParent (fun vs H Q E h => ?_) (fun cdv A outer s H vs Q E hr h => ?_)
  · obtain ⟨_, _, _, rfl, _⟩ := h
    rfl
  obtain ⟨n, x, v, rfl, hv, n1, h30, q⟩ := h
  have two : 2 ≤ sizeLine := by decide
  have hx : x.1 < x.2 ∧ x.2 ≤ n ∧ tree n x.1 (x.2 - x.1) := by
    rcases q with ⟨rfl, _⟩ | ⟨B, M, h2, t, hn, hh, _⟩
    · exact ⟨n1, Nat.le_refl _, tree_root n⟩
    · have k := half_ne h2 hn hh
      exact ⟨k.2.2.2.1, by omega, half_tree h2 t hh⟩
  obtain ⟨x1, x2, x3⟩ := hx
  refine ⟨_, (pss_cons (ps_expr (pe_call GCheckSize (hr.mono (by decide)) rfl ACheckSize.m ACheckSize.kp ACheckSize.b .nil pass0 (pa_cons (pv 0) pa_nil)))
    (pss_cons (ps_expr (pe_call GCheckNode (hr.mono (by decide)) rfl ACheckNode.m ACheckNode.kp ACheckNode.b .nil pass0 (pa_cons (pv 0) (pa_cons (pv 1) pa_nil))))
    (pss_cons (ps_if (pt_cmpR (op_eqD hr.units) (pv 1) (pe_tup (pa_cons pe_int (pa_cons (pv 0) pa_nil))) (nomark _))
    (pss_one (ps_ret pe_non))
    pss_nil)
    (pss_cons (ps_asg (pv 1) (pg_tup (by rfl) (pgs_cons (pg_name (i := 2) scParent.nd rfl (Or.inl rfl)) (pgs_cons (pg_name (i := 3) scParent.nd rfl (Or.inl rfl)) pgs_nil))))
    (pss_cons (ps_par (i := 4) (j := 5) (by rfl) scParent.nd rfl rfl (by decide) rfl rfl (pa_cons (pv 2) (pa_cons (pv 3) pa_nil)) (by rfl))
    (pss_cons (ps_set (i := 6) scParent.nd rfl (Or.inl rfl) (pe_op op_shl pe_int (pe_bits (pe_op op_sub (pe_op op_sub (pv 3) (pv 2)) pe_int))))
    (pss_cons (ps_while PassesOwn.never (pt_cmpR (op_eqD hr.units) (pe_tup (pa_cons (pv 4) (pa_cons (pv 5) pa_nil))) (pe_tup (pa_cons (pv 2) (pa_cons (pv 3) pa_nil))) (nomark _))
    (pss_cons (ps_set (i := 6) scParent.nd rfl (Or.inl rfl) (pe_op op_mul (pv 6) pe_int))
    (pss_cons (ps_set (i := 4) scParent.nd rfl (Or.inl rfl) (pe_op op_sub (pv 2) (pe_op op_modN (pv 2) (pv 6))))
    (pss_one (ps_set (i := 5) scParent.nd rfl (Or.inl rfl) (pe_callB (call_min2 rfl) (by rfl) z_min (by decide +kernel) (pa_cons (pe_op op_add (pv 4) (pv 6)) (pa_cons (pv 0) pa_nil))))))))
    (pss_one (ps_ret (pe_tup (pa_cons (pv 4) (pa_cons (pv 5) pa_nil)))))))))))), ?_⟩
  refine ⟨_, rfl, n, rfl, by omega, by omega, ?_⟩
  have ex : x.1 + (x.2 - x.1) = x.2 := by omega
  refine ⟨_, rfl, _, rfl, n, x.1, x.2 - x.1, v, rfl, by rw [ex]; exact hv, by omega, by omega, h30, x3, ?_⟩
  refine ⟨_, rfl, _, rfl, two, fun t0 n0 => ?_⟩
  have s0 := same_upd (o := .tup [.int 0, .int (n : Int)]) n0
  refine ⟨nd x, nd (0, n), (hv.same s0).dp, .tup (SqT.of upd_same) (.cons (.int _) (.cons (.int _) .nil)), nd_shaped _ _, nd_shaped _ _, ?_⟩
  rw [nd_is]
  generalize upd H t0 (.tup [.int 0, .int (n : Int)]) = H0 at s0
  refine ⟨_, rfl, ite2 (fun c => ?_) (fun c => ?_)⟩
  · have c1 : x = (0, n) := of_decide_eq_true c
    rcases q with ⟨_, q⟩ | ⟨B, M, h2, t, hn, hh, _⟩
    · exact q _ s0
    · exact absurd c1 (half_ne h2 hn hh).1
  have c1 : ¬ x = (0, n) := of_decide_eq_false (Bool.eq_false_iff.mpr c)
  obtain ⟨B, M, h2, t, hn, hh, q⟩ : ∃ B M, 2 ≤ M ∧ tree n B M ∧ B + M ≤ n ∧ isHalf B M x ∧ ∀ (H' : Hp) (u : V), Same H H' → Nd H' u (B, B + M) → Q u H' := q.elim (fun z => absurd z.1 c1) id
  obtain ⟨k1, k2, k3, k4, k5⟩ := half_ne h2 hn hh
  obtain ⟨p, rfl, hp⟩ := id hv
  refine ⟨_, rfl, p, _, rfl, SqT.of (s0 _ _ hp), rfl, _, _, rfl, _, _, rfl, rfl, ?_⟩
  have em : (x.2 : Int) - (x.1 : Int) - 1 = ((x.2 - x.1 - 1 : Nat) : Int) := by omega
  have hb : Builtin.Int.intBits ((x.2 : Int) - (x.1 : Int) - 1) = lb (x.2 - x.1) := by rw [em, bits_lb (by omega)]
  have l100 := lb100 (show x.2 - x.1 ≤ 10 ^ 30 by omega)
  have lM := lb100 (show M ≤ 10 ^ 30 by omega)
  have ll := half_lt h2 hh
  have e0 : cutAt n x.1 (lb (x.2 - x.1)) = x := by
    have := cut_here (m := x.2 - x.1) (half_tree h2 t hh) (by omega)
    rw [ex] at this
    exact this
  refine ⟨_, rfl, _, rfl, _, _, rfl, _, rfl, _, rfl, _, _, rfl, rfl, _, _, rfl, rfl, _, rfl, _, _, rfl, rfl, ⟨Int.natCast_nonneg _, by omega, by decide⟩, ?_⟩
  refine ⟨fun mu σ H' => ∃ j : Nat, σ = [some (.int n), some (.ref p), some (.int (x.1 : Int)), some (.int (x.2 : Int)), some (.int ((cutAt n x.1 j).1 : Int)), some (.int ((cutAt n x.1 j).2 : Int)), some (.int ((2 ^ j : Nat) : Int))] ∧ Same H H' ∧ lb (x.2 - x.1) ≤ j ∧ j ≤ lb M ∧ mu = lb M - j,
    ⟨lb M - lb (x.2 - x.1), lb (x.2 - x.1), ?_, s0, Nat.le_refl _, by omega, rfl⟩, ?_⟩
  · have e2 : (1 : Int) * 2 ^ ((Builtin.Int.intBits ((x.2 : Int) - (x.1 : Int) - 1) : Nat) : Int).toNat = ((2 ^ lb (x.2 - x.1) : Nat) : Int) := by rw [hb, Int.one_mul, Int.toNat_natCast]; exact (Int.natCast_pow 2 _).symm
    rw [e0, ← e2]
    rfl
  rintro mu σ H1 ⟨j, rfl, s1, j1, j2, rfl⟩
  refine ⟨_, rfl, _, rfl, two, fun t1 nt1 => ⟨_, rfl, _, rfl, two, fun t2 nt2 => ?_⟩⟩
  have st1 := same_upd (o := .tup [.int ((cutAt n x.1 j).1 : Int), .int ((cutAt n x.1 j).2 : Int)]) nt1
  have st2 := same_upd (o := .tup [.int (x.1 : Int), .int (x.2 : Int)]) nt2
  have sE := s1.trans (st1.trans st2)
  refine ⟨nd (cutAt n x.1 j), nd x, .tup (SqT.of (st2 _ _ upd_same)) (.cons (.int _) (.cons (.int _) .nil)), .tup (SqT.of upd_same) (.cons (.int _) (.cons (.int _) .nil)), nd_shaped _ _, nd_shaped _ _, ?_⟩
  rw [nd_is]
  refine ⟨_, rfl, ite2 (fun c => ?_) (fun c => ?_)⟩
  · have d1 : cutAt n x.1 j = x := of_decide_eq_true c
    have d2 : j < lb M := by
      by_cases z : j = lb M
      · subst z
        rw [cut_above t hn k3 (by omega)] at d1
        exact absurd d1.symm k2
      · omega
    have pj : 0 < 2 ^ (j + 1) := Nat.pow_pos (by decide)
    refine ⟨_, fun σ' H' h => h, _, rfl, _, _, rfl, rfl, .inr ⟨by decide, by decide⟩, ?_⟩
    have er : ((2 ^ j : Nat) : Int) * 2 = ((2 ^ (j + 1) : Nat) : Int) := by rw [Nat.pow_succ]; omega
    have fm : Int.fmod (x.1 : Int) ((2 ^ (j + 1) : Nat) : Int) = ((x.1 % 2 ^ (j + 1) : Nat) : Int) := by
      rw [Int.fmod_eq_emod_of_nonneg _ (Int.natCast_nonneg _)]
      exact (Int.natCast_emod _ _).symm
    have ef : (x.1 : Int) - ((x.1 % 2 ^ (j + 1) : Nat) : Int) = ((cutAt n x.1 (j + 1)).1 : Int) := by
      have := Nat.mod_le x.1 (2 ^ (j + 1))
      show _ = ((x.1 - x.1 % 2 ^ (j + 1) : Nat) : Int)
      omega
    have el : (if (n : Int) < ((cutAt n x.1 (j + 1)).1 : Int) + ((2 ^ (j + 1) : Nat) : Int) then (n : Int) else ((cutAt n x.1 (j + 1)).1 : Int) + ((2 ^ (j + 1) : Nat) : Int)) = ((cutAt n x.1 (j + 1)).2 : Int) := by
      show (if (n : Int) < ((x.1 - x.1 % 2 ^ (j + 1) : Nat) : Int) + ((2 ^ (j + 1) : Nat) : Int) then (n : Int) else ((x.1 - x.1 % 2 ^ (j + 1) : Nat) : Int) + ((2 ^ (j + 1) : Nat) : Int)) = ((min (x.1 - x.1 % 2 ^ (j + 1) + 2 ^ (j + 1)) n : Nat) : Int)
      split <;> omega
    refine ⟨_, rfl, _, rfl, _, rfl, _, _, rfl, rfl, ?_, _, _, rfl, rfl, ?_⟩
    · rw [er]; omega
    refine ⟨_, rfl, _, rfl, _, _, rfl, rfl, _, rfl, _, _, rfl, ?_⟩
    refine ⟨lb M - (j + 1), by omega, j + 1, ?_, sE, by omega, by omega, rfl⟩
    rw [← el, ← ef, ← fm, ← er]
    rfl
  · have d1 : ¬ cutAt n x.1 j = x := of_decide_eq_false (Bool.eq_false_iff.mpr c)
    have d2 : j = lb M := by
      by_cases z : j = lb M
      · exact z
      · exact absurd (cut_between h2 t hn hh j1 (by omega)) d1
    subst d2
    generalize upd (upd H1 t1 _) t2 _ = H3 at sE
    rw [cut_above t hn k3 (by omega)]
    refine ⟨_, rfl, _, rfl, two, fun t3 nt3 => ?_⟩
    have st3 := same_upd (o := .tup [.int (B : Int), .int ((B + M : Nat) : Int)]) nt3
    exact q _ (.ref t3) (sE.trans st3) ⟨t3, rfl, upd_same⟩
/-- the node beside -/
def spSibling : Sp := fun vs H Q _ => ∃ (n : Nat) (x : Nat × Nat) (v : V), vs = [.int n, v] ∧ Nd H v x ∧ 1 ≤ n ∧ n ≤ 10 ^ 30 ∧
  ((x = (0, n) ∧ ∀ H', Same H H' → Q .non H') ∨ (∃ B M y, 2 ≤ M ∧ tree n B M ∧ B + M ≤ n ∧ ((x = (B, B + gp M) ∧ y = (B + gp M, B + M)) ∨ (x = (B + gp M, B + M) ∧ y = (B, B + gp M))) ∧ ∀ (H' : Hp) (u : V), Same H H' → Nd H' u y → Q u H'))
theorem ok_sibling {f g1 g2 : Addr} {fd d1 d2 : FuncData} (F : Fun K "sibling" "sibling" sSibling f fd) (GParent : FnOk P w K mg base CX0 5 g1 d1 ["size", "node"] spParent) (AParent : At K mg "parent" g1 d1 ["size", "node"])
    (GHalves : FnOk P w K mg base CX0 5 g2 d2 ["size", "node"] spHalvesA) (AHalves : At K mg "halves" g2 d2 ["size", "node"]) : FnOk P w K mg base CX0 6 f fd ["size", "node"] spSibling := by
  refine F.ok scSibling (fun vs H Q E h => ?_) (fun cdv A outer s H vs Q E hr h => ?_)
  · obtain ⟨_, _, _, rfl, _⟩ := h
    rfl
  obtain ⟨n, x, v, rfl, hv, n1, h30, q⟩ := h
  have two : 2 ≤ sizeLine := by decide
  refine ⟨_, (pss_cons (ps_set (i := 2) scSibling.nd rfl (Or.inl rfl) (pe_call GParent (hr.mono (by decide)) rfl AParent.m AParent.kp AParent.b .nil pass0 (pa_cons (pv 0) (pa_cons (pv 1) pa_nil))))
    (pss_cons (ps_if (pt_cmpR op_isN (pv 2) pe_non (nomark _))
    (pss_one (ps_ret pe_non))
    pss_nil)
    (pss_cons (ps_asg (pe_call GHalves (hr.mono (by decide)) rfl AHalves.m AHalves.kp AHalves.b .nil pass0 (pa_cons (pv 0) (pa_cons (pv 2) pa_nil))) (pg_tup (by rfl) (pgs_cons (pg_name (i := 3) scSibling.nd rfl (Or.inl rfl)) (pgs_cons (pg_name (i := 4) scSibling.nd rfl (Or.inl rfl)) pgs_nil))))
    (pss_cons (ps_if (pt_cmpR (op_eqD hr.units) (pv 1) (pv 3) (nomark _))
    (pss_one (ps_ret (pv 4)))
    pss_nil)
    (pss_one (ps_ret (pv 3))))))), ?_⟩
  rcases q with ⟨hx, q⟩ | ⟨B, M, y, h2, t, hn, hh, q⟩
  · refine ⟨_, rfl, _, rfl, n, x, v, rfl, hv, n1, h30, .inl ⟨hx, fun H1 s1 => ?_⟩⟩
    exact ⟨_, rfl, rfl, _, rfl, iteT (q _ s1)⟩
  · have hx : isHalf B M x := hh.elim (fun z => .inl z.1) (fun z => .inr z.1)
    refine ⟨_, rfl, _, rfl, n, x, v, rfl, hv, n1, h30, .inr ⟨B, M, h2, t, hn, hx, fun H1 u s1 hu => ?_⟩⟩
    obtain ⟨up, rfl, hup⟩ := id hu
    refine ⟨_, rfl, rfl, _, rfl, iteF ?_⟩
    refine ⟨_, rfl, _, rfl, n, B, M, _, rfl, hu, by omega, hn, h30, t, .inr ⟨h2, fun H2 qa l h s2 nq hqa hl hhi => ?_⟩⟩
    refine ⟨qa, _, rfl, SqT.of hqa, rfl, _, _, rfl, _, _, rfl, rfl, ?_⟩
    have s12 := s1.trans s2
    refine ⟨_, rfl, _, rfl, nd x, nd (B, B + gp M), (hv.same s12).dp, hl.dp, nd_shaped _ _, nd_shaped _ _, ?_⟩
    rw [nd_is]
    have g3 := gp_pos M
    refine ⟨_, rfl, ite2 (fun c => ?_) (fun c => ?_)⟩
    · have c1 : x = (B, B + gp M) := of_decide_eq_true c
      refine ⟨_, rfl, q _ h s12 ?_⟩
      rcases hh with ⟨z1, z2⟩ | ⟨z1, z2⟩
      · rw [z2]; exact hhi
      · rw [z1] at c1
        have := congrArg Prod.fst c1
        simp only at this
        omega
    · have c1 : ¬ x = (B, B + gp M) := of_decide_eq_false (Bool.eq_false_iff.mpr c)
      refine ⟨_, rfl, q _ l s12 ?_⟩
      rcases hh with ⟨z1, z2⟩ | ⟨z1, z2⟩
      · exact absurd z1 c1
      · rw [z2]; exact hl
end
end LT

namespace LT
open PySem PySem.Spec PyProof.Rows L2
theorem Pl.same {K : PySem.W.Frag} {H H' : Hp} {v : V} {t : String} (h : Pl K H v t) (s : Same H H') : Pl K H' v t := by
  cases h with
  | non => exact .non
  | bl b => exact .bl b
  | int i => exact .int i
  | str x => exact .str x
  | lst e => exact .lst (s _ _ e)
  | tup e => exact .tup (s _ _ e)
  | dict e => exact .dict (s _ _ e)
theorem Ask.same {K : PySem.W.Frag} {H H' : Hp} {n : Nat} {v : V} {r : Bool} (h : Ask K H n v r) (s : Same H H') : Ask K H' n v r := by
  cases h with
  | kind h t => exact .kind (h.same s) t
  | long h l k => exact .long (s _ _ h) l k
  | pair h p q => exact .pair (s _ _ h) (p.same s) (q.same s)
/-- all of a list are no nodes -/
def NoNd (K : PySem.W.Frag) (H : Hp) (n : Nat) (l : List V) : Prop := ∀ v ∈ l, Ask K H n v false
theorem NoNd.same {K : PySem.W.Frag} {H H' : Hp} {n : Nat} {l : List V} (h : NoNd K H n l) (s : Same H H') : NoNd K H' n l := fun v hv => (h v hv).same s
theorem NoNd.nil {K : PySem.W.Frag} {H : Hp} {n : Nat} : NoNd K H n [] := fun _ h => by cases h
theorem NoNd.put {K : PySem.W.Frag} {H : Hp} {n : Nat} {l : List V} {v : V} (h : NoNd K H n l) (a : Ask K H n v false) : NoNd K H n (l ++ [v]) := fun u hu => by
  rcases List.mem_append.mp hu with k | k
  · exact h u k
  · rw [List.mem_singleton] at k
    rw [k]
    exact a
theorem NoNd.lst {K : PySem.W.Frag} {H : Hp} {n : Nat} {l : List V} {p : Addr} {xs : List V} (h : NoNd K H n l) (np : H p = none) : NoNd K (upd H p (.lst xs)) n (l ++ [.ref p]) :=
  NoNd.put (h.same (same_upd np)) (.kind (.lst upd_same) (by decide))
theorem NoNd.dict {K : PySem.W.Frag} {H : Hp} {n : Nat} {l : List V} {p : Addr} {kvs : List (Key × V)} (h : NoNd K H n l) (np : H p = none) : NoNd K (upd H p (.dK kvs)) n (l ++ [.ref p]) :=
  NoNd.put (h.same (same_upd np)) (.kind (.dict upd_same) (by decide))
theorem NoNd.long {K : PySem.W.Frag} {H : Hp} {n : Nat} {l : List V} {p : Addr} {xs : List V} (h : NoNd K H n l) (np : H p = none) (hl : xs.length ≠ 2) (hk : xs.length ≤ 1000) : NoNd K (upd H p (.tup xs)) n (l ++ [.ref p]) :=
  NoNd.put (h.same (same_upd np)) (.long upd_same hl hk)
theorem NoNd.pair {K : PySem.W.Frag} {H : Hp} {n : Nat} {l : List V} {p : Addr} {v1 v2 : V} {t1 t2 : String} (h : NoNd K H n l) (np : H p = none) (p1 : ∀ H, Pl K H v1 t1) (p2 : ∀ H, Pl K H v2 t2) (e : tnV n v1 v2 = false) : NoNd K (upd H p (.tup [v1, v2])) n (l ++ [.ref p]) := by
  refine NoNd.put (h.same (same_upd np)) ?_
  rw [← e]
  exact .pair upd_same (p1 _) (p2 _)
end LT

namespace LT
/-! ### counts by digits -/
def sumsh : Nat → Nat → Nat
  | 0, _ => 0
  | k + 1, n => sumsh k n + n / 2 ^ k
theorem div_step (n k : Nat) : n / 2 ^ k = 2 * (n / 2 ^ (k + 1)) + (if n.testBit k then 1 else 0) := by
  have e : n / 2 ^ (k + 1) = n / 2 ^ k / 2 := by rw [Nat.pow_succ, Nat.div_div_eq_div_mul]
  rw [e, Nat.testBit_eq_decide_div_mod_eq]
  have h : n / 2 ^ k % 2 = 0 ∨ n / 2 ^ k % 2 = 1 := by omega
  rcases h with h | h <;> rw [h] <;> simp <;> omega
theorem pk_len_any (i n b c : Nat) : (pk i n b).length = (pk i n c).length := by
  induction i generalizing b c with
  | zero => rfl
  | succ i ih =>
    unfold pk
    cases t : n.testBit i with
    | true => simp; exact ih _ _
    | false => simp; exact ih _ _
theorem sumsh_is (n : Nat) : ∀ k, sumsh k n + (pk k n 0).length + 2 * (n / 2 ^ k) = 2 * n
  | 0 => by simp [sumsh, pk]
  | k + 1 => by
    have ih := sumsh_is n k
    have d := div_step n k
    have e : (pk (k + 1) n 0).length = (pk k n 0).length + (if n.testBit k then 1 else 0) := by
      show (if n.testBit k = true then (0, k) :: pk k n (0 + 2 ^ k) else pk k n 0).length = _
      cases t : n.testBit k with
      | true => rw [if_pos rfl, if_pos rfl, List.length_cons, pk_len_any k n (0 + 2 ^ k) 0]
      | false => rw [if_neg (by decide), if_neg (by decide), Nat.add_zero]
    rw [e]
    unfold sumsh
    omega
/-- the peaks whose edges have the height k -/
def bareN (N k : Nat) (l : List (Nat × Nat)) : Nat := (l.filter fun x => decide (N - x.1 ≤ 2 ^ k) && decide (2 ^ k / 2 < N - x.1)).length
def bareB (n k i : Nat) : Nat := if 1 ≤ k ∧ k - 1 < i ∧ n.testBit (k - 1) = true ∧ n % 2 ^ (k - 1) ≠ 0 then 1 else 0
theorem bare_is (N k n : Nat) : ∀ (i b : Nat), b + n % 2 ^ i = N → bareN N k (pk i n b).dropLast = bareB n k i
  | 0, b, h => by
    unfold bareB
    rw [if_neg (by omega)]
    rfl
  | i + 1, b, h => by
    have p := Nat.pow_pos (a := 2) (n := i) (by decide)
    rw [mod_succ] at h
    have ml := Nat.mod_lt n p
    cases t : n.testBit i with
    | false =>
      rw [t] at h
      have h' : b + n % 2 ^ i = N := by simpa using h
      have e : pk (i + 1) n b = pk i n b := by show (if n.testBit i = true then _ else _) = _; rw [t]; rfl
      rw [e, bare_is N k n i b h']
      unfold bareB
      by_cases c : 1 ≤ k ∧ k - 1 < i ∧ n.testBit (k - 1) = true ∧ n % 2 ^ (k - 1) ≠ 0
      · rw [if_pos c, if_pos ⟨c.1, by omega, c.2.2⟩]
      · rw [if_neg c, if_neg (fun z => ?_)]
        by_cases ki : k - 1 = i
        · rw [ki, t] at z; exact absurd z.2.2.1 (by decide)
        · exact c ⟨z.1, by omega, z.2.2⟩
    | true =>
      rw [t, if_pos rfl] at h
      have e : pk (i + 1) n b = (b, i) :: pk i n (b + 2 ^ i) := by show (if n.testBit i = true then _ else _) = _; rw [t]; rfl
      rw [e]
      by_cases r0 : n % 2 ^ i = 0
      · rw [pk_nil i n _ r0]
        have e2 : bareN N k ([(b, i)] : List (Nat × Nat)).dropLast = 0 := rfl
        rw [e2]
        unfold bareB
        rw [if_neg (fun z => ?_)]
        have d : 2 ^ (k - 1) ∣ 2 ^ i := Nat.pow_dvd_pow 2 (by omega)
        exact z.2.2.2 (Nat.mod_eq_zero_of_dvd (Nat.dvd_trans d (Nat.dvd_of_mod_eq_zero r0)))
      · have hne := pk_ne i n (b + 2 ^ i) r0
        have e3 : ((b, i) :: pk i n (b + 2 ^ i)).dropLast = (b, i) :: (pk i n (b + 2 ^ i)).dropLast := by
          cases hh : pk i n (b + 2 ^ i) with
          | nil => exact absurd hh hne
          | cons _ _ => rfl
        have ih := bare_is N k n i (b + 2 ^ i) (by omega)
        rw [e3]
        have e4 : bareN N k ((b, i) :: (pk i n (b + 2 ^ i)).dropLast) = (if N - b ≤ 2 ^ k ∧ 2 ^ k / 2 < N - b then 1 else 0) + bareN N k (pk i n (b + 2 ^ i)).dropLast := by
          unfold bareN
          rw [List.filter_cons]
          by_cases c : N - b ≤ 2 ^ k ∧ 2 ^ k / 2 < N - b
          · rw [if_pos (by simp [c.1, c.2]), if_pos c, List.length_cons, Nat.add_comm]
          · rw [if_neg (by simpa using c), if_neg c, Nat.zero_add]
        rw [e4, ih]
        have nb : N - b = 2 ^ i + n % 2 ^ i := by omega
        rw [nb]
        by_cases ki : k = i + 1
        · subst ki
          have e5 : 2 ^ (i + 1) / 2 = 2 ^ i := by rw [Nat.pow_succ]; omega
          rw [e5, if_pos ⟨by rw [Nat.pow_succ]; omega, by omega⟩]
          unfold bareB
          rw [Nat.add_sub_cancel, if_neg (by omega), if_pos ⟨by omega, by omega, t, r0⟩]
        · have no : ¬ (2 ^ i + n % 2 ^ i ≤ 2 ^ k ∧ 2 ^ k / 2 < 2 ^ i + n % 2 ^ i) := by
            rintro ⟨z1, z2⟩
            by_cases c : k ≤ i
            · have := Nat.pow_le_pow_right (n := 2) (by decide) c
              omega
            · have e6 : 2 ^ k = 2 ^ (i + 2) * 2 ^ (k - (i + 2)) := by rw [← Nat.pow_add]; congr 1; omega
              have e7 : 2 ^ (i + 2) ≤ 2 ^ k := Nat.pow_le_pow_right (by decide) (by omega)
              rw [Nat.pow_succ, Nat.pow_succ] at e7
              omega
          rw [if_neg no, Nat.zero_add]
          unfold bareB
          by_cases c : 1 ≤ k ∧ k - 1 < i ∧ n.testBit (k - 1) = true ∧ n % 2 ^ (k - 1) ≠ 0
          · rw [if_pos c, if_pos ⟨c.1, by omega, c.2.2⟩]
          · rw [if_neg c, if_neg (fun z => c ⟨z.1, by omega, z.2.2⟩)]
/-- the program's count of a height -/
theorem height_is {n k : Nat} (h : 1 ≤ n) (hn : n < 2 ^ 101) : (if k = 0 then n else ((n - 1) / 2 ^ (k - 1) + 1) / 2) = n / 2 ^ k + bareB n k 101 := by
  by_cases k0 : k = 0
  · subst k0
    unfold bareB
    rw [if_pos rfl, if_neg (by omega), Nat.pow_zero, Nat.div_one, Nat.add_zero]
  · obtain ⟨j, rfl⟩ : ∃ j, k = j + 1 := ⟨k - 1, by omega⟩
    rw [if_neg k0, Nat.add_sub_cancel]
    have p := Nat.pow_pos (a := 2) (n := j) (by decide)
    have d := div_step n j
    have dm := Nat.div_add_mod n (2 ^ j)
    have ml := Nat.mod_lt n p
    unfold bareB
    rw [Nat.add_sub_cancel]
    by_cases r0 : n % 2 ^ j = 0
    · rw [if_neg (fun z => z.2.2.2 r0), Nat.add_zero]
      have q1 : 1 ≤ n / 2 ^ j := by
        by_cases z : n / 2 ^ j = 0
        · rw [z] at dm; omega
        · omega
      have e : (n - 1) / 2 ^ j = n / 2 ^ j - 1 := by
        have e1 : n - 1 = 2 ^ j * (n / 2 ^ j - 1) + (2 ^ j - 1) := by
          have : 2 ^ j * (n / 2 ^ j) = 2 ^ j * (n / 2 ^ j - 1) + 2 ^ j := by
            rw [← Nat.mul_succ]; congr 1; omega
          omega
        rw [e1, Nat.mul_add_div p, Nat.div_eq_of_lt (show 2 ^ j - 1 < 2 ^ j by omega), Nat.add_zero]
      rw [e, show n / 2 ^ j - 1 + 1 = n / 2 ^ j by omega]
      rw [d]
      split <;> omega
    · have e : (n - 1) / 2 ^ j = n / 2 ^ j := by
        have e1 : n - 1 = 2 ^ j * (n / 2 ^ j) + (n % 2 ^ j - 1) := by omega
        rw [e1, Nat.mul_add_div p, Nat.div_eq_of_lt (show n % 2 ^ j - 1 < 2 ^ j by omega), Nat.add_zero]
      rw [e]
      cases t : n.testBit j with
      | true =>
        have jl : j < 101 := by
          by_cases z : j < 101
          · exact z
          · have := Nat.testBit_lt_two_pow (x := n) (i := j) (Nat.lt_of_lt_of_le hn (Nat.pow_le_pow_right (by decide) (by omega)))
            rw [t] at this
            exact absurd this (by decide)
        rw [t, if_pos rfl] at d
        rw [if_pos ⟨by omega, jl, rfl, r0⟩]
        omega
      | false =>
        rw [t, if_neg (by decide)] at d
        rw [if_neg (fun z => absurd z.2.2.1 (by decide))]
        omega
end LT

namespace LT
open PySem PySem.Spec PyProof.Rows L2
theorem log2_is {r h : Nat} (h1 : 2 ^ h ≤ r) (h2 : r < 2 ^ (h + 1)) : r.log2 = h := (Nat.log2_eq_iff (by have := Nat.pow_pos (a := 2) (n := h) (by decide); omega)).mpr ⟨h1, h2⟩
theorem pk_step : ∀ (i n b : Nat), n % 2 ^ i ≠ 0 → ∃ h, h < i ∧ pk i n b = (b, h) :: pk h n (b + 2 ^ h) ∧ n % 2 ^ i = 2 ^ h + n % 2 ^ h
  | 0, n, b, hr => by simp [Nat.mod_one] at hr
  | i + 1, n, b, hr => by
    rw [mod_succ] at hr
    by_cases t : n.testBit i = true
    · refine ⟨i, Nat.lt_succ_self i, ?_, by rw [mod_succ, if_pos t]⟩
      show (if n.testBit i = true then _ else _) = _
      rw [if_pos t]
    · rw [if_neg t, Nat.zero_add] at hr
      obtain ⟨h, h1, h2, h3⟩ := pk_step i n b hr
      refine ⟨h, by omega, ?_, by rw [mod_succ, if_neg t, Nat.zero_add]; exact h3⟩
      show (if n.testBit i = true then _ else _) = _
      rw [if_neg t]
      exact h2
section
variable {P : Program} {w : World} {K : PySem.W.Frag} {mg : Str → Option Value} {base : Heap}
def spTops : Sp := fun vs H Q _ => ∃ (n : Nat), vs = [.int n] ∧ 1 ≤ n ∧ n ≤ 10 ^ 30 ∧ ∀ (H' : Hp) (p : Addr) (xs : List V), Same H H' → H p = none → H' p = some (.lst xs) → All2 (Nd H') xs ((pk 101 n 0).map full) → Q (.ref p) H'
theorem ok_peaks {f g1 g2 : Addr} {fd d1 d2 : FuncData} (F : Fun K "peaks" "peaks" sPeaks f fd) (GCheckSize : FnOk P w K mg base CX0 3 g1 d1 ["size"] spCheckSize) (ACheckSize : At K mg "check_size" g1 d1 ["size"])
    (GPowerWithin : FnOk P w K mg base CX0 1 g2 d2 ["number"] spPower) (APowerWithin : At K mg "power_within" g2 d2 ["number"]) : FnOk P w K mg base CX0 4 f fd ["size"] spTops := by
  refine F.ok scPeaks (fun vs H Q E h => ?_) (fun cdv A outer s H vs Q E hr h => ?_)
  · obtain ⟨_, rfl, _⟩ := h
    rfl
  obtain ⟨n, rfl, h1, h30, q⟩ := h
  refine ⟨_, (pss_cons (ps_expr (pe_call GCheckSize (hr.mono (by decide)) rfl ACheckSize.m ACheckSize.kp ACheckSize.b .nil pass0 (pa_cons (pv 0) pa_nil)))
    (pss_cons (ps_set (i := 1) scPeaks.nd rfl (Or.inl rfl) (pe_lst pa_nil))
    (pss_cons (ps_set (i := 2) scPeaks.nd rfl (Or.inl rfl) pe_int)
    (pss_cons (ps_while PassesOwn.never (pt_cmpR op_lt (pv 2) (pv 0) (nomark _))
    (pss_cons (ps_set (i := 3) scPeaks.nd rfl (Or.inl rfl) (pe_op op_add (pv 2) (pe_call GPowerWithin (hr.mono (by decide)) rfl APowerWithin.m APowerWithin.kp APowerWithin.b .nil pass0 (pa_cons (pe_op op_sub (pv 0) (pv 2)) pa_nil))))
    (pss_cons (ps_expr (pe_bm PySem.F.plainAttrs_list PySem.F.slot_list_append PySem.F.type_list_append mt_append (pv 1) (pa_cons (pe_tup (pa_cons (pv 2) (pa_cons (pv 3) pa_nil))) pa_nil)))
    (pss_one (ps_set (i := 2) scPeaks.nd rfl (Or.inl rfl) (pv 3))))))
    (pss_one (ps_ret (pv 1))))))), ?_⟩
  refine ⟨_, rfl, n, rfl, by omega, by omega, ?_⟩
  refine ⟨Nat.zero_le _, fun fa nf => ?_⟩
  have nm : n % 2 ^ 101 = n := Nat.mod_eq_of_lt (Nat.lt_of_le_of_lt h30 (by decide))
  refine ⟨fun mu σ H' => ∃ (i b : Nat) (v3 : Option V) (xs : List V) (done : List (Nat × Nat)), σ = [some (.int n), some (.ref fa), some (.int b), v3] ∧ Same H H' ∧ H' fa = some (.lst xs) ∧ All2 (Nd H') xs (done.map full) ∧ done ++ pk i n b = pk 101 n 0 ∧ b + n % 2 ^ i = n ∧ mu = n - b,
    ⟨n, 101, 0, none, [], [], rfl, same_upd nf, upd_same, .nil, rfl, by omega, by omega⟩, ?_⟩
  rintro m σ H1 ⟨i, b, v3, xs, done, rfl, sm, hf, hx, hd, hb, rfl⟩
  refine ⟨_, rfl, _, rfl, _, _, rfl, rfl, _, rfl, ite2 (fun c => ?_) (fun c => ?_)⟩
  · have c1 : (b : Int) < (n : Int) := of_decide_eq_true c
    obtain ⟨h, hi, hp, hm⟩ := pk_step i n b (by omega)
    have ph := Nat.pow_pos (a := 2) (n := h) (by decide)
    have lh : (n - b).log2 = h := log2_is (by omega) (by have := Nat.mod_lt n ph; rw [Nat.pow_succ]; omega)
    have dl : done.length ≤ 101 := by
      have k1 := congrArg List.length hd
      rw [List.length_append] at k1
      have k2 := pk_len 101 n 0
      omega
    refine ⟨fun σ' H' => ∃ mu, mu < n - b ∧ ∃ (i b : Nat) (v3 : Option V) (xs : List V) (done : List (Nat × Nat)), σ' = [some (.int n), some (.ref fa), some (.int b), v3] ∧ Same H H' ∧ H' fa = some (.lst xs) ∧ All2 (Nd H') xs (done.map full) ∧ done ++ pk i n b = pk 101 n 0 ∧ b + n % 2 ^ i = n ∧ mu = n - b, fun σ' H' h => h, ?_⟩
    have e1 : (n : Int) - (b : Int) = ((n - b : Nat) : Int) := by omega
    refine ⟨_, rfl, _, rfl, _, rfl, _, _, rfl, rfl, n - b, congrArg (fun z => [V.int z]) e1, by omega, by omega, _, _, rfl, rfl, ?_⟩
    have e2 : (b : Int) + ((2 ^ (n - b).log2 : Nat) : Int) = ((b + 2 ^ h : Nat) : Int) := by rw [lh]; omega
    dsimp only
    rw [e2]
    refine ⟨_, rfl, .inl ⟨rfl, _, SqL.of hf⟩, _, rfl, _, rfl, (by show 2 ≤ sizeLine; decide), fun t nt => ?_⟩
    have s1 := same_upd (o := .tup [.int (b : Int), .int ((b + 2 ^ h : Nat) : Int)]) nt
    have hf1 := s1 _ _ hf
    refine ⟨fa, _, _, rfl, rfl, hf1, szlt (by rw [hx.len, List.length_map]; omega), ?_⟩
    refine ⟨_, rfl, ?_⟩
    refine ⟨n - (b + 2 ^ h), by omega, h, b + 2 ^ h, _, xs ++ [.ref t], done ++ [(b, h)], rfl, ?_, upd_same, ?_, ?_, by omega, rfl⟩
    · exact fun a o k => by rw [upd_ne (ne_of_none k nf)]; exact s1 _ _ (sm _ _ k)
    · rw [List.map_append]
      refine (hx.mono (fun v x (k : Nd H1 v x) => (k.same s1).upd hf1)).app (.cons ?_ .nil)
      exact Nd.upd (x := full (b, h)) ⟨t, rfl, upd_same⟩ hf1
    · rw [← hd, hp, List.append_assoc]
      rfl
  · have c1 : ¬ (b : Int) < (n : Int) := of_decide_eq_false (Bool.eq_false_iff.mpr c)
    rw [pk_nil i n b (by omega), List.append_nil] at hd
    rw [hd] at hx
    exact ⟨_, rfl, q H1 fa xs sm nf hf hx⟩
end
end LT

namespace LT
open PySem PySem.Spec PyProof.Rows L2
theorem cut_last (xs : List V) : cutV xs none (some (-1)) = xs.dropLast := by
  unfold cutV
  have e : HT.sIx xs.length xs.length (some (-1)) = xs.length - 1 := by
    show (if (-1 : Int) < 0 then ((-1 : Int) + (xs.length : Int)).toNat else min (-1 : Int).toNat xs.length) = _
    rw [if_pos (by decide)]
    omega
  rw [e, HT.sIx_none, List.drop_zero, Nat.sub_zero, List.dropLast_eq_take]
theorem All2.droplast {α : Type} {R : V → α → Prop} : ∀ {vs : List V} {xs : List α}, All2 R vs xs → All2 R vs.dropLast xs.dropLast
  | _, _, .nil => .nil
  | _, _, .cons _ .nil => .nil
  | _, _, .cons h (.cons k t) => .cons h (All2.droplast (.cons k t))
/-- how many peaks -/
def npk (n : Nat) : Nat := (pk 101 n 0).length
theorem npk_pos {n : Nat} (h : 1 ≤ n) (h30 : n ≤ 10 ^ 30) : 1 ≤ npk n := by
  have k := pk_ne 101 n 0 (by rw [Nat.mod_eq_of_lt (Nat.lt_of_le_of_lt h30 (by decide))]; omega)
  unfold npk
  cases hh : pk 101 n 0 with
  | nil => exact absurd hh k
  | cons _ _ => rw [List.length_cons]; omega
/-- how many of each height -/
def hcount (n : Nat) (k : Int) : Int := if k < 0 ∨ k > ((Builtin.Int.intBits (n : Int) : Nat) : Int) then 0 else if k = 0 then (n : Int) else (((n : Int) - 1) / 2 ^ (k - 1).toNat + 1) / 2
def ccount (n o : Nat) : Int := if n = o then 2 * (min n o : Nat) - 1 else 2 * (min n o : Nat) - 1 - ((npk (min n o) - 1 : Nat) : Int)
section
variable {P : Program} {w : World} {K : PySem.W.Frag} {mg : Str → Option Value} {base : Heap}
def spEdges : Sp := fun vs H Q _ => ∃ (n : Nat), vs = [.int n] ∧ 1 ≤ n ∧ n ≤ 10 ^ 30 ∧ ∀ (H' : Hp) (p : Addr) (xs : List V), Same H H' → H p = none → H' p = some (.lst xs) → All2 (Nd H') xs (((pk 101 n 0).map full).dropLast.map fun x => (x.1, n)) → Q (.ref p) H'
theorem ok_edges {f g1 : Addr} {fd d1 : FuncData} (F : Fun K "edges" "edges" sEdges f fd) (GPeaks : FnOk P w K mg base CX0 4 g1 d1 ["size"] spTops) (APeaks : At K mg "peaks" g1 d1 ["size"]) : FnOk P w K mg base CX0 5 f fd ["size"] spEdges := by
  refine F.ok scEdges (fun vs H Q E h => ?_) (fun cdv A outer s H vs Q E hr h => ?_)
  · obtain ⟨_, rfl, _⟩ := h
    rfl
  obtain ⟨n, rfl, h1, h30, q⟩ := h
  refine ⟨_, (pss_one (ps_ret (pe_lc (own := [("begin", 1), ("_", 2)]) rfl scEdges.nd (pi_list (pe_slice sl_list (pe_call GPeaks (hr.mono (by decide)) rfl APeaks.m APeaks.kp APeaks.b .nil pass0 (pa_cons (pv 0) pa_nil)) po_none (po_some (pe_un un_neg pe_int)))) (blkOk_by (N := ["size", "begin", "_"]) (sc := defScope sEdges) (by decide +kernel)) (fun _ _ _ _ _ => (pg_tupB (n := 2) rfl (pgs_cons (pg_name (i := 1) scEdges.nd rfl (Or.inl rfl)) (pgs_cons (pg_name (i := 2) scEdges.nd rfl (Or.inl rfl)) pgs_nil)))) (fun _ _ _ _ _ => pts_nil) (fun _ _ _ _ _ => (pe_tup (pa_cons (pv 1) (pa_cons (pv 0) pa_nil))))))), ?_⟩
  refine ⟨_, rfl, n, rfl, h1, h30, fun H1 p xs sm np hp hx => ?_⟩
  have L101 : ((pk 101 n 0).map full).length ≤ 101 := by rw [List.length_map]; exact pk_len 101 n 0
  generalize (pk 101 n 0).map full = L at q hx L101
  refine ⟨1, rfl, -1, rfl, p, _, rfl, SqL.of hp, fun c nc => ?_⟩
  have sc := same_upd (o := .lst (cutV xs none (some (-1)))) nc
  have hc : (upd H1 c (.lst (cutV xs none (some (-1))))) c = some (.lst xs.dropLast) := by rw [upd_same, cut_last]
  have hx1 := (hx.mono (fun v x (k : Nd H1 v x) => k.same sc)).droplast
  generalize upd H1 c (.lst (cutV xs none (some (-1)))) = H2 at hc hx1 sc
  refine ⟨c, rfl, ⟨_, SqL.of hc⟩, fun D nD => lc_list (xs := xs.dropLast) (fun i H' => ∃ ys : List V, Same H2 H' ∧ H' D = some (.lst ys) ∧ All2 (Nd H') ys ((L.dropLast.take i).map fun x => (x.1, n))) ⟨[], same_upd nD, upd_same, .nil⟩ (fun i H' _ ⟨_, k, _⟩ => SqL.of (k _ _ hc)) ?_ ?_⟩
  · rintro i x H3 hi ⟨ys, s3, hD, hy3⟩
    obtain ⟨y, hy, xp, rfl, hxp⟩ := hx1.nth hi
    have il : i < L.dropLast.length := (List.getElem?_eq_some_iff.mp hy).1
    rw [List.length_dropLast] at il
    refine ⟨xp, _, rfl, SqT.of (s3 _ _ hxp), rfl, _, _, rfl, _, _, rfl, rfl, rfl, ?_⟩
    refine ⟨_, rfl, _, rfl, (by show 2 ≤ sizeLine; decide), fun t nt => ?_⟩
    have st := same_upd (o := .tup [.int (y.1 : Int), .int (n : Int)]) nt
    refine ⟨ys, st _ _ hD, szlt (by rw [hy3.len, List.length_map, List.length_take, List.length_dropLast]; omega), ys ++ [.ref t], ?_, upd_same, ?_⟩
    · exact fun a o k => by rw [upd_ne (ne_of_none k nD)]; exact st _ _ (s3 _ _ k)
    · rw [take_more hy, List.map_append]
      exact (hy3.mono (fun v x (k : Nd H3 v x) => (k.same st).upd (st _ _ hD))).app (.cons (Nd.upd (x := (y.1, n)) ⟨t, rfl, upd_same⟩ (st _ _ hD)) .nil)
  rintro H3 ⟨ys, s3, hD, hy3⟩
  have et : L.dropLast.take xs.dropLast.length = L.dropLast := List.take_of_length_le (by rw [hx1.len]; exact Nat.le_refl _)
  rw [et] at hy3
  refine q H3 D ys (sm.trans (sc.trans s3)) ?_ hD hy3
  exact (sm.trans sc).free nD
def spNodeCount : Sp := fun vs H Q _ => ∃ (n : Nat), vs = [.int n] ∧ 1 ≤ n ∧ n ≤ 10 ^ 30 ∧ ∀ (H' : Hp) (p : Addr), Same H H' → H' p = some (.tup [.int (2 * (n : Int) - 1 - ((npk n - 1 : Nat) : Int)), .int ((npk n - 1 : Nat) : Int)]) → Q (.ref p) H'
theorem ok_node_count {f g1 : Addr} {fd d1 : FuncData} (F : Fun K "node_count" "node_count" sNodeCount f fd) (GEdges : FnOk P w K mg base CX0 5 g1 d1 ["size"] spEdges) (AEdges : At K mg "edges" g1 d1 ["size"]) (z_len : mg "len" = none) : FnOk P w K mg base CX0 6 f fd ["size"] spNodeCount := by
  refine F.ok scNodeCount (fun vs H Q E h => ?_) (fun cdv A outer s H vs Q E hr h => ?_)
  · obtain ⟨_, rfl, _⟩ := h
    rfl
  obtain ⟨n, rfl, h1, h30, q⟩ := h
  refine ⟨_, (pss_cons (ps_set (i := 1) scNodeCount.nd rfl (Or.inl rfl) (pe_callB call_len_seq (by rfl) z_len PySem.boot_len (pa_cons (pe_call GEdges (hr.mono (by decide)) rfl AEdges.m AEdges.kp AEdges.b .nil pass0 (pa_cons (pv 0) pa_nil)) pa_nil)))
    (pss_one (ps_ret (pe_tup (pa_cons (pe_op op_sub (pe_op op_sub (pe_op op_mul pe_int (pv 0)) pe_int) (pv 1)) (pa_cons (pv 1) pa_nil)))))), ?_⟩
  refine ⟨_, rfl, n, rfl, h1, h30, fun H1 p xs sm np hp hx => ?_⟩
  have xl : xs.length = npk n - 1 := by
    rw [hx.len, List.length_map, List.length_dropLast, List.length_map]
    rfl
  refine ⟨p, xs, rfl, .inl (SqL.of hp), ?_⟩
  dsimp only
  rw [xl]
  refine ⟨_, rfl, _, _, rfl, rfl, .inl ⟨by decide, by decide⟩, _, _, rfl, rfl, _, rfl, _, _, rfl, rfl, _, rfl, (by show 2 ≤ sizeLine; decide), fun t nt => ?_⟩
  exact q _ t (sm.trans (same_upd nt)) upd_same
def spCommon : Sp := fun vs H Q _ => ∃ (n o : Nat), vs = [.int n, .int o] ∧ 1 ≤ n ∧ n ≤ 10 ^ 30 ∧ 1 ≤ o ∧ o ≤ 10 ^ 30 ∧ ∀ (H' : Hp), Same H H' → Q (.int (ccount n o)) H'
theorem min_castC (a c : Nat) : (if ((c : Nat) : Int) < (a : Int) then (c : Int) else (a : Int)) = ((min a c : Nat) : Int) := by split <;> omega
theorem ok_common_count {f g1 g2 : Addr} {fd d1 d2 : FuncData} (F : Fun K "common_count" "common_count" sCommonCount f fd) (GCheckSize : FnOk P w K mg base CX0 3 g1 d1 ["size"] spCheckSize) (ACheckSize : At K mg "check_size" g1 d1 ["size"])
    (GNodeCount : FnOk P w K mg base CX0 6 g2 d2 ["size"] spNodeCount) (ANodeCount : At K mg "node_count" g2 d2 ["size"]) (z_min : mg "min" = none) : FnOk P w K mg base CX0 7 f fd ["size", "other"] spCommon := by
  refine F.ok scCommonCount (fun vs H Q E h => ?_) (fun cdv A outer s H vs Q E hr h => ?_)
  · obtain ⟨_, _, rfl, _⟩ := h
    rfl
  obtain ⟨n, o, rfl, h1, h30, o1, o30, q⟩ := h
  refine ⟨_, (pss_cons (ps_expr (pe_call GCheckSize (hr.mono (by decide)) rfl ACheckSize.m ACheckSize.kp ACheckSize.b .nil pass0 (pa_cons (pv 0) pa_nil)))
    (pss_cons (ps_expr (pe_call GCheckSize (hr.mono (by decide)) rfl ACheckSize.m ACheckSize.kp ACheckSize.b .nil pass0 (pa_cons (pv 1) pa_nil)))
    (pss_cons (ps_asg (pe_call GNodeCount (hr.mono (by decide)) rfl ANodeCount.m ANodeCount.kp ANodeCount.b .nil pass0 (pa_cons (pe_callB (call_min2 rfl) (by rfl) z_min (by decide +kernel) (pa_cons (pv 0) (pa_cons (pv 1) pa_nil))) pa_nil)) (pg_tup (by rfl) (pgs_cons (pg_name (i := 2) scCommonCount.nd rfl (Or.inl rfl)) (pgs_cons (pg_name (i := 3) scCommonCount.nd rfl (Or.inl rfl)) pgs_nil))))
    (pss_cons (ps_if (pt_cmpR op_eq (pv 0) (pv 1) (nomark _))
    (pss_one (ps_ret (pe_op op_add (pv 2) (pv 3))))
    pss_nil)
    (pss_one (ps_ret (pv 2))))))), ?_⟩
  refine ⟨_, rfl, n, rfl, by omega, by omega, ?_⟩
  refine ⟨_, rfl, o, rfl, by omega, by omega, ?_⟩
  refine ⟨_, rfl, _, rfl, _, _, rfl, min n o, congrArg (fun z => [V.int z]) (min_castC n o), by omega, by omega, fun H1 p sm hp => ?_⟩
  refine ⟨p, _, rfl, SqT.of hp, rfl, _, _, rfl, _, _, rfl, rfl, ?_⟩
  have np := npk_pos (n := min n o) (by omega) (by omega)
  refine ⟨_, rfl, _, rfl, rfl, _, rfl, ite2 (fun c => ?_) (fun c => ?_)⟩
  · have c1 : V.int (n : Int) = V.int (o : Int) := of_decide_eq_true c
    have c2 := V.int.inj c1
    refine ⟨_, rfl, _, rfl, _, _, rfl, rfl, ?_⟩
    have k := q _ sm
    unfold ccount at k
    rw [if_pos (by omega)] at k
    have e : 2 * ((min n o : Nat) : Int) - 1 - ((npk (min n o) - 1 : Nat) : Int) + ((npk (min n o) - 1 : Nat) : Int) = 2 * ((min n o : Nat) : Int) - 1 := by omega
    show Q (.int (2 * ((min n o : Nat) : Int) - 1 - ((npk (min n o) - 1 : Nat) : Int) + ((npk (min n o) - 1 : Nat) : Int))) H1
    rw [e]
    exact k
  · have c1 : ¬ V.int (n : Int) = V.int (o : Int) := of_decide_eq_false (Bool.eq_false_iff.mpr c)
    have k := q _ sm
    unfold ccount at k
    rw [if_neg (fun z => c1 (by rw [z]))] at k
    exact ⟨_, rfl, k⟩
def spHeights : Sp := fun vs H Q _ => ∃ (n : Nat) (k : Int), vs = [.int n, .int k] ∧ 1 ≤ n ∧ n ≤ 10 ^ 30 ∧ Q (.int (hcount n k)) H
theorem ok_height_count {f g1 g2 : Addr} {fd d1 d2 : FuncData} (F : Fun K "height_count" "height_count" sHeightCount f fd) (GCheckSize : FnOk P w K mg base CX0 3 g1 d1 ["size"] spCheckSize) (ACheckSize : At K mg "check_size" g1 d1 ["size"])
    (GCheckNumber : FnOk P w K mg base CX0 2 g2 d2 ["number"] spCheckNumber) (ACheckNumber : At K mg "check_number" g2 d2 ["number"]) : FnOk P w K mg base CX0 4 f fd ["size", "number"] spHeights := by
  refine F.ok scHeightCount (fun vs H Q E h => ?_) (fun cdv A outer s H vs Q E hr h => ?_)
  · obtain ⟨_, _, rfl, _⟩ := h
    rfl
  obtain ⟨n, k, rfl, h1, h30, q⟩ := h
  unfold hcount at q
  refine ⟨_, (pss_cons (ps_expr (pe_call GCheckSize (hr.mono (by decide)) rfl ACheckSize.m ACheckSize.kp ACheckSize.b .nil pass0 (pa_cons (pv 0) pa_nil)))
    (pss_cons (ps_expr (pe_call GCheckNumber (hr.mono (by decide)) rfl ACheckNumber.m ACheckNumber.kp ACheckNumber.b .nil pass0 (pa_cons (pv 1) pa_nil)))
    (pss_cons (ps_if (PW.pt (pw_or (pt_cmpR op_lt (pv 1) pe_int (nomark _)) (pw_or1 (pt_cmpR op_gt (pv 1) (pe_bits (pv 0)) (nomark _)))))
    (pss_one (ps_ret pe_int))
    pss_nil)
    (pss_cons (ps_if (pt_cmpR op_eq (pv 1) pe_int (nomark _))
    (pss_one (ps_ret (pv 0)))
    pss_nil)
    (pss_cons (ps_set (i := 2) scHeightCount.nd rfl (Or.inl rfl) (pe_op op_add (pe_op op_shr (pe_op op_sub (pv 0) pe_int) (pe_op op_sub (pv 1) pe_int)) pe_int))
    (pss_one (ps_ret (pe_op op_fdivW (pv 2) pe_int)))))))), ?_⟩
  refine ⟨_, rfl, n, rfl, by omega, by omega, ?_⟩
  refine ⟨_, rfl, k, rfl, ?_⟩
  refine ⟨_, rfl, _, _, rfl, rfl, _, rfl, ite2 (fun c => ?_) (fun c => ?_)⟩
  · have c1 : k < 0 := of_decide_eq_true c
    rw [if_pos (Or.inl c1)] at q
    exact q
  have c1 : ¬ k < 0 := of_decide_eq_false (Bool.eq_false_iff.mpr c)
  refine ⟨_, rfl, _, rfl, _, rfl, _, _, rfl, rfl, _, rfl, ite2 (fun c => ?_) (fun c => ?_)⟩
  · have c2 : k > ((Builtin.Int.intBits (n : Int) : Nat) : Int) := of_decide_eq_true c
    rw [if_pos (Or.inr c2)] at q
    exact q
  have c2 : ¬ k > ((Builtin.Int.intBits (n : Int) : Nat) : Int) := of_decide_eq_false (Bool.eq_false_iff.mpr c)
  rw [if_neg (fun z => z.elim c1 c2)] at q
  refine ⟨_, rfl, rfl, _, rfl, ite2 (fun c => ?_) (fun c => ?_)⟩
  · have c3 : V.int k = V.int 0 := of_decide_eq_true c
    rw [if_pos (V.int.inj c3)] at q
    exact ⟨_, rfl, q⟩
  have c3 : ¬ V.int k = V.int 0 := of_decide_eq_false (Bool.eq_false_iff.mpr c)
  rw [if_neg (fun z => c3 (by rw [z]))] at q
  have k0 : k ≠ 0 := fun z => c3 (by rw [z])
  refine ⟨_, rfl, _, _, rfl, rfl, _, rfl, _, _, rfl, rfl, _, _, rfl, rfl, (show 0 ≤ k - 1 by omega), _, _, rfl, rfl, ?_⟩
  exact ⟨_, rfl, _, _, rfl, rfl, wide_div (b := 2) (by decide) (by decide) (by decide) (by decide), q⟩
end
end LT

namespace LT
open PySem PySem.Spec PyProof.Rows L2
section
variable {P : Program} {w : World} {K : PySem.W.Frag} {mg : Str → Option Value} {base : Heap}
def spSize : Sp := fun vs H Q _ => ∃ (b : Addr), vs = [.ref b] ∧ BagAt H b ∧ ∀ (n : Nat) (H' : Hp), 1 ≤ n → n ≤ 10 ^ 30 → But b H H' → BagAt H' b → Q (.int n) H'
theorem ok_law_size {f g1 : Addr} {fd d1 : FuncData} (F : Fun K "_law_size" "_law_size" sLawSize f fd) (GLawPick : FnOk P w K mg base CX0 1 g1 d1 ["bag", "many"] spPick) (ALawPick : At K mg "_law_pick" g1 d1 ["bag", "many"]) (z_max : mg "max" = none) (z_min : mg "min" = none) :
    FnOk P w K mg base CX0 2 f fd ["bag"] spSize := by
  refine F.ok scLawSize (fun vs H Q E h => ?_) (fun cdv A outer s H vs Q E hr h => ?_)
  · obtain ⟨_, rfl, _⟩ := h
    rfl
  obtain ⟨b, rfl, hb, q⟩ := h
  refine ⟨_, (pss_cons (ps_set (i := 1) scLawSize.nd rfl (Or.inl rfl) (pe_op op_add pe_int (pe_call GLawPick (hr.mono (by decide)) rfl ALawPick.m ALawPick.kp ALawPick.b .nil pass0 (pa_cons (pv 0) (pa_cons (pe_ix ix_list (pe_lst (pa_cons pe_int (pa_cons (pe_op op_pow pe_int pe_int) (pa_cons (pe_op op_pow pe_int pe_int) pa_nil)))) (pe_call GLawPick (hr.mono (by decide)) rfl ALawPick.m ALawPick.kp ALawPick.b .nil pass0 (pa_cons (pv 0) (pa_cons pe_int pa_nil))) (fun _ _ => rfl)) pa_nil)))))
    (pss_cons (ps_if (pt_cmpR op_eq (pe_call GLawPick (hr.mono (by decide)) rfl ALawPick.m ALawPick.kp ALawPick.b .nil pass0 (pa_cons (pv 0) (pa_cons pe_int pa_nil))) pe_int (nomark _))
    (pss_one (ps_set (i := 1) scLawSize.nd rfl (Or.inl rfl) (pe_op op_sub (pe_op op_add (pe_op op_shl pe_int (pe_call GLawPick (hr.mono (by decide)) rfl ALawPick.m ALawPick.kp ALawPick.b .nil pass0 (pa_cons (pv 0) (pa_cons pe_int pa_nil)))) (pe_call GLawPick (hr.mono (by decide)) rfl ALawPick.m ALawPick.kp ALawPick.b .nil pass0 (pa_cons (pv 0) (pa_cons pe_int pa_nil)))) pe_int)))
    pss_nil)
    (pss_one (ps_ret (pe_callB (call_min2 rfl) (by rfl) z_min (by decide +kernel) (pa_cons (pe_op op_pow pe_int pe_int) (pa_cons (pe_callB (call_max2 rfl) (by rfl) z_max (by decide +kernel) (pa_cons pe_int (pa_cons (pv 1) pa_nil))) pa_nil))))))), ?_⟩
  have hbN : ∃ o, H b = some o := by obtain ⟨x, y, z, e⟩ := hb; exact ⟨_, e⟩
  -- the first line
  refine ⟨_, rfl, _, _, rfl, rfl, ⟨by decide, by decide, by decide⟩, _, _, rfl, rfl, ⟨by decide, by decide, by decide⟩, (by show 3 ≤ sizeLine; decide), fun l nl => ?_⟩
  have s1 := same_upd (o := .lst [.int 40, .int (10 ^ (9 : Int).toNat), .int (10 ^ (30 : Int).toNat)]) nl
  have hlb : l ≠ b := fun e => by obtain ⟨o, e2⟩ := hbN; rw [← e, nl] at e2; cases e2
  refine ⟨_, rfl, b, 3, rfl, by decide, by decide, hb.same s1, fun r H2 r0 r1 k2 b2 => ?_⟩
  have h2l : H2 l = some (.lst [.int 40, .int (10 ^ (9 : Int).toNat), .int (10 ^ (30 : Int).toNat)]) := by rw [k2 l hlb]; exact upd_same
  have B2 : But b H H2 := fun a o n h => by rw [k2 a n]; exact s1 _ _ h
  obtain ⟨rn, rfl⟩ := Int.eq_ofNat_of_zero_le r0
  have hv : ∃ m : Int, atI [V.int 40, V.int (10 ^ (9 : Int).toNat), V.int (10 ^ (30 : Int).toNat)] (rn : Int) = some (.int m) ∧ 0 < m ∧ m ≤ 10 ^ 30 := by
    have : rn = 0 ∨ rn = 1 ∨ rn = 2 := by omega
    rcases this with h | h | h
    · subst h; exact ⟨40, atI_nat (j := 0) rfl, by decide, by decide⟩
    · subst h; exact ⟨_, atI_nat (j := 1) rfl, by decide, by decide⟩
    · subst h; exact ⟨_, atI_nat (j := 2) rfl, by decide, by decide⟩
  obtain ⟨m, hm, m0, m1⟩ := hv
  refine ⟨l, _, _, _, rfl, rfl, SqL.of h2l, hm, b, m, rfl, m0, (show m.natAbs < 2 ^ 250 by omega), b2, fun r3 H3 r30 r31 k3 b3 => ?_⟩
  have B3 : But b H H3 := fun a o n h => by rw [k3 a n]; exact B2 a o n h
  refine ⟨_, _, rfl, rfl, ?_⟩
  -- if _law_pick(bag, 3) == 0
  refine ⟨_, rfl, b, 3, rfl, by decide, by decide, b3, fun r4 H4 r40 r41 k4 b4 => ⟨rfl, _, rfl, ?_⟩⟩
  have B4 : But b H H4 := fun a o n h => by rw [k4 a n]; exact B3 a o n h
  have fin : ∀ (z : Int) (H5 : Hp), But b H H5 → BagAt H5 b → Q (.int (if (if z > 1 then z else 1) < 10 ^ (30 : Int).toNat then (if z > 1 then z else 1) else 10 ^ (30 : Int).toNat)) H5 := fun z H5 B5 b5 => by
    have e : (10 : Int) ^ (30 : Int).toNat = 10 ^ 30 := rfl
    rw [e]
    have z1 : 1 ≤ (if z > 1 then z else 1) := by split <;> omega
    generalize (if z > 1 then z else 1) = y at z1
    have y1 : 1 ≤ (if y < 10 ^ 30 then y else 10 ^ 30) ∧ (if y < 10 ^ 30 then y else 10 ^ 30) ≤ 10 ^ 30 := by split <;> omega
    generalize (if y < 10 ^ 30 then y else 10 ^ 30) = u at y1
    obtain ⟨un, rfl⟩ := Int.eq_ofNat_of_zero_le (show 0 ≤ u by omega)
    exact q un H5 (by omega) (by omega) B5 b5
  refine ite2 (fun c => ?_) (fun c => ?_)
  · refine ⟨_, rfl, b, 100, rfl, by decide, by decide, b4, fun r5 H5 r50 r51 k5 b5 => ⟨_, _, rfl, rfl, ⟨r50, by omega, by decide⟩, _, rfl, b, 3, rfl, by decide, by decide, b5, fun r6 H6 r60 r61 k6 b6 => ⟨_, _, rfl, rfl, _, _, rfl, rfl, ?_⟩⟩⟩
    have B6 : But b H H6 := fun a o n h => by rw [k6 a n, k5 a n]; exact B4 a o n h
    exact ⟨_, _, rfl, rfl, ⟨by decide, by decide, by decide⟩, _, rfl, _, _, rfl, _, _, rfl, fin _ H6 B6 b6⟩
  · exact ⟨_, _, rfl, rfl, ⟨by decide, by decide, by decide⟩, _, rfl, _, _, rfl, _, _, rfl, fin _ H4 B4 b4⟩
end
end LT

namespace LT
open PySem PySem.Spec PyProof.Rows L2
/-- what the top says of an own class of errors without an __init__ -/
structure XF (K : PySem.W.Frag) (mg : Str → Option Value) (x : Str) (C : Addr) : Prop where
  g : mg x = some (.ref C)
  k : PySem.W.keepIn K (.ref C) = true
  q : PySem.W.excIn K C [.type "ValueError", .type "Exception", .type "BaseException", .type "object"] "ValueError.__new__" = true
  b : PySem.W.subIn K (.ref C) (.type "BaseException") = some true
  t : PySem.W.typeIn K (.ref C) = some (.type "type")
section
variable {P : Program} {w : World} {K : PySem.W.Frag} {mg : Str → Option Value} {base : Heap} {k : Nat} {f : Addr} {fd : FuncData} {ps : List Str} {sp sp1 sp2 : Sp} {CY : CXT}
theorem both (A : FnOk P w K mg base CY k f fd ps sp1) (B : FnOk P w K mg base CY k f fd ps sp2) : FnOk P w K mg base CY k f fd ps (fun vs H Q E => sp1 vs H Q E ∨ sp2 vs H Q E) :=
  ⟨fun vs H Q E h => h.elim (A.len vs H Q E) (B.len vs H Q E), fun A' outer s H args us vs Q E hr ev hb rv h => h.elim (A.run A' outer s H args us vs Q E hr ev hb rv) (B.run A' outer s H args us vs Q E hr ev hb rv)⟩
theorem toX (A : FnOk P w K mg base CX0 k f fd ps sp) : FnOk P w K mg base (L2.CX P w) k f fd ps sp := by
  refine ⟨A.len, fun A' outer s H args us vs Q E hr ev hb rv h => codeAny_mono (A.run A' outer s H args us vs Q E hr ev hb rv h) ?_⟩
  intro r s' hq
  cases r with
  | error e => exact False.elim hq
  | ok fl => cases fl <;> exact hq
end
section
variable {P : Program} {w : World} {K : PySem.W.Frag} {mg : Str → Option Value} {base : Heap} {CInvalidSize CInvalidEntry CInvalidSpan CInvalidNumber : Addr}
def top30 : Int := 1000000000000000000000000000000
def spCheckSizeX (K : PySem.W.Frag) (C : Addr) : Sp := fun vs H Q E => ∃ (v : V) (t : String), vs = [v] ∧ Pl K H v t ∧ ((inRange 1 top30 v = true ∧ Q .non H) ∨ (inRange 1 top30 v = false ∧ E (.ref C) none H))
theorem okX_check_size {f g : Addr} {fd gd : FuncData} {t : Tok} (F : Fun K "check_size" "check_size" sCheckSize f fd) (XInvalidSize : XF K mg "InvalidSize" CInvalidSize) (GIsBetween : FnOk P w K mg base CX0 2 g gd ["value", "low", "high"] (spBetweenV K)) (AIsBetween : At K mg "is_between" g gd ["value", "low", "high"]) (g_MOST_ENTRIES : mg "MOST_ENTRIES" = some (.int 1000000000000000000000000000000 t)) :
    FnOk P w K mg base (L2.CX P w) 3 f fd ["size"] (spCheckSizeX K CInvalidSize) := by
  refine F.okX scCheckSize (fun vs H Q E h => ?_) (fun cdv A outer s H vs Q E hr h => ?_)
  · obtain ⟨_, _, rfl, _⟩ := h
    rfl
  obtain ⟨v, ty, rfl, hv, q⟩ := h
  refine ⟨_, (pss_one (ps_if (pt_not (pt_val (pe_call GIsBetween (hr.mono (by decide)) rfl AIsBetween.m AIsBetween.kp AIsBetween.b .nil pass0 (pa_cons (pv 0) (pa_cons pe_int (pa_cons (pe_glob (v := .int 1000000000000000000000000000000) rfl g_MOST_ENTRIES ⟨_, rfl⟩) pa_nil))))))
    (pss_one (ps_raise rfl (takes_of rfl rfl rfl rfl) (pmk_own PySem.F.excBase_ValueError XInvalidSize.q XInvalidSize.g XInvalidSize.k (raises_own XInvalidSize.b XInvalidSize.t) rfl)))
    pss_nil)), ?_⟩
  refine ⟨_, rfl, v, ty, 1, top30, rfl, hv, inRange 1 top30 v, rfl, ?_⟩
  rcases q with ⟨e, q⟩ | ⟨e, q⟩
  · rw [e]; exact q
  · rw [e]; exact q
def spCheckNumberX (K : PySem.W.Frag) (C : Addr) : Sp := fun vs H Q E => ∃ (v : V) (t : String), vs = [v] ∧ Pl K H v t ∧ ((isInt v = true ∧ Q .non H) ∨ (isInt v = false ∧ E (.ref C) none H))
theorem okX_check_number {f g : Addr} {fd gd : FuncData} (F : Fun K "check_number" "check_number" sCheckNumber f fd) (XInvalidNumber : XF K mg "InvalidNumber" CInvalidNumber) (GIsWhole : FnOk P w K mg base CX0 1 g gd ["value"] (spWholeV K)) (AIsWhole : At K mg "is_whole" g gd ["value"]) :
    FnOk P w K mg base (L2.CX P w) 2 f fd ["number"] (spCheckNumberX K CInvalidNumber) := by
  refine F.okX scCheckNumber (fun vs H Q E h => ?_) (fun cdv A outer s H vs Q E hr h => ?_)
  · obtain ⟨_, _, rfl, _⟩ := h
    rfl
  obtain ⟨v, ty, rfl, hv, q⟩ := h
  refine ⟨_, (pss_one (ps_if (pt_not (pt_val (pe_call GIsWhole (hr.mono (by decide)) rfl AIsWhole.m AIsWhole.kp AIsWhole.b .nil pass0 (pa_cons (pv 0) pa_nil))))
    (pss_one (ps_raise rfl (takes_of rfl rfl rfl rfl) (pmk_own PySem.F.excBase_ValueError XInvalidNumber.q XInvalidNumber.g XInvalidNumber.k (raises_own XInvalidNumber.b XInvalidNumber.t) rfl)))
    pss_nil)), ?_⟩
  refine ⟨_, rfl, v, ty, rfl, hv, isInt v, rfl, ?_⟩
  rcases q with ⟨e, q⟩ | ⟨e, q⟩
  · rw [e]; exact q
  · rw [e]; exact q
end
end LT

namespace LT
open PySem PySem.Spec PyProof.Rows L2
/-- values that are no integers from lo to hi -/
def Bads (K : PySem.W.Frag) (H : Hp) (lo hi : Int) (xs : List V) : Prop := xs.length ≤ 14 ∧ ∀ v ∈ xs, ∃ t, Pl K H v t ∧ inRange lo hi v = false
theorem Bads.same {K : PySem.W.Frag} {H H' : Hp} {lo hi : Int} {xs : List V} (h : Bads K H lo hi xs) (s : Same H H') : Bads K H' lo hi xs := ⟨h.1, fun v hv => by
  obtain ⟨t, a, b⟩ := h.2 v hv
  exact ⟨t, a.same s, b⟩⟩
section
variable {P : Program} {w : World} {K : PySem.W.Frag} {mg : Str → Option Value} {base : Heap}
def spBad (K : PySem.W.Frag) : Sp := fun vs H Q _ => ∃ (lo hi : Int), vs = [.int lo, .int hi] ∧ 0 ≤ lo ∧ lo ≤ 2 ^ 100 ∧ 0 ≤ hi ∧ hi ≤ 2 ^ 100 ∧ ∀ (H' : Hp) (p : Addr) (xs : List V), Same H H' → H p = none → H' p = some (.lst xs) → Bads K H' lo hi xs → Q (.ref p) H'
theorem ok_law_bad_integers {f : Addr} {fd : FuncData} (F : Fun K "_law_bad_integers" "_law_bad_integers" sLawBadIntegers f fd) : FnOk P w K mg base CX0 1 f fd ["low", "high"] (spBad K) := by
  refine F.ok scLawBadIntegers (fun vs H Q E h => ?_) (fun cdv A outer s H vs Q E hr h => ?_)
  · obtain ⟨_, _, rfl, _⟩ := h
    rfl
  obtain ⟨lo, hi, rfl, l0, l1, h0, h1, q⟩ := h
  refine ⟨_, (pss_cons (ps_set (i := 2) scLawBadIntegers.nd rfl (Or.inl rfl) (pe_lst (pa_cons pe_non (pa_cons pe_bl (pa_cons pe_bl (pa_cons pe_str (pa_cons pe_str (pa_cons (pe_lst pa_nil) (pa_cons (pe_lst (pa_cons (pv 0) pa_nil)) (pa_cons (pe_tup (pa_cons (pv 0) pa_nil)) (pa_cons pe_dnewK (pa_cons (pe_op op_sub (pv 0) pe_int) (pa_cons (pe_op op_add (pv 1) pe_int) (pa_cons (pe_op op_sub (pv 0) (pe_op op_pow pe_int pe_int)) (pa_cons (pe_op op_add (pv 1) (pe_op op_pow pe_int pe_int)) pa_nil)))))))))))))))
    (pss_one (ps_ret (pe_op op_cat (pv 2) (pe_lst (pa_cons (pe_op op_sub pe_int (pe_op op_mulW (pe_op op_pow pe_int pe_int) (pe_op op_pow pe_int pe_int))) pa_nil)))))), ?_⟩
  have one1 : 1 ≤ sizeLine := by decide
  refine ⟨Nat.zero_le _, fun p1 n1 => ⟨_, rfl, one1, fun p2 n2 => ⟨_, rfl, one1, fun p3 n3 => ?_⟩⟩⟩
  have s1 := same_upd (o := .lst []) n1
  have s2 := same_upd (o := .lst [.int lo]) n2
  have s3 := same_upd (o := .tup [.int lo]) n3
  refine fun p4 n4 => ?_
  have s4 := same_upd (o := .dK []) n4
  have a1 : Pl K (upd (upd (upd (upd H p1 (.lst [])) p2 (.lst [.int lo])) p3 (.tup [.int lo])) p4 (.dK [])) (.ref p1) "list" := .lst (s4 _ _ (s3 _ _ (s2 _ _ upd_same)))
  have a2 : Pl K (upd (upd (upd (upd H p1 (.lst [])) p2 (.lst [.int lo])) p3 (.tup [.int lo])) p4 (.dK [])) (.ref p2) "list" := .lst (s4 _ _ (s3 _ _ upd_same))
  have a3 : Pl K (upd (upd (upd (upd H p1 (.lst [])) p2 (.lst [.int lo])) p3 (.tup [.int lo])) p4 (.dK [])) (.ref p3) "tuple" := .tup (s4 _ _ upd_same)
  have a4 : Pl K (upd (upd (upd (upd H p1 (.lst [])) p2 (.lst [.int lo])) p3 (.tup [.int lo])) p4 (.dK [])) (.ref p4) "dict" := .dict upd_same
  have sA := s1.trans (s2.trans (s3.trans s4))
  generalize upd (upd (upd (upd H p1 (.lst [])) p2 (.lst [.int lo])) p3 (.tup [.int lo])) p4 (.dK []) = J at a1 a2 a3 a4 sA
  refine ⟨_, rfl, _, _, rfl, rfl, _, rfl, _, _, rfl, rfl, _, rfl, _, _, rfl, rfl, ⟨by decide, by decide, by decide⟩, _, _, rfl, rfl, _, rfl, _, _, rfl, rfl, ⟨by decide, by decide, by decide⟩, _, _, rfl, rfl, (by show 13 ≤ sizeLine; decide), fun l nl => ?_⟩
  have big : CMulW (10 ^ Int.toNat 64) (10 ^ Int.toNat 30) := wide_mul (a := 300) (b := 300) (by decide) (by decide) (by decide) (by decide) (by decide)
  have sB := same_upd (H := J) (o := .lst [V.non, V.bl true, V.bl false, V.str (Str.ofString ""), V.str (Str.ofString "1"), V.ref p1, V.ref p2, V.ref p3, V.ref p4, V.int (lo - 1), V.int (hi + 1), V.int (lo - (10 ^ Int.toNat 30)), V.int (hi + (10 ^ Int.toNat 40))]) nl
  have hl : (upd J l (.lst [V.non, V.bl true, V.bl false, V.str (Str.ofString ""), V.str (Str.ofString "1"), V.ref p1, V.ref p2, V.ref p3, V.ref p4, V.int (lo - 1), V.int (hi + 1), V.int (lo - (10 ^ Int.toNat 30)), V.int (hi + (10 ^ Int.toNat 40))])) l = some (.lst [V.non, V.bl true, V.bl false, V.str (Str.ofString ""), V.str (Str.ofString "1"), V.ref p1, V.ref p2, V.ref p3, V.ref p4, V.int (lo - 1), V.int (hi + 1), V.int (lo - (10 ^ Int.toNat 30)), V.int (hi + (10 ^ Int.toNat 40))]) := upd_same
  show gName 2 _ _ (upd J l (.lst [V.non, V.bl true, V.bl false, V.str (Str.ofString ""), V.str (Str.ofString "1"), V.ref p1, V.ref p2, V.ref p3, V.ref p4, V.int (lo - 1), V.int (hi + 1), V.int (lo - (10 ^ Int.toNat 30)), V.int (hi + (10 ^ Int.toNat 40))])) _
  have sC := sA.trans sB
  replace a1 := a1.same sB
  replace a2 := a2.same sB
  replace a3 := a3.same sB
  replace a4 := a4.same sB
  generalize upd J l (.lst [V.non, V.bl true, V.bl false, V.str (Str.ofString ""), V.str (Str.ofString "1"), V.ref p1, V.ref p2, V.ref p3, V.ref p4, V.int (lo - 1), V.int (hi + 1), V.int (lo - (10 ^ Int.toNat 30)), V.int (hi + (10 ^ Int.toNat 40))]) = J2 at a1 a2 a3 a4 sC hl
  refine ⟨_, rfl, _, _, rfl, rfl, ⟨by decide, by decide, by decide⟩, _, _, rfl, rfl, ⟨by decide, by decide, by decide⟩, _, _, rfl, rfl, big, _, _, rfl, rfl, one1, fun l2 nl2 => ?_⟩
  have s5 := same_upd (o := .lst [V.int (0 - 10 ^ Int.toNat 64 * 10 ^ Int.toNat 30)]) nl2
  refine ⟨l, l2, _, _, rfl, rfl, s5 _ _ hl, upd_same, (by show 13 + 1 ≤ sizeLine; decide), fun r nr => ?_⟩
  have s6 := same_upd (o := .lst ([V.non, V.bl true, V.bl false, V.str (Str.ofString ""), V.str (Str.ofString "1"), V.ref p1, V.ref p2, V.ref p3, V.ref p4, V.int (lo - 1), V.int (hi + 1), V.int (lo - (10 ^ Int.toNat 30)), V.int (hi + (10 ^ Int.toNat 40))] ++ [V.int (0 - 10 ^ Int.toNat 64 * 10 ^ Int.toNat 30)])) nr
  have sD := s5.trans s6
  have nH : H r = none := by
    cases e : H r with
    | none => rfl
    | some o => 
      have y := (sC.trans s5) _ _ e
      rw [nr] at y
      cases y
  refine q _ r _ (sC.trans sD) nH upd_same ⟨by show 14 ≤ 14; decide, ?_⟩
  replace a1 := a1.same sD
  replace a2 := a2.same sD
  replace a3 := a3.same sD
  replace a4 := a4.same sD
  clear s5 s6 sD sC hl nl2 nr
  have iR : ∀ i : Int, (i < lo ∨ hi < i) → inRange lo hi (.int i) = false := fun i h => by
    show (decide (lo ≤ i) && decide (i ≤ hi)) = false
    rcases h with h | h
    · rw [decide_eq_false (by omega)]; rfl
    · rw [decide_eq_false (p := i ≤ hi) (by omega), Bool.and_false]
  have p30 : (0 : Int) < 10 ^ Int.toNat 30 := by decide
  have p40 : (0 : Int) < 10 ^ Int.toNat 40 := by decide
  have p94 : (0 : Int) < 10 ^ Int.toNat 64 * 10 ^ Int.toNat 30 := by decide
  intro v hv
  rcases List.mem_append.mp hv with hv | hv
  · simp only [List.mem_cons, List.not_mem_nil, or_false] at hv
    rcases hv with rfl | rfl | rfl | rfl | rfl | rfl | rfl | rfl | rfl | rfl | rfl | rfl | rfl
    · exact ⟨_, .non, rfl⟩
    · exact ⟨_, .bl true, rfl⟩
    · exact ⟨_, .bl false, rfl⟩
    · exact ⟨_, .str _, rfl⟩
    · exact ⟨_, .str _, rfl⟩
    · exact ⟨_, a1, rfl⟩
    · exact ⟨_, a2, rfl⟩
    · exact ⟨_, a3, rfl⟩
    · exact ⟨_, a4, rfl⟩
    · exact ⟨_, .int _, iR _ (.inl (by omega))⟩
    · exact ⟨_, .int _, iR _ (.inr (by omega))⟩
    · exact ⟨_, .int _, iR _ (.inl (by omega))⟩
    · exact ⟨_, .int _, iR _ (.inr (by omega))⟩
  · simp only [List.mem_cons, List.not_mem_nil, or_false] at hv
    subst hv
    exact ⟨_, .int _, iR _ (.inl (by omega))⟩
end
end LT

namespace LT
open PySem PySem.Spec PyProof.Rows L2
/-- a text and a truth -/
def Sb (H : Hp) (v : V) (x : Str × Bool) : Prop := ∃ p, v = .ref p ∧ H p = some (.tup [.str x.1, .bl x.2])
theorem Sb.same {H H' : Hp} {v : V} {x : Str × Bool} (h : Sb H v x) (s : Same H H') : Sb H' v x := by
  obtain ⟨p, e, q⟩ := h
  exact ⟨p, e, s _ _ q⟩
theorem Sb.upd {H : Hp} {v : V} {x : Str × Bool} {s : Addr} {xs : List V} {o : HO} (h : Sb H v x) (hs : H s = some (.lst xs)) : Sb (upd H s o) v x := by
  obtain ⟨p, e, q⟩ := h
  exact ⟨p, e, by rw [upd_ne (ne_of q hs (by intro z; cases z))]; exact q⟩
structure GF (mg : Str → Option Value) (x : Str) (C : Addr) : Prop where
  g : mg x = some (.ref C)
/-- an instance of the class at C is asked for each of the classes -/
def Kit (K : PySem.W.Frag) (C : Addr) : List Addr → List Bool → Prop
  | [], [] => True
  | D :: Ds, b :: bs => PySem.W.kitOne K (.ref C) (.ref D) = some b ∧ Kit K C Ds bs
  | _, _ => False
def clsNames : List Str := ["InvalidSpans", "InvalidNodes", "InvalidBounds", "InvalidText", "OverBudget", "InvalidSize", "InvalidEntry", "InvalidNode", "InvalidSpan", "InvalidNumber", "InvalidHeight", "InvalidBudget", "Nothing", "InvalidOperation", "InvalidCommand"]
section
variable {P : Program} {w : World} {K : PySem.W.Frag} {mg : Str → Option Value} {base : Heap} {CInvalidSpans CInvalidNodes CInvalidBounds CInvalidText COverBudget CInvalidSize CInvalidEntry CInvalidNode CInvalidSpan CInvalidNumber CInvalidHeight CInvalidBudget CNothing CInvalidOperation CInvalidCommand : Addr}
def spClass (K : PySem.W.Frag) (Cs : List Addr) : Sp := fun vs H Q _ => ∃ (a C : Addr) (bs : List Bool) (nm : Str), vs = [.ref a] ∧ H a = some (ExK (.ref C) none a) ∧ ExcC K C ∧ Kit K C Cs bs ∧ PySem.W.kitOne K (.ref C) (.type "ValueError") = some true ∧
  ((clsNames.zip bs).filter fun x => x.2).map (fun x => x.1) = [nm] ∧ nm ≠ "InvalidBounds" ∧ nm ++ ("" : Str) = nm ∧ nm.length ≤ 100 ∧ ∀ H', Same H H' → Q (.str nm) H'
theorem ok_law_class {f : Addr} {fd : FuncData} (F : Fun K "_law_class" "_law_class" sLawClass f fd) (XInvalidSpans : GF mg "InvalidSpans" CInvalidSpans) (XInvalidNodes : GF mg "InvalidNodes" CInvalidNodes) (XInvalidBounds : GF mg "InvalidBounds" CInvalidBounds) (XInvalidText : GF mg "InvalidText" CInvalidText) (XOverBudget : GF mg "OverBudget" COverBudget) (XInvalidSize : GF mg "InvalidSize" CInvalidSize) (XInvalidEntry : GF mg "InvalidEntry" CInvalidEntry) (XInvalidNode : GF mg "InvalidNode" CInvalidNode) (XInvalidSpan : GF mg "InvalidSpan" CInvalidSpan) (XInvalidNumber : GF mg "InvalidNumber" CInvalidNumber) (XInvalidHeight : GF mg "InvalidHeight" CInvalidHeight) (XInvalidBudget : GF mg "InvalidBudget" CInvalidBudget) (XNothing : GF mg "Nothing" CNothing) (XInvalidOperation : GF mg "InvalidOperation" CInvalidOperation) (XInvalidCommand : GF mg "InvalidCommand" CInvalidCommand) (z_isinstance : mg "isinstance" = none) (z_len : mg "len" = none) (z_repr : mg "repr" = none) (z_ValueError : mg "ValueError" = none) : FnOk P w K mg base CX0 1 f fd ["caught"] (spClass K [CInvalidSpans, CInvalidNodes, CInvalidBounds, CInvalidText, COverBudget, CInvalidSize, CInvalidEntry, CInvalidNode, CInvalidSpan, CInvalidNumber, CInvalidHeight, CInvalidBudget, CNothing, CInvalidOperation, CInvalidCommand]) := by
  refine F.ok scLawClass (fun vs H Q E h => ?_) (fun cdv A outer s H vs Q E hr h => ?_)
  · obtain ⟨_, _, _, _, rfl, _⟩ := h
    rfl
  obtain ⟨a, C, bs, nm, rfl, ha, hE, hk, hV, hf, hnb, hap, hl, q⟩ := h
  obtain ⟨b0, b1, b2, b3, b4, b5, b6, b7, b8, b9, b10, b11, b12, b13, b14, rfl⟩ : ∃ b0 b1 b2 b3 b4 b5 b6 b7 b8 b9 b10 b11 b12 b13 b14, bs = [b0, b1, b2, b3, b4, b5, b6, b7, b8, b9, b10, b11, b12, b13, b14] := by
    match bs, hk with
    | [b0, b1, b2, b3, b4, b5, b6, b7, b8, b9, b10, b11, b12, b13, b14], _ => exact ⟨_, _, _, _, _, _, _, _, _, _, _, _, _, _, _, rfl⟩
  obtain ⟨k0, k1, k2, k3, k4, k5, k6, k7, k8, k9, k10, k11, k12, k13, k14, _⟩ := hk
  have two : 2 ≤ sizeLine := by decide
  have one1 : 1 ≤ sizeLine := by decide
  refine' ⟨_, (pss_cons (ps_set (i := 1) scLawClass.nd rfl (Or.inl rfl) (pe_lst (pa_cons (pe_tup (pa_cons pe_str (pa_cons (pe_callB call_isK (by rfl) z_isinstance (by decide +kernel) (pa_cons (pv 0) (pa_cons (pe_glob (v := .ref CInvalidSpans) rfl XInvalidSpans.g rfl) pa_nil))) pa_nil))) (pa_cons (pe_tup (pa_cons pe_str (pa_cons (pe_callB call_isK (by rfl) z_isinstance (by decide +kernel) (pa_cons (pv 0) (pa_cons (pe_glob (v := .ref CInvalidNodes) rfl XInvalidNodes.g rfl) pa_nil))) pa_nil))) pa_nil))))
    (pss_cons (ps_set (i := 1) scLawClass.nd rfl (Or.inl rfl) (pe_op op_cat (pv 1) (pe_lst (pa_cons (pe_tup (pa_cons pe_str (pa_cons (pe_callB call_isK (by rfl) z_isinstance (by decide +kernel) (pa_cons (pv 0) (pa_cons (pe_glob (v := .ref CInvalidBounds) rfl XInvalidBounds.g rfl) pa_nil))) pa_nil))) pa_nil))))
    (pss_cons (ps_set (i := 1) scLawClass.nd rfl (Or.inl rfl) (pe_op op_cat (pv 1) (pe_lst (pa_cons (pe_tup (pa_cons pe_str (pa_cons (pe_callB call_isK (by rfl) z_isinstance (by decide +kernel) (pa_cons (pv 0) (pa_cons (pe_glob (v := .ref CInvalidText) rfl XInvalidText.g rfl) pa_nil))) pa_nil))) (pa_cons (pe_tup (pa_cons pe_str (pa_cons (pe_callB call_isK (by rfl) z_isinstance (by decide +kernel) (pa_cons (pv 0) (pa_cons (pe_glob (v := .ref COverBudget) rfl XOverBudget.g rfl) pa_nil))) pa_nil))) pa_nil)))))
    (pss_cons (ps_set (i := 1) scLawClass.nd rfl (Or.inl rfl) (pe_op op_cat (pv 1) (pe_lst (pa_cons (pe_tup (pa_cons pe_str (pa_cons (pe_callB call_isK (by rfl) z_isinstance (by decide +kernel) (pa_cons (pv 0) (pa_cons (pe_glob (v := .ref CInvalidSize) rfl XInvalidSize.g rfl) pa_nil))) pa_nil))) (pa_cons (pe_tup (pa_cons pe_str (pa_cons (pe_callB call_isK (by rfl) z_isinstance (by decide +kernel) (pa_cons (pv 0) (pa_cons (pe_glob (v := .ref CInvalidEntry) rfl XInvalidEntry.g rfl) pa_nil))) pa_nil))) pa_nil)))))
    (pss_cons (ps_set (i := 1) scLawClass.nd rfl (Or.inl rfl) (pe_op op_cat (pv 1) (pe_lst (pa_cons (pe_tup (pa_cons pe_str (pa_cons (pe_callB call_isK (by rfl) z_isinstance (by decide +kernel) (pa_cons (pv 0) (pa_cons (pe_glob (v := .ref CInvalidNode) rfl XInvalidNode.g rfl) pa_nil))) pa_nil))) (pa_cons (pe_tup (pa_cons pe_str (pa_cons (pe_callB call_isK (by rfl) z_isinstance (by decide +kernel) (pa_cons (pv 0) (pa_cons (pe_glob (v := .ref CInvalidSpan) rfl XInvalidSpan.g rfl) pa_nil))) pa_nil))) pa_nil)))))
    (pss_cons (ps_set (i := 1) scLawClass.nd rfl (Or.inl rfl) (pe_op op_cat (pv 1) (pe_lst (pa_cons (pe_tup (pa_cons pe_str (pa_cons (pe_callB call_isK (by rfl) z_isinstance (by decide +kernel) (pa_cons (pv 0) (pa_cons (pe_glob (v := .ref CInvalidNumber) rfl XInvalidNumber.g rfl) pa_nil))) pa_nil))) pa_nil))))
    (pss_cons (ps_set (i := 1) scLawClass.nd rfl (Or.inl rfl) (pe_op op_cat (pv 1) (pe_lst (pa_cons (pe_tup (pa_cons pe_str (pa_cons (pe_callB call_isK (by rfl) z_isinstance (by decide +kernel) (pa_cons (pv 0) (pa_cons (pe_glob (v := .ref CInvalidHeight) rfl XInvalidHeight.g rfl) pa_nil))) pa_nil))) pa_nil))))
    (pss_cons (ps_set (i := 1) scLawClass.nd rfl (Or.inl rfl) (pe_op op_cat (pv 1) (pe_lst (pa_cons (pe_tup (pa_cons pe_str (pa_cons (pe_callB call_isK (by rfl) z_isinstance (by decide +kernel) (pa_cons (pv 0) (pa_cons (pe_glob (v := .ref CInvalidBudget) rfl XInvalidBudget.g rfl) pa_nil))) pa_nil))) (pa_cons (pe_tup (pa_cons pe_str (pa_cons (pe_callB call_isK (by rfl) z_isinstance (by decide +kernel) (pa_cons (pv 0) (pa_cons (pe_glob (v := .ref CNothing) rfl XNothing.g rfl) pa_nil))) pa_nil))) pa_nil)))))
    (pss_cons (ps_set (i := 1) scLawClass.nd rfl (Or.inl rfl) (pe_op op_cat (pv 1) (pe_lst (pa_cons (pe_tup (pa_cons pe_str (pa_cons (pe_callB call_isK (by rfl) z_isinstance (by decide +kernel) (pa_cons (pv 0) (pa_cons (pe_glob (v := .ref CInvalidOperation) rfl XInvalidOperation.g rfl) pa_nil))) pa_nil))) pa_nil))))
    (pss_cons (ps_set (i := 1) scLawClass.nd rfl (Or.inl rfl) (pe_op op_cat (pv 1) (pe_lst (pa_cons (pe_tup (pa_cons pe_str (pa_cons (pe_callB call_isK (by rfl) z_isinstance (by decide +kernel) (pa_cons (pv 0) (pa_cons (pe_glob (v := .ref CInvalidCommand) rfl XInvalidCommand.g rfl) pa_nil))) pa_nil))) pa_nil))))
    (pss_cons ?cc1
    (pss_cons (ps_if (PW.pt (pw_or (pt_cmpR op_ne (pe_callB call_len_seq (by rfl) z_len PySem.boot_len (pa_cons (pv 2) pa_nil)) pe_int (nomark _)) (pw_or1 (pt_not (pt_val (pe_callB call_isK (by rfl) z_isinstance (by decide +kernel) (pa_cons (pv 0) (pa_cons (pe_bltn (v := .ty "ValueError") (u := .type "ValueError") (by rfl) z_ValueError (by decide +kernel) rfl) pa_nil))))))))
    (pss_one (ps_ret pe_str))
    pss_nil)
    (pss_one (ps_ret (pe_op op_add_str (pe_ix ix_list (pv 2) pe_int (fun _ _ => rfl)) (pe_ifExp (pt_cmpR op_eq (pe_ix ix_list (pv 2) pe_int (fun _ _ => rfl)) pe_str (nomark _)) (pe_op op_add_str pe_str (pe_callB SkE.call_repr_int (by rfl) z_repr (by decide +kernel) (pa_cons (pe_fld (pv 0) rfl) pa_nil))) pe_str)))))))))))))))), ?_⟩
  case cc1 => exact (ps_setLc (i := 2) (own := [("name", 3), ("is_one", 4)]) rfl scLawClass.nd rfl rfl (sw_true rfl rfl rfl (by decide +kernel)) (pi_list (pv 1)) (blkOk_by (N := ["caught", "some", "found", "name", "is_one"]) (sc := defScope sLawClass) (by decide +kernel)) (fun _ _ _ _ _ => (pg_tupB (n := 2) rfl (pgs_cons (pg_name (i := 3) scLawClass.nd rfl (Or.inl rfl)) (pgs_cons (pg_name (i := 4) scLawClass.nd rfl (Or.inl rfl)) pgs_nil)))) (fun _ _ _ _ _ => pts_one (pt_val (pv 4))) (fun _ _ _ _ _ => (pv 3)))
  refine ⟨_, rfl, a, C, _, _, b0, rfl, ha, hE, (fun u r => r), k0, two, fun t0 nt0 => ⟨_, rfl, a, C, _, _, b1, rfl, (same_upd nt0 _ _ ha), hE, (fun u r => r), k1, two, fun t1 nt1 => ⟨two, fun l0 nl0 => ?_⟩⟩⟩
  have st0 := same_upd (H := H) (o := .tup [.str "InvalidSpans", .bl b0]) nt0
  have sb0 : Sb (upd H t0 (.tup [.str "InvalidSpans", .bl b0])) (.ref t0) ("InvalidSpans", b0) := ⟨t0, rfl, upd_same⟩
  have st1 := same_upd (H := (upd H t0 (.tup [.str "InvalidSpans", .bl b0]))) (o := .tup [.str "InvalidNodes", .bl b1]) nt1
  have sb1 : Sb (upd (upd H t0 (.tup [.str "InvalidSpans", .bl b0])) t1 (.tup [.str "InvalidNodes", .bl b1])) (.ref t1) ("InvalidNodes", b1) := ⟨t1, rfl, upd_same⟩
  have sl0 := same_upd (H := (upd (upd H t0 (.tup [.str "InvalidSpans", .bl b0])) t1 (.tup [.str "InvalidNodes", .bl b1]))) (o := .lst [.ref t0, .ref t1]) nl0
  have sg0 := (st0.trans st1).trans sl0
  have hv0 : All2 (Sb (upd (upd (upd H t0 (.tup [.str "InvalidSpans", .bl b0])) t1 (.tup [.str "InvalidNodes", .bl b1])) l0 (.lst [.ref t0, .ref t1]))) [.ref t0, .ref t1] [(("InvalidSpans" : Str), b0), (("InvalidNodes" : Str), b1)] := (.cons ((sb0.same st1).same sl0) (.cons (sb1.same sl0) .nil))
  have hl0 : (upd (upd (upd H t0 (.tup [.str "InvalidSpans", .bl b0])) t1 (.tup [.str "InvalidNodes", .bl b1])) l0 (.lst [.ref t0, .ref t1])) l0 = some (.lst [.ref t0, .ref t1]) := upd_same
  have ha1 := sg0 _ _ ha
  have sm1 : Same H (upd (upd (upd H t0 (.tup [.str "InvalidSpans", .bl b0])) t1 (.tup [.str "InvalidNodes", .bl b1])) l0 (.lst [.ref t0, .ref t1])) := sg0
  have hx1 := hv0
  have hs1 := hl0
  generalize (upd (upd (upd H t0 (.tup [.str "InvalidSpans", .bl b0])) t1 (.tup [.str "InvalidNodes", .bl b1])) l0 (.lst [.ref t0, .ref t1])) = J1 at ha1 sm1 hx1 hs1
  have ex1 : ∃ (S : Addr) (X : List V) (L : List (Str × Bool)), L = [(("InvalidSpans" : Str), b0), (("InvalidNodes" : Str), b1)] ∧ J1 S = some (.lst X) ∧ All2 (Sb J1) X L ∧ S = l0 := ⟨l0, _, _, rfl, hs1, hx1, rfl⟩
  clear hs1 hx1
  obtain ⟨S1, X1, L1, eL1, hs1, hx1, ln1⟩ := ex1
  subst ln1
  refine ⟨_, rfl, _, rfl, a, C, _, _, b2, rfl, ha1, hE, (fun u r => r), k2, two, fun t2 nt2 => ⟨one1, fun l1 nl1 => ?_⟩⟩
  have st2 := same_upd (H := J1) (o := .tup [.str "InvalidBounds", .bl b2]) nt2
  have sb2 : Sb (upd J1 t2 (.tup [.str "InvalidBounds", .bl b2])) (.ref t2) ("InvalidBounds", b2) := ⟨t2, rfl, upd_same⟩
  have sl1 := same_upd (H := (upd J1 t2 (.tup [.str "InvalidBounds", .bl b2]))) (o := .lst [.ref t2]) nl1
  have sg1 := st2.trans sl1
  have hv1 : All2 (Sb (upd (upd J1 t2 (.tup [.str "InvalidBounds", .bl b2])) l1 (.lst [.ref t2]))) [.ref t2] [(("InvalidBounds" : Str), b2)] := (.cons (sb2.same sl1) .nil)
  have hl1 : (upd (upd J1 t2 (.tup [.str "InvalidBounds", .bl b2])) l1 (.lst [.ref t2])) l1 = some (.lst [.ref t2]) := upd_same
  have hS1 := sg1 _ _ hs1
  have hX1 := hx1.mono (fun v x (k : Sb J1 v x) => k.same sg1)
  have xl1 := hx1.len
  refine ⟨S1, l1, _, _, rfl, rfl, hS1, hl1, szle (by rw [xl1, eL1]; simp), fun r1 nr1 => ?_⟩
  have sr1 := same_upd (H := (upd (upd J1 t2 (.tup [.str "InvalidBounds", .bl b2])) l1 (.lst [.ref t2]))) (o := .lst (X1 ++ [.ref t2])) nr1
  have ha2 := sr1 _ _ (sg1 _ _ ha1)
  have sm2 := sm1.trans (sg1.trans sr1)
  have hx2 := (hX1.app hv1).mono (fun v x (k : Sb (upd (upd J1 t2 (.tup [.str "InvalidBounds", .bl b2])) l1 (.lst [.ref t2])) v x) => k.same sr1)
  have hs2 : (upd (upd (upd J1 t2 (.tup [.str "InvalidBounds", .bl b2])) l1 (.lst [.ref t2])) r1 (.lst (X1 ++ [.ref t2]))) r1 = some (.lst (X1 ++ [.ref t2])) := upd_same
  generalize (upd (upd (upd J1 t2 (.tup [.str "InvalidBounds", .bl b2])) l1 (.lst [.ref t2])) r1 (.lst (X1 ++ [.ref t2]))) = J2 at ha2 sm2 hx2 hs2
  have ex2 : ∃ (S : Addr) (X : List V) (L : List (Str × Bool)), L = L1 ++ [(("InvalidBounds" : Str), b2)] ∧ J2 S = some (.lst X) ∧ All2 (Sb J2) X L ∧ S = r1 := ⟨r1, _, _, rfl, hs2, hx2, rfl⟩
  clear hs2 hx2
  obtain ⟨S2, X2, L2, eL2, hs2, hx2, ln2⟩ := ex2
  subst ln2
  rw [eL1] at eL2
  refine ⟨_, rfl, _, rfl, a, C, _, _, b3, rfl, ha2, hE, (fun u r => r), k3, two, fun t3 nt3 => ⟨_, rfl, a, C, _, _, b4, rfl, (same_upd nt3 _ _ ha2), hE, (fun u r => r), k4, two, fun t4 nt4 => ⟨two, fun l2 nl2 => ?_⟩⟩⟩
  have st3 := same_upd (H := J2) (o := .tup [.str "InvalidText", .bl b3]) nt3
  have sb3 : Sb (upd J2 t3 (.tup [.str "InvalidText", .bl b3])) (.ref t3) ("InvalidText", b3) := ⟨t3, rfl, upd_same⟩
  have st4 := same_upd (H := (upd J2 t3 (.tup [.str "InvalidText", .bl b3]))) (o := .tup [.str "OverBudget", .bl b4]) nt4
  have sb4 : Sb (upd (upd J2 t3 (.tup [.str "InvalidText", .bl b3])) t4 (.tup [.str "OverBudget", .bl b4])) (.ref t4) ("OverBudget", b4) := ⟨t4, rfl, upd_same⟩
  have sl2 := same_upd (H := (upd (upd J2 t3 (.tup [.str "InvalidText", .bl b3])) t4 (.tup [.str "OverBudget", .bl b4]))) (o := .lst [.ref t3, .ref t4]) nl2
  have sg2 := (st3.trans st4).trans sl2
  have hv2 : All2 (Sb (upd (upd (upd J2 t3 (.tup [.str "InvalidText", .bl b3])) t4 (.tup [.str "OverBudget", .bl b4])) l2 (.lst [.ref t3, .ref t4]))) [.ref t3, .ref t4] [(("InvalidText" : Str), b3), (("OverBudget" : Str), b4)] := (.cons ((sb3.same st4).same sl2) (.cons (sb4.same sl2) .nil))
  have hl2 : (upd (upd (upd J2 t3 (.tup [.str "InvalidText", .bl b3])) t4 (.tup [.str "OverBudget", .bl b4])) l2 (.lst [.ref t3, .ref t4])) l2 = some (.lst [.ref t3, .ref t4]) := upd_same
  have hS2 := sg2 _ _ hs2
  have hX2 := hx2.mono (fun v x (k : Sb J2 v x) => k.same sg2)
  have xl2 := hx2.len
  refine ⟨S2, l2, _, _, rfl, rfl, hS2, hl2, szle (by rw [xl2, eL2]; simp), fun r2 nr2 => ?_⟩
  have sr2 := same_upd (H := (upd (upd (upd J2 t3 (.tup [.str "InvalidText", .bl b3])) t4 (.tup [.str "OverBudget", .bl b4])) l2 (.lst [.ref t3, .ref t4]))) (o := .lst (X2 ++ [.ref t3, .ref t4])) nr2
  have ha3 := sr2 _ _ (sg2 _ _ ha2)
  have sm3 := sm2.trans (sg2.trans sr2)
  have hx3 := (hX2.app hv2).mono (fun v x (k : Sb (upd (upd (upd J2 t3 (.tup [.str "InvalidText", .bl b3])) t4 (.tup [.str "OverBudget", .bl b4])) l2 (.lst [.ref t3, .ref t4])) v x) => k.same sr2)
  have hs3 : (upd (upd (upd (upd J2 t3 (.tup [.str "InvalidText", .bl b3])) t4 (.tup [.str "OverBudget", .bl b4])) l2 (.lst [.ref t3, .ref t4])) r2 (.lst (X2 ++ [.ref t3, .ref t4]))) r2 = some (.lst (X2 ++ [.ref t3, .ref t4])) := upd_same
  generalize (upd (upd (upd (upd J2 t3 (.tup [.str "InvalidText", .bl b3])) t4 (.tup [.str "OverBudget", .bl b4])) l2 (.lst [.ref t3, .ref t4])) r2 (.lst (X2 ++ [.ref t3, .ref t4]))) = J3 at ha3 sm3 hx3 hs3
  have ex3 : ∃ (S : Addr) (X : List V) (L : List (Str × Bool)), L = L2 ++ [(("InvalidText" : Str), b3), (("OverBudget" : Str), b4)] ∧ J3 S = some (.lst X) ∧ All2 (Sb J3) X L ∧ S = r2 := ⟨r2, _, _, rfl, hs3, hx3, rfl⟩
  clear hs3 hx3
  obtain ⟨S3, X3, L3, eL3, hs3, hx3, ln3⟩ := ex3
  subst ln3
  rw [eL2] at eL3
  refine ⟨_, rfl, _, rfl, a, C, _, _, b5, rfl, ha3, hE, (fun u r => r), k5, two, fun t5 nt5 => ⟨_, rfl, a, C, _, _, b6, rfl, (same_upd nt5 _ _ ha3), hE, (fun u r => r), k6, two, fun t6 nt6 => ⟨two, fun l3 nl3 => ?_⟩⟩⟩
  have st5 := same_upd (H := J3) (o := .tup [.str "InvalidSize", .bl b5]) nt5
  have sb5 : Sb (upd J3 t5 (.tup [.str "InvalidSize", .bl b5])) (.ref t5) ("InvalidSize", b5) := ⟨t5, rfl, upd_same⟩
  have st6 := same_upd (H := (upd J3 t5 (.tup [.str "InvalidSize", .bl b5]))) (o := .tup [.str "InvalidEntry", .bl b6]) nt6
  have sb6 : Sb (upd (upd J3 t5 (.tup [.str "InvalidSize", .bl b5])) t6 (.tup [.str "InvalidEntry", .bl b6])) (.ref t6) ("InvalidEntry", b6) := ⟨t6, rfl, upd_same⟩
  have sl3 := same_upd (H := (upd (upd J3 t5 (.tup [.str "InvalidSize", .bl b5])) t6 (.tup [.str "InvalidEntry", .bl b6]))) (o := .lst [.ref t5, .ref t6]) nl3
  have sg3 := (st5.trans st6).trans sl3
  have hv3 : All2 (Sb (upd (upd (upd J3 t5 (.tup [.str "InvalidSize", .bl b5])) t6 (.tup [.str "InvalidEntry", .bl b6])) l3 (.lst [.ref t5, .ref t6]))) [.ref t5, .ref t6] [(("InvalidSize" : Str), b5), (("InvalidEntry" : Str), b6)] := (.cons ((sb5.same st6).same sl3) (.cons (sb6.same sl3) .nil))
  have hl3 : (upd (upd (upd J3 t5 (.tup [.str "InvalidSize", .bl b5])) t6 (.tup [.str "InvalidEntry", .bl b6])) l3 (.lst [.ref t5, .ref t6])) l3 = some (.lst [.ref t5, .ref t6]) := upd_same
  have hS3 := sg3 _ _ hs3
  have hX3 := hx3.mono (fun v x (k : Sb J3 v x) => k.same sg3)
  have xl3 := hx3.len
  refine ⟨S3, l3, _, _, rfl, rfl, hS3, hl3, szle (by rw [xl3, eL3]; simp), fun r3 nr3 => ?_⟩
  have sr3 := same_upd (H := (upd (upd (upd J3 t5 (.tup [.str "InvalidSize", .bl b5])) t6 (.tup [.str "InvalidEntry", .bl b6])) l3 (.lst [.ref t5, .ref t6]))) (o := .lst (X3 ++ [.ref t5, .ref t6])) nr3
  have ha4 := sr3 _ _ (sg3 _ _ ha3)
  have sm4 := sm3.trans (sg3.trans sr3)
  have hx4 := (hX3.app hv3).mono (fun v x (k : Sb (upd (upd (upd J3 t5 (.tup [.str "InvalidSize", .bl b5])) t6 (.tup [.str "InvalidEntry", .bl b6])) l3 (.lst [.ref t5, .ref t6])) v x) => k.same sr3)
  have hs4 : (upd (upd (upd (upd J3 t5 (.tup [.str "InvalidSize", .bl b5])) t6 (.tup [.str "InvalidEntry", .bl b6])) l3 (.lst [.ref t5, .ref t6])) r3 (.lst (X3 ++ [.ref t5, .ref t6]))) r3 = some (.lst (X3 ++ [.ref t5, .ref t6])) := upd_same
  generalize (upd (upd (upd (upd J3 t5 (.tup [.str "InvalidSize", .bl b5])) t6 (.tup [.str "InvalidEntry", .bl b6])) l3 (.lst [.ref t5, .ref t6])) r3 (.lst (X3 ++ [.ref t5, .ref t6]))) = J4 at ha4 sm4 hx4 hs4
  have ex4 : ∃ (S : Addr) (X : List V) (L : List (Str × Bool)), L = L3 ++ [(("InvalidSize" : Str), b5), (("InvalidEntry" : Str), b6)] ∧ J4 S = some (.lst X) ∧ All2 (Sb J4) X L ∧ S = r3 := ⟨r3, _, _, rfl, hs4, hx4, rfl⟩
  clear hs4 hx4
  obtain ⟨S4, X4, L4, eL4, hs4, hx4, ln4⟩ := ex4
  subst ln4
  rw [eL3] at eL4
  refine ⟨_, rfl, _, rfl, a, C, _, _, b7, rfl, ha4, hE, (fun u r => r), k7, two, fun t7 nt7 => ⟨_, rfl, a, C, _, _, b8, rfl, (same_upd nt7 _ _ ha4), hE, (fun u r => r), k8, two, fun t8 nt8 => ⟨two, fun l4 nl4 => ?_⟩⟩⟩
  have st7 := same_upd (H := J4) (o := .tup [.str "InvalidNode", .bl b7]) nt7
  have sb7 : Sb (upd J4 t7 (.tup [.str "InvalidNode", .bl b7])) (.ref t7) ("InvalidNode", b7) := ⟨t7, rfl, upd_same⟩
  have st8 := same_upd (H := (upd J4 t7 (.tup [.str "InvalidNode", .bl b7]))) (o := .tup [.str "InvalidSpan", .bl b8]) nt8
  have sb8 : Sb (upd (upd J4 t7 (.tup [.str "InvalidNode", .bl b7])) t8 (.tup [.str "InvalidSpan", .bl b8])) (.ref t8) ("InvalidSpan", b8) := ⟨t8, rfl, upd_same⟩
  have sl4 := same_upd (H := (upd (upd J4 t7 (.tup [.str "InvalidNode", .bl b7])) t8 (.tup [.str "InvalidSpan", .bl b8]))) (o := .lst [.ref t7, .ref t8]) nl4
  have sg4 := (st7.trans st8).trans sl4
  have hv4 : All2 (Sb (upd (upd (upd J4 t7 (.tup [.str "InvalidNode", .bl b7])) t8 (.tup [.str "InvalidSpan", .bl b8])) l4 (.lst [.ref t7, .ref t8]))) [.ref t7, .ref t8] [(("InvalidNode" : Str), b7), (("InvalidSpan" : Str), b8)] := (.cons ((sb7.same st8).same sl4) (.cons (sb8.same sl4) .nil))
  have hl4 : (upd (upd (upd J4 t7 (.tup [.str "InvalidNode", .bl b7])) t8 (.tup [.str "InvalidSpan", .bl b8])) l4 (.lst [.ref t7, .ref t8])) l4 = some (.lst [.ref t7, .ref t8]) := upd_same
  have hS4 := sg4 _ _ hs4
  have hX4 := hx4.mono (fun v x (k : Sb J4 v x) => k.same sg4)
  have xl4 := hx4.len
  refine ⟨S4, l4, _, _, rfl, rfl, hS4, hl4, szle (by rw [xl4, eL4]; simp), fun r4 nr4 => ?_⟩
  have sr4 := same_upd (H := (upd (upd (upd J4 t7 (.tup [.str "InvalidNode", .bl b7])) t8 (.tup [.str "InvalidSpan", .bl b8])) l4 (.lst [.ref t7, .ref t8]))) (o := .lst (X4 ++ [.ref t7, .ref t8])) nr4
  have ha5 := sr4 _ _ (sg4 _ _ ha4)
  have sm5 := sm4.trans (sg4.trans sr4)
  have hx5 := (hX4.app hv4).mono (fun v x (k : Sb (upd (upd (upd J4 t7 (.tup [.str "InvalidNode", .bl b7])) t8 (.tup [.str "InvalidSpan", .bl b8])) l4 (.lst [.ref t7, .ref t8])) v x) => k.same sr4)
  have hs5 : (upd (upd (upd (upd J4 t7 (.tup [.str "InvalidNode", .bl b7])) t8 (.tup [.str "InvalidSpan", .bl b8])) l4 (.lst [.ref t7, .ref t8])) r4 (.lst (X4 ++ [.ref t7, .ref t8]))) r4 = some (.lst (X4 ++ [.ref t7, .ref t8])) := upd_same
  generalize (upd (upd (upd (upd J4 t7 (.tup [.str "InvalidNode", .bl b7])) t8 (.tup [.str "InvalidSpan", .bl b8])) l4 (.lst [.ref t7, .ref t8])) r4 (.lst (X4 ++ [.ref t7, .ref t8]))) = J5 at ha5 sm5 hx5 hs5
  have ex5 : ∃ (S : Addr) (X : List V) (L : List (Str × Bool)), L = L4 ++ [(("InvalidNode" : Str), b7), (("InvalidSpan" : Str), b8)] ∧ J5 S = some (.lst X) ∧ All2 (Sb J5) X L ∧ S = r4 := ⟨r4, _, _, rfl, hs5, hx5, rfl⟩
  clear hs5 hx5
  obtain ⟨S5, X5, L5, eL5, hs5, hx5, ln5⟩ := ex5
  subst ln5
  rw [eL4] at eL5
  refine ⟨_, rfl, _, rfl, a, C, _, _, b9, rfl, ha5, hE, (fun u r => r), k9, two, fun t9 nt9 => ⟨one1, fun l5 nl5 => ?_⟩⟩
  have st9 := same_upd (H := J5) (o := .tup [.str "InvalidNumber", .bl b9]) nt9
  have sb9 : Sb (upd J5 t9 (.tup [.str "InvalidNumber", .bl b9])) (.ref t9) ("InvalidNumber", b9) := ⟨t9, rfl, upd_same⟩
  have sl5 := same_upd (H := (upd J5 t9 (.tup [.str "InvalidNumber", .bl b9]))) (o := .lst [.ref t9]) nl5
  have sg5 := st9.trans sl5
  have hv5 : All2 (Sb (upd (upd J5 t9 (.tup [.str "InvalidNumber", .bl b9])) l5 (.lst [.ref t9]))) [.ref t9] [(("InvalidNumber" : Str), b9)] := (.cons (sb9.same sl5) .nil)
  have hl5 : (upd (upd J5 t9 (.tup [.str "InvalidNumber", .bl b9])) l5 (.lst [.ref t9])) l5 = some (.lst [.ref t9]) := upd_same
  have hS5 := sg5 _ _ hs5
  have hX5 := hx5.mono (fun v x (k : Sb J5 v x) => k.same sg5)
  have xl5 := hx5.len
  refine ⟨S5, l5, _, _, rfl, rfl, hS5, hl5, szle (by rw [xl5, eL5]; simp), fun r5 nr5 => ?_⟩
  have sr5 := same_upd (H := (upd (upd J5 t9 (.tup [.str "InvalidNumber", .bl b9])) l5 (.lst [.ref t9]))) (o := .lst (X5 ++ [.ref t9])) nr5
  have ha6 := sr5 _ _ (sg5 _ _ ha5)
  have sm6 := sm5.trans (sg5.trans sr5)
  have hx6 := (hX5.app hv5).mono (fun v x (k : Sb (upd (upd J5 t9 (.tup [.str "InvalidNumber", .bl b9])) l5 (.lst [.ref t9])) v x) => k.same sr5)
  have hs6 : (upd (upd (upd J5 t9 (.tup [.str "InvalidNumber", .bl b9])) l5 (.lst [.ref t9])) r5 (.lst (X5 ++ [.ref t9]))) r5 = some (.lst (X5 ++ [.ref t9])) := upd_same
  generalize (upd (upd (upd J5 t9 (.tup [.str "InvalidNumber", .bl b9])) l5 (.lst [.ref t9])) r5 (.lst (X5 ++ [.ref t9]))) = J6 at ha6 sm6 hx6 hs6
  have ex6 : ∃ (S : Addr) (X : List V) (L : List (Str × Bool)), L = L5 ++ [(("InvalidNumber" : Str), b9)] ∧ J6 S = some (.lst X) ∧ All2 (Sb J6) X L ∧ S = r5 := ⟨r5, _, _, rfl, hs6, hx6, rfl⟩
  clear hs6 hx6
  obtain ⟨S6, X6, L6, eL6, hs6, hx6, ln6⟩ := ex6
  subst ln6
  rw [eL5] at eL6
  refine ⟨_, rfl, _, rfl, a, C, _, _, b10, rfl, ha6, hE, (fun u r => r), k10, two, fun t10 nt10 => ⟨one1, fun l6 nl6 => ?_⟩⟩
  have st10 := same_upd (H := J6) (o := .tup [.str "InvalidHeight", .bl b10]) nt10
  have sb10 : Sb (upd J6 t10 (.tup [.str "InvalidHeight", .bl b10])) (.ref t10) ("InvalidHeight", b10) := ⟨t10, rfl, upd_same⟩
  have sl6 := same_upd (H := (upd J6 t10 (.tup [.str "InvalidHeight", .bl b10]))) (o := .lst [.ref t10]) nl6
  have sg6 := st10.trans sl6
  have hv6 : All2 (Sb (upd (upd J6 t10 (.tup [.str "InvalidHeight", .bl b10])) l6 (.lst [.ref t10]))) [.ref t10] [(("InvalidHeight" : Str), b10)] := (.cons (sb10.same sl6) .nil)
  have hl6 : (upd (upd J6 t10 (.tup [.str "InvalidHeight", .bl b10])) l6 (.lst [.ref t10])) l6 = some (.lst [.ref t10]) := upd_same
  have hS6 := sg6 _ _ hs6
  have hX6 := hx6.mono (fun v x (k : Sb J6 v x) => k.same sg6)
  have xl6 := hx6.len
  refine ⟨S6, l6, _, _, rfl, rfl, hS6, hl6, szle (by rw [xl6, eL6]; simp), fun r6 nr6 => ?_⟩
  have sr6 := same_upd (H := (upd (upd J6 t10 (.tup [.str "InvalidHeight", .bl b10])) l6 (.lst [.ref t10]))) (o := .lst (X6 ++ [.ref t10])) nr6
  have ha7 := sr6 _ _ (sg6 _ _ ha6)
  have sm7 := sm6.trans (sg6.trans sr6)
  have hx7 := (hX6.app hv6).mono (fun v x (k : Sb (upd (upd J6 t10 (.tup [.str "InvalidHeight", .bl b10])) l6 (.lst [.ref t10])) v x) => k.same sr6)
  have hs7 : (upd (upd (upd J6 t10 (.tup [.str "InvalidHeight", .bl b10])) l6 (.lst [.ref t10])) r6 (.lst (X6 ++ [.ref t10]))) r6 = some (.lst (X6 ++ [.ref t10])) := upd_same
  generalize (upd (upd (upd J6 t10 (.tup [.str "InvalidHeight", .bl b10])) l6 (.lst [.ref t10])) r6 (.lst (X6 ++ [.ref t10]))) = J7 at ha7 sm7 hx7 hs7
  have ex7 : ∃ (S : Addr) (X : List V) (L : List (Str × Bool)), L = L6 ++ [(("InvalidHeight" : Str), b10)] ∧ J7 S = some (.lst X) ∧ All2 (Sb J7) X L ∧ S = r6 := ⟨r6, _, _, rfl, hs7, hx7, rfl⟩
  clear hs7 hx7
  obtain ⟨S7, X7, L7, eL7, hs7, hx7, ln7⟩ := ex7
  subst ln7
  rw [eL6] at eL7
  refine ⟨_, rfl, _, rfl, a, C, _, _, b11, rfl, ha7, hE, (fun u r => r), k11, two, fun t11 nt11 => ⟨_, rfl, a, C, _, _, b12, rfl, (same_upd nt11 _ _ ha7), hE, (fun u r => r), k12, two, fun t12 nt12 => ⟨two, fun l7 nl7 => ?_⟩⟩⟩
  have st11 := same_upd (H := J7) (o := .tup [.str "InvalidBudget", .bl b11]) nt11
  have sb11 : Sb (upd J7 t11 (.tup [.str "InvalidBudget", .bl b11])) (.ref t11) ("InvalidBudget", b11) := ⟨t11, rfl, upd_same⟩
  have st12 := same_upd (H := (upd J7 t11 (.tup [.str "InvalidBudget", .bl b11]))) (o := .tup [.str "Nothing", .bl b12]) nt12
  have sb12 : Sb (upd (upd J7 t11 (.tup [.str "InvalidBudget", .bl b11])) t12 (.tup [.str "Nothing", .bl b12])) (.ref t12) ("Nothing", b12) := ⟨t12, rfl, upd_same⟩
  have sl7 := same_upd (H := (upd (upd J7 t11 (.tup [.str "InvalidBudget", .bl b11])) t12 (.tup [.str "Nothing", .bl b12]))) (o := .lst [.ref t11, .ref t12]) nl7
  have sg7 := (st11.trans st12).trans sl7
  have hv7 : All2 (Sb (upd (upd (upd J7 t11 (.tup [.str "InvalidBudget", .bl b11])) t12 (.tup [.str "Nothing", .bl b12])) l7 (.lst [.ref t11, .ref t12]))) [.ref t11, .ref t12] [(("InvalidBudget" : Str), b11), (("Nothing" : Str), b12)] := (.cons ((sb11.same st12).same sl7) (.cons (sb12.same sl7) .nil))
  have hl7 : (upd (upd (upd J7 t11 (.tup [.str "InvalidBudget", .bl b11])) t12 (.tup [.str "Nothing", .bl b12])) l7 (.lst [.ref t11, .ref t12])) l7 = some (.lst [.ref t11, .ref t12]) := upd_same
  have hS7 := sg7 _ _ hs7
  have hX7 := hx7.mono (fun v x (k : Sb J7 v x) => k.same sg7)
  have xl7 := hx7.len
  refine ⟨S7, l7, _, _, rfl, rfl, hS7, hl7, szle (by rw [xl7, eL7]; simp), fun r7 nr7 => ?_⟩
  have sr7 := same_upd (H := (upd (upd (upd J7 t11 (.tup [.str "InvalidBudget", .bl b11])) t12 (.tup [.str "Nothing", .bl b12])) l7 (.lst [.ref t11, .ref t12]))) (o := .lst (X7 ++ [.ref t11, .ref t12])) nr7
  have ha8 := sr7 _ _ (sg7 _ _ ha7)
  have sm8 := sm7.trans (sg7.trans sr7)
  have hx8 := (hX7.app hv7).mono (fun v x (k : Sb (upd (upd (upd J7 t11 (.tup [.str "InvalidBudget", .bl b11])) t12 (.tup [.str "Nothing", .bl b12])) l7 (.lst [.ref t11, .ref t12])) v x) => k.same sr7)
  have hs8 : (upd (upd (upd (upd J7 t11 (.tup [.str "InvalidBudget", .bl b11])) t12 (.tup [.str "Nothing", .bl b12])) l7 (.lst [.ref t11, .ref t12])) r7 (.lst (X7 ++ [.ref t11, .ref t12]))) r7 = some (.lst (X7 ++ [.ref t11, .ref t12])) := upd_same
  generalize (upd (upd (upd (upd J7 t11 (.tup [.str "InvalidBudget", .bl b11])) t12 (.tup [.str "Nothing", .bl b12])) l7 (.lst [.ref t11, .ref t12])) r7 (.lst (X7 ++ [.ref t11, .ref t12]))) = J8 at ha8 sm8 hx8 hs8
  have ex8 : ∃ (S : Addr) (X : List V) (L : List (Str × Bool)), L = L7 ++ [(("InvalidBudget" : Str), b11), (("Nothing" : Str), b12)] ∧ J8 S = some (.lst X) ∧ All2 (Sb J8) X L ∧ S = r7 := ⟨r7, _, _, rfl, hs8, hx8, rfl⟩
  clear hs8 hx8
  obtain ⟨S8, X8, L8, eL8, hs8, hx8, ln8⟩ := ex8
  subst ln8
  rw [eL7] at eL8
  refine ⟨_, rfl, _, rfl, a, C, _, _, b13, rfl, ha8, hE, (fun u r => r), k13, two, fun t13 nt13 => ⟨one1, fun l8 nl8 => ?_⟩⟩
  have st13 := same_upd (H := J8) (o := .tup [.str "InvalidOperation", .bl b13]) nt13
  have sb13 : Sb (upd J8 t13 (.tup [.str "InvalidOperation", .bl b13])) (.ref t13) ("InvalidOperation", b13) := ⟨t13, rfl, upd_same⟩
  have sl8 := same_upd (H := (upd J8 t13 (.tup [.str "InvalidOperation", .bl b13]))) (o := .lst [.ref t13]) nl8
  have sg8 := st13.trans sl8
  have hv8 : All2 (Sb (upd (upd J8 t13 (.tup [.str "InvalidOperation", .bl b13])) l8 (.lst [.ref t13]))) [.ref t13] [(("InvalidOperation" : Str), b13)] := (.cons (sb13.same sl8) .nil)
  have hl8 : (upd (upd J8 t13 (.tup [.str "InvalidOperation", .bl b13])) l8 (.lst [.ref t13])) l8 = some (.lst [.ref t13]) := upd_same
  have hS8 := sg8 _ _ hs8
  have hX8 := hx8.mono (fun v x (k : Sb J8 v x) => k.same sg8)
  have xl8 := hx8.len
  refine ⟨S8, l8, _, _, rfl, rfl, hS8, hl8, szle (by rw [xl8, eL8]; simp), fun r8 nr8 => ?_⟩
  have sr8 := same_upd (H := (upd (upd J8 t13 (.tup [.str "InvalidOperation", .bl b13])) l8 (.lst [.ref t13]))) (o := .lst (X8 ++ [.ref t13])) nr8
  have ha9 := sr8 _ _ (sg8 _ _ ha8)
  have sm9 := sm8.trans (sg8.trans sr8)
  have hx9 := (hX8.app hv8).mono (fun v x (k : Sb (upd (upd J8 t13 (.tup [.str "InvalidOperation", .bl b13])) l8 (.lst [.ref t13])) v x) => k.same sr8)
  have hs9 : (upd (upd (upd J8 t13 (.tup [.str "InvalidOperation", .bl b13])) l8 (.lst [.ref t13])) r8 (.lst (X8 ++ [.ref t13]))) r8 = some (.lst (X8 ++ [.ref t13])) := upd_same
  generalize (upd (upd (upd J8 t13 (.tup [.str "InvalidOperation", .bl b13])) l8 (.lst [.ref t13])) r8 (.lst (X8 ++ [.ref t13]))) = J9 at ha9 sm9 hx9 hs9
  have ex9 : ∃ (S : Addr) (X : List V) (L : List (Str × Bool)), L = L8 ++ [(("InvalidOperation" : Str), b13)] ∧ J9 S = some (.lst X) ∧ All2 (Sb J9) X L ∧ S = r8 := ⟨r8, _, _, rfl, hs9, hx9, rfl⟩
  clear hs9 hx9
  obtain ⟨S9, X9, L9, eL9, hs9, hx9, ln9⟩ := ex9
  subst ln9
  rw [eL8] at eL9
  refine ⟨_, rfl, _, rfl, a, C, _, _, b14, rfl, ha9, hE, (fun u r => r), k14, two, fun t14 nt14 => ⟨one1, fun l9 nl9 => ?_⟩⟩
  have st14 := same_upd (H := J9) (o := .tup [.str "InvalidCommand", .bl b14]) nt14
  have sb14 : Sb (upd J9 t14 (.tup [.str "InvalidCommand", .bl b14])) (.ref t14) ("InvalidCommand", b14) := ⟨t14, rfl, upd_same⟩
  have sl9 := same_upd (H := (upd J9 t14 (.tup [.str "InvalidCommand", .bl b14]))) (o := .lst [.ref t14]) nl9
  have sg9 := st14.trans sl9
  have hv9 : All2 (Sb (upd (upd J9 t14 (.tup [.str "InvalidCommand", .bl b14])) l9 (.lst [.ref t14]))) [.ref t14] [(("InvalidCommand" : Str), b14)] := (.cons (sb14.same sl9) .nil)
  have hl9 : (upd (upd J9 t14 (.tup [.str "InvalidCommand", .bl b14])) l9 (.lst [.ref t14])) l9 = some (.lst [.ref t14]) := upd_same
  have hS9 := sg9 _ _ hs9
  have hX9 := hx9.mono (fun v x (k : Sb J9 v x) => k.same sg9)
  have xl9 := hx9.len
  refine ⟨S9, l9, _, _, rfl, rfl, hS9, hl9, szle (by rw [xl9, eL9]; simp), fun r9 nr9 => ?_⟩
  have sr9 := same_upd (H := (upd (upd J9 t14 (.tup [.str "InvalidCommand", .bl b14])) l9 (.lst [.ref t14]))) (o := .lst (X9 ++ [.ref t14])) nr9
  have ha10 := sr9 _ _ (sg9 _ _ ha9)
  have sm10 := sm9.trans (sg9.trans sr9)
  have hx10 := (hX9.app hv9).mono (fun v x (k : Sb (upd (upd J9 t14 (.tup [.str "InvalidCommand", .bl b14])) l9 (.lst [.ref t14])) v x) => k.same sr9)
  have hs10 : (upd (upd (upd J9 t14 (.tup [.str "InvalidCommand", .bl b14])) l9 (.lst [.ref t14])) r9 (.lst (X9 ++ [.ref t14]))) r9 = some (.lst (X9 ++ [.ref t14])) := upd_same
  generalize (upd (upd (upd J9 t14 (.tup [.str "InvalidCommand", .bl b14])) l9 (.lst [.ref t14])) r9 (.lst (X9 ++ [.ref t14]))) = J10 at ha10 sm10 hx10 hs10
  have ex10 : ∃ (S : Addr) (X : List V) (L : List (Str × Bool)), L = L9 ++ [(("InvalidCommand" : Str), b14)] ∧ J10 S = some (.lst X) ∧ All2 (Sb J10) X L ∧ S = r9 := ⟨r9, _, _, rfl, hs10, hx10, rfl⟩
  clear hs10 hx10
  obtain ⟨S10, X10, L10, eL10, hs10, hx10, ln10⟩ := ex10
  subst ln10
  rw [eL9] at eL10
  have eL : L10 = clsNames.zip [b0, b1, b2, b3, b4, b5, b6, b7, b8, b9, b10, b11, b12, b13, b14] := by rw [eL10]; rfl
  have xl10 := hx10.len
  have L15 : L10.length = 15 := by rw [eL]; rfl
  rw [← eL] at hf
  refine ⟨_, rfl, S10, rfl, ⟨_, SqL.of hs10⟩, fun D nD => lc_list (xs := X10) (fun i H' => Same J10 H' ∧ H' D = some (.lst (((L10.take i).filter fun x => x.2).map fun x => V.str x.1))) ⟨same_upd nD, upd_same⟩ (fun i H' _ ⟨k, _⟩ => SqL.of (k _ _ hs10)) ?_ ?_⟩
  · rintro i v G hi ⟨sG, hD⟩
    obtain ⟨x, hxi, hxv⟩ := hx10.nth hi
    obtain ⟨xp, rfl, hxp⟩ := hxv.same sG
    have fl : ((L10.take i).filter fun x => x.2).length ≤ 15 := by
      have := List.length_filter_le (fun x : Str × Bool => x.2) (L10.take i)
      rw [List.length_take] at this
      omega
    refine ⟨xp, _, rfl, SqT.of hxp, rfl, _, _, rfl, _, _, rfl, rfl, rfl, ?_⟩
    cases hb : x.2 with
    | true =>
      refine ⟨_, rfl, true, rfl, ?_⟩
      refine ⟨_, rfl, _, hD, szlt (by rw [List.length_map]; omega), ?_, ?_⟩
      · exact fun c o k => by rw [upd_ne (ne_of_none k nD)]; exact sG _ _ k
      · rw [take_more hxi, List.filter_append, List.filter_cons, hb, List.map_append]
        exact upd_same
    | false =>
      refine ⟨_, rfl, false, rfl, ?_⟩
      refine ⟨sG, ?_⟩
      rw [take_more hxi, List.filter_append, List.filter_cons, hb]
      simpa using hD
  rintro G ⟨sG, hD⟩
  rw [xl10, List.take_length] at hD
  have hD : G D = some (.lst [.str nm]) := by
    have e : ((L10.filter fun x => x.2).map fun x => V.str x.1) = ((L10.filter fun x => x.2).map fun x => x.1).map V.str := by rw [List.map_map]; rfl
    rw [hD, e, hf]
    rfl
  have haG := sG _ _ ha10
  refine ⟨_, rfl, D, _, rfl, .inl (SqL.of hD), rfl, false, rfl, ?_⟩
  refine ⟨_, rfl, a, C, _, _, true, rfl, haG, hE, (fun u r => r), hV, true, rfl, ?_⟩
  refine ⟨_, rfl, D, _, _, _, rfl, rfl, SqL.of hD, atI_nat (j := 0) rfl, ?_⟩
  refine ⟨_, rfl, D, _, _, _, rfl, rfl, SqL.of hD, atI_nat (j := 0) rfl, rfl, false, congrArg V.bl (decide_eq_false (fun z => hnb (V.str.inj z))), _, _, rfl, rfl, ?_, ?_⟩
  · exact szle (by have : (Str.ofString "").length = 0 := rfl; omega)
  · have : Q (.str (nm ++ ("" : Str))) G := by rw [hap]; exact q G (sm10.trans sG)
    exact this
end
end LT

namespace LT
open PySem PySem.Spec PyProof.Rows L2
section
variable {P : Program} {w : World} {K : PySem.W.Frag} {mg : Str → Option Value} {base : Heap} {CS CE CN : Addr}
def spCheckNodeX (K : PySem.W.Frag) (C : Addr) : Sp := fun vs H Q E => ∃ (n : Nat) (v : V), vs = [.int n, v] ∧ 1 ≤ n ∧ n ≤ 10 ^ 30 ∧ Ask K H n v false ∧ E (.ref C) none H
theorem okX_check_node {f g : Addr} {fd gd : FuncData} {CInvalidNode : Addr} (F : Fun K "check_node" "check_node" sCheckNode f fd) (XInvalidNode : XF K mg "InvalidNode" CInvalidNode) (GIsTreeNode : FnOk P w K mg base CX0 3 g gd ["size", "value"] (spTreeV K)) (AIsTreeNode : At K mg "is_tree_node" g gd ["size", "value"]) :
    FnOk P w K mg base (L2.CX P w) 4 f fd ["size", "node"] (spCheckNodeX K CInvalidNode) := by
  refine F.okX scCheckNode (fun vs H Q E h => ?_) (fun cdv A outer s H vs Q E hr h => ?_)
  · obtain ⟨_, _, rfl, _⟩ := h
    rfl
  obtain ⟨n, v, rfl, n1, h30, ask, q⟩ := h
  refine ⟨_, (pss_one (ps_if (pt_not (pt_val (pe_call GIsTreeNode (hr.mono (by decide)) rfl AIsTreeNode.m AIsTreeNode.kp AIsTreeNode.b .nil pass0 (pa_cons (pv 0) (pa_cons (pv 1) pa_nil)))))
    (pss_one (ps_raise rfl (takes_of rfl rfl rfl rfl) (pmk_own PySem.F.excBase_ValueError XInvalidNode.q XInvalidNode.g XInvalidNode.k (raises_own XInvalidNode.b XInvalidNode.t) rfl)))
    pss_nil)), ?_⟩
  exact ⟨_, rfl, _, rfl, n, v, false, rfl, n1, h30, ask, false, rfl, q⟩
/-- a wrong size alone -/
def spSizeX (K : PySem.W.Frag) (CS : Addr) : Sp := fun vs H Q E => ∃ (v : V) (t : String), vs = [v] ∧ Pl K H v t ∧ inRange 1 top30 v = false ∧ E (.ref CS) none H
theorem okX_peaks {f g1 g2 : Addr} {fd d1 d2 : FuncData} (F : Fun K "peaks" "peaks" sPeaks f fd) (GXCheckSize : FnOk P w K mg base (L2.CX P w) 3 g1 d1 ["size"] (spCheckSizeX K CS)) (ACheckSize : At K mg "check_size" g1 d1 ["size"])
    (GPowerWithin : FnOk P w K mg base CX0 1 g2 d2 ["number"] spPower) (APowerWithin : At K mg "power_within" g2 d2 ["number"]) : FnOk P w K mg base (L2.CX P w) 4 f fd ["size"] (spSizeX K CS) := by
  refine F.okX scPeaks (fun vs H Q E h => ?_) (fun cdv A outer s H vs Q E hr h => ?_)
  · obtain ⟨_, _, rfl, _⟩ := h
    rfl
  obtain ⟨v, t, rfl, hv, e, q⟩ := h
  refine ⟨_, (pss_cons (ps_expr (pe_callS GXCheckSize (hr.mono (by decide)) rfl ACheckSize.m ACheckSize.kp ACheckSize.b (fun σ => passAt (takes_of rfl rfl rfl rfl) σ) (pa_cons (pv 0) pa_nil)))
    (pss_cons (ps_set (i := 1) scPeaks.nd rfl (Or.inl rfl) (pe_lst pa_nil))
    (pss_cons (ps_set (i := 2) scPeaks.nd rfl (Or.inl rfl) pe_int)
    (pss_cons (ps_while PassesOwn.leaving (pt_cmpR op_lt (pv 2) (pv 0) (nomark _))
    (pss_cons (ps_set (i := 3) scPeaks.nd rfl (Or.inl rfl) (pe_op op_add (pv 2) (pe_call GPowerWithin (hr.mono (by decide)) rfl APowerWithin.m APowerWithin.kp APowerWithin.b .nil pass0 (pa_cons (pe_op op_sub (pv 0) (pv 2)) pa_nil))))
    (pss_cons (ps_expr (pe_bm PySem.F.plainAttrs_list PySem.F.slot_list_append PySem.F.type_list_append mt_append (pv 1) (pa_cons (pe_tup (pa_cons (pv 2) (pa_cons (pv 3) pa_nil))) pa_nil)))
    (pss_one (ps_set (i := 2) scPeaks.nd rfl (Or.inl rfl) (pv 3))))))
    (pss_one (ps_ret (pv 1))))))), ?_⟩
  exact ⟨_, rfl, v, t, rfl, hv, .inr ⟨e, q⟩⟩
theorem okX_edges {f g1 : Addr} {fd d1 : FuncData} (F : Fun K "edges" "edges" sEdges f fd) (GXPeaks : FnOk P w K mg base (L2.CX P w) 4 g1 d1 ["size"] (spSizeX K CS)) (APeaks : At K mg "peaks" g1 d1 ["size"]) : FnOk P w K mg base (L2.CX P w) 5 f fd ["size"] (spSizeX K CS) := by
  refine F.okX scEdges (fun vs H Q E h => ?_) (fun cdv A outer s H vs Q E hr h => ?_)
  · obtain ⟨_, _, rfl, _⟩ := h
    rfl
  obtain ⟨v, t, rfl, hv, e, q⟩ := h
  refine ⟨_, (pss_one (ps_ret (pe_lc (own := [("begin", 1), ("_", 2)]) rfl scEdges.nd (pi_list (pe_slice sl_list (pe_callS GXPeaks (hr.mono (by decide)) rfl APeaks.m APeaks.kp APeaks.b (fun σ => passAt (takes_of rfl rfl rfl rfl) σ) (pa_cons (pv 0) pa_nil)) po_none (po_some (pe_un un_neg pe_int)))) (blkOk_by (N := ["size", "begin", "_"]) (sc := defScope sEdges) (by decide +kernel)) (fun _ _ _ _ _ => (pg_tupB (n := 2) rfl (pgs_cons (pg_name (i := 1) scEdges.nd rfl (Or.inl rfl)) (pgs_cons (pg_name (i := 2) scEdges.nd rfl (Or.inl rfl)) pgs_nil)))) (fun _ _ _ _ _ => pts_nil) (fun _ _ _ _ _ => (pe_tup (pa_cons (pv 1) (pa_cons (pv 0) pa_nil))))))), ?_⟩
  exact ⟨_, rfl, v, t, rfl, hv, e, q⟩
theorem okX_node_count {f g1 : Addr} {fd d1 : FuncData} (F : Fun K "node_count" "node_count" sNodeCount f fd) (GXEdges : FnOk P w K mg base (L2.CX P w) 5 g1 d1 ["size"] (spSizeX K CS)) (AEdges : At K mg "edges" g1 d1 ["size"]) (z_len : mg "len" = none) : FnOk P w K mg base (L2.CX P w) 6 f fd ["size"] (spSizeX K CS) := by
  refine F.okX scNodeCount (fun vs H Q E h => ?_) (fun cdv A outer s H vs Q E hr h => ?_)
  · obtain ⟨_, _, rfl, _⟩ := h
    rfl
  obtain ⟨v, t, rfl, hv, e, q⟩ := h
  refine ⟨_, (pss_cons (ps_set (i := 1) scNodeCount.nd rfl (Or.inl rfl) (pe_callB call_len_seq (by rfl) z_len PySem.boot_len (pa_cons (pe_callS GXEdges (hr.mono (by decide)) rfl AEdges.m AEdges.kp AEdges.b (fun σ => passAt (takes_of rfl rfl rfl rfl) σ) (pa_cons (pv 0) pa_nil)) pa_nil)))
    (pss_one (ps_ret (pe_tup (pa_cons (pe_op op_sub (pe_op op_sub (pe_op op_mul pe_int (pv 0)) pe_int) (pv 1)) (pa_cons (pv 1) pa_nil)))))), ?_⟩
  exact ⟨_, rfl, v, t, rfl, hv, e, q⟩
/-- a wrong size ahead of a second argument -/
def spSize2X (K : PySem.W.Frag) (CS : Addr) : Sp := fun vs H Q E => ∃ (v v2 : V) (t : String), vs = [v, v2] ∧ Pl K H v t ∧ inRange 1 top30 v = false ∧ E (.ref CS) none H
theorem okX_is_node {f g g2 : Addr} {fd gd gd2 : FuncData} (F : Fun K "is_node" "is_node" sIsNode f fd) (GXCheckSize : FnOk P w K mg base (L2.CX P w) 3 g gd ["size"] (spCheckSizeX K CS)) (ACheckSize : At K mg "check_size" g gd ["size"])
    (GIsTreeNode : FnOk P w K mg base CX0 3 g2 gd2 ["size", "value"] (spTreeV K)) (AIsTreeNode : At K mg "is_tree_node" g2 gd2 ["size", "value"]) : FnOk P w K mg base (L2.CX P w) 4 f fd ["size", "value"] (spSize2X K CS) := by
  refine F.okX scIsNode (fun vs H Q E h => ?_) (fun cdv A outer s H vs Q E hr h => ?_)
  · obtain ⟨_, _, _, rfl, _⟩ := h
    rfl
  obtain ⟨v, v2, t, rfl, hv, e, q⟩ := h
  refine ⟨_, (pss_cons (ps_expr (pe_callS GXCheckSize (hr.mono (by decide)) rfl ACheckSize.m ACheckSize.kp ACheckSize.b (fun σ => passAt (takes_of rfl rfl rfl rfl) σ) (pa_cons (pv 0) pa_nil)))
    (pss_one (ps_ret (pe_call GIsTreeNode (hr.mono (by decide)) rfl AIsTreeNode.m AIsTreeNode.kp AIsTreeNode.b .nil pass0 (pa_cons (pv 0) (pa_cons (pv 1) pa_nil)))))), ?_⟩
  exact ⟨_, rfl, v, t, rfl, hv, .inr ⟨e, q⟩⟩
/-- a wrong size, or behind a good one what is no node -/
def spNodeX (K : PySem.W.Frag) (CS CN : Addr) : Sp := fun vs H Q E => ∃ (v v2 : V), vs = [v, v2] ∧
  ((∃ t, Pl K H v t ∧ inRange 1 top30 v = false ∧ E (.ref CS) none H) ∨ ∃ n : Nat, v = .int n ∧ 1 ≤ n ∧ n ≤ 10 ^ 30 ∧ Ask K H n v2 false ∧ E (.ref CN) none H)
theorem in_sizeX {n : Nat} (h1 : 1 ≤ n) (h : n ≤ 10 ^ 30) : inRange 1 top30 (.int (n : Int)) = true := by
  have t : top30 = 1000000000000000000000000000000 := rfl
  show (decide (1 ≤ (n : Int)) && decide ((n : Int) ≤ top30)) = true
  rw [decide_eq_true (by omega), decide_eq_true (by omega)]
  rfl
theorem okX_halves {f g1 g2 g3 : Addr} {fd d1 d2 d3 : FuncData} (F : Fun K "halves" "halves" sHalves f fd) (GXCheckSize : FnOk P w K mg base (L2.CX P w) 3 g1 d1 ["size"] (spCheckSizeX K CS)) (ACheckSize : At K mg "check_size" g1 d1 ["size"])
    (GXCheckNode : FnOk P w K mg base (L2.CX P w) 4 g2 d2 ["size", "node"] (spCheckNodeX K CN)) (ACheckNode : At K mg "check_node" g2 d2 ["size", "node"]) (GPowerWithin : FnOk P w K mg base CX0 1 g3 d3 ["number"] spPower) (APowerWithin : At K mg "power_within" g3 d3 ["number"]) :
    FnOk P w K mg base (L2.CX P w) 5 f fd ["size", "node"] (spNodeX K CS CN) := by
  refine F.okX scHalves (fun vs H Q E h => ?_) (fun cdv A outer s H vs Q E hr h => ?_)
  · obtain ⟨_, _, rfl, _⟩ := h
    rfl
  obtain ⟨v, v2, rfl, q⟩ := h
  refine ⟨_, (pss_cons (ps_expr (pe_callS GXCheckSize (hr.mono (by decide)) rfl ACheckSize.m ACheckSize.kp ACheckSize.b (fun σ => passAt (takes_of rfl rfl rfl rfl) σ) (pa_cons (pv 0) pa_nil)))
    (pss_cons (ps_expr (pe_callS GXCheckNode (hr.mono (by decide)) rfl ACheckNode.m ACheckNode.kp ACheckNode.b (fun σ => passAt (takes_of rfl rfl rfl rfl) σ) (pa_cons (pv 0) (pa_cons (pv 1) pa_nil))))
    (pss_cons (ps_asg (pv 1) (pg_tup (by rfl) (pgs_cons (pg_name (i := 2) scHalves.nd rfl (Or.inl rfl)) (pgs_cons (pg_name (i := 3) scHalves.nd rfl (Or.inl rfl)) pgs_nil))))
    (pss_cons (ps_if (pt_cmpR op_eq (pe_op op_sub (pv 3) (pv 2)) pe_int (nomark _))
    (pss_one (ps_ret pe_non))
    pss_nil)
    (pss_cons (ps_set (i := 4) scHalves.nd rfl (Or.inl rfl) (pe_op op_add (pv 2) (pe_call GPowerWithin (hr.mono (by decide)) rfl APowerWithin.m APowerWithin.kp APowerWithin.b .nil pass0 (pa_cons (pe_op op_sub (pe_op op_sub (pv 3) (pv 2)) pe_int) pa_nil))))
    (pss_one (ps_ret (pe_tup (pa_cons (pe_tup (pa_cons (pv 2) (pa_cons (pv 4) pa_nil))) (pa_cons (pe_tup (pa_cons (pv 4) (pa_cons (pv 3) pa_nil))) pa_nil)))))))))), ?_⟩
  rcases q with ⟨t, hv, e, q⟩ | ⟨n, rfl, n1, h30, ask, q⟩
  · exact ⟨_, rfl, v, t, rfl, hv, .inr ⟨e, q⟩⟩
  · exact ⟨_, rfl, _, _, rfl, .int _, .inl ⟨in_sizeX n1 h30, _, rfl, _, rfl, n, v2, rfl, n1, h30, ask, q⟩⟩
theorem okX_parent {f g1 g2 : Addr} {fd d1 d2 : FuncData} (F : Fun K "parent" "parent" sParent f fd) (GXCheckSize : FnOk P w K mg base (L2.CX P w) 3 g1 d1 ["size"] (spCheckSizeX K CS)) (ACheckSize : At K mg "check_size" g1 d1 ["size"])
    (GXCheckNode : FnOk P w K mg base (L2.CX P w) 4 g2 d2 ["size", "node"] (spCheckNodeX K CN)) (ACheckNode : At K mg "check_node" g2 d2 ["size", "node"]) (z_min : mg "min" = none) :
    FnOk P w K mg base (L2.CX P w) 5 f fd ["size", "node"] (spNodeX K CS CN) := by
  refine F.okX scParent (fun vs H Q E h => ?_) (fun cdv A outer s H vs Q E hr h => ?_)
  · obtain ⟨_, _, rfl, _⟩ := h
    rfl
  obtain ⟨v, v2, rfl, q⟩ := h
  refine ⟨_, (pss_cons (ps_expr (pe_callS GXCheckSize (hr.mono (by decide)) rfl ACheckSize.m ACheckSize.kp ACheckSize.b (fun σ => passAt (takes_of rfl rfl rfl rfl) σ) (pa_cons (pv 0) pa_nil)))
    (pss_cons (ps_expr (pe_callS GXCheckNode (hr.mono (by decide)) rfl ACheckNode.m ACheckNode.kp ACheckNode.b (fun σ => passAt (takes_of rfl rfl rfl rfl) σ) (pa_cons (pv 0) (pa_cons (pv 1) pa_nil))))
    (pss_cons (ps_if (pt_cmpR (op_eqD hr.units) (pv 1) (pe_tup (pa_cons pe_int (pa_cons (pv 0) pa_nil))) (nomark _))
    (pss_one (ps_ret pe_non))
    pss_nil)
    (pss_cons (ps_asg (pv 1) (pg_tup (by rfl) (pgs_cons (pg_name (i := 2) scParent.nd rfl (Or.inl rfl)) (pgs_cons (pg_name (i := 3) scParent.nd rfl (Or.inl rfl)) pgs_nil))))
    (pss_cons (ps_par (i := 4) (j := 5) (by rfl) scParent.nd rfl rfl (by decide) rfl rfl (pa_cons (pv 2) (pa_cons (pv 3) pa_nil)) (by rfl))
    (pss_cons (ps_set (i := 6) scParent.nd rfl (Or.inl rfl) (pe_op op_shl pe_int (pe_bits (pe_op op_sub (pe_op op_sub (pv 3) (pv 2)) pe_int))))
    (pss_cons (ps_while PassesOwn.leaving (pt_cmpR (op_eqD hr.units) (pe_tup (pa_cons (pv 4) (pa_cons (pv 5) pa_nil))) (pe_tup (pa_cons (pv 2) (pa_cons (pv 3) pa_nil))) (nomark _))
    (pss_cons (ps_set (i := 6) scParent.nd rfl (Or.inl rfl) (pe_op op_mul (pv 6) pe_int))
    (pss_cons (ps_set (i := 4) scParent.nd rfl (Or.inl rfl) (pe_op op_sub (pv 2) (pe_op op_modN (pv 2) (pv 6))))
    (pss_one (ps_set (i := 5) scParent.nd rfl (Or.inl rfl) (pe_callB (call_min2 rfl) (by rfl) z_min (by decide +kernel) (pa_cons (pe_op op_add (pv 4) (pv 6)) (pa_cons (pv 0) pa_nil))))))))
    (pss_one (ps_ret (pe_tup (pa_cons (pv 4) (pa_cons (pv 5) pa_nil)))))))))))), ?_⟩
  rcases q with ⟨t, hv, e, q⟩ | ⟨n, rfl, n1, h30, ask, q⟩
  · exact ⟨_, rfl, v, t, rfl, hv, .inr ⟨e, q⟩⟩
  · exact ⟨_, rfl, _, _, rfl, .int _, .inl ⟨in_sizeX n1 h30, _, rfl, _, rfl, n, v2, rfl, n1, h30, ask, q⟩⟩
theorem okX_sibling {f g1 g2 : Addr} {fd d1 d2 : FuncData} (F : Fun K "sibling" "sibling" sSibling f fd) (GXParent : FnOk P w K mg base (L2.CX P w) 5 g1 d1 ["size", "node"] (spNodeX K CS CN)) (AParent : At K mg "parent" g1 d1 ["size", "node"])
    (GXHalves : FnOk P w K mg base (L2.CX P w) 5 g2 d2 ["size", "node"] (spNodeX K CS CN)) (AHalves : At K mg "halves" g2 d2 ["size", "node"]) : FnOk P w K mg base (L2.CX P w) 6 f fd ["size", "node"] (spNodeX K CS CN) := by
  refine F.okX scSibling (fun vs H Q E h => ?_) (fun cdv A outer s H vs Q E hr h => ?_)
  · obtain ⟨_, _, rfl, _⟩ := h
    rfl
  obtain ⟨v, v2, rfl, q⟩ := h
  refine ⟨_, (pss_cons (ps_set (i := 2) scSibling.nd rfl (Or.inl rfl) (pe_callS GXParent (hr.mono (by decide)) rfl AParent.m AParent.kp AParent.b (fun σ => passAt (takes_of rfl rfl rfl rfl) σ) (pa_cons (pv 0) (pa_cons (pv 1) pa_nil))))
    (pss_cons (ps_if (pt_cmpR op_isN (pv 2) pe_non (nomark _))
    (pss_one (ps_ret pe_non))
    pss_nil)
    (pss_cons (ps_asg (pe_callS GXHalves (hr.mono (by decide)) rfl AHalves.m AHalves.kp AHalves.b (fun σ => passAt (takes_of rfl rfl rfl rfl) σ) (pa_cons (pv 0) (pa_cons (pv 2) pa_nil))) (pg_tup (by rfl) (pgs_cons (pg_name (i := 3) scSibling.nd rfl (Or.inl rfl)) (pgs_cons (pg_name (i := 4) scSibling.nd rfl (Or.inl rfl)) pgs_nil))))
    (pss_cons (ps_if (pt_cmpR (op_eqD hr.units) (pv 1) (pv 3) (nomark _))
    (pss_one (ps_ret (pv 4)))
    pss_nil)
    (pss_one (ps_ret (pv 3))))))), ?_⟩
  exact ⟨_, rfl, _, rfl, v, v2, rfl, q⟩
/-- a wrong size, or behind a good one a wrong one -/
def spOtherX (K : PySem.W.Frag) (CS : Addr) : Sp := fun vs H Q E => ∃ (v v2 : V), vs = [v, v2] ∧
  ((∃ t, Pl K H v t ∧ inRange 1 top30 v = false ∧ E (.ref CS) none H) ∨ ∃ (n : Nat) (t : String), v = .int n ∧ 1 ≤ n ∧ n ≤ 10 ^ 30 ∧ Pl K H v2 t ∧ inRange 1 top30 v2 = false ∧ E (.ref CS) none H)
theorem okX_common_count {f g1 g2 : Addr} {fd d1 d2 : FuncData} (F : Fun K "common_count" "common_count" sCommonCount f fd) (GXCheckSize : FnOk P w K mg base (L2.CX P w) 3 g1 d1 ["size"] (spCheckSizeX K CS)) (ACheckSize : At K mg "check_size" g1 d1 ["size"])
    (GNodeCount : FnOk P w K mg base CX0 6 g2 d2 ["size"] spNodeCount) (ANodeCount : At K mg "node_count" g2 d2 ["size"]) (z_min : mg "min" = none) :
    FnOk P w K mg base (L2.CX P w) 7 f fd ["size", "other"] (spOtherX K CS) := by
  refine F.okX scCommonCount (fun vs H Q E h => ?_) (fun cdv A outer s H vs Q E hr h => ?_)
  · obtain ⟨_, _, rfl, _⟩ := h
    rfl
  obtain ⟨v, v2, rfl, q⟩ := h
  refine ⟨_, (pss_cons (ps_expr (pe_callS GXCheckSize (hr.mono (by decide)) rfl ACheckSize.m ACheckSize.kp ACheckSize.b (fun σ => passAt (takes_of rfl rfl rfl rfl) σ) (pa_cons (pv 0) pa_nil)))
    (pss_cons (ps_expr (pe_callS GXCheckSize (hr.mono (by decide)) rfl ACheckSize.m ACheckSize.kp ACheckSize.b (fun σ => passAt (takes_of rfl rfl rfl rfl) σ) (pa_cons (pv 1) pa_nil)))
    (pss_cons (ps_asg (pe_call GNodeCount (hr.mono (by decide)) rfl ANodeCount.m ANodeCount.kp ANodeCount.b .nil pass0 (pa_cons (pe_callB (call_min2 rfl) (by rfl) z_min (by decide +kernel) (pa_cons (pv 0) (pa_cons (pv 1) pa_nil))) pa_nil)) (pg_tup (by rfl) (pgs_cons (pg_name (i := 2) scCommonCount.nd rfl (Or.inl rfl)) (pgs_cons (pg_name (i := 3) scCommonCount.nd rfl (Or.inl rfl)) pgs_nil))))
    (pss_cons (ps_if (pt_cmpR op_eq (pv 0) (pv 1) (nomark _))
    (pss_one (ps_ret (pe_op op_add (pv 2) (pv 3))))
    pss_nil)
    (pss_one (ps_ret (pv 2))))))), ?_⟩
  rcases q with ⟨t, hv, e, q⟩ | ⟨n, t, rfl, n1, h30, hv, e, q⟩
  · exact ⟨_, rfl, v, t, rfl, hv, .inr ⟨e, q⟩⟩
  · exact ⟨_, rfl, _, _, rfl, .int _, .inl ⟨in_sizeX n1 h30, _, rfl, v2, t, rfl, hv, .inr ⟨e, q⟩⟩⟩
/-- a wrong size, or behind a good one what is no integer -/
def spHeightsX (K : PySem.W.Frag) (CS CE : Addr) : Sp := fun vs H Q E => ∃ (v v2 : V), vs = [v, v2] ∧
  ((∃ t, Pl K H v t ∧ inRange 1 top30 v = false ∧ E (.ref CS) none H) ∨ ∃ (n : Nat) (t : String), v = .int n ∧ 1 ≤ n ∧ n ≤ 10 ^ 30 ∧ Pl K H v2 t ∧ isInt v2 = false ∧ E (.ref CE) none H)
theorem okX_height_count {f g1 g2 : Addr} {fd d1 d2 : FuncData} (F : Fun K "height_count" "height_count" sHeightCount f fd) (GXCheckSize : FnOk P w K mg base (L2.CX P w) 3 g1 d1 ["size"] (spCheckSizeX K CS)) (ACheckSize : At K mg "check_size" g1 d1 ["size"])
    (GXCheckNumber : FnOk P w K mg base (L2.CX P w) 2 g2 d2 ["number"] (spCheckNumberX K CE)) (ACheckNumber : At K mg "check_number" g2 d2 ["number"]) : FnOk P w K mg base (L2.CX P w) 4 f fd ["size", "number"] (spHeightsX K CS CE) := by
  refine F.okX scHeightCount (fun vs H Q E h => ?_) (fun cdv A outer s H vs Q E hr h => ?_)
  · obtain ⟨_, _, rfl, _⟩ := h
    rfl
  obtain ⟨v, v2, rfl, q⟩ := h
  refine ⟨_, (pss_cons (ps_expr (pe_callS GXCheckSize (hr.mono (by decide)) rfl ACheckSize.m ACheckSize.kp ACheckSize.b (fun σ => passAt (takes_of rfl rfl rfl rfl) σ) (pa_cons (pv 0) pa_nil)))
    (pss_cons (ps_expr (pe_callS GXCheckNumber (hr.mono (by decide)) rfl ACheckNumber.m ACheckNumber.kp ACheckNumber.b (fun σ => passAt (takes_of rfl rfl rfl rfl) σ) (pa_cons (pv 1) pa_nil)))
    (pss_cons (ps_if (PW.pt (pw_or (pt_cmpR op_lt (pv 1) pe_int (nomark _)) (pw_or1 (pt_cmpR op_gt (pv 1) (pe_bits (pv 0)) (nomark _)))))
    (pss_one (ps_ret pe_int))
    pss_nil)
    (pss_cons (ps_if (pt_cmpR op_eq (pv 1) pe_int (nomark _))
    (pss_one (ps_ret (pv 0)))
    pss_nil)
    (pss_cons (ps_set (i := 2) scHeightCount.nd rfl (Or.inl rfl) (pe_op op_add (pe_op op_shr (pe_op op_sub (pv 0) pe_int) (pe_op op_sub (pv 1) pe_int)) pe_int))
    (pss_one (ps_ret (pe_op op_fdivW (pv 2) pe_int)))))))), ?_⟩
  rcases q with ⟨t, hv, e, q⟩ | ⟨n, t, rfl, n1, h30, hv, e, q⟩
  · exact ⟨_, rfl, v, t, rfl, hv, .inr ⟨e, q⟩⟩
  · exact ⟨_, rfl, _, _, rfl, .int _, .inl ⟨in_sizeX n1 h30, _, rfl, v2, t, rfl, hv, .inr ⟨e, q⟩⟩⟩
end
end LT

namespace LT
open PySem PySem.Spec PyProof.Rows L2
/-- what the top says of a class of errors that is caught: L is LogError -/
structure CK (K : PySem.W.Frag) (Cs : List Addr) (L C : Addr) (nm : Str) : Prop where
  e : ExcC K C
  kt : ∃ bs, Kit K C Cs bs ∧ ((clsNames.zip bs).filter fun x => x.2).map (fun x => x.1) = [nm]
  v : PySem.W.kitOne K (.ref C) (.type "ValueError") = some true
  nb : nm ≠ "InvalidBounds"
  ap : nm ++ ("" : Str) = nm
  ln : nm.length ≤ 100
  x : PySem.W.exmOne K (.ref C) (.ref L) = some true

/-- which error a call ends with (its class), or none -/
def Out4 (K : PySem.W.Frag) (CS CE CN : Addr) (way : Nat) (v1 v2 : V) (H : Hp) : Option Addr → Prop := fun r =>
  (∃ t, Pl K H v1 t ∧ inRange 1 top30 v1 = false ∧ r = some CS) ∨ (∃ n : Nat, v1 = .int n ∧ 1 ≤ n ∧ n ≤ 10 ^ 30 ∧
    ((way ≤ 2 ∧ r = none) ∨ (way = 3 ∧ (∃ b, Ask K H n v2 b) ∧ r = none) ∨ ((way = 4 ∨ way = 5 ∨ way = 6) ∧ Ask K H n v2 false ∧ r = some CN) ∨ ((way = 4 ∨ way = 5 ∨ way = 6) ∧ Nd H v2 (0, n) ∧ r = none) ∨
     (way = 7 ∧ (∃ t, Pl K H v2 t) ∧ inRange 1 top30 v2 = false ∧ r = some CS) ∨ (way = 7 ∧ (∃ o : Nat, v2 = .int o ∧ 1 ≤ o ∧ o ≤ 10 ^ 30) ∧ r = none) ∨
     (way = 8 ∧ (∃ t, Pl K H v2 t) ∧ isInt v2 = false ∧ r = some CE) ∨ (way = 8 ∧ (∃ k : Int, v2 = .int k) ∧ r = none)))
def spCalled (K : PySem.W.Frag) (CS CE CN : Addr) : Sp := fun vs H Q E => ∃ (way : Nat) (v1 v2 : V) (r : Option Addr), vs = [.int way, v1, v2] ∧ way ≤ 8 ∧ Out4 K CS CE CN way v1 v2 H r ∧
  ((r = none ∧ ∀ H', Same H H' → Q .non H') ∨ ∃ C, r = some C ∧ E (.ref C) none H)
section
variable {P : Program} {w : World} {K : PySem.W.Frag} {mg : Str → Option Value} {base : Heap} {CS CE CN CLogError : Addr} {Cs : List Addr}
theorem okX_law_called {f g0 g1 g2 g3 g4 g5 g6 g7 g8 : Addr} {fd d0 d1 d2 d3 d4 d5 d6 d7 d8 : FuncData} (F : Fun K "_law_called" "_law_called" sLawCalled f fd)
    (GXPeaks : FnOk P w K mg base (L2.CX P w) 4 g0 d0 ["size"] (fun vs H Q E => spTops vs H Q E ∨ spSizeX K CS vs H Q E)) (APeaks : At K mg "peaks" g0 d0 ["size"])
    (GXEdges : FnOk P w K mg base (L2.CX P w) 5 g1 d1 ["size"] (fun vs H Q E => spEdges vs H Q E ∨ spSizeX K CS vs H Q E)) (AEdges : At K mg "edges" g1 d1 ["size"])
    (GXNodeCount : FnOk P w K mg base (L2.CX P w) 6 g2 d2 ["size"] (fun vs H Q E => spNodeCount vs H Q E ∨ spSizeX K CS vs H Q E)) (ANodeCount : At K mg "node_count" g2 d2 ["size"])
    (GXIsNode : FnOk P w K mg base (L2.CX P w) 4 g3 d3 ["size", "value"] (fun vs H Q E => spIsNode K vs H Q E ∨ spSize2X K CS vs H Q E)) (AIsNode : At K mg "is_node" g3 d3 ["size", "value"])
    (GXHalves : FnOk P w K mg base (L2.CX P w) 5 g4 d4 ["size", "node"] (fun vs H Q E => spHalvesA vs H Q E ∨ spNodeX K CS CN vs H Q E)) (AHalves : At K mg "halves" g4 d4 ["size", "node"])
    (GXParent : FnOk P w K mg base (L2.CX P w) 5 g5 d5 ["size", "node"] (fun vs H Q E => spParent vs H Q E ∨ spNodeX K CS CN vs H Q E)) (AParent : At K mg "parent" g5 d5 ["size", "node"])
    (GXSibling : FnOk P w K mg base (L2.CX P w) 6 g6 d6 ["size", "node"] (fun vs H Q E => spSibling vs H Q E ∨ spNodeX K CS CN vs H Q E)) (ASibling : At K mg "sibling" g6 d6 ["size", "node"])
    (GXCommonCount : FnOk P w K mg base (L2.CX P w) 7 g7 d7 ["size", "other"] (fun vs H Q E => spCommon vs H Q E ∨ spOtherX K CS vs H Q E)) (ACommonCount : At K mg "common_count" g7 d7 ["size", "other"])
    (GXHeightCount : FnOk P w K mg base (L2.CX P w) 4 g8 d8 ["size", "number"] (fun vs H Q E => spHeights vs H Q E ∨ spHeightsX K CS CE vs H Q E)) (AHeightCount : At K mg "height_count" g8 d8 ["size", "number"]) :
    FnOk P w K mg base (L2.CX P w) 8 f fd ["way", "size", "more"] (spCalled K CS CE CN) := by
  refine F.okX scLawCalled (fun vs H Q E h => ?_) (fun cdv A outer s H vs Q E hr h => ?_)
  · obtain ⟨_, _, _, _, rfl, _⟩ := h
    rfl
  obtain ⟨way, v1, v2, r, rfl, hw, ho, q⟩ := h
  refine ⟨_, (pss_one (ps_if (pt_cmpR op_eq (pv 0) pe_int (nomark _))
    (pss_one (ps_expr (pe_callS GXPeaks (hr.mono (by decide)) rfl APeaks.m APeaks.kp APeaks.b (fun σ => passAt (takes_of rfl rfl rfl rfl) σ) (pa_cons (pv 1) pa_nil))))
    (pss_one (ps_if (pt_cmpR op_eq (pv 0) pe_int (nomark _))
    (pss_one (ps_expr (pe_callS GXEdges (hr.mono (by decide)) rfl AEdges.m AEdges.kp AEdges.b (fun σ => passAt (takes_of rfl rfl rfl rfl) σ) (pa_cons (pv 1) pa_nil))))
    (pss_one (ps_if (pt_cmpR op_eq (pv 0) pe_int (nomark _))
    (pss_one (ps_expr (pe_callS GXNodeCount (hr.mono (by decide)) rfl ANodeCount.m ANodeCount.kp ANodeCount.b (fun σ => passAt (takes_of rfl rfl rfl rfl) σ) (pa_cons (pv 1) pa_nil))))
    (pss_one (ps_if (pt_cmpR op_eq (pv 0) pe_int (nomark _))
    (pss_one (ps_expr (pe_callS GXIsNode (hr.mono (by decide)) rfl AIsNode.m AIsNode.kp AIsNode.b (fun σ => passAt (takes_of rfl rfl rfl rfl) σ) (pa_cons (pv 1) (pa_cons (pv 2) pa_nil)))))
    (pss_one (ps_if (pt_cmpR op_eq (pv 0) pe_int (nomark _))
    (pss_one (ps_expr (pe_callS GXHalves (hr.mono (by decide)) rfl AHalves.m AHalves.kp AHalves.b (fun σ => passAt (takes_of rfl rfl rfl rfl) σ) (pa_cons (pv 1) (pa_cons (pv 2) pa_nil)))))
    (pss_one (ps_if (pt_cmpR op_eq (pv 0) pe_int (nomark _))
    (pss_one (ps_expr (pe_callS GXParent (hr.mono (by decide)) rfl AParent.m AParent.kp AParent.b (fun σ => passAt (takes_of rfl rfl rfl rfl) σ) (pa_cons (pv 1) (pa_cons (pv 2) pa_nil)))))
    (pss_one (ps_if (pt_cmpR op_eq (pv 0) pe_int (nomark _))
    (pss_one (ps_expr (pe_callS GXSibling (hr.mono (by decide)) rfl ASibling.m ASibling.kp ASibling.b (fun σ => passAt (takes_of rfl rfl rfl rfl) σ) (pa_cons (pv 1) (pa_cons (pv 2) pa_nil)))))
    (pss_one (ps_if (pt_cmpR op_eq (pv 0) pe_int (nomark _))
    (pss_one (ps_expr (pe_callS GXCommonCount (hr.mono (by decide)) rfl ACommonCount.m ACommonCount.kp ACommonCount.b (fun σ => passAt (takes_of rfl rfl rfl rfl) σ) (pa_cons (pv 1) (pa_cons (pv 2) pa_nil)))))
    (pss_one (ps_expr (pe_callS GXHeightCount (hr.mono (by decide)) rfl AHeightCount.m AHeightCount.kp AHeightCount.b (fun σ => passAt (takes_of rfl rfl rfl rfl) σ) (pa_cons (pv 1) (pa_cons (pv 2) pa_nil))))))))))))))))))))), ?_⟩
  have qE : ∀ {C : Addr}, r = some C → E (.ref C) none H := fun {C} z => by
    rcases q with ⟨z2, _⟩ | ⟨C2, z2, q2⟩
    · rw [z] at z2
      cases z2
    · rw [z] at z2
      cases z2
      exact q2
  have qN : r = none → ∀ H', Same H H' → Q .non H' := fun z => by
    rcases q with ⟨_, q2⟩ | ⟨C2, z2, _⟩
    · exact q2
    · rw [z] at z2
      cases z2
  have w9 : way = 0 ∨ way = 1 ∨ way = 2 ∨ way = 3 ∨ way = 4 ∨ way = 5 ∨ way = 6 ∨ way = 7 ∨ way = 8 := by omega
  clear q
  rcases w9 with rfl | rfl | rfl | rfl | rfl | rfl | rfl | rfl | rfl
  · rcases ho with ⟨t, hp, e, z⟩ | ⟨n, rfl, n1, n30, hh⟩
    · exact ⟨_, rfl, rfl, true, rfl, _, rfl, .inr ⟨v1, t, rfl, hp, e, qE z⟩⟩
    rcases hh with ⟨c, z⟩ | ⟨c, ⟨bb, ask⟩, z⟩ | ⟨c, ask, z⟩ | ⟨c, nd, z⟩ | ⟨c, ⟨t, hp⟩, e, z⟩ | ⟨c, ⟨o, rfl, o1, o30⟩, z⟩ | ⟨c, ⟨t, hp⟩, e, z⟩ | ⟨c, ⟨kk, rfl⟩, z⟩
    · exact ⟨_, rfl, rfl, true, rfl, _, rfl, .inl ⟨n, rfl, n1, n30, fun H' p xs s' np hp hx => qN z H' s'⟩⟩
    · exact absurd c (by decide)
    · exact absurd c (by decide)
    · exact absurd c (by decide)
    · exact absurd c (by decide)
    · exact absurd c (by decide)
    · exact absurd c (by decide)
    · exact absurd c (by decide)
  · rcases ho with ⟨t, hp, e, z⟩ | ⟨n, rfl, n1, n30, hh⟩
    · exact ⟨_, rfl, rfl, false, rfl, _, rfl, rfl, true, rfl, _, rfl, .inr ⟨v1, t, rfl, hp, e, qE z⟩⟩
    rcases hh with ⟨c, z⟩ | ⟨c, ⟨bb, ask⟩, z⟩ | ⟨c, ask, z⟩ | ⟨c, nd, z⟩ | ⟨c, ⟨t, hp⟩, e, z⟩ | ⟨c, ⟨o, rfl, o1, o30⟩, z⟩ | ⟨c, ⟨t, hp⟩, e, z⟩ | ⟨c, ⟨kk, rfl⟩, z⟩
    · exact ⟨_, rfl, rfl, false, rfl, _, rfl, rfl, true, rfl, _, rfl, .inl ⟨n, rfl, n1, n30, fun H' p xs s' np hp hx => qN z H' s'⟩⟩
    · exact absurd c (by decide)
    · exact absurd c (by decide)
    · exact absurd c (by decide)
    · exact absurd c (by decide)
    · exact absurd c (by decide)
    · exact absurd c (by decide)
    · exact absurd c (by decide)
  · rcases ho with ⟨t, hp, e, z⟩ | ⟨n, rfl, n1, n30, hh⟩
    · exact ⟨_, rfl, rfl, false, rfl, _, rfl, rfl, false, rfl, _, rfl, rfl, true, rfl, _, rfl, .inr ⟨v1, t, rfl, hp, e, qE z⟩⟩
    rcases hh with ⟨c, z⟩ | ⟨c, ⟨bb, ask⟩, z⟩ | ⟨c, ask, z⟩ | ⟨c, nd, z⟩ | ⟨c, ⟨t, hp⟩, e, z⟩ | ⟨c, ⟨o, rfl, o1, o30⟩, z⟩ | ⟨c, ⟨t, hp⟩, e, z⟩ | ⟨c, ⟨kk, rfl⟩, z⟩
    · exact ⟨_, rfl, rfl, false, rfl, _, rfl, rfl, false, rfl, _, rfl, rfl, true, rfl, _, rfl, .inl ⟨n, rfl, n1, n30, fun H' p s' hp => qN z H' s'⟩⟩
    · exact absurd c (by decide)
    · exact absurd c (by decide)
    · exact absurd c (by decide)
    · exact absurd c (by decide)
    · exact absurd c (by decide)
    · exact absurd c (by decide)
    · exact absurd c (by decide)
  · rcases ho with ⟨t, hp, e, z⟩ | ⟨n, rfl, n1, n30, hh⟩
    · exact ⟨_, rfl, rfl, false, rfl, _, rfl, rfl, false, rfl, _, rfl, rfl, false, rfl, _, rfl, rfl, true, rfl, _, rfl, _, rfl, .inr ⟨v1, v2, t, rfl, hp, e, qE z⟩⟩
    rcases hh with ⟨c, z⟩ | ⟨c, ⟨bb, ask⟩, z⟩ | ⟨c, ask, z⟩ | ⟨c, nd, z⟩ | ⟨c, ⟨t, hp⟩, e, z⟩ | ⟨c, ⟨o, rfl, o1, o30⟩, z⟩ | ⟨c, ⟨t, hp⟩, e, z⟩ | ⟨c, ⟨kk, rfl⟩, z⟩
    · exact absurd c (by decide)
    · exact ⟨_, rfl, rfl, false, rfl, _, rfl, rfl, false, rfl, _, rfl, rfl, false, rfl, _, rfl, rfl, true, rfl, _, rfl, _, rfl, .inl ⟨n, v2, bb, rfl, n1, n30, ask, qN z H (Same.refl _)⟩⟩
    · exact absurd c (by decide)
    · exact absurd c (by decide)
    · exact absurd c (by decide)
    · exact absurd c (by decide)
    · exact absurd c (by decide)
    · exact absurd c (by decide)
  · rcases ho with ⟨t, hp, e, z⟩ | ⟨n, rfl, n1, n30, hh⟩
    · exact ⟨_, rfl, rfl, false, rfl, _, rfl, rfl, false, rfl, _, rfl, rfl, false, rfl, _, rfl, rfl, false, rfl, _, rfl, rfl, true, rfl, _, rfl, _, rfl, .inr ⟨v1, v2, rfl, .inl ⟨t, hp, e, qE z⟩⟩⟩
    rcases hh with ⟨c, z⟩ | ⟨c, ⟨bb, ask⟩, z⟩ | ⟨c, ask, z⟩ | ⟨c, nd, z⟩ | ⟨c, ⟨t, hp⟩, e, z⟩ | ⟨c, ⟨o, rfl, o1, o30⟩, z⟩ | ⟨c, ⟨t, hp⟩, e, z⟩ | ⟨c, ⟨kk, rfl⟩, z⟩
    · exact absurd c (by decide)
    · exact absurd c (by decide)
    · exact ⟨_, rfl, rfl, false, rfl, _, rfl, rfl, false, rfl, _, rfl, rfl, false, rfl, _, rfl, rfl, false, rfl, _, rfl, rfl, true, rfl, _, rfl, _, rfl, .inr ⟨_, v2, rfl, .inr ⟨n, rfl, n1, n30, ask, qE z⟩⟩⟩
    · exact ⟨_, rfl, rfl, false, rfl, _, rfl, rfl, false, rfl, _, rfl, rfl, false, rfl, _, rfl, rfl, false, rfl, _, rfl, rfl, true, rfl, _, rfl, _, rfl, .inl ⟨n, 0, n, v2, rfl, (by rw [Nat.zero_add]; exact nd), n1, by omega, n30, tree_root n, (Nat.lt_or_ge n 2).elim (fun c => .inl ⟨by omega, qN z H (Same.refl _)⟩) (fun c => .inr ⟨c, fun H' q l h s' _ _ _ _ => qN z H' s'⟩)⟩⟩
    · exact absurd c (by decide)
    · exact absurd c (by decide)
    · exact absurd c (by decide)
    · exact absurd c (by decide)
  · rcases ho with ⟨t, hp, e, z⟩ | ⟨n, rfl, n1, n30, hh⟩
    · exact ⟨_, rfl, rfl, false, rfl, _, rfl, rfl, false, rfl, _, rfl, rfl, false, rfl, _, rfl, rfl, false, rfl, _, rfl, rfl, false, rfl, _, rfl, rfl, true, rfl, _, rfl, _, rfl, .inr ⟨v1, v2, rfl, .inl ⟨t, hp, e, qE z⟩⟩⟩
    rcases hh with ⟨c, z⟩ | ⟨c, ⟨bb, ask⟩, z⟩ | ⟨c, ask, z⟩ | ⟨c, nd, z⟩ | ⟨c, ⟨t, hp⟩, e, z⟩ | ⟨c, ⟨o, rfl, o1, o30⟩, z⟩ | ⟨c, ⟨t, hp⟩, e, z⟩ | ⟨c, ⟨kk, rfl⟩, z⟩
    · exact absurd c (by decide)
    · exact absurd c (by decide)
    · exact ⟨_, rfl, rfl, false, rfl, _, rfl, rfl, false, rfl, _, rfl, rfl, false, rfl, _, rfl, rfl, false, rfl, _, rfl, rfl, false, rfl, _, rfl, rfl, true, rfl, _, rfl, _, rfl, .inr ⟨_, v2, rfl, .inr ⟨n, rfl, n1, n30, ask, qE z⟩⟩⟩
    · exact ⟨_, rfl, rfl, false, rfl, _, rfl, rfl, false, rfl, _, rfl, rfl, false, rfl, _, rfl, rfl, false, rfl, _, rfl, rfl, false, rfl, _, rfl, rfl, true, rfl, _, rfl, _, rfl, .inl ⟨n, (0, n), v2, rfl, nd, n1, n30, .inl ⟨rfl, fun H' s' => qN z H' s'⟩⟩⟩
    · exact absurd c (by decide)
    · exact absurd c (by decide)
    · exact absurd c (by decide)
    · exact absurd c (by decide)
  · rcases ho with ⟨t, hp, e, z⟩ | ⟨n, rfl, n1, n30, hh⟩
    · exact ⟨_, rfl, rfl, false, rfl, _, rfl, rfl, false, rfl, _, rfl, rfl, false, rfl, _, rfl, rfl, false, rfl, _, rfl, rfl, false, rfl, _, rfl, rfl, false, rfl, _, rfl, rfl, true, rfl, _, rfl, _, rfl, .inr ⟨v1, v2, rfl, .inl ⟨t, hp, e, qE z⟩⟩⟩
    rcases hh with ⟨c, z⟩ | ⟨c, ⟨bb, ask⟩, z⟩ | ⟨c, ask, z⟩ | ⟨c, nd, z⟩ | ⟨c, ⟨t, hp⟩, e, z⟩ | ⟨c, ⟨o, rfl, o1, o30⟩, z⟩ | ⟨c, ⟨t, hp⟩, e, z⟩ | ⟨c, ⟨kk, rfl⟩, z⟩
    · exact absurd c (by decide)
    · exact absurd c (by decide)
    · exact ⟨_, rfl, rfl, false, rfl, _, rfl, rfl, false, rfl, _, rfl, rfl, false, rfl, _, rfl, rfl, false, rfl, _, rfl, rfl, false, rfl, _, rfl, rfl, false, rfl, _, rfl, rfl, true, rfl, _, rfl, _, rfl, .inr ⟨_, v2, rfl, .inr ⟨n, rfl, n1, n30, ask, qE z⟩⟩⟩
    · exact ⟨_, rfl, rfl, false, rfl, _, rfl, rfl, false, rfl, _, rfl, rfl, false, rfl, _, rfl, rfl, false, rfl, _, rfl, rfl, false, rfl, _, rfl, rfl, false, rfl, _, rfl, rfl, true, rfl, _, rfl, _, rfl, .inl ⟨n, (0, n), v2, rfl, nd, n1, n30, .inl ⟨rfl, fun H' s' => qN z H' s'⟩⟩⟩
    · exact absurd c (by decide)
    · exact absurd c (by decide)
    · exact absurd c (by decide)
    · exact absurd c (by decide)
  · rcases ho with ⟨t, hp, e, z⟩ | ⟨n, rfl, n1, n30, hh⟩
    · exact ⟨_, rfl, rfl, false, rfl, _, rfl, rfl, false, rfl, _, rfl, rfl, false, rfl, _, rfl, rfl, false, rfl, _, rfl, rfl, false, rfl, _, rfl, rfl, false, rfl, _, rfl, rfl, false, rfl, _, rfl, rfl, true, rfl, _, rfl, _, rfl, .inr ⟨v1, v2, rfl, .inl ⟨t, hp, e, qE z⟩⟩⟩
    rcases hh with ⟨c, z⟩ | ⟨c, ⟨bb, ask⟩, z⟩ | ⟨c, ask, z⟩ | ⟨c, nd, z⟩ | ⟨c, ⟨t, hp⟩, e, z⟩ | ⟨c, ⟨o, rfl, o1, o30⟩, z⟩ | ⟨c, ⟨t, hp⟩, e, z⟩ | ⟨c, ⟨kk, rfl⟩, z⟩
    · exact absurd c (by decide)
    · exact absurd c (by decide)
    · exact absurd c (by decide)
    · exact absurd c (by decide)
    · exact ⟨_, rfl, rfl, false, rfl, _, rfl, rfl, false, rfl, _, rfl, rfl, false, rfl, _, rfl, rfl, false, rfl, _, rfl, rfl, false, rfl, _, rfl, rfl, false, rfl, _, rfl, rfl, false, rfl, _, rfl, rfl, true, rfl, _, rfl, _, rfl, .inr ⟨_, v2, rfl, .inr ⟨n, t, rfl, n1, n30, hp, e, qE z⟩⟩⟩
    · exact ⟨_, rfl, rfl, false, rfl, _, rfl, rfl, false, rfl, _, rfl, rfl, false, rfl, _, rfl, rfl, false, rfl, _, rfl, rfl, false, rfl, _, rfl, rfl, false, rfl, _, rfl, rfl, false, rfl, _, rfl, rfl, true, rfl, _, rfl, _, rfl, .inl ⟨n, o, rfl, n1, n30, o1, o30, fun H' s' => qN z H' s'⟩⟩
    · exact absurd c (by decide)
    · exact absurd c (by decide)
  · rcases ho with ⟨t, hp, e, z⟩ | ⟨n, rfl, n1, n30, hh⟩
    · exact ⟨_, rfl, rfl, false, rfl, _, rfl, rfl, false, rfl, _, rfl, rfl, false, rfl, _, rfl, rfl, false, rfl, _, rfl, rfl, false, rfl, _, rfl, rfl, false, rfl, _, rfl, rfl, false, rfl, _, rfl, rfl, false, rfl, _, rfl, _, rfl, .inr ⟨v1, v2, rfl, .inl ⟨t, hp, e, qE z⟩⟩⟩
    rcases hh with ⟨c, z⟩ | ⟨c, ⟨bb, ask⟩, z⟩ | ⟨c, ask, z⟩ | ⟨c, nd, z⟩ | ⟨c, ⟨t, hp⟩, e, z⟩ | ⟨c, ⟨o, rfl, o1, o30⟩, z⟩ | ⟨c, ⟨t, hp⟩, e, z⟩ | ⟨c, ⟨kk, rfl⟩, z⟩
    · exact absurd c (by decide)
    · exact absurd c (by decide)
    · exact absurd c (by decide)
    · exact absurd c (by decide)
    · exact absurd c (by decide)
    · exact absurd c (by decide)
    · exact ⟨_, rfl, rfl, false, rfl, _, rfl, rfl, false, rfl, _, rfl, rfl, false, rfl, _, rfl, rfl, false, rfl, _, rfl, rfl, false, rfl, _, rfl, rfl, false, rfl, _, rfl, rfl, false, rfl, _, rfl, rfl, false, rfl, _, rfl, _, rfl, .inr ⟨_, v2, rfl, .inr ⟨n, t, rfl, n1, n30, hp, e, qE z⟩⟩⟩
    · exact ⟨_, rfl, rfl, false, rfl, _, rfl, rfl, false, rfl, _, rfl, rfl, false, rfl, _, rfl, rfl, false, rfl, _, rfl, rfl, false, rfl, _, rfl, rfl, false, rfl, _, rfl, rfl, false, rfl, _, rfl, rfl, false, rfl, _, rfl, _, rfl, .inl ⟨n, kk, rfl, n1, n30, qN z H (Same.refl _)⟩⟩
def spTold4 (K : PySem.W.Frag) (Cs : List Addr) (CL CS CE CN : Addr) : Sp := fun vs H Q _ => ∃ (way : Nat) (v1 v2 : V) (r : Option Addr) (nm : Str), vs = [.int way, v1, v2] ∧ way ≤ 8 ∧ Out4 K CS CE CN way v1 v2 H r ∧
  ((r = none ∧ nm = "fine") ∨ ∃ C, r = some C ∧ CK K Cs CL C nm) ∧ ∀ H', Same H H' → Q (.str nm) H'
theorem ok_law_told {f g0 g6 : Addr} {fd d0 d6 : FuncData} (F : Fun K "_law_told" "_law_told" sLawTold f fd) (XLogError : GF mg "LogError" CLogError)
    (GXLawCalled : FnOk P w K mg base (L2.CX P w) 8 g0 d0 ["way", "size", "more"] (spCalled K CS CE CN)) (ALawCalled : At K mg "_law_called" g0 d0 ["way", "size", "more"])
    (GLawClass : FnOk P w K mg base CX0 1 g6 d6 ["caught"] (spClass K Cs)) (ALawClass : At K mg "_law_class" g6 d6 ["caught"]) : FnOk P w K mg base CX0 9 f fd ["way", "size", "more"] (spTold4 K Cs CLogError CS CE CN) := by
  refine F.ok scLawTold (fun vs H Q E h => ?_) (fun cdv A outer s H vs Q E hr h => ?_)
  · obtain ⟨_, _, _, _, _, rfl, _⟩ := h
    rfl
  obtain ⟨way, v1, v2, r, nm, rfl, hw, ho, hn, q⟩ := h
  refine ⟨_, (pss_cons (ps_set (i := 3) scLawTold.nd rfl (Or.inl rfl) pe_non)
    (pss_cons (ps_try_keep (i := 4) rfl rfl rfl scLawTold.nd rfl rfl ⟨rfl, by decide, .inl XLogError.g⟩ takes0 (fun W pn xe tk _ => (pss_one (ps_expr (pe_callS GXLawCalled (hr.mono (by decide)) rfl ALawCalled.m ALawCalled.kp ALawCalled.b (fun σ => passAt tk σ) (pa_cons (pv 0) (pa_cons (pv 1) (pa_cons (pv 2) pa_nil))))))) (fun a oe cls d pn _ _ => (pss_one (ps_set (i := 3) scLawTold.nd rfl (Or.inl rfl) (pv 4)))))
    (pss_one (ps_ret (pe_ifExp (pt_cmpR op_isN (pv 3) pe_non (nomark _)) pe_str (pe_call GLawClass (hr.mono (by decide)) rfl ALawClass.m ALawClass.kp ALawClass.b .nil pass0 (pa_cons (pv 3) pa_nil))))))), ?_⟩
  have err : ∀ (C : Addr) (G : Hp) (a : Addr), CK K Cs CLogError C nm → Same H G → G a = none → spClass K Cs [.ref a] (upd G a (ExK (.ref C) none a)) Q E := fun C G a ck sG na => by
    obtain ⟨bs, hk, hf⟩ := ck.kt
    exact ⟨a, C, bs, nm, rfl, upd_same, ck.e, hk, ck.v, hf, ck.nb, ck.ap, ck.ln, fun H' s' => q H' (sG.trans ((same_upd na).trans s'))⟩
  rcases hn with ⟨rfl, rfl⟩ | ⟨C, rfl, ck⟩
  · exact ⟨_, rfl, _, rfl, _, rfl, way, v1, v2, none, rfl, hw, ho, .inl ⟨rfl, fun H' s' => ⟨_, rfl, rfl, true, rfl, q H' s'⟩⟩⟩
  · exact ⟨_, rfl, _, rfl, _, rfl, way, v1, v2, some C, rfl, hw, ho, .inr ⟨C, rfl, ⟨true, ck.x, fun _ a na => ⟨_, rfl, fun na2 => ⟨_, rfl, rfl, false, rfl, _, rfl, err _ H a ck (Same.refl H) na2⟩⟩, fun z => nomatch z⟩⟩⟩
end
end LT

namespace LT
open PySem PySem.Spec PyProof.Rows L2
theorem NoNd.app {K : PySem.W.Frag} {H : Hp} {n : Nat} {l m : List V} (h : NoNd K H n l) (k : NoNd K H n m) : NoNd K H n (l ++ m) := fun u hu => (List.mem_append.mp hu).elim (h u) (k u)
theorem big40 {n : Nat} (hn : n ≤ 10 ^ 30) : tnV n (.int 0) (.int (10 ^ (40 : Int).toNat)) = false := tn_out (fun k => by
  have h := k.2.2
  have e : (10 : Int) ^ (40 : Int).toNat = 10000000000000000000000000000000000000000 := by decide
  rw [e] at h
  omega)
section
variable {P : Program} {w : World} {K : PySem.W.Frag} {mg : Str → Option Value} {base : Heap}
def spBadN (K : PySem.W.Frag) : Sp := fun vs H Q _ => ∃ (n : Nat), vs = [.int n] ∧ 1 ≤ n ∧ n ≤ 10 ^ 30 ∧ ∀ (H' : Hp) (p : Addr) (xs : List V), Same H H' → H' p = some (.lst xs) → NoNd K H' n xs → xs.length ≤ 26 → Q (.ref p) H'
theorem ok_law_bad_nodes {f : Addr} {fd : FuncData} (F : Fun K "_law_bad_nodes" "_law_bad_nodes" sLawBadNodes f fd) : FnOk P w K mg base CX0 1 f fd ["size"] (spBadN K) := by
  refine F.ok scLawBadNodes (fun vs H Q E h => ?_) (fun cdv A outer s H vs Q E hr h => ?_)
  · obtain ⟨_, rfl, _⟩ := h
    rfl
  obtain ⟨n, rfl, n1, hn, q⟩ := h
  refine ⟨_, (pss_cons (ps_set (i := 1) scLawBadNodes.nd rfl (Or.inl rfl) (pe_lst (pa_cons pe_non (pa_cons pe_int (pa_cons pe_bl (pa_cons pe_str (pa_cons pe_str (pa_cons (pe_lst pa_nil) (pa_cons (pe_lst (pa_cons pe_int (pa_cons pe_int pa_nil))) (pa_cons (pe_tup pa_nil) (pa_cons (pe_tup (pa_cons pe_int pa_nil)) (pa_cons (pe_tup (pa_cons pe_int (pa_cons pe_int (pa_cons pe_int pa_nil)))) (pa_cons (pe_tup (pa_cons pe_int (pa_cons pe_non pa_nil))) (pa_cons (pe_tup (pa_cons pe_non (pa_cons pe_int pa_nil))) (pa_cons (pe_tup (pa_cons pe_str (pa_cons pe_str pa_nil))) (pa_cons pe_dnewK pa_nil))))))))))))))))
    (pss_cons (ps_set (i := 1) scLawBadNodes.nd rfl (Or.inl rfl) (pe_op op_cat (pv 1) (pe_lst (pa_cons (pe_tup (pa_cons pe_int (pa_cons pe_bl pa_nil))) (pa_cons (pe_tup (pa_cons (pe_un un_neg pe_int) (pa_cons pe_int pa_nil))) (pa_cons (pe_tup (pa_cons pe_int (pa_cons pe_int pa_nil))) (pa_cons (pe_tup (pa_cons pe_int (pa_cons pe_int pa_nil))) (pa_cons (pe_tup (pa_cons pe_int (pa_cons (pe_op op_add (pv 0) pe_int) pa_nil))) (pa_cons (pe_tup (pa_cons (pv 0) (pa_cons (pe_op op_add (pv 0) pe_int) pa_nil))) (pa_cons (pe_tup (pa_cons (pe_op op_sub pe_int (pv 0)) (pa_cons (pv 0) pa_nil))) pa_nil))))))))))
    (pss_one (ps_ret (pe_op op_cat (pe_op op_cat (pv 1) (pe_lst (pa_cons (pe_tup (pa_cons pe_int (pa_cons (pe_op op_pow pe_int pe_int) pa_nil))) (pa_cons (pe_tup (pa_cons (pe_tup (pa_cons pe_int (pa_cons pe_int pa_nil))) pa_nil)) (pa_cons (pe_tup (pa_cons pe_int (pa_cons (pv 0) (pa_cons pe_int pa_nil)))) pa_nil))))) (pe_lst (pa_cons (pe_tup (pa_cons pe_int (pa_cons (pe_op op_add (pv 0) pe_int) pa_nil))) (pa_cons (pe_tup (pa_cons (pe_op op_sub (pv 0) pe_int) (pa_cons (pe_op op_sub (pv 0) pe_int) pa_nil))) pa_nil)))))))), ?_⟩
  have S0 : Same H H := Same.refl _
  have T0 : Same H H := Same.refl _
  have N0 : NoNd K H n [.non, .int 0, .bl true, .str "", .str "0-1"] := ((((NoNd.nil.put (.kind .non (by decide))).put (.kind (.int 0) (by decide))).put (.kind (.bl true) (by decide))).put (.kind (.str "") (by decide))).put (.kind (.str "0-1") (by decide))
  refine ⟨(by show 0 ≤ sizeLine; decide), fun a1 m1 => ?_⟩
  have S1 := S0.trans (same_upd (o := .lst []) m1)
  have T1 := T0.trans (same_upd (o := .lst []) m1)
  have N1 : NoNd K (upd H a1 (.lst [])) n _ := N0.lst m1
  generalize upd H a1 (.lst []) = G1 at S1 T1 N1 ⊢
  refine ⟨(by show 2 ≤ sizeLine; decide), fun a2 m2 => ?_⟩
  have S2 := S1.trans (same_upd (o := .lst [.int 0, .int 1]) m2)
  have T2 := T1.trans (same_upd (o := .lst [.int 0, .int 1]) m2)
  have N2 : NoNd K (upd G1 a2 (.lst [.int 0, .int 1])) n _ := N1.lst m2
  generalize upd G1 a2 (.lst [.int 0, .int 1]) = G2 at S2 T2 N2 ⊢
  refine ⟨(by show 0 ≤ sizeLine; decide), fun a3 m3 => ?_⟩
  have S3 := S2.trans (same_upd (o := .tup []) m3)
  have T3 := T2.trans (same_upd (o := .tup []) m3)
  have N3 : NoNd K (upd G2 a3 (.tup [])) n _ := N2.long m3 (by decide) (by decide)
  generalize upd G2 a3 (.tup []) = G3 at S3 T3 N3 ⊢
  refine ⟨(by show 1 ≤ sizeLine; decide), fun a4 m4 => ?_⟩
  have S4 := S3.trans (same_upd (o := .tup [.int 0]) m4)
  have T4 := T3.trans (same_upd (o := .tup [.int 0]) m4)
  have N4 : NoNd K (upd G3 a4 (.tup [.int 0])) n _ := N3.long m4 (by simp) (by simp)
  generalize upd G3 a4 (.tup [.int 0]) = G4 at S4 T4 N4 ⊢
  refine ⟨(by show 3 ≤ sizeLine; decide), fun a5 m5 => ?_⟩
  have S5 := S4.trans (same_upd (o := .tup [.int 0, .int 1, .int 1]) m5)
  have T5 := T4.trans (same_upd (o := .tup [.int 0, .int 1, .int 1]) m5)
  have N5 : NoNd K (upd G4 a5 (.tup [.int 0, .int 1, .int 1])) n _ := N4.long m5 (by simp) (by simp)
  generalize upd G4 a5 (.tup [.int 0, .int 1, .int 1]) = G5 at S5 T5 N5 ⊢
  refine ⟨(by show 2 ≤ sizeLine; decide), fun a6 m6 => ?_⟩
  have S6 := S5.trans (same_upd (o := .tup [.int 0, .non]) m6)
  have T6 := T5.trans (same_upd (o := .tup [.int 0, .non]) m6)
  have N6 : NoNd K (upd G5 a6 (.tup [.int 0, .non])) n _ := N5.pair m6 (fun _ => .int _) (fun _ => .non) rfl
  generalize upd G5 a6 (.tup [.int 0, .non]) = G6 at S6 T6 N6 ⊢
  refine ⟨(by show 2 ≤ sizeLine; decide), fun a7 m7 => ?_⟩
  have S7 := S6.trans (same_upd (o := .tup [.non, .int 1]) m7)
  have T7 := T6.trans (same_upd (o := .tup [.non, .int 1]) m7)
  have N7 : NoNd K (upd G6 a7 (.tup [.non, .int 1])) n _ := N6.pair m7 (fun _ => .non) (fun _ => .int _) rfl
  generalize upd G6 a7 (.tup [.non, .int 1]) = G7 at S7 T7 N7 ⊢
  refine ⟨(by show 2 ≤ sizeLine; decide), fun a8 m8 => ?_⟩
  have S8 := S7.trans (same_upd (o := .tup [.str "0", .str "1"]) m8)
  have T8 := T7.trans (same_upd (o := .tup [.str "0", .str "1"]) m8)
  have N8 : NoNd K (upd G7 a8 (.tup [.str "0", .str "1"])) n _ := N7.pair m8 (fun _ => .str _) (fun _ => .str _) rfl
  generalize upd G7 a8 (.tup [.str "0", .str "1"]) = G8 at S8 T8 N8 ⊢
  refine fun a9 m9 => ?_
  have S9 := S8.trans (same_upd (o := .dK []) m9)
  have T9 := T8.trans (same_upd (o := .dK []) m9)
  have N9 : NoNd K (upd G8 a9 (.dK [])) n _ := N8.dict m9
  generalize upd G8 a9 (.dK []) = G9 at S9 T9 N9 ⊢
  refine ⟨(by show 14 ≤ sizeLine; decide), fun l1 m10 => ?_⟩
  have S10 := S9.trans (same_upd (o := .lst [.non, .int 0, .bl true, .str "", .str "0-1", .ref a1, .ref a2, .ref a3, .ref a4, .ref a5, .ref a6, .ref a7, .ref a8, .ref a9]) m10)
  have T10 := T9.trans (same_upd (o := .lst [.non, .int 0, .bl true, .str "", .str "0-1", .ref a1, .ref a2, .ref a3, .ref a4, .ref a5, .ref a6, .ref a7, .ref a8, .ref a9]) m10)
  have N10 := N9.same (same_upd (o := .lst [.non, .int 0, .bl true, .str "", .str "0-1", .ref a1, .ref a2, .ref a3, .ref a4, .ref a5, .ref a6, .ref a7, .ref a8, .ref a9]) m10)
  have hl1 : (upd G9 l1 (.lst [.non, .int 0, .bl true, .str "", .str "0-1", .ref a1, .ref a2, .ref a3, .ref a4, .ref a5, .ref a6, .ref a7, .ref a8, .ref a9])) l1 = some (.lst [.non, .int 0, .bl true, .str "", .str "0-1", .ref a1, .ref a2, .ref a3, .ref a4, .ref a5, .ref a6, .ref a7, .ref a8, .ref a9]) := upd_same
  generalize upd G9 l1 (.lst [.non, .int 0, .bl true, .str "", .str "0-1", .ref a1, .ref a2, .ref a3, .ref a4, .ref a5, .ref a6, .ref a7, .ref a8, .ref a9]) = G10 at S10 T10 N10 hl1 ⊢
  have A1 : NoNd K G10 n [V.non, .int 0, .bl true, .str "", .str "0-1", .ref a1, .ref a2, .ref a3, .ref a4, .ref a5, .ref a6, .ref a7, .ref a8, .ref a9] := N10
  have N10 : NoNd K G10 n [] := NoNd.nil
  have T10 : Same G10 G10 := Same.refl _
  refine ⟨_, rfl, (by show 2 ≤ sizeLine; decide), fun a11 m11 => ?_⟩
  have S11 := S10.trans (same_upd (o := .tup [.int 0, .bl true]) m11)
  have T11 := T10.trans (same_upd (o := .tup [.int 0, .bl true]) m11)
  have N11 : NoNd K (upd G10 a11 (.tup [.int 0, .bl true])) n _ := N10.pair m11 (fun _ => .int _) (fun _ => .bl _) rfl
  generalize upd G10 a11 (.tup [.int 0, .bl true]) = G11 at S11 T11 N11 ⊢
  refine ⟨1, rfl, (by show 2 ≤ sizeLine; decide), fun a12 m12 => ?_⟩
  have S12 := S11.trans (same_upd (o := .tup [.int (-1), .int 0]) m12)
  have T12 := T11.trans (same_upd (o := .tup [.int (-1), .int 0]) m12)
  have N12 : NoNd K (upd G11 a12 (.tup [.int (-1), .int 0])) n _ := N11.pair m12 (fun _ => .int _) (fun _ => .int _) (tn_out (by omega))
  generalize upd G11 a12 (.tup [.int (-1), .int 0]) = G12 at S12 T12 N12 ⊢
  refine ⟨(by show 2 ≤ sizeLine; decide), fun a13 m13 => ?_⟩
  have S13 := S12.trans (same_upd (o := .tup [.int 0, .int 0]) m13)
  have T13 := T12.trans (same_upd (o := .tup [.int 0, .int 0]) m13)
  have N13 : NoNd K (upd G12 a13 (.tup [.int 0, .int 0])) n _ := N12.pair m13 (fun _ => .int _) (fun _ => .int _) (tn_out (by omega))
  generalize upd G12 a13 (.tup [.int 0, .int 0]) = G13 at S13 T13 N13 ⊢
  refine ⟨(by show 2 ≤ sizeLine; decide), fun a14 m14 => ?_⟩
  have S14 := S13.trans (same_upd (o := .tup [.int 1, .int 0]) m14)
  have T14 := T13.trans (same_upd (o := .tup [.int 1, .int 0]) m14)
  have N14 : NoNd K (upd G13 a14 (.tup [.int 1, .int 0])) n _ := N13.pair m14 (fun _ => .int _) (fun _ => .int _) (tn_out (by omega))
  generalize upd G13 a14 (.tup [.int 1, .int 0]) = G14 at S14 T14 N14 ⊢
  refine ⟨_, rfl, _, _, rfl, rfl, (by show 2 ≤ sizeLine; decide), fun a15 m15 => ?_⟩
  have S15 := S14.trans (same_upd (o := .tup [.int 0, .int ((n : Int) + 1)]) m15)
  have T15 := T14.trans (same_upd (o := .tup [.int 0, .int ((n : Int) + 1)]) m15)
  have N15 : NoNd K (upd G14 a15 (.tup [.int 0, .int ((n : Int) + 1)])) n _ := N14.pair m15 (fun _ => .int _) (fun _ => .int _) (tn_out (by omega))
  generalize upd G14 a15 (.tup [.int 0, .int ((n : Int) + 1)]) = G15 at S15 T15 N15 ⊢
  refine ⟨_, rfl, _, rfl, _, _, rfl, rfl, (by show 2 ≤ sizeLine; decide), fun a16 m16 => ?_⟩
  have S16 := S15.trans (same_upd (o := .tup [.int (n : Int), .int ((n : Int) + 1)]) m16)
  have T16 := T15.trans (same_upd (o := .tup [.int (n : Int), .int ((n : Int) + 1)]) m16)
  have N16 : NoNd K (upd G15 a16 (.tup [.int (n : Int), .int ((n : Int) + 1)])) n _ := N15.pair m16 (fun _ => .int _) (fun _ => .int _) (tn_out (by omega))
  generalize upd G15 a16 (.tup [.int (n : Int), .int ((n : Int) + 1)]) = G16 at S16 T16 N16 ⊢
  refine ⟨_, rfl, _, _, rfl, rfl, _, rfl, (by show 2 ≤ sizeLine; decide), fun a17 m17 => ?_⟩
  have S17 := S16.trans (same_upd (o := .tup [.int (0 - (n : Int)), .int (n : Int)]) m17)
  have T17 := T16.trans (same_upd (o := .tup [.int (0 - (n : Int)), .int (n : Int)]) m17)
  have N17 : NoNd K (upd G16 a17 (.tup [.int (0 - (n : Int)), .int (n : Int)])) n _ := N16.pair m17 (fun _ => .int _) (fun _ => .int _) (tn_out (by omega))
  generalize upd G16 a17 (.tup [.int (0 - (n : Int)), .int (n : Int)]) = G17 at S17 T17 N17 ⊢
  refine ⟨(by show 7 ≤ sizeLine; decide), fun l2 m18 => ?_⟩
  have S18 := S17.trans (same_upd (o := .lst [.ref a11, .ref a12, .ref a13, .ref a14, .ref a15, .ref a16, .ref a17]) m18)
  have T18 := T17.trans (same_upd (o := .lst [.ref a11, .ref a12, .ref a13, .ref a14, .ref a15, .ref a16, .ref a17]) m18)
  have N18 := N17.same (same_upd (o := .lst [.ref a11, .ref a12, .ref a13, .ref a14, .ref a15, .ref a16, .ref a17]) m18)
  have hl2 : (upd G17 l2 (.lst [.ref a11, .ref a12, .ref a13, .ref a14, .ref a15, .ref a16, .ref a17])) l2 = some (.lst [.ref a11, .ref a12, .ref a13, .ref a14, .ref a15, .ref a16, .ref a17]) := upd_same
  generalize upd G17 l2 (.lst [.ref a11, .ref a12, .ref a13, .ref a14, .ref a15, .ref a16, .ref a17]) = G18 at S18 T18 N18 hl2 ⊢
  have N18 : NoNd K G18 n [.ref a11, .ref a12, .ref a13, .ref a14, .ref a15, .ref a16, .ref a17] := N18
  have hl1b := T18 _ _ hl1
  refine ⟨l1, l2, _, _, rfl, rfl, hl1b, hl2, (by show 21 ≤ sizeLine; decide), fun l3 m19 => ?_⟩
  have S19 := S18.trans (same_upd (o := .lst ([V.non, .int 0, .bl true, .str "", .str "0-1", .ref a1, .ref a2, .ref a3, .ref a4, .ref a5, .ref a6, .ref a7, .ref a8, .ref a9] ++ [.ref a11, .ref a12, .ref a13, .ref a14, .ref a15, .ref a16, .ref a17])) m19)
  have T19 := T18.trans (same_upd (o := .lst ([V.non, .int 0, .bl true, .str "", .str "0-1", .ref a1, .ref a2, .ref a3, .ref a4, .ref a5, .ref a6, .ref a7, .ref a8, .ref a9] ++ [.ref a11, .ref a12, .ref a13, .ref a14, .ref a15, .ref a16, .ref a17])) m19)
  have N19 := N18.same (same_upd (o := .lst ([V.non, .int 0, .bl true, .str "", .str "0-1", .ref a1, .ref a2, .ref a3, .ref a4, .ref a5, .ref a6, .ref a7, .ref a8, .ref a9] ++ [.ref a11, .ref a12, .ref a13, .ref a14, .ref a15, .ref a16, .ref a17])) m19)
  have hl3 : (upd G18 l3 (.lst ([V.non, .int 0, .bl true, .str "", .str "0-1", .ref a1, .ref a2, .ref a3, .ref a4, .ref a5, .ref a6, .ref a7, .ref a8, .ref a9] ++ [.ref a11, .ref a12, .ref a13, .ref a14, .ref a15, .ref a16, .ref a17]))) l3 = some (.lst ([V.non, .int 0, .bl true, .str "", .str "0-1", .ref a1, .ref a2, .ref a3, .ref a4, .ref a5, .ref a6, .ref a7, .ref a8, .ref a9] ++ [.ref a11, .ref a12, .ref a13, .ref a14, .ref a15, .ref a16, .ref a17])) := upd_same
  generalize upd G18 l3 (.lst ([V.non, .int 0, .bl true, .str "", .str "0-1", .ref a1, .ref a2, .ref a3, .ref a4, .ref a5, .ref a6, .ref a7, .ref a8, .ref a9] ++ [.ref a11, .ref a12, .ref a13, .ref a14, .ref a15, .ref a16, .ref a17])) = G19 at S19 T19 N19 hl3 ⊢
  have A2 : NoNd K G19 n ([V.non, .int 0, .bl true, .str "", .str "0-1", .ref a1, .ref a2, .ref a3, .ref a4, .ref a5, .ref a6, .ref a7, .ref a8, .ref a9] ++ [.ref a11, .ref a12, .ref a13, .ref a14, .ref a15, .ref a16, .ref a17]) := (A1.same T19).app N19
  clear A1
  have N19 : NoNd K G19 n [] := NoNd.nil
  have T19 : Same G19 G19 := Same.refl _
  refine ⟨_, rfl, _, _, rfl, rfl, ⟨by decide, by decide, by decide⟩, (by show 2 ≤ sizeLine; decide), fun a20 m20 => ?_⟩
  have S20 := S19.trans (same_upd (o := .tup [.int 0, .int (10 ^ (40 : Int).toNat)]) m20)
  have T20 := T19.trans (same_upd (o := .tup [.int 0, .int (10 ^ (40 : Int).toNat)]) m20)
  have N20 : NoNd K (upd G19 a20 (.tup [.int 0, .int (10 ^ (40 : Int).toNat)])) n _ := N19.pair m20 (fun _ => .int _) (fun _ => .int _) (big40 hn)
  generalize upd G19 a20 (.tup [.int 0, .int (10 ^ (40 : Int).toNat)]) = G20 at S20 T20 N20 ⊢
  refine ⟨(by show 2 ≤ sizeLine; decide), fun a21 m21 => ?_⟩
  have S21 := S20.trans (same_upd (o := .tup [.int 0, .int 1]) m21)
  have T21 := T20.trans (same_upd (o := .tup [.int 0, .int 1]) m21)
  have N21 : NoNd K (upd G20 a21 (.tup [.int 0, .int 1])) n _ := N20.same (same_upd m21)
  generalize upd G20 a21 (.tup [.int 0, .int 1]) = G21 at S21 T21 N21 ⊢
  refine ⟨(by show 1 ≤ sizeLine; decide), fun a22 m22 => ?_⟩
  have S22 := S21.trans (same_upd (o := .tup [.ref a21]) m22)
  have T22 := T21.trans (same_upd (o := .tup [.ref a21]) m22)
  have N22 : NoNd K (upd G21 a22 (.tup [.ref a21])) n _ := N21.long m22 (by simp) (by simp)
  generalize upd G21 a22 (.tup [.ref a21]) = G22 at S22 T22 N22 ⊢
  refine ⟨_, rfl, (by show 3 ≤ sizeLine; decide), fun a23 m23 => ?_⟩
  have S23 := S22.trans (same_upd (o := .tup [.int 0, .int (n : Int), .int 0]) m23)
  have T23 := T22.trans (same_upd (o := .tup [.int 0, .int (n : Int), .int 0]) m23)
  have N23 : NoNd K (upd G22 a23 (.tup [.int 0, .int (n : Int), .int 0])) n _ := N22.long m23 (by simp) (by simp)
  generalize upd G22 a23 (.tup [.int 0, .int (n : Int), .int 0]) = G23 at S23 T23 N23 ⊢
  refine ⟨(by show 3 ≤ sizeLine; decide), fun l4 m24 => ?_⟩
  have S24 := S23.trans (same_upd (o := .lst [.ref a20, .ref a22, .ref a23]) m24)
  have T24 := T23.trans (same_upd (o := .lst [.ref a20, .ref a22, .ref a23]) m24)
  have N24 := N23.same (same_upd (o := .lst [.ref a20, .ref a22, .ref a23]) m24)
  have hl4 : (upd G23 l4 (.lst [.ref a20, .ref a22, .ref a23])) l4 = some (.lst [.ref a20, .ref a22, .ref a23]) := upd_same
  generalize upd G23 l4 (.lst [.ref a20, .ref a22, .ref a23]) = G24 at S24 T24 N24 hl4 ⊢
  have N24 : NoNd K G24 n [.ref a20, .ref a22, .ref a23] := N24
  have hl3b := T24 _ _ hl3
  refine ⟨l3, l4, _, _, rfl, rfl, hl3b, hl4, (by show 24 ≤ sizeLine; decide), fun l5 m25 => ?_⟩
  have S25 := S24.trans (same_upd (o := .lst (([V.non, .int 0, .bl true, .str "", .str "0-1", .ref a1, .ref a2, .ref a3, .ref a4, .ref a5, .ref a6, .ref a7, .ref a8, .ref a9] ++ [.ref a11, .ref a12, .ref a13, .ref a14, .ref a15, .ref a16, .ref a17]) ++ [.ref a20, .ref a22, .ref a23])) m25)
  have T25 := T24.trans (same_upd (o := .lst (([V.non, .int 0, .bl true, .str "", .str "0-1", .ref a1, .ref a2, .ref a3, .ref a4, .ref a5, .ref a6, .ref a7, .ref a8, .ref a9] ++ [.ref a11, .ref a12, .ref a13, .ref a14, .ref a15, .ref a16, .ref a17]) ++ [.ref a20, .ref a22, .ref a23])) m25)
  have N25 := N24.same (same_upd (o := .lst (([V.non, .int 0, .bl true, .str "", .str "0-1", .ref a1, .ref a2, .ref a3, .ref a4, .ref a5, .ref a6, .ref a7, .ref a8, .ref a9] ++ [.ref a11, .ref a12, .ref a13, .ref a14, .ref a15, .ref a16, .ref a17]) ++ [.ref a20, .ref a22, .ref a23])) m25)
  have hl5 : (upd G24 l5 (.lst (([V.non, .int 0, .bl true, .str "", .str "0-1", .ref a1, .ref a2, .ref a3, .ref a4, .ref a5, .ref a6, .ref a7, .ref a8, .ref a9] ++ [.ref a11, .ref a12, .ref a13, .ref a14, .ref a15, .ref a16, .ref a17]) ++ [.ref a20, .ref a22, .ref a23]))) l5 = some (.lst (([V.non, .int 0, .bl true, .str "", .str "0-1", .ref a1, .ref a2, .ref a3, .ref a4, .ref a5, .ref a6, .ref a7, .ref a8, .ref a9] ++ [.ref a11, .ref a12, .ref a13, .ref a14, .ref a15, .ref a16, .ref a17]) ++ [.ref a20, .ref a22, .ref a23])) := upd_same
  generalize upd G24 l5 (.lst (([V.non, .int 0, .bl true, .str "", .str "0-1", .ref a1, .ref a2, .ref a3, .ref a4, .ref a5, .ref a6, .ref a7, .ref a8, .ref a9] ++ [.ref a11, .ref a12, .ref a13, .ref a14, .ref a15, .ref a16, .ref a17]) ++ [.ref a20, .ref a22, .ref a23])) = G25 at S25 T25 N25 hl5 ⊢
  have A3 : NoNd K G25 n (([V.non, .int 0, .bl true, .str "", .str "0-1", .ref a1, .ref a2, .ref a3, .ref a4, .ref a5, .ref a6, .ref a7, .ref a8, .ref a9] ++ [.ref a11, .ref a12, .ref a13, .ref a14, .ref a15, .ref a16, .ref a17]) ++ [.ref a20, .ref a22, .ref a23]) := (A2.same T25).app N25
  clear A2
  have N25 : NoNd K G25 n [] := NoNd.nil
  have T25 : Same G25 G25 := Same.refl _
  refine ⟨_, rfl, _, _, rfl, rfl, (by show 2 ≤ sizeLine; decide), fun a26 m26 => ?_⟩
  have S26 := S25.trans (same_upd (o := .tup [.int 1, .int ((n : Int) + 1)]) m26)
  have T26 := T25.trans (same_upd (o := .tup [.int 1, .int ((n : Int) + 1)]) m26)
  have N26 : NoNd K (upd G25 a26 (.tup [.int 1, .int ((n : Int) + 1)])) n _ := N25.pair m26 (fun _ => .int _) (fun _ => .int _) (tn_out (by omega))
  generalize upd G25 a26 (.tup [.int 1, .int ((n : Int) + 1)]) = G26 at S26 T26 N26 ⊢
  refine ⟨_, rfl, _, _, rfl, rfl, _, rfl, _, _, rfl, rfl, (by show 2 ≤ sizeLine; decide), fun a27 m27 => ?_⟩
  have S27 := S26.trans (same_upd (o := .tup [.int ((n : Int) - 1), .int ((n : Int) - 1)]) m27)
  have T27 := T26.trans (same_upd (o := .tup [.int ((n : Int) - 1), .int ((n : Int) - 1)]) m27)
  have N27 : NoNd K (upd G26 a27 (.tup [.int ((n : Int) - 1), .int ((n : Int) - 1)])) n _ := N26.pair m27 (fun _ => .int _) (fun _ => .int _) (tn_out (by omega))
  generalize upd G26 a27 (.tup [.int ((n : Int) - 1), .int ((n : Int) - 1)]) = G27 at S27 T27 N27 ⊢
  refine ⟨(by show 2 ≤ sizeLine; decide), fun l6 m28 => ?_⟩
  have S28 := S27.trans (same_upd (o := .lst [.ref a26, .ref a27]) m28)
  have T28 := T27.trans (same_upd (o := .lst [.ref a26, .ref a27]) m28)
  have N28 := N27.same (same_upd (o := .lst [.ref a26, .ref a27]) m28)
  have hl6 : (upd G27 l6 (.lst [.ref a26, .ref a27])) l6 = some (.lst [.ref a26, .ref a27]) := upd_same
  generalize upd G27 l6 (.lst [.ref a26, .ref a27]) = G28 at S28 T28 N28 hl6 ⊢
  have N28 : NoNd K G28 n [.ref a26, .ref a27] := N28
  have hl5b := T28 _ _ hl5
  refine ⟨l5, l6, _, _, rfl, rfl, hl5b, hl6, (by show 26 ≤ sizeLine; decide), fun l7 m29 => ?_⟩
  have S29 := S28.trans (same_upd (o := .lst ((([V.non, .int 0, .bl true, .str "", .str "0-1", .ref a1, .ref a2, .ref a3, .ref a4, .ref a5, .ref a6, .ref a7, .ref a8, .ref a9] ++ [.ref a11, .ref a12, .ref a13, .ref a14, .ref a15, .ref a16, .ref a17]) ++ [.ref a20, .ref a22, .ref a23]) ++ [.ref a26, .ref a27])) m29)
  have T29 := T28.trans (same_upd (o := .lst ((([V.non, .int 0, .bl true, .str "", .str "0-1", .ref a1, .ref a2, .ref a3, .ref a4, .ref a5, .ref a6, .ref a7, .ref a8, .ref a9] ++ [.ref a11, .ref a12, .ref a13, .ref a14, .ref a15, .ref a16, .ref a17]) ++ [.ref a20, .ref a22, .ref a23]) ++ [.ref a26, .ref a27])) m29)
  have N29 := N28.same (same_upd (o := .lst ((([V.non, .int 0, .bl true, .str "", .str "0-1", .ref a1, .ref a2, .ref a3, .ref a4, .ref a5, .ref a6, .ref a7, .ref a8, .ref a9] ++ [.ref a11, .ref a12, .ref a13, .ref a14, .ref a15, .ref a16, .ref a17]) ++ [.ref a20, .ref a22, .ref a23]) ++ [.ref a26, .ref a27])) m29)
  have hl7 : (upd G28 l7 (.lst ((([V.non, .int 0, .bl true, .str "", .str "0-1", .ref a1, .ref a2, .ref a3, .ref a4, .ref a5, .ref a6, .ref a7, .ref a8, .ref a9] ++ [.ref a11, .ref a12, .ref a13, .ref a14, .ref a15, .ref a16, .ref a17]) ++ [.ref a20, .ref a22, .ref a23]) ++ [.ref a26, .ref a27]))) l7 = some (.lst ((([V.non, .int 0, .bl true, .str "", .str "0-1", .ref a1, .ref a2, .ref a3, .ref a4, .ref a5, .ref a6, .ref a7, .ref a8, .ref a9] ++ [.ref a11, .ref a12, .ref a13, .ref a14, .ref a15, .ref a16, .ref a17]) ++ [.ref a20, .ref a22, .ref a23]) ++ [.ref a26, .ref a27])) := upd_same
  generalize upd G28 l7 (.lst ((([V.non, .int 0, .bl true, .str "", .str "0-1", .ref a1, .ref a2, .ref a3, .ref a4, .ref a5, .ref a6, .ref a7, .ref a8, .ref a9] ++ [.ref a11, .ref a12, .ref a13, .ref a14, .ref a15, .ref a16, .ref a17]) ++ [.ref a20, .ref a22, .ref a23]) ++ [.ref a26, .ref a27])) = G29 at S29 T29 N29 hl7 ⊢
  have A4 : NoNd K G29 n ((([V.non, .int 0, .bl true, .str "", .str "0-1", .ref a1, .ref a2, .ref a3, .ref a4, .ref a5, .ref a6, .ref a7, .ref a8, .ref a9] ++ [.ref a11, .ref a12, .ref a13, .ref a14, .ref a15, .ref a16, .ref a17]) ++ [.ref a20, .ref a22, .ref a23]) ++ [.ref a26, .ref a27]) := (A3.same T29).app N29
  have len : List.length (α := V) ((([V.non, .int 0, .bl true, .str "", .str "0-1", .ref a1, .ref a2, .ref a3, .ref a4, .ref a5, .ref a6, .ref a7, .ref a8, .ref a9] ++ [.ref a11, .ref a12, .ref a13, .ref a14, .ref a15, .ref a16, .ref a17]) ++ [.ref a20, .ref a22, .ref a23]) ++ [.ref a26, .ref a27]) ≤ 26 := by show 26 ≤ 26; decide
  exact q _ l7 _ S29 hl7 A4 len
end
end LT

namespace LT
open PySem PySem.Spec PyProof.Rows L2
theorem strs_dp {K : PySem.W.Frag} {H : Hp} : ∀ ns : List Str, DpAll K H (ns.map V.str) (ns.map PyData.str)
  | [] => .nil
  | n :: ns => .cons (.str n) (strs_dp ns)
theorem strs_same {ns : List Str} (h : SeqAt.shaped (.list (ns.map PyData.str)) = true) : PyData.eqv (.list (ns.map PyData.str)) (.list (ns.map PyData.str)) = true := SeqAt.eqv_refl _ (SeqAt.canLay_of_shaped h)
/-- values that are no integers -/
def Noi (K : PySem.W.Frag) (H : Hp) (xs : List V) : Prop := ∀ v ∈ xs, ∃ t, Pl K H v t ∧ isInt v = false
theorem Noi.same {K : PySem.W.Frag} {H H' : Hp} {xs : List V} (h : Noi K H xs) (s : Same H H') : Noi K H' xs := fun v hv => by
  obtain ⟨t, a, b⟩ := h v hv
  exact ⟨t, a.same s, b⟩
theorem noi8 {K : PySem.W.Frag} {H : Hp} {n1 n2 n3 : Addr} {xs ys : List V} {kvs : List (Key × V)} (h1 : H n1 = some (.lst xs)) (h2 : H n2 = some (.tup ys)) (h3 : H n3 = some (.dK kvs)) :
    Noi K H [V.non, V.bl true, V.bl false, V.str (Str.ofString ""), V.str (Str.ofString "1"), V.ref n1, V.ref n2, V.ref n3] := by
  intro v hv
  simp only [List.mem_cons, List.not_mem_nil, or_false] at hv
  rcases hv with rfl | rfl | rfl | rfl | rfl | rfl | rfl | rfl
  · exact ⟨_, .non, rfl⟩
  · exact ⟨_, .bl true, rfl⟩
  · exact ⟨_, .bl false, rfl⟩
  · exact ⟨_, .str _, rfl⟩
  · exact ⟨_, .str _, rfl⟩
  · exact ⟨_, .lst h1, rfl⟩
  · exact ⟨_, .tup h2, rfl⟩
  · exact ⟨_, .dict h3, rfl⟩
theorem rep_more {nm : Str} {i : Nat} : List.replicate i (V.str nm) ++ [V.str nm] = List.replicate (i + 1) (V.str nm) := List.replicate_succ'.symm
theorem sh9 : SeqAt.shaped (.list ((["InvalidSize", "InvalidSize", "InvalidSize", "InvalidSize", "InvalidSize", "InvalidSize", "InvalidSize", "InvalidSize", "InvalidSize"] : List Str).map PyData.str)) = true := by decide +kernel
theorem sh4 : SeqAt.shaped (.list ((["fine", "InvalidNode", "InvalidNode", "InvalidNode"] : List Str).map PyData.str)) = true := by decide +kernel
theorem sh12 : SeqAt.shaped (.list ((["fine", "fine", "fine", "fine", "fine", "fine", "fine", "fine", "fine", "fine", "fine", "fine"] : List Str).map PyData.str)) = true := by decide +kernel

theorem not13 {n : Nat} (h : 3 < n) : tnV n (.int 1) (.int 3) = false := by
  refine decide_eq_false (fun ⟨_, k⟩ => ?_)
  obtain ⟨_, _, k⟩ := k
  have k : tree n 1 2 := k
  have d := k.1
  have e : lb 2 = 1 := by decide +kernel
  rw [e] at d
  exact absurd d (by decide)
section
variable {P : Program} {w : World} {K : PySem.W.Frag} {mg : Str → Option Value} {base : Heap} {CS CE CN CL : Addr} {Cs : List Addr}
def spRight : Sp := fun vs H Q _ => ∃ (b : Addr) , vs = [.ref b] ∧ BagAt H b ∧ ∀ H', But b H H' → BagAt H' b → Q (.bl true) H'
theorem ok_law_right {f g1 g2 g3 g4 : Addr} {fd d1 d2 d3 d4 : FuncData} (F : Fun K "_law_right" "_law_right" sLawRight f fd) (KS : CK K Cs CL CS "InvalidSize") (KN : CK K Cs CL CN "InvalidNode") (KE : CK K Cs CL CE "InvalidNumber")
    (GLawSize : FnOk P w K mg base CX0 2 g1 d1 ["bag"] spSize) (ALawSize : At K mg "_law_size" g1 d1 ["bag"])
    (GLawBadIntegers : FnOk P w K mg base CX0 1 g2 d2 ["low", "high"] (spBad K)) (ALawBadIntegers : At K mg "_law_bad_integers" g2 d2 ["low", "high"])
    (GLawBadNodes : FnOk P w K mg base CX0 1 g3 d3 ["size"] (spBadN K)) (ALawBadNodes : At K mg "_law_bad_nodes" g3 d3 ["size"])
    (GLawTold : FnOk P w K mg base CX0 9 g4 d4 ["way", "size", "more"] (spTold4 K Cs CL CS CE CN)) (ALawTold : At K mg "_law_told" g4 d4 ["way", "size", "more"]) (z_range : mg "range" = none) (z_int : mg "int" = none) : FnOk P w K mg base CX0 10 f fd ["bag"] spRight := by
  refine F.ok scLawRight (fun vs H Q E h => ?_) (fun cdv A outer s H vs Q E hr h => ?_)
  · obtain ⟨_, rfl, _⟩ := h
    rfl
  obtain ⟨b, rfl, hb, q⟩ := h
  have one1 : 1 ≤ sizeLine := by decide
  have two_ : 2 ≤ sizeLine := by decide
  refine' ⟨_, (pss_cons (ps_set (i := 1) scLawRight.nd rfl (Or.inr rfl) (pe_call GLawSize (hr.mono (by decide)) rfl ALawSize.m ALawSize.kp ALawSize.b .nil pass0 (pa_cons (pv 0) pa_nil)))
    (pss_cons (ps_for PassesOwn.never rfl (pi_list (pe_call GLawBadIntegers (hr.mono (by decide)) rfl ALawBadIntegers.m ALawBadIntegers.kp ALawBadIntegers.b .nil pass0 (pa_cons pe_int (pa_cons (pe_op op_pow pe_int pe_int) pa_nil)))) (pg_name (i := 2) scLawRight.nd rfl (Or.inr rfl))
    (pss_cons (ps_for PassesOwn.never rfl (pi_tup (pe_tup (pa_cons (pe_tup (pa_cons pe_int (pa_cons pe_int pa_nil))) (pa_cons pe_non (pa_cons (pv 2) pa_nil))))) (pg_name (i := 3) scLawRight.nd rfl (Or.inr rfl))
    (pss_one (ps_if (pt_cmpR (op_neD hr.units) (pe_lc (own := [("way", 5)]) rfl scLawRight.nd (pi_range1 (by rfl) z_range (pa_cons pe_int pa_nil)) (blkOk_by (N := ["bag", "size", "bad", "more", "told", "way", "number"]) (sc := defScope sLawRight) (by decide +kernel)) (fun _ _ _ _ _ => (pg_name (i := 5) scLawRight.nd rfl (Or.inl rfl))) (fun _ _ _ _ _ => pts_nil) (fun _ _ _ _ _ => (pe_call GLawTold (hr.mono (by decide)) rfl ALawTold.m ALawTold.kp ALawTold.b .nil pass0 (pa_cons (pv 5) (pa_cons (pv 2) (pa_cons (pv 3) pa_nil)))))) (pe_op op_rep (pe_lst (pa_cons pe_str pa_nil)) pe_int) (nomark _))
    (pss_one (ps_ret pe_bl))
    pss_nil)))
    (pss_one (ps_if (pt_cmpR op_ne (pe_call GLawTold (hr.mono (by decide)) rfl ALawTold.m ALawTold.kp ALawTold.b .nil pass0 (pa_cons pe_int (pa_cons (pv 1) (pa_cons (pv 2) pa_nil)))) pe_str (nomark _))
    (pss_one (ps_ret pe_bl))
    pss_nil))))
    (pss_cons (ps_for PassesOwn.never rfl (pi_list (pe_op op_cat (pe_call GLawBadNodes (hr.mono (by decide)) rfl ALawBadNodes.m ALawBadNodes.kp ALawBadNodes.b .nil pass0 (pa_cons (pv 1) pa_nil)) (pe_op op_rep (pe_lst (pa_cons (pe_tup (pa_cons pe_int (pa_cons pe_int pa_nil))) pa_nil)) (pe_callTy call_int1 (by rfl) z_int (by decide +kernel) (pa_cons (pe_cmpR op_gt (pv 1) pe_int (nomark _)) pa_nil))))) (pg_name (i := 2) scLawRight.nd rfl (Or.inr rfl))
    (pss_one (ps_if (pt_cmpR (op_neD hr.units) (pe_lc (own := [("way", 5)]) rfl scLawRight.nd (pi_range2 (by rfl) z_range (pa_cons pe_int (pa_cons pe_int pa_nil))) (blkOk_by (N := ["bag", "size", "bad", "more", "told", "way", "number"]) (sc := defScope sLawRight) (by decide +kernel)) (fun _ _ _ _ _ => (pg_name (i := 5) scLawRight.nd rfl (Or.inl rfl))) (fun _ _ _ _ _ => pts_nil) (fun _ _ _ _ _ => (pe_call GLawTold (hr.mono (by decide)) rfl ALawTold.m ALawTold.kp ALawTold.b .nil pass0 (pa_cons (pv 5) (pa_cons (pv 1) (pa_cons (pv 2) pa_nil)))))) (pe_op op_cat (pe_lst (pa_cons pe_str pa_nil)) (pe_op op_rep (pe_lst (pa_cons pe_str pa_nil)) pe_int)) (nomark _))
    (pss_one (ps_ret pe_bl))
    pss_nil)))
    (pss_cons (ps_for PassesOwn.never rfl (pi_list (pe_lst (pa_cons pe_non (pa_cons pe_bl (pa_cons pe_bl (pa_cons pe_str (pa_cons pe_str (pa_cons (pe_lst (pa_cons pe_int pa_nil)) (pa_cons (pe_tup (pa_cons pe_int pa_nil)) (pa_cons pe_dnewK pa_nil)))))))))) (pg_name (i := 2) scLawRight.nd rfl (Or.inr rfl))
    (pss_one (ps_if (pt_cmpR op_ne (pe_call GLawTold (hr.mono (by decide)) rfl ALawTold.m ALawTold.kp ALawTold.b .nil pass0 (pa_cons pe_int (pa_cons (pv 1) (pa_cons (pv 2) pa_nil)))) pe_str (nomark _))
    (pss_one (ps_ret pe_bl))
    pss_nil)))
    (pss_cons (ps_set (i := 4) scLawRight.nd rfl (Or.inl rfl) (pe_op op_cat (pe_lc (own := [("way", 5)]) rfl scLawRight.nd (pi_range1 (by rfl) z_range (pa_cons pe_int pa_nil)) (blkOk_by (N := ["bag", "size", "bad", "more", "told", "way", "number"]) (sc := defScope sLawRight) (by decide +kernel)) (fun _ _ _ _ _ => (pg_name (i := 5) scLawRight.nd rfl (Or.inl rfl))) (fun _ _ _ _ _ => pts_nil) (fun _ _ _ _ _ => (pe_call GLawTold (hr.mono (by decide)) rfl ALawTold.m ALawTold.kp ALawTold.b .nil pass0 (pa_cons (pv 5) (pa_cons (pv 1) (pa_cons (pe_tup (pa_cons pe_int (pa_cons (pv 1) pa_nil))) pa_nil)))))) (pe_lst (pa_cons (pe_call GLawTold (hr.mono (by decide)) rfl ALawTold.m ALawTold.kp ALawTold.b .nil pass0 (pa_cons pe_int (pa_cons (pv 1) (pa_cons pe_int pa_nil)))) (pa_cons (pe_call GLawTold (hr.mono (by decide)) rfl ALawTold.m ALawTold.kp ALawTold.b .nil pass0 (pa_cons pe_int (pa_cons (pv 1) (pa_cons (pe_op op_pow pe_int pe_int) pa_nil)))) pa_nil)))))
    (pss_one (ps_ret (pe_cmpR (op_eqD hr.units) (pe_op op_cat (pv 4) (pe_lc (own := [("number", 6)]) rfl scLawRight.nd (pi_tup (pe_tup (pa_cons pe_int (pa_cons (pe_un un_neg pe_int) (pa_cons (pe_op op_pow pe_int pe_int) pa_nil))))) (blkOk_by (N := ["bag", "size", "bad", "more", "told", "way", "number"]) (sc := defScope sLawRight) (by decide +kernel)) (fun _ _ _ _ _ => (pg_name (i := 6) scLawRight.nd rfl (Or.inl rfl))) (fun _ _ _ _ _ => pts_nil) (fun _ _ _ _ _ => (pe_call GLawTold (hr.mono (by decide)) rfl ALawTold.m ALawTold.kp ALawTold.b .nil pass0 (pa_cons pe_int (pa_cons (pv 1) (pa_cons (pv 6) pa_nil))))))) (pe_op op_rep (pe_lst (pa_cons pe_str pa_nil)) pe_int) (nomark _))))))))), ?_⟩
  refine ⟨_, rfl, b, rfl, hb, fun n G1 n1 n30 B1 hb1 => ?_⟩
  have fin : ∀ H', Same G1 H' → Q (.bl true) H' := fun H' s' => q H' (B1.trans (But.of s')) (hb1.same s')
  clear q hb hb1 B1
  -- sizes
  refine ⟨_, _, rfl, rfl, ⟨by decide, by decide, by decide⟩, 1, _, rfl, by decide, by decide, by decide, by decide, fun H1 r xs t1 _ hr1 hb => ⟨r, rfl, ⟨_, SqL.of hr1⟩, for_list (K := K) (a := r) (xs := xs) (fun i σ H' => ∃ v2 v3 : Option V, σ = [some (.ref b), some (.int (n : Int)), v2, v3, none, none, none] ∧ Same H1 H')
    ⟨none, none, rfl, Same.refl _⟩ (fun i σ H' _ ⟨_, _, _, s5⟩ => SqL.of (s5 _ _ hr1)) ?_ ?_⟩⟩
  · rintro i x σ H2 hi ⟨v2, v3, rfl, sm1⟩
    obtain ⟨ty, hx, hxr⟩ := hb.2 x (List.mem_of_getElem? hi)
    replace hxr : inRange 1 top30 x = false := hxr
    refine ⟨two_, fun p1 m1 => ⟨_, rfl, (by show 3 ≤ sizeLine; decide), fun p3 m3 => ?_⟩⟩
    have u1 := same_upd (o := .tup [.int 0, .int 1]) m1
    have u3 := same_upd (o := .tup [.ref p1, .non, x]) m3
    have h3 := upd_same (H := upd H2 p1 (.tup [.int 0, .int 1])) (a := p3) (o := .tup [.ref p1, .non, x])
    have su := sm1.trans (u1.trans u3)
    generalize upd (upd H2 p1 (.tup [.int 0, .int 1])) p3 (.tup [.ref p1, .non, x]) = H3 at h3 su
    refine ⟨p3, rfl, ⟨_, SqT.of h3⟩, for_tup (K := K) (a := p3) (xs := [.ref p1, .non, x]) (fun i σ H' => ∃ v3 : Option V, σ = [some (.ref b), some (.int (n : Int)), some x, v3, none, none, none] ∧ Same H3 H')
      ⟨_, rfl, Same.refl _⟩ (fun i σ H' _ ⟨_, _, s5⟩ => SqT.of (s5 _ _ h3)) ?_ ?_⟩
    · rintro i2 y σ H4 hi2 ⟨w3, rfl, sm2⟩
      refine ⟨9, rfl, by decide, by decide, fun D nD => lc_range (lo := 0) (n := 9) (fun i H' => Same H4 H' ∧ H' D = some (.lst (List.replicate i (V.str "InvalidSize")))) ⟨same_upd nD, upd_same⟩ ?_ ?_⟩
      · rintro j H5 hj ⟨s4, hD⟩
        have ej : (0 : Int) + (j : Int) = (j : Int) := by omega
        rw [ej]
        refine ⟨rfl, ?_⟩
        refine ⟨_, rfl, _, rfl, _, rfl, j, x, y, some CS, "InvalidSize", rfl, by omega, .inl ⟨ty, hx.same (su.trans (sm2.trans s4)), hxr, rfl⟩, .inr ⟨CS, rfl, KS⟩, fun H6 s6 => ⟨_, s6 _ _ hD, szlt (by rw [List.length_replicate]; omega), ?_, ?_⟩⟩
        · exact fun a o k => by rw [upd_ne (ne_of_none k nD)]; exact s6 _ _ (s4 _ _ k)
        · rw [rep_more]
          exact upd_same
      rintro H5 ⟨s4, hD⟩
      refine ⟨one1, fun l2 nl2 => ⟨l2, 9, _, rfl, rfl, upd_same, by decide, by decide, (by show 1 * 9 ≤ sizeLine; decide), fun p np => ?_⟩⟩
      have u2 := same_upd (o := .lst [.str "InvalidSize"]) nl2
      have u3 := same_upd (o := .lst (List.replicate (Int.toNat 9) [V.str "InvalidSize"]).flatten) np
      refine ⟨.list ((["InvalidSize", "InvalidSize", "InvalidSize", "InvalidSize", "InvalidSize", "InvalidSize", "InvalidSize", "InvalidSize", "InvalidSize"] : List Str).map PyData.str), .list ((["InvalidSize", "InvalidSize", "InvalidSize", "InvalidSize", "InvalidSize", "InvalidSize", "InvalidSize", "InvalidSize", "InvalidSize"] : List Str).map PyData.str), .lst (SqL.of (u3 _ _ (u2 _ _ hD))) (strs_dp ["InvalidSize", "InvalidSize", "InvalidSize", "InvalidSize", "InvalidSize", "InvalidSize", "InvalidSize", "InvalidSize", "InvalidSize"]), .lst (SqL.of upd_same) (strs_dp ["InvalidSize", "InvalidSize", "InvalidSize", "InvalidSize", "InvalidSize", "InvalidSize", "InvalidSize", "InvalidSize", "InvalidSize"]), sh9, sh9, ?_⟩
      rw [strs_same sh9]
      exact ⟨false, rfl, _, rfl, (sm2.trans s4).trans (u2.trans u3)⟩
    rintro σ H4 ⟨w3, rfl, sm2⟩
    refine ⟨_, rfl, _, rfl, 7, .int (n : Int), x, some CS, "InvalidSize", rfl, by decide, .inr ⟨n, rfl, n1, n30, .inr (.inr (.inr (.inr (.inl ⟨rfl, ⟨ty, hx.same (su.trans sm2)⟩, hxr, rfl⟩))))⟩, .inr ⟨CS, rfl, KS⟩, fun H5 s5 => ?_⟩
    refine ⟨rfl, ?_⟩
    rw [show decide (V.str "InvalidSize" = V.str "InvalidSize") = true from decide_eq_true rfl]
    exact ⟨false, rfl, _, _, rfl, su.trans (sm2.trans s5)⟩
  rintro σ H2 ⟨v2, v3, rfl, sm1⟩
  have gH := t1.trans sm1
  clear hb hr1 t1 sm1
  -- nodes
  refine ⟨_, rfl, n, rfl, n1, n30, fun H3 p xs t3 hp hN hlen => ⟨two_, fun q1 m1 => ⟨one1, fun l1 m2 => ?_⟩⟩⟩
  have u1 := same_upd (o := .tup [.int 1, .int 3]) m1
  have u2 := same_upd (o := .lst [.ref q1]) m2
  have hl1 := upd_same (H := upd H3 q1 (.tup [.int 1, .int 3])) (a := l1) (o := .lst [.ref q1])
  have hq1 := u2 _ _ (upd_same (H := H3) (a := q1) (o := .tup [.int 1, .int 3]))
  have hp2 := (u1.trans u2) _ _ hp
  have hN2 := hN.same (u1.trans u2)
  have s3 := t3.trans (u1.trans u2)
  generalize upd (upd H3 q1 (.tup [.int 1, .int 3])) l1 (.lst [.ref q1]) = H4 at hl1 hq1 hp2 hN2 s3
  clear u1 u2 m1 m2 hp hN t3
  refine ⟨_, rfl, _, _, rfl, rfl, .inr ⟨_, rfl, ?_⟩⟩
  obtain ⟨k, ek, k01, hk⟩ : ∃ k : Nat, (if decide ((3 : Int) < (n : Int)) = true then (1 : Int) else 0) = (k : Int) ∧ (k = 0 ∨ k = 1) ∧ (k = 1 → 3 < n) := by
    by_cases c : 3 < n
    · exact ⟨1, by rw [if_pos (decide_eq_true (by omega))]; rfl, .inr rfl, fun _ => c⟩
    · exact ⟨0, by rw [if_neg (by rw [decide_eq_false (by omega)]; decide)]; rfl, .inl rfl, fun z => by omega⟩
  refine ⟨l1, (k : Int), _, rfl, congrArg V.int ek, hl1, by omega, by omega, szle (by rw [List.length_singleton]; omega), fun l2 m3 => ?_⟩
  have hNk : NoNd K H4 n (List.replicate (k : Int).toNat [V.ref q1]).flatten := by
    rcases k01 with rfl | rfl
    · exact NoNd.nil
    · intro v hv
      have hv : v ∈ [V.ref q1] := hv
      rw [List.mem_singleton] at hv
      subst hv
      rw [← not13 (hk rfl)]
      exact .pair hq1 (.int 1) (.int 3)
  have hkl : (List.replicate (k : Int).toNat [V.ref q1]).flatten.length ≤ 1 := by
    rcases k01 with rfl | rfl
    · show 0 ≤ 1; omega
    · show 1 ≤ 1; omega
  have u3 := same_upd (o := .lst (List.replicate (k : Int).toNat [V.ref q1]).flatten) m3
  refine ⟨p, l2, xs, _, rfl, rfl, u3 _ _ hp2, upd_same, szle (by omega), fun l3 m4 => ?_⟩
  have u4 := same_upd (o := .lst (xs ++ (List.replicate (k : Int).toNat [V.ref q1]).flatten)) m4
  have hl3 := upd_same (H := upd H4 l2 (.lst (List.replicate (k : Int).toNat [V.ref q1]).flatten)) (a := l3) (o := .lst (xs ++ (List.replicate (k : Int).toNat [V.ref q1]).flatten))
  have hA := (hN2.app hNk).same (u3.trans u4)
  replace gH := gH.trans (s3.trans (u3.trans u4))
  generalize upd (upd H4 l2 (.lst (List.replicate (k : Int).toNat [V.ref q1]).flatten)) l3 (.lst (xs ++ (List.replicate (k : Int).toNat [V.ref q1]).flatten)) = H5 at hl3 hA gH
  generalize xs ++ (List.replicate (k : Int).toNat [V.ref q1]).flatten = zs at hl3 hA
  clear u3 u4 hp2 hl1 hq1 hN2 s3 hNk hkl
  refine ⟨l3, rfl, ⟨_, SqL.of hl3⟩, for_list (K := K) (a := l3) (xs := zs) (fun i σ H' => ∃ v2 : Option V, σ = [some (.ref b), some (.int (n : Int)), v2, v3, none, none, none] ∧ Same H5 H')
    ⟨_, rfl, Same.refl _⟩ (fun i σ H' _ ⟨_, _, s5⟩ => SqL.of (s5 _ _ hl3)) ?_ ?_⟩
  · rintro i x σ H6 hi ⟨w2, rfl, sm1⟩
    have hx := (hA x (List.mem_of_getElem? hi)).same sm1
    refine ⟨3, 7, rfl, ⟨by decide, by decide, by decide, by decide⟩, fun D nD => lc_range (lo := 3) (n := 4) (fun i H' => Same H6 H' ∧ H' D = some (.lst (((["fine", "InvalidNode", "InvalidNode", "InvalidNode"] : List Str).take i).map V.str))) ⟨same_upd nD, upd_same⟩ ?_ ?_⟩
    · rintro j H7 hj ⟨s4, hD⟩
      have ej : (3 : Int) + (j : Int) = ((3 + j : Nat) : Int) := by omega
      rw [ej]
      refine ⟨rfl, ?_⟩
      have hx7 := hx.same s4
      obtain ⟨rr, nm, hnm, ho, hc⟩ : ∃ (rr : Option Addr) (nm : Str), ((["fine", "InvalidNode", "InvalidNode", "InvalidNode"] : List Str).take j).map V.str ++ [V.str nm] = ((["fine", "InvalidNode", "InvalidNode", "InvalidNode"] : List Str).take (j + 1)).map V.str ∧ Out4 K CS CE CN (3 + j) (.int (n : Int)) x H7 rr ∧ ((rr = none ∧ nm = "fine") ∨ ∃ C, rr = some C ∧ CK K Cs CL C nm) := by
        have w : j = 0 ∨ j = 1 ∨ j = 2 ∨ j = 3 := by omega
        rcases w with rfl | rfl | rfl | rfl
        · exact ⟨none, "fine", rfl, .inr ⟨n, rfl, n1, n30, .inr (.inl ⟨rfl, ⟨_, hx7⟩, rfl⟩)⟩, .inl ⟨rfl, rfl⟩⟩
        · exact ⟨some CN, "InvalidNode", rfl, .inr ⟨n, rfl, n1, n30, .inr (.inr (.inl ⟨.inl rfl, hx7, rfl⟩))⟩, .inr ⟨CN, rfl, KN⟩⟩
        · exact ⟨some CN, "InvalidNode", rfl, .inr ⟨n, rfl, n1, n30, .inr (.inr (.inl ⟨.inr (.inl rfl), hx7, rfl⟩))⟩, .inr ⟨CN, rfl, KN⟩⟩
        · exact ⟨some CN, "InvalidNode", rfl, .inr ⟨n, rfl, n1, n30, .inr (.inr (.inl ⟨.inr (.inr rfl), hx7, rfl⟩))⟩, .inr ⟨CN, rfl, KN⟩⟩
      refine ⟨_, rfl, _, rfl, _, rfl, 3 + j, .int (n : Int), x, rr, nm, rfl, by omega, ho, hc, fun H8 s6 => ⟨_, s6 _ _ hD, szlt (by rw [List.length_map, List.length_take]; exact Nat.lt_of_le_of_lt (Nat.min_le_left _ _) (by omega)), ?_, ?_⟩⟩
      · exact fun a o k => by rw [upd_ne (ne_of_none k nD)]; exact s6 _ _ (s4 _ _ k)
      · rw [hnm]
        exact upd_same
    rintro H7 ⟨s4, hD⟩
    refine ⟨one1, fun l4 m5 => ⟨one1, fun l5 m6 => ⟨l5, 3, _, rfl, rfl, upd_same, by decide, by decide, (by show 1 * 3 ≤ sizeLine; decide), fun l6 m7 => ?_⟩⟩⟩
    have u4 := same_upd (o := .lst [.str "fine"]) m5
    have u5 := same_upd (o := .lst [.str "InvalidNode"]) m6
    have u6 := same_upd (o := .lst (List.replicate (Int.toNat 3) [V.str "InvalidNode"]).flatten) m7
    refine ⟨l4, l6, _, _, rfl, rfl, u6 _ _ (u5 _ _ upd_same), upd_same, (by show 1 + 3 ≤ sizeLine; decide), fun l7 m8 => ?_⟩
    have u7 := same_upd (o := .lst ([V.str "fine"] ++ (List.replicate (Int.toNat 3) [V.str "InvalidNode"]).flatten)) m8
    have uu := u4.trans (u5.trans (u6.trans u7))
    refine ⟨.list ((["fine", "InvalidNode", "InvalidNode", "InvalidNode"] : List Str).map PyData.str), .list ((["fine", "InvalidNode", "InvalidNode", "InvalidNode"] : List Str).map PyData.str), .lst (SqL.of (uu _ _ hD)) (strs_dp (["fine", "InvalidNode", "InvalidNode", "InvalidNode"] : List Str)), .lst (SqL.of upd_same) (strs_dp (["fine", "InvalidNode", "InvalidNode", "InvalidNode"] : List Str)), sh4, sh4, ?_⟩
    rw [strs_same sh4]
    exact ⟨false, rfl, _, rfl, sm1.trans (s4.trans uu)⟩
  rintro σ H6 ⟨w2, rfl, sm1⟩
  replace gH := gH.trans sm1
  clear sm1 hA hl3
  -- numbers
  refine ⟨one1, fun n1_ m1 => ⟨one1, fun n2 m2 => fun n3 m3 => ⟨(by show 8 ≤ sizeLine; decide), fun nb mb => ?_⟩⟩⟩
  have s1 := same_upd (o := .lst [.int 1]) m1
  have s2 := same_upd (o := .tup [.int 1]) m2
  have s3 := same_upd (o := .dK []) m3
  have s4 := same_upd (o := .lst [V.non, V.bl true, V.bl false, V.str (Str.ofString ""), V.str (Str.ofString "1"), V.ref n1_, V.ref n2, V.ref n3]) mb
  have hM := noi8 (K := K) (s4 _ _ (s3 _ _ (s2 _ _ upd_same))) (s4 _ _ (s3 _ _ upd_same)) (s4 _ _ upd_same)
  have hnb : (upd (upd (upd (upd H6 n1_ (.lst [.int 1])) n2 (.tup [.int 1])) n3 (.dK [])) nb (.lst [V.non, V.bl true, V.bl false, V.str (Str.ofString ""), V.str (Str.ofString "1"), V.ref n1_, V.ref n2, V.ref n3])) nb = some (.lst [V.non, V.bl true, V.bl false, V.str (Str.ofString ""), V.str (Str.ofString "1"), V.ref n1_, V.ref n2, V.ref n3]) := upd_same
  have sH := gH.trans (s1.trans (s2.trans (s3.trans s4)))
  generalize upd (upd (upd (upd H6 n1_ (.lst [.int 1])) n2 (.tup [.int 1])) n3 (.dK [])) nb (.lst [V.non, V.bl true, V.bl false, V.str (Str.ofString ""), V.str (Str.ofString "1"), V.ref n1_, V.ref n2, V.ref n3]) = H7 at hM sH hnb
  clear s1 s2 s3 s4 m1 m2 m3 mb
  generalize [V.non, V.bl true, V.bl false, V.str (Str.ofString ""), V.str (Str.ofString "1"), V.ref n1_, V.ref n2, V.ref n3] = ns at hM hnb
  refine ⟨nb, rfl, ⟨_, SqL.of hnb⟩, for_list (K := K) (a := nb) (xs := ns) (fun i σ H' => ∃ v2 : Option V, σ = [some (.ref b), some (.int (n : Int)), v2, v3, none, none, none] ∧ Same H7 H')
    ⟨_, rfl, Same.refl _⟩ (fun i σ H' _ ⟨_, _, s5⟩ => SqL.of (s5 _ _ hnb)) ?_ ?_⟩
  · rintro i x σ H8 hi ⟨z2, rfl, sm1⟩
    obtain ⟨ty, hx, hxr⟩ := hM x (List.mem_of_getElem? hi)
    refine ⟨_, rfl, _, rfl, 8, .int (n : Int), x, some CE, "InvalidNumber", rfl, by decide, .inr ⟨n, rfl, n1, n30, .inr (.inr (.inr (.inr (.inr (.inr (.inl ⟨rfl, ⟨ty, hx.same sm1⟩, hxr, rfl⟩))))))⟩, .inr ⟨CE, rfl, KE⟩, fun H9 sm2 => ?_⟩
    refine ⟨rfl, ?_⟩
    rw [show decide (V.str "InvalidNumber" = V.str "InvalidNumber") = true from decide_eq_true rfl]
    exact ⟨false, rfl, _, rfl, sm1.trans sm2⟩
  rintro σ H8 ⟨z2, rfl, sm1⟩
  replace gH := sH.trans sm1
  clear sm1 sH hM hnb
  -- what is fine
  refine ⟨7, rfl, by decide, by decide, fun D nD => lc_range (lo := 0) (n := 7) (fun i H' => Same H8 H' ∧ H' D = some (.lst (List.replicate i (V.str "fine")))) ⟨same_upd nD, upd_same⟩ ?_ ?_⟩
  · rintro j H9 hj ⟨s4, hD⟩
    have ej : (0 : Int) + (j : Int) = (j : Int) := by omega
    rw [ej]
    refine ⟨rfl, ?_⟩
    refine ⟨_, rfl, _, rfl, _, rfl, two_, fun tp mt => ?_⟩
    have ut := same_upd (o := .tup [.int 0, .int (n : Int)]) mt
    have ht : Nd (upd H9 tp (.tup [.int 0, .int (n : Int)])) (.ref tp) (0, n) := ⟨tp, rfl, upd_same⟩
    have ho : Out4 K CS CE CN j (.int (n : Int)) (.ref tp) (upd H9 tp (.tup [.int 0, .int (n : Int)])) none := by
      refine .inr ⟨n, rfl, n1, n30, ?_⟩
      have w : j ≤ 2 ∨ j = 3 ∨ j = 4 ∨ j = 5 ∨ j = 6 := by omega
      rcases w with w | w | w | w | w
      · exact .inl ⟨w, rfl⟩
      · exact .inr (.inl ⟨w, ⟨_, .pair upd_same (.int 0) (.int (n : Int))⟩, rfl⟩)
      · exact .inr (.inr (.inr (.inl ⟨.inl w, ht, rfl⟩)))
      · exact .inr (.inr (.inr (.inl ⟨.inr (.inl w), ht, rfl⟩)))
      · exact .inr (.inr (.inr (.inl ⟨.inr (.inr w), ht, rfl⟩)))
    refine ⟨j, .int (n : Int), .ref tp, none, "fine", rfl, by omega, ho, .inl ⟨rfl, rfl⟩, fun H10 s6 => ⟨_, s6 _ _ (ut _ _ hD), szlt (by rw [List.length_replicate]; omega), ?_, ?_⟩⟩
    · exact fun a o k => by rw [upd_ne (ne_of_none k nD)]; exact s6 _ _ (ut _ _ (s4 _ _ k))
    · rw [rep_more]
      exact upd_same
  rintro H9 ⟨s9, hD⟩
  have e30 : (10 : Int) ^ (30 : Int).toNat = ((10 ^ 30 : Nat) : Int) := by decide
  refine ⟨_, rfl, 7, .int (n : Int), .int 1, none, "fine", rfl, by decide, .inr ⟨n, rfl, n1, n30, .inr (.inr (.inr (.inr (.inr (.inl ⟨rfl, ⟨1, rfl, by decide, by decide⟩, rfl⟩)))))⟩, .inl ⟨rfl, rfl⟩, fun H10 s10 => ?_⟩
  refine ⟨_, rfl, _, _, rfl, rfl, ⟨by decide, by decide, by decide⟩, 7, .int (n : Int), _, none, "fine", rfl, by decide, .inr ⟨n, rfl, n1, n30, .inr (.inr (.inr (.inr (.inr (.inl ⟨rfl, ⟨10 ^ 30, congrArg V.int e30, by decide, by decide⟩, rfl⟩)))))⟩, .inl ⟨rfl, rfl⟩, fun H11 s11 => ⟨two_, fun l1 nl1 => ?_⟩⟩
  have u1 := same_upd (o := .lst [V.str "fine", V.str "fine"]) nl1
  refine ⟨D, l1, _, _, rfl, rfl, u1 _ _ (s11 _ _ (s10 _ _ hD)), upd_same, (by rw [List.length_replicate]; show 7 + 2 ≤ sizeLine; decide), fun l2 nl2 => ?_⟩
  have u2 := same_upd (o := .lst (List.replicate 7 (V.str "fine") ++ [V.str "fine", V.str "fine"])) nl2
  have hl2 : (upd (upd H11 l1 (.lst [V.str "fine", V.str "fine"])) l2 (.lst (List.replicate 7 (V.str "fine") ++ [V.str "fine", V.str "fine"]))) l2 = some (.lst (List.replicate 7 (V.str "fine") ++ [V.str "fine", V.str "fine"])) := upd_same
  have gI := gH.trans (s9.trans (s10.trans (s11.trans (u1.trans u2))))
  generalize upd (upd H11 l1 (.lst [V.str "fine", V.str "fine"])) l2 (.lst (List.replicate 7 (V.str "fine") ++ [V.str "fine", V.str "fine"])) = H12 at hl2 gI
  clear u1 u2 nl1 nl2 s9 s10 s11 hD nD
  refine ⟨_, rfl, 1, rfl, _, _, rfl, rfl, ⟨by decide, by decide, by decide⟩, (by show 3 ≤ sizeLine; decide), fun tp mt => ?_⟩
  have ut := same_upd (o := .tup [.int 0, .int (-1), .int (10 ^ (64 : Int).toNat)]) mt
  have ht : (upd H12 tp (.tup [.int 0, .int (-1), .int (10 ^ (64 : Int).toNat)])) tp = some (.tup [.int 0, .int (-1), .int (10 ^ (64 : Int).toNat)]) := upd_same
  generalize upd H12 tp (.tup [.int 0, .int (-1), .int (10 ^ (64 : Int).toNat)]) = H13 at ut ht
  refine ⟨tp, rfl, ⟨_, SqT.of ht⟩, fun D2 nD2 => lc_tup (xs := [.int 0, .int (-1), .int (10 ^ (64 : Int).toNat)]) (fun i H' => Same H13 H' ∧ H' D2 = some (.lst (List.replicate i (V.str "fine")))) ⟨same_upd nD2, upd_same⟩ (fun i H' _ k => SqT.of (k.1 _ _ ht)) ?_ ?_⟩
  · rintro j y H14 hj ⟨s4, hD⟩
    have j3 : j < 3 := (List.getElem?_eq_some_iff.mp hj).1
    obtain ⟨kk, rfl⟩ : ∃ kk : Int, y = .int kk := by
      have m := List.mem_of_getElem? hj
      simp only [List.mem_cons, List.not_mem_nil, or_false] at m
      rcases m with rfl | rfl | rfl
      · exact ⟨_, rfl⟩
      · exact ⟨_, rfl⟩
      · exact ⟨_, rfl⟩
    refine ⟨rfl, ?_⟩
    refine ⟨_, rfl, _, rfl, 8, .int (n : Int), .int kk, none, "fine", rfl, by decide, .inr ⟨n, rfl, n1, n30, .inr (.inr (.inr (.inr (.inr (.inr (.inr ⟨rfl, ⟨kk, rfl⟩, rfl⟩))))))⟩, .inl ⟨rfl, rfl⟩, fun H15 s6 => ⟨_, s6 _ _ hD, szlt (by rw [List.length_replicate]; omega), ?_, ?_⟩⟩
    · exact fun a o k => by rw [upd_ne (ne_of_none k nD2)]; exact s6 _ _ (s4 _ _ k)
    · rw [rep_more]
      exact upd_same
  rintro H14 ⟨sE, hD2⟩
  replace hD2 : H14 D2 = some (.lst [V.str "fine", V.str "fine", V.str "fine"]) := hD2
  refine ⟨l2, D2, _, _, rfl, rfl, (ut.trans sE) _ _ hl2, hD2, (by show 9 + 3 ≤ sizeLine; decide), fun l4 nl4 => ⟨one1, fun l5 nl5 => ⟨l5, 12, _, rfl, rfl, upd_same, by decide, by decide, (by show 1 * 12 ≤ sizeLine; decide), fun l6 nl6 => ?_⟩⟩⟩
  have u4 := same_upd (o := .lst ((List.replicate 7 (V.str "fine") ++ [V.str "fine", V.str "fine"]) ++ [V.str "fine", V.str "fine", V.str "fine"])) nl4
  have u5 := same_upd (o := .lst [V.str "fine"]) nl5
  have u6 := same_upd (o := .lst (List.replicate (Int.toNat 12) [V.str "fine"]).flatten) nl6
  refine ⟨.list ((["fine", "fine", "fine", "fine", "fine", "fine", "fine", "fine", "fine", "fine", "fine", "fine"] : List Str).map PyData.str), .list ((["fine", "fine", "fine", "fine", "fine", "fine", "fine", "fine", "fine", "fine", "fine", "fine"] : List Str).map PyData.str), .lst (SqL.of (u6 _ _ (u5 _ _ upd_same))) (strs_dp ["fine", "fine", "fine", "fine", "fine", "fine", "fine", "fine", "fine", "fine", "fine", "fine"]), .lst (SqL.of upd_same) (strs_dp ["fine", "fine", "fine", "fine", "fine", "fine", "fine", "fine", "fine", "fine", "fine", "fine"]), sh12, sh12, ?_⟩
  rw [strs_same sh12]
  exact fin _ (gI.trans (ut.trans (sE.trans (u4.trans (u5.trans u6)))))
end
end LT

namespace LT
open PySem PySem.Spec PyProof.Rows L2
theorem script_at {ns : List Int} {lo hi : Option Int} {i : Nat} {x : V} (h : (cutV (ns.map V.int) lo hi ++ [.int 0])[i]? = some x) : ∃ c : Int, x = .int c := by
  have m := List.mem_of_getElem? h
  rcases List.mem_append.mp m with m | m
  · unfold cutV at m
    have m2 := List.mem_of_mem_drop (List.mem_of_mem_take m)
    obtain ⟨c, _, e⟩ := List.mem_map.mp m2
    exact ⟨c, e.symm⟩
  · exact ⟨0, List.mem_singleton.mp m⟩
theorem sqSame {K : PySem.W.Frag} {H H' : Hp} {a : Addr} {xs : List V} (h : SqL K H a xs) (e : Same H H') : SqL K H' a xs :=
  h.elim (fun h => .inl (h.elim (fun h => .inl (e _ _ h)) fun ⟨o, h⟩ => .inr ⟨o, e _ _ h⟩)) fun h => .inr h
def spLaw (K : PySem.W.Frag) : Sp := fun vs H Q _ => ∃ (a : Addr) (ns : List Int), vs = [.ref a] ∧ SqL K H a (ns.map V.int) ∧ ns.length ≤ 63 ∧ ∀ H', Q (.bl true) H'
end LT

namespace LT
open PySem PySem.Spec PyProof.Rows L2
section
variable {P : Program} {w : World} {K : PySem.W.Frag} {mg : Str → Option Value} {base : Heap}
theorem ok_law {f g1 g2 : Addr} {fd d1 d2 : FuncData} (F : Fun K "law" "law" sLaw f fd)
    (GLawBag : FnOk P w K mg base CX0 1 g1 d1 ["cell"] spBag) (ALawBag : At K mg "_law_bag" g1 d1 ["cell"])
    (GLawRight : FnOk P w K mg base CX0 10 g2 d2 ["bag"] spRight) (ALawRight : At K mg "_law_right" g2 d2 ["bag"]) : FnOk P w K mg base CX0 11 f fd ["script"] (spLaw K) := by
  refine F.ok scLaw (fun vs H Q E h => ?_) (fun cdv A outer s H vs Q E hr h => ?_)
  · obtain ⟨_, _, rfl, _⟩ := h
    rfl
  obtain ⟨a, ns, rfl, hS, h63, q⟩ := h
  refine' ⟨_, (pss_cons (ps_for PassesOwn.never rfl (pi_list (pe_op op_cat (pe_slice sl_list (pv 0) po_none (po_some pe_int)) (pe_lst (pa_cons pe_int pa_nil)))) (pg_name (i := 1) scLaw.nd rfl (Or.inl rfl))
    (pss_cons (ps_set (i := 2) scLaw.nd rfl (Or.inl rfl) (pe_call GLawBag (hr.mono (by decide)) rfl ALawBag.m ALawBag.kp ALawBag.b .nil pass0 (pa_cons (pv 1) pa_nil)))
    (pss_one (ps_if (pt_not (pt_val (pe_call GLawRight (hr.mono (by decide)) rfl ALawRight.m ALawRight.kp ALawRight.b .nil pass0 (pa_cons (pv 2) pa_nil))))
    (pss_one (ps_ret pe_bl))
    pss_nil))))
    (pss_one (ps_ret pe_bl))), ?_⟩
  refine ⟨_, rfl, 6, rfl, a, _, rfl, hS, fun c nc => ⟨(by show 1 ≤ sizeLine; decide), fun z nz => ?_⟩⟩
  have s1 := same_upd (o := .lst (cutV (ns.map V.int) none (some 6))) nc
  have s2 := same_upd (o := .lst [.int 0]) nz
  have hcl := cutV_length (ns.map V.int) none (some 6)
  rw [List.length_map] at hcl
  refine ⟨c, z, _, _, rfl, rfl, s2 _ _ upd_same, upd_same, szle (by rw [List.length_singleton]; omega), fun r nr => ?_⟩
  have s3 := same_upd (o := .lst (cutV (ns.map V.int) none (some 6) ++ [.int 0])) nr
  have hr0 : (upd (upd (upd H c (.lst (cutV (ns.map V.int) none (some 6)))) z (.lst [.int 0])) r (.lst (cutV (ns.map V.int) none (some 6) ++ [.int 0]))) r = some (.lst (cutV (ns.map V.int) none (some 6) ++ [.int 0])) := upd_same
  generalize upd (upd (upd H c (.lst (cutV (ns.map V.int) none (some 6)))) z (.lst [.int 0])) r (.lst (cutV (ns.map V.int) none (some 6) ++ [.int 0])) = H0 at hr0
  refine ⟨r, rfl, ⟨_, SqL.of hr0⟩, for_list (K := K) (a := r) (xs := cutV (ns.map V.int) none (some 6) ++ [.int 0]) (fun i σ H' => ∃ v1 v2 : Option V, σ = [some (.ref a), v1, v2] ∧ Same H0 H')
    ⟨none, none, rfl, Same.refl _⟩ (fun i σ H' _ ⟨_, _, _, s5⟩ => SqL.of (s5 _ _ hr0)) ?_ ?_⟩
  · rintro i x σ H1 hi ⟨v1, v2, rfl, sm1⟩
    obtain ⟨cell, rfl⟩ := script_at hi
    refine ⟨_, rfl, cell, rfl, fun H2 b sm2 nb hb => ?_⟩
    have nb0 : H0 b = none := sm1.free nb
    refine ⟨_, rfl, b, rfl, hb, fun H3 B3 hb3 => ⟨true, rfl, ?_⟩⟩
    exact ⟨_, _, rfl, fun u o k => B3 u o (ne_of_none k nb0) (sm2 _ _ (sm1 _ _ k))⟩
  · rintro σ H1 ⟨v1, v2, rfl, sm1⟩
    exact q _
end
end LT

namespace LT
open PySem PySem.Spec PyProof.Rows L2
/-- isinstance of an own class, from what the top says of it -/
theorem kit_of {K : PySem.W.Frag} {C D : Addr} {b : Bool} (i : PySem.W.isClsIn K D = true) (t : PySem.W.typeIn K (.ref D) = some (.type "type")) (s : PySem.W.subIn K (.ref C) (.ref D) = some b) (z : PySem.W.subIn K (.ref C) (.ref C) = some true) : PySem.W.kitOne K (.ref C) (.ref D) = some b := by
  unfold PySem.W.kitOne
  split
  · rename_i h
    have e : C = D := Value.ref.inj (beq_iff_eq.mp h)
    subst e
    rw [z] at s
    exact s
  · show (if ((PySem.W.clsIn K D).isSome && PySem.W.typeIn K (.ref D) == some (.type "type")) = true then PySem.W.subIn K (.ref C) (.ref D) else none) = some b
    have i' : (PySem.W.clsIn K D).isSome = true := i
    have e : ((PySem.W.clsIn K D).isSome && PySem.W.typeIn K (.ref D) == some (.type "type")) = true := by rw [i', t] <;> rfl
    rw [if_pos e]
    exact s
theorem kit_ty0 {K : PySem.W.Frag} {C : Addr} {T : String} {b : Bool} (m : PySem.W.kitMeta T = true) (s : PySem.W.subIn K (.ref C) (.type T) = some b) : PySem.W.kitOne K (.ref C) (.type T) = some b := by
  unfold PySem.W.kitOne
  rw [if_neg (by intro h; exact absurd (beq_iff_eq.mp h) (fun z => nomatch z))]
  show (if PySem.W.kitMeta T = true then PySem.W.subIn K (.ref C) (.type T) else none) = some b
  rw [if_pos m]
  exact s
theorem all_mk {l : PySem.W.OpenLaw} {w : World} {K : PySem.W.Frag} {h : Heap} {mg : Str → Option Value} {fa f0 f1 f2 f3 f4 f5 f6 f7 f8 f9 f10 f11 f12 f13 f14 f15 f16 f17 f18 f19 f20 f21 f22 f23 f24 f25 : Addr} (X : K.In h) (G : h.Ns mainGlobals mg) (hfa : mg "law" = some (.ref fa))
    {od0 an0 od1 an1 od2 an2 od3 an3 od4 an4 od5 an5 od6 an6 od7 an7 od8 an8 od9 an9 od10 an10 od11 an11 od12 an12 od13 an13 od14 an14 od15 an15 od16 an16 od17 an17 od18 an18 od19 an19 od20 an20 od21 an21 od22 an22 od23 an23 od24 an24 od25 an25 : Option Addr} {sl0 sl1 sl2 sl3 sl4 sl5 sl6 sl7 sl8 sl9 sl10 sl11 sl12 sl13 sl14 sl15 sl16 sl17 sl18 sl19 sl20 sl21 sl22 sl23 sl24 sl25 : Array (Option Value)} {oc0 kV0 dc0 pm0 cd0 ct0 oc1 kV1 dc1 pm1 cd1 ct1 oc2 kV2 dc2 pm2 cd2 ct2 oc3 kV3 dc3 pm3 cd3 ct3 oc4 kV4 dc4 pm4 cd4 ct4 oc5 kV5 dc5 pm5 cd5 ct5 oc6 kV6 dc6 pm6 cd6 ct6 oc7 kV7 dc7 pm7 cd7 ct7 oc8 kV8 dc8 pm8 cd8 ct8 oc9 kV9 dc9 pm9 cd9 ct9 oc10 kV10 dc10 pm10 cd10 ct10 oc11 kV11 dc11 pm11 cd11 ct11 oc12 kV12 dc12 pm12 cd12 ct12 oc13 kV13 dc13 pm13 cd13 ct13 oc14 kV14 dc14 pm14 cd14 ct14 oc15 kV15 dc15 pm15 cd15 ct15 oc16 kV16 dc16 pm16 cd16 ct16 oc17 kV17 dc17 pm17 cd17 ct17 oc18 kV18 dc18 pm18 cd18 ct18 oc19 kV19 dc19 pm19 cd19 ct19 oc20 kV20 dc20 pm20 cd20 ct20 oc21 kV21 dc21 pm21 cd21 ct21 oc22 kV22 dc22 pm22 cd22 ct22 oc23 kV23 dc23 pm23 cd23 ct23 oc24 kV24 dc24 pm24 cd24 ct24 oc25 kV25 dc25 pm25 cd25 ct25 : Value}
    (a0 : PySem.W.nsIn K mainGlobals "is_whole" = some (some (.ref f0))) (l0 : K.lookup f0 = some ⟨oc0, od0, .func (PySem.W.fnOf "is_whole" "is_whole" (defArgs sIsWhole) (defBody sIsWhole) (defScope sIsWhole) .none kV0 dc0 pm0 an0 cd0 ct0), sl0⟩) (c0 : PySem.W.codeIn K cd0 "is_whole" = true) (k0 : PySem.W.keepIn K (.ref f0) = true)
    (a1 : PySem.W.nsIn K mainGlobals "is_between" = some (some (.ref f1))) (l1 : K.lookup f1 = some ⟨oc1, od1, .func (PySem.W.fnOf "is_between" "is_between" (defArgs sIsBetween) (defBody sIsBetween) (defScope sIsBetween) .none kV1 dc1 pm1 an1 cd1 ct1), sl1⟩) (c1 : PySem.W.codeIn K cd1 "is_between" = true) (k1 : PySem.W.keepIn K (.ref f1) = true)
    (a2 : PySem.W.nsIn K mainGlobals "is_tree_node" = some (some (.ref f2))) (l2 : K.lookup f2 = some ⟨oc2, od2, .func (PySem.W.fnOf "is_tree_node" "is_tree_node" (defArgs sIsTreeNode) (defBody sIsTreeNode) (defScope sIsTreeNode) .none kV2 dc2 pm2 an2 cd2 ct2), sl2⟩) (c2 : PySem.W.codeIn K cd2 "is_tree_node" = true) (k2 : PySem.W.keepIn K (.ref f2) = true)
    (a3 : PySem.W.nsIn K mainGlobals "check_size" = some (some (.ref f3))) (l3 : K.lookup f3 = some ⟨oc3, od3, .func (PySem.W.fnOf "check_size" "check_size" (defArgs sCheckSize) (defBody sCheckSize) (defScope sCheckSize) .none kV3 dc3 pm3 an3 cd3 ct3), sl3⟩) (c3 : PySem.W.codeIn K cd3 "check_size" = true) (k3 : PySem.W.keepIn K (.ref f3) = true)
    (a4 : PySem.W.nsIn K mainGlobals "check_node" = some (some (.ref f4))) (l4 : K.lookup f4 = some ⟨oc4, od4, .func (PySem.W.fnOf "check_node" "check_node" (defArgs sCheckNode) (defBody sCheckNode) (defScope sCheckNode) .none kV4 dc4 pm4 an4 cd4 ct4), sl4⟩) (c4 : PySem.W.codeIn K cd4 "check_node" = true) (k4 : PySem.W.keepIn K (.ref f4) = true)
    (a5 : PySem.W.nsIn K mainGlobals "check_number" = some (some (.ref f5))) (l5 : K.lookup f5 = some ⟨oc5, od5, .func (PySem.W.fnOf "check_number" "check_number" (defArgs sCheckNumber) (defBody sCheckNumber) (defScope sCheckNumber) .none kV5 dc5 pm5 an5 cd5 ct5), sl5⟩) (c5 : PySem.W.codeIn K cd5 "check_number" = true) (k5 : PySem.W.keepIn K (.ref f5) = true)
    (a6 : PySem.W.nsIn K mainGlobals "power_within" = some (some (.ref f6))) (l6 : K.lookup f6 = some ⟨oc6, od6, .func (PySem.W.fnOf "power_within" "power_within" (defArgs sPowerWithin) (defBody sPowerWithin) (defScope sPowerWithin) .none kV6 dc6 pm6 an6 cd6 ct6), sl6⟩) (c6 : PySem.W.codeIn K cd6 "power_within" = true) (k6 : PySem.W.keepIn K (.ref f6) = true)
    (a7 : PySem.W.nsIn K mainGlobals "peaks" = some (some (.ref f7))) (l7 : K.lookup f7 = some ⟨oc7, od7, .func (PySem.W.fnOf "peaks" "peaks" (defArgs sPeaks) (defBody sPeaks) (defScope sPeaks) .none kV7 dc7 pm7 an7 cd7 ct7), sl7⟩) (c7 : PySem.W.codeIn K cd7 "peaks" = true) (k7 : PySem.W.keepIn K (.ref f7) = true)
    (a8 : PySem.W.nsIn K mainGlobals "edges" = some (some (.ref f8))) (l8 : K.lookup f8 = some ⟨oc8, od8, .func (PySem.W.fnOf "edges" "edges" (defArgs sEdges) (defBody sEdges) (defScope sEdges) .none kV8 dc8 pm8 an8 cd8 ct8), sl8⟩) (c8 : PySem.W.codeIn K cd8 "edges" = true) (k8 : PySem.W.keepIn K (.ref f8) = true)
    (a9 : PySem.W.nsIn K mainGlobals "is_node" = some (some (.ref f9))) (l9 : K.lookup f9 = some ⟨oc9, od9, .func (PySem.W.fnOf "is_node" "is_node" (defArgs sIsNode) (defBody sIsNode) (defScope sIsNode) .none kV9 dc9 pm9 an9 cd9 ct9), sl9⟩) (c9 : PySem.W.codeIn K cd9 "is_node" = true) (k9 : PySem.W.keepIn K (.ref f9) = true)
    (a10 : PySem.W.nsIn K mainGlobals "halves" = some (some (.ref f10))) (l10 : K.lookup f10 = some ⟨oc10, od10, .func (PySem.W.fnOf "halves" "halves" (defArgs sHalves) (defBody sHalves) (defScope sHalves) .none kV10 dc10 pm10 an10 cd10 ct10), sl10⟩) (c10 : PySem.W.codeIn K cd10 "halves" = true) (k10 : PySem.W.keepIn K (.ref f10) = true)
    (a11 : PySem.W.nsIn K mainGlobals "parent" = some (some (.ref f11))) (l11 : K.lookup f11 = some ⟨oc11, od11, .func (PySem.W.fnOf "parent" "parent" (defArgs sParent) (defBody sParent) (defScope sParent) .none kV11 dc11 pm11 an11 cd11 ct11), sl11⟩) (c11 : PySem.W.codeIn K cd11 "parent" = true) (k11 : PySem.W.keepIn K (.ref f11) = true)
    (a12 : PySem.W.nsIn K mainGlobals "sibling" = some (some (.ref f12))) (l12 : K.lookup f12 = some ⟨oc12, od12, .func (PySem.W.fnOf "sibling" "sibling" (defArgs sSibling) (defBody sSibling) (defScope sSibling) .none kV12 dc12 pm12 an12 cd12 ct12), sl12⟩) (c12 : PySem.W.codeIn K cd12 "sibling" = true) (k12 : PySem.W.keepIn K (.ref f12) = true)
    (a13 : PySem.W.nsIn K mainGlobals "node_count" = some (some (.ref f13))) (l13 : K.lookup f13 = some ⟨oc13, od13, .func (PySem.W.fnOf "node_count" "node_count" (defArgs sNodeCount) (defBody sNodeCount) (defScope sNodeCount) .none kV13 dc13 pm13 an13 cd13 ct13), sl13⟩) (c13 : PySem.W.codeIn K cd13 "node_count" = true) (k13 : PySem.W.keepIn K (.ref f13) = true)
    (a14 : PySem.W.nsIn K mainGlobals "common_count" = some (some (.ref f14))) (l14 : K.lookup f14 = some ⟨oc14, od14, .func (PySem.W.fnOf "common_count" "common_count" (defArgs sCommonCount) (defBody sCommonCount) (defScope sCommonCount) .none kV14 dc14 pm14 an14 cd14 ct14), sl14⟩) (c14 : PySem.W.codeIn K cd14 "common_count" = true) (k14 : PySem.W.keepIn K (.ref f14) = true)
    (a15 : PySem.W.nsIn K mainGlobals "height_count" = some (some (.ref f15))) (l15 : K.lookup f15 = some ⟨oc15, od15, .func (PySem.W.fnOf "height_count" "height_count" (defArgs sHeightCount) (defBody sHeightCount) (defScope sHeightCount) .none kV15 dc15 pm15 an15 cd15 ct15), sl15⟩) (c15 : PySem.W.codeIn K cd15 "height_count" = true) (k15 : PySem.W.keepIn K (.ref f15) = true)
    (a16 : PySem.W.nsIn K mainGlobals "_law_bag" = some (some (.ref f16))) (l16 : K.lookup f16 = some ⟨oc16, od16, .func (PySem.W.fnOf "_law_bag" "_law_bag" (defArgs sLawBag) (defBody sLawBag) (defScope sLawBag) .none kV16 dc16 pm16 an16 cd16 ct16), sl16⟩) (c16 : PySem.W.codeIn K cd16 "_law_bag" = true) (k16 : PySem.W.keepIn K (.ref f16) = true)
    (a17 : PySem.W.nsIn K mainGlobals "_law_pick" = some (some (.ref f17))) (l17 : K.lookup f17 = some ⟨oc17, od17, .func (PySem.W.fnOf "_law_pick" "_law_pick" (defArgs sLawPick) (defBody sLawPick) (defScope sLawPick) .none kV17 dc17 pm17 an17 cd17 ct17), sl17⟩) (c17 : PySem.W.codeIn K cd17 "_law_pick" = true) (k17 : PySem.W.keepIn K (.ref f17) = true)
    (a18 : PySem.W.nsIn K mainGlobals "_law_size" = some (some (.ref f18))) (l18 : K.lookup f18 = some ⟨oc18, od18, .func (PySem.W.fnOf "_law_size" "_law_size" (defArgs sLawSize) (defBody sLawSize) (defScope sLawSize) .none kV18 dc18 pm18 an18 cd18 ct18), sl18⟩) (c18 : PySem.W.codeIn K cd18 "_law_size" = true) (k18 : PySem.W.keepIn K (.ref f18) = true)
    (a19 : PySem.W.nsIn K mainGlobals "_law_class" = some (some (.ref f19))) (l19 : K.lookup f19 = some ⟨oc19, od19, .func (PySem.W.fnOf "_law_class" "_law_class" (defArgs sLawClass) (defBody sLawClass) (defScope sLawClass) .none kV19 dc19 pm19 an19 cd19 ct19), sl19⟩) (c19 : PySem.W.codeIn K cd19 "_law_class" = true) (k19 : PySem.W.keepIn K (.ref f19) = true)
    (a20 : PySem.W.nsIn K mainGlobals "_law_bad_integers" = some (some (.ref f20))) (l20 : K.lookup f20 = some ⟨oc20, od20, .func (PySem.W.fnOf "_law_bad_integers" "_law_bad_integers" (defArgs sLawBadIntegers) (defBody sLawBadIntegers) (defScope sLawBadIntegers) .none kV20 dc20 pm20 an20 cd20 ct20), sl20⟩) (c20 : PySem.W.codeIn K cd20 "_law_bad_integers" = true) (k20 : PySem.W.keepIn K (.ref f20) = true)
    (a21 : PySem.W.nsIn K mainGlobals "_law_bad_nodes" = some (some (.ref f21))) (l21 : K.lookup f21 = some ⟨oc21, od21, .func (PySem.W.fnOf "_law_bad_nodes" "_law_bad_nodes" (defArgs sLawBadNodes) (defBody sLawBadNodes) (defScope sLawBadNodes) .none kV21 dc21 pm21 an21 cd21 ct21), sl21⟩) (c21 : PySem.W.codeIn K cd21 "_law_bad_nodes" = true) (k21 : PySem.W.keepIn K (.ref f21) = true)
    (a22 : PySem.W.nsIn K mainGlobals "_law_called" = some (some (.ref f22))) (l22 : K.lookup f22 = some ⟨oc22, od22, .func (PySem.W.fnOf "_law_called" "_law_called" (defArgs sLawCalled) (defBody sLawCalled) (defScope sLawCalled) .none kV22 dc22 pm22 an22 cd22 ct22), sl22⟩) (c22 : PySem.W.codeIn K cd22 "_law_called" = true) (k22 : PySem.W.keepIn K (.ref f22) = true)
    (a23 : PySem.W.nsIn K mainGlobals "_law_told" = some (some (.ref f23))) (l23 : K.lookup f23 = some ⟨oc23, od23, .func (PySem.W.fnOf "_law_told" "_law_told" (defArgs sLawTold) (defBody sLawTold) (defScope sLawTold) .none kV23 dc23 pm23 an23 cd23 ct23), sl23⟩) (c23 : PySem.W.codeIn K cd23 "_law_told" = true) (k23 : PySem.W.keepIn K (.ref f23) = true)
    (a24 : PySem.W.nsIn K mainGlobals "_law_right" = some (some (.ref f24))) (l24 : K.lookup f24 = some ⟨oc24, od24, .func (PySem.W.fnOf "_law_right" "_law_right" (defArgs sLawRight) (defBody sLawRight) (defScope sLawRight) .none kV24 dc24 pm24 an24 cd24 ct24), sl24⟩) (c24 : PySem.W.codeIn K cd24 "_law_right" = true) (k24 : PySem.W.keepIn K (.ref f24) = true)
    (a25 : PySem.W.nsIn K mainGlobals "law" = some (some (.ref f25))) (l25 : K.lookup f25 = some ⟨oc25, od25, .func (PySem.W.fnOf "law" "law" (defArgs sLaw) (defBody sLaw) (defScope sLaw) .none kV25 dc25 pm25 an25 cd25 ct25), sl25⟩) (c25 : PySem.W.codeIn K cd25 "law" = true) (k25 : PySem.W.keepIn K (.ref f25) = true)
    (z_ValueError : PySem.W.nsIn K mainGlobals "ValueError" = some none)
    (z_bool : PySem.W.nsIn K mainGlobals "bool" = some none)
    (z_int : PySem.W.nsIn K mainGlobals "int" = some none)
    (z_isinstance : PySem.W.nsIn K mainGlobals "isinstance" = some none)
    (z_len : PySem.W.nsIn K mainGlobals "len" = some none)
    (z_max : PySem.W.nsIn K mainGlobals "max" = some none)
    (z_min : PySem.W.nsIn K mainGlobals "min" = some none)
    (z_range : PySem.W.nsIn K mainGlobals "range" = some none)
    (z_repr : PySem.W.nsIn K mainGlobals "repr" = some none)
    (z_tuple : PySem.W.nsIn K mainGlobals "tuple" = some none)
    {t_MOST_ENTRIES : Tok} (g_MOST_ENTRIES : PySem.W.nsIn K mainGlobals "MOST_ENTRIES" = some (some (.int 1000000000000000000000000000000 t_MOST_ENTRIES)))
    {CInvalidSpans CInvalidNodes CInvalidBounds CInvalidText COverBudget CInvalidSize CInvalidEntry CInvalidNode CInvalidSpan CInvalidNumber CInvalidHeight CInvalidBudget CNothing CInvalidOperation CInvalidCommand CLogError : Addr}
    (n_InvalidSpans : PySem.W.nsIn K mainGlobals "InvalidSpans" = some (some (.ref CInvalidSpans)))
    (i_InvalidSpans : PySem.W.isClsIn K CInvalidSpans = true)
    (t_InvalidSpans : PySem.W.typeIn K (.ref CInvalidSpans) = some (.type "type"))
    (n_InvalidNodes : PySem.W.nsIn K mainGlobals "InvalidNodes" = some (some (.ref CInvalidNodes)))
    (i_InvalidNodes : PySem.W.isClsIn K CInvalidNodes = true)
    (t_InvalidNodes : PySem.W.typeIn K (.ref CInvalidNodes) = some (.type "type"))
    (n_InvalidBounds : PySem.W.nsIn K mainGlobals "InvalidBounds" = some (some (.ref CInvalidBounds)))
    (i_InvalidBounds : PySem.W.isClsIn K CInvalidBounds = true)
    (t_InvalidBounds : PySem.W.typeIn K (.ref CInvalidBounds) = some (.type "type"))
    (n_InvalidText : PySem.W.nsIn K mainGlobals "InvalidText" = some (some (.ref CInvalidText)))
    (i_InvalidText : PySem.W.isClsIn K CInvalidText = true)
    (t_InvalidText : PySem.W.typeIn K (.ref CInvalidText) = some (.type "type"))
    (n_OverBudget : PySem.W.nsIn K mainGlobals "OverBudget" = some (some (.ref COverBudget)))
    (i_OverBudget : PySem.W.isClsIn K COverBudget = true)
    (t_OverBudget : PySem.W.typeIn K (.ref COverBudget) = some (.type "type"))
    (n_InvalidSize : PySem.W.nsIn K mainGlobals "InvalidSize" = some (some (.ref CInvalidSize)))
    (i_InvalidSize : PySem.W.isClsIn K CInvalidSize = true)
    (t_InvalidSize : PySem.W.typeIn K (.ref CInvalidSize) = some (.type "type"))
    (n_InvalidEntry : PySem.W.nsIn K mainGlobals "InvalidEntry" = some (some (.ref CInvalidEntry)))
    (i_InvalidEntry : PySem.W.isClsIn K CInvalidEntry = true)
    (t_InvalidEntry : PySem.W.typeIn K (.ref CInvalidEntry) = some (.type "type"))
    (n_InvalidNode : PySem.W.nsIn K mainGlobals "InvalidNode" = some (some (.ref CInvalidNode)))
    (i_InvalidNode : PySem.W.isClsIn K CInvalidNode = true)
    (t_InvalidNode : PySem.W.typeIn K (.ref CInvalidNode) = some (.type "type"))
    (n_InvalidSpan : PySem.W.nsIn K mainGlobals "InvalidSpan" = some (some (.ref CInvalidSpan)))
    (i_InvalidSpan : PySem.W.isClsIn K CInvalidSpan = true)
    (t_InvalidSpan : PySem.W.typeIn K (.ref CInvalidSpan) = some (.type "type"))
    (n_InvalidNumber : PySem.W.nsIn K mainGlobals "InvalidNumber" = some (some (.ref CInvalidNumber)))
    (i_InvalidNumber : PySem.W.isClsIn K CInvalidNumber = true)
    (t_InvalidNumber : PySem.W.typeIn K (.ref CInvalidNumber) = some (.type "type"))
    (n_InvalidHeight : PySem.W.nsIn K mainGlobals "InvalidHeight" = some (some (.ref CInvalidHeight)))
    (i_InvalidHeight : PySem.W.isClsIn K CInvalidHeight = true)
    (t_InvalidHeight : PySem.W.typeIn K (.ref CInvalidHeight) = some (.type "type"))
    (n_InvalidBudget : PySem.W.nsIn K mainGlobals "InvalidBudget" = some (some (.ref CInvalidBudget)))
    (i_InvalidBudget : PySem.W.isClsIn K CInvalidBudget = true)
    (t_InvalidBudget : PySem.W.typeIn K (.ref CInvalidBudget) = some (.type "type"))
    (n_Nothing : PySem.W.nsIn K mainGlobals "Nothing" = some (some (.ref CNothing)))
    (i_Nothing : PySem.W.isClsIn K CNothing = true)
    (t_Nothing : PySem.W.typeIn K (.ref CNothing) = some (.type "type"))
    (n_InvalidOperation : PySem.W.nsIn K mainGlobals "InvalidOperation" = some (some (.ref CInvalidOperation)))
    (i_InvalidOperation : PySem.W.isClsIn K CInvalidOperation = true)
    (t_InvalidOperation : PySem.W.typeIn K (.ref CInvalidOperation) = some (.type "type"))
    (n_InvalidCommand : PySem.W.nsIn K mainGlobals "InvalidCommand" = some (some (.ref CInvalidCommand)))
    (i_InvalidCommand : PySem.W.isClsIn K CInvalidCommand = true)
    (t_InvalidCommand : PySem.W.typeIn K (.ref CInvalidCommand) = some (.type "type"))
    (n_LogError : PySem.W.nsIn K mainGlobals "LogError" = some (some (.ref CLogError)))
    (i_LogError : PySem.W.isClsIn K CLogError = true)
    (t_LogError : PySem.W.typeIn K (.ref CLogError) = some (.type "type"))
    (b_LogError : PySem.W.subIn K (.ref CLogError) (.type "BaseException") = some true)
    (d_LogError : PySem.W.hasDictIn K CLogError = true)
    (x_n : PySem.W.specialIn K (.builtin "object.__class__") "__get__" = some (some (.builtin "getset_descriptor.__get__")))
    (x_t : PySem.W.takesIn K (.builtin "object.__class__") = some true)
    (k_InvalidSize : PySem.W.keepIn K (.ref CInvalidSize) = true)
    (q_InvalidSize : PySem.W.excIn K CInvalidSize [.type "ValueError", .type "Exception", .type "BaseException", .type "object"] "ValueError.__new__" = true)
    (b_InvalidSize : PySem.W.subIn K (.ref CInvalidSize) (.type "BaseException") = some true)
    (g_InvalidSize : PySem.W.findIn K (.ref CInvalidSize) "__getattribute__" = some (some (.builtin "BaseException.__getattribute__")))
    (a_InvalidSize : PySem.W.findIn K (.ref CInvalidSize) "__getattr__" = some none)
    (d_InvalidSize : PySem.W.hasDictIn K CInvalidSize = true)
    (c_InvalidSize : PySem.W.findIn K (.ref CInvalidSize) "__class__" = some (some (.builtin "object.__class__")))
    (m_InvalidSize : PySem.W.mroIn K CInvalidSize (.type "object") = some true)
    (v_InvalidSize : PySem.W.subIn K (.ref CInvalidSize) (.type "ValueError") = some true)
    (l_InvalidSize : PySem.W.subIn K (.ref CInvalidSize) (.ref CLogError) = some true)
    (s_InvalidSize_InvalidSpans : PySem.W.subIn K (.ref CInvalidSize) (.ref CInvalidSpans) = some false)
    (s_InvalidSize_InvalidNodes : PySem.W.subIn K (.ref CInvalidSize) (.ref CInvalidNodes) = some false)
    (s_InvalidSize_InvalidBounds : PySem.W.subIn K (.ref CInvalidSize) (.ref CInvalidBounds) = some false)
    (s_InvalidSize_InvalidText : PySem.W.subIn K (.ref CInvalidSize) (.ref CInvalidText) = some false)
    (s_InvalidSize_OverBudget : PySem.W.subIn K (.ref CInvalidSize) (.ref COverBudget) = some false)
    (s_InvalidSize_InvalidSize : PySem.W.subIn K (.ref CInvalidSize) (.ref CInvalidSize) = some true)
    (s_InvalidSize_InvalidEntry : PySem.W.subIn K (.ref CInvalidSize) (.ref CInvalidEntry) = some false)
    (s_InvalidSize_InvalidNode : PySem.W.subIn K (.ref CInvalidSize) (.ref CInvalidNode) = some false)
    (s_InvalidSize_InvalidSpan : PySem.W.subIn K (.ref CInvalidSize) (.ref CInvalidSpan) = some false)
    (s_InvalidSize_InvalidNumber : PySem.W.subIn K (.ref CInvalidSize) (.ref CInvalidNumber) = some false)
    (s_InvalidSize_InvalidHeight : PySem.W.subIn K (.ref CInvalidSize) (.ref CInvalidHeight) = some false)
    (s_InvalidSize_InvalidBudget : PySem.W.subIn K (.ref CInvalidSize) (.ref CInvalidBudget) = some false)
    (s_InvalidSize_Nothing : PySem.W.subIn K (.ref CInvalidSize) (.ref CNothing) = some false)
    (s_InvalidSize_InvalidOperation : PySem.W.subIn K (.ref CInvalidSize) (.ref CInvalidOperation) = some false)
    (s_InvalidSize_InvalidCommand : PySem.W.subIn K (.ref CInvalidSize) (.ref CInvalidCommand) = some false)
    (k_InvalidNode : PySem.W.keepIn K (.ref CInvalidNode) = true)
    (q_InvalidNode : PySem.W.excIn K CInvalidNode [.type "ValueError", .type "Exception", .type "BaseException", .type "object"] "ValueError.__new__" = true)
    (b_InvalidNode : PySem.W.subIn K (.ref CInvalidNode) (.type "BaseException") = some true)
    (g_InvalidNode : PySem.W.findIn K (.ref CInvalidNode) "__getattribute__" = some (some (.builtin "BaseException.__getattribute__")))
    (a_InvalidNode : PySem.W.findIn K (.ref CInvalidNode) "__getattr__" = some none)
    (d_InvalidNode : PySem.W.hasDictIn K CInvalidNode = true)
    (c_InvalidNode : PySem.W.findIn K (.ref CInvalidNode) "__class__" = some (some (.builtin "object.__class__")))
    (m_InvalidNode : PySem.W.mroIn K CInvalidNode (.type "object") = some true)
    (v_InvalidNode : PySem.W.subIn K (.ref CInvalidNode) (.type "ValueError") = some true)
    (l_InvalidNode : PySem.W.subIn K (.ref CInvalidNode) (.ref CLogError) = some true)
    (s_InvalidNode_InvalidSpans : PySem.W.subIn K (.ref CInvalidNode) (.ref CInvalidSpans) = some false)
    (s_InvalidNode_InvalidNodes : PySem.W.subIn K (.ref CInvalidNode) (.ref CInvalidNodes) = some false)
    (s_InvalidNode_InvalidBounds : PySem.W.subIn K (.ref CInvalidNode) (.ref CInvalidBounds) = some false)
    (s_InvalidNode_InvalidText : PySem.W.subIn K (.ref CInvalidNode) (.ref CInvalidText) = some false)
    (s_InvalidNode_OverBudget : PySem.W.subIn K (.ref CInvalidNode) (.ref COverBudget) = some false)
    (s_InvalidNode_InvalidSize : PySem.W.subIn K (.ref CInvalidNode) (.ref CInvalidSize) = some false)
    (s_InvalidNode_InvalidEntry : PySem.W.subIn K (.ref CInvalidNode) (.ref CInvalidEntry) = some false)
    (s_InvalidNode_InvalidNode : PySem.W.subIn K (.ref CInvalidNode) (.ref CInvalidNode) = some true)
    (s_InvalidNode_InvalidSpan : PySem.W.subIn K (.ref CInvalidNode) (.ref CInvalidSpan) = some false)
    (s_InvalidNode_InvalidNumber : PySem.W.subIn K (.ref CInvalidNode) (.ref CInvalidNumber) = some false)
    (s_InvalidNode_InvalidHeight : PySem.W.subIn K (.ref CInvalidNode) (.ref CInvalidHeight) = some false)
    (s_InvalidNode_InvalidBudget : PySem.W.subIn K (.ref CInvalidNode) (.ref CInvalidBudget) = some false)
    (s_InvalidNode_Nothing : PySem.W.subIn K (.ref CInvalidNode) (.ref CNothing) = some false)
    (s_InvalidNode_InvalidOperation : PySem.W.subIn K (.ref CInvalidNode) (.ref CInvalidOperation) = some false)
    (s_InvalidNode_InvalidCommand : PySem.W.subIn K (.ref CInvalidNode) (.ref CInvalidCommand) = some false)
    (k_InvalidNumber : PySem.W.keepIn K (.ref CInvalidNumber) = true)
    (q_InvalidNumber : PySem.W.excIn K CInvalidNumber [.type "ValueError", .type "Exception", .type "BaseException", .type "object"] "ValueError.__new__" = true)
    (b_InvalidNumber : PySem.W.subIn K (.ref CInvalidNumber) (.type "BaseException") = some true)
    (g_InvalidNumber : PySem.W.findIn K (.ref CInvalidNumber) "__getattribute__" = some (some (.builtin "BaseException.__getattribute__")))
    (a_InvalidNumber : PySem.W.findIn K (.ref CInvalidNumber) "__getattr__" = some none)
    (d_InvalidNumber : PySem.W.hasDictIn K CInvalidNumber = true)
    (c_InvalidNumber : PySem.W.findIn K (.ref CInvalidNumber) "__class__" = some (some (.builtin "object.__class__")))
    (m_InvalidNumber : PySem.W.mroIn K CInvalidNumber (.type "object") = some true)
    (v_InvalidNumber : PySem.W.subIn K (.ref CInvalidNumber) (.type "ValueError") = some true)
    (l_InvalidNumber : PySem.W.subIn K (.ref CInvalidNumber) (.ref CLogError) = some true)
    (s_InvalidNumber_InvalidSpans : PySem.W.subIn K (.ref CInvalidNumber) (.ref CInvalidSpans) = some false)
    (s_InvalidNumber_InvalidNodes : PySem.W.subIn K (.ref CInvalidNumber) (.ref CInvalidNodes) = some false)
    (s_InvalidNumber_InvalidBounds : PySem.W.subIn K (.ref CInvalidNumber) (.ref CInvalidBounds) = some false)
    (s_InvalidNumber_InvalidText : PySem.W.subIn K (.ref CInvalidNumber) (.ref CInvalidText) = some false)
    (s_InvalidNumber_OverBudget : PySem.W.subIn K (.ref CInvalidNumber) (.ref COverBudget) = some false)
    (s_InvalidNumber_InvalidSize : PySem.W.subIn K (.ref CInvalidNumber) (.ref CInvalidSize) = some false)
    (s_InvalidNumber_InvalidEntry : PySem.W.subIn K (.ref CInvalidNumber) (.ref CInvalidEntry) = some false)
    (s_InvalidNumber_InvalidNode : PySem.W.subIn K (.ref CInvalidNumber) (.ref CInvalidNode) = some false)
    (s_InvalidNumber_InvalidSpan : PySem.W.subIn K (.ref CInvalidNumber) (.ref CInvalidSpan) = some false)
    (s_InvalidNumber_InvalidNumber : PySem.W.subIn K (.ref CInvalidNumber) (.ref CInvalidNumber) = some true)
    (s_InvalidNumber_InvalidHeight : PySem.W.subIn K (.ref CInvalidNumber) (.ref CInvalidHeight) = some false)
    (s_InvalidNumber_InvalidBudget : PySem.W.subIn K (.ref CInvalidNumber) (.ref CInvalidBudget) = some false)
    (s_InvalidNumber_Nothing : PySem.W.subIn K (.ref CInvalidNumber) (.ref CNothing) = some false)
    (s_InvalidNumber_InvalidOperation : PySem.W.subIn K (.ref CInvalidNumber) (.ref CInvalidOperation) = some false)
    (s_InvalidNumber_InvalidCommand : PySem.W.subIn K (.ref CInvalidNumber) (.ref CInvalidCommand) = some false)
    : ∃ fd : FuncData, (∀ (s : Shared) (v : Value), BindsTo s fd ⟨[v], []⟩ [("script", v)]) ∧ ∀ base : Heap, K.In base → base.Ns mainGlobals mg → FnOk l.prog w K mg base CX0 11 fa fd ["script"] (spLaw K) := by
  have e := hfa.symm.trans (PySem.W.mg_of X G a25)
  cases e
  have FIsWhole := fun_mk (st := sIsWhole) l0 c0 k0
  have FIsBetween := fun_mk (st := sIsBetween) l1 c1 k1
  have FIsTreeNode := fun_mk (st := sIsTreeNode) l2 c2 k2
  have FCheckSize := fun_mk (st := sCheckSize) l3 c3 k3
  have FCheckNode := fun_mk (st := sCheckNode) l4 c4 k4
  have FCheckNumber := fun_mk (st := sCheckNumber) l5 c5 k5
  have FPowerWithin := fun_mk (st := sPowerWithin) l6 c6 k6
  have FPeaks := fun_mk (st := sPeaks) l7 c7 k7
  have FEdges := fun_mk (st := sEdges) l8 c8 k8
  have FIsNode := fun_mk (st := sIsNode) l9 c9 k9
  have FHalves := fun_mk (st := sHalves) l10 c10 k10
  have FParent := fun_mk (st := sParent) l11 c11 k11
  have FSibling := fun_mk (st := sSibling) l12 c12 k12
  have FNodeCount := fun_mk (st := sNodeCount) l13 c13 k13
  have FCommonCount := fun_mk (st := sCommonCount) l14 c14 k14
  have FHeightCount := fun_mk (st := sHeightCount) l15 c15 k15
  have FLawBag := fun_mk (st := sLawBag) l16 c16 k16
  have FLawPick := fun_mk (st := sLawPick) l17 c17 k17
  have FLawSize := fun_mk (st := sLawSize) l18 c18 k18
  have FLawClass := fun_mk (st := sLawClass) l19 c19 k19
  have FLawBadIntegers := fun_mk (st := sLawBadIntegers) l20 c20 k20
  have FLawBadNodes := fun_mk (st := sLawBadNodes) l21 c21 k21
  have FLawCalled := fun_mk (st := sLawCalled) l22 c22 k22
  have FLawTold := fun_mk (st := sLawTold) l23 c23 k23
  have FLawRight := fun_mk (st := sLawRight) l24 c24 k24
  have FLaw := fun_mk (st := sLaw) l25 c25 k25
  have AIsWhole : At K mg "is_whole" f0 (PySem.W.fnOf "is_whole" "is_whole" (defArgs sIsWhole) (defBody sIsWhole) (defScope sIsWhole) .none kV0 dc0 pm0 an0 cd0 ct0) ["value"] := ⟨PySem.W.mg_of X G a0, k0, FIsWhole.binds (ps := ["value"]) fun _ _ _ _ _ _ us hl => match us, hl with | [_], _ => rfl⟩
  have AIsBetween : At K mg "is_between" f1 (PySem.W.fnOf "is_between" "is_between" (defArgs sIsBetween) (defBody sIsBetween) (defScope sIsBetween) .none kV1 dc1 pm1 an1 cd1 ct1) ["value", "low", "high"] := ⟨PySem.W.mg_of X G a1, k1, FIsBetween.binds (ps := ["value", "low", "high"]) fun _ _ _ _ _ _ us hl => match us, hl with | [_, _, _], _ => rfl⟩
  have AIsTreeNode : At K mg "is_tree_node" f2 (PySem.W.fnOf "is_tree_node" "is_tree_node" (defArgs sIsTreeNode) (defBody sIsTreeNode) (defScope sIsTreeNode) .none kV2 dc2 pm2 an2 cd2 ct2) ["size", "value"] := ⟨PySem.W.mg_of X G a2, k2, FIsTreeNode.binds (ps := ["size", "value"]) fun _ _ _ _ _ _ us hl => match us, hl with | [_, _], _ => rfl⟩
  have ACheckSize : At K mg "check_size" f3 (PySem.W.fnOf "check_size" "check_size" (defArgs sCheckSize) (defBody sCheckSize) (defScope sCheckSize) .none kV3 dc3 pm3 an3 cd3 ct3) ["size"] := ⟨PySem.W.mg_of X G a3, k3, FCheckSize.binds (ps := ["size"]) fun _ _ _ _ _ _ us hl => match us, hl with | [_], _ => rfl⟩
  have ACheckNode : At K mg "check_node" f4 (PySem.W.fnOf "check_node" "check_node" (defArgs sCheckNode) (defBody sCheckNode) (defScope sCheckNode) .none kV4 dc4 pm4 an4 cd4 ct4) ["size", "node"] := ⟨PySem.W.mg_of X G a4, k4, FCheckNode.binds (ps := ["size", "node"]) fun _ _ _ _ _ _ us hl => match us, hl with | [_, _], _ => rfl⟩
  have ACheckNumber : At K mg "check_number" f5 (PySem.W.fnOf "check_number" "check_number" (defArgs sCheckNumber) (defBody sCheckNumber) (defScope sCheckNumber) .none kV5 dc5 pm5 an5 cd5 ct5) ["number"] := ⟨PySem.W.mg_of X G a5, k5, FCheckNumber.binds (ps := ["number"]) fun _ _ _ _ _ _ us hl => match us, hl with | [_], _ => rfl⟩
  have APowerWithin : At K mg "power_within" f6 (PySem.W.fnOf "power_within" "power_within" (defArgs sPowerWithin) (defBody sPowerWithin) (defScope sPowerWithin) .none kV6 dc6 pm6 an6 cd6 ct6) ["number"] := ⟨PySem.W.mg_of X G a6, k6, FPowerWithin.binds (ps := ["number"]) fun _ _ _ _ _ _ us hl => match us, hl with | [_], _ => rfl⟩
  have APeaks : At K mg "peaks" f7 (PySem.W.fnOf "peaks" "peaks" (defArgs sPeaks) (defBody sPeaks) (defScope sPeaks) .none kV7 dc7 pm7 an7 cd7 ct7) ["size"] := ⟨PySem.W.mg_of X G a7, k7, FPeaks.binds (ps := ["size"]) fun _ _ _ _ _ _ us hl => match us, hl with | [_], _ => rfl⟩
  have AEdges : At K mg "edges" f8 (PySem.W.fnOf "edges" "edges" (defArgs sEdges) (defBody sEdges) (defScope sEdges) .none kV8 dc8 pm8 an8 cd8 ct8) ["size"] := ⟨PySem.W.mg_of X G a8, k8, FEdges.binds (ps := ["size"]) fun _ _ _ _ _ _ us hl => match us, hl with | [_], _ => rfl⟩
  have AIsNode : At K mg "is_node" f9 (PySem.W.fnOf "is_node" "is_node" (defArgs sIsNode) (defBody sIsNode) (defScope sIsNode) .none kV9 dc9 pm9 an9 cd9 ct9) ["size", "value"] := ⟨PySem.W.mg_of X G a9, k9, FIsNode.binds (ps := ["size", "value"]) fun _ _ _ _ _ _ us hl => match us, hl with | [_, _], _ => rfl⟩
  have AHalves : At K mg "halves" f10 (PySem.W.fnOf "halves" "halves" (defArgs sHalves) (defBody sHalves) (defScope sHalves) .none kV10 dc10 pm10 an10 cd10 ct10) ["size", "node"] := ⟨PySem.W.mg_of X G a10, k10, FHalves.binds (ps := ["size", "node"]) fun _ _ _ _ _ _ us hl => match us, hl with | [_, _], _ => rfl⟩
  have AParent : At K mg "parent" f11 (PySem.W.fnOf "parent" "parent" (defArgs sParent) (defBody sParent) (defScope sParent) .none kV11 dc11 pm11 an11 cd11 ct11) ["size", "node"] := ⟨PySem.W.mg_of X G a11, k11, FParent.binds (ps := ["size", "node"]) fun _ _ _ _ _ _ us hl => match us, hl with | [_, _], _ => rfl⟩
  have ASibling : At K mg "sibling" f12 (PySem.W.fnOf "sibling" "sibling" (defArgs sSibling) (defBody sSibling) (defScope sSibling) .none kV12 dc12 pm12 an12 cd12 ct12) ["size", "node"] := ⟨PySem.W.mg_of X G a12, k12, FSibling.binds (ps := ["size", "node"]) fun _ _ _ _ _ _ us hl => match us, hl with | [_, _], _ => rfl⟩
  have ANodeCount : At K mg "node_count" f13 (PySem.W.fnOf "node_count" "node_count" (defArgs sNodeCount) (defBody sNodeCount) (defScope sNodeCount) .none kV13 dc13 pm13 an13 cd13 ct13) ["size"] := ⟨PySem.W.mg_of X G a13, k13, FNodeCount.binds (ps := ["size"]) fun _ _ _ _ _ _ us hl => match us, hl with | [_], _ => rfl⟩
  have ACommonCount : At K mg "common_count" f14 (PySem.W.fnOf "common_count" "common_count" (defArgs sCommonCount) (defBody sCommonCount) (defScope sCommonCount) .none kV14 dc14 pm14 an14 cd14 ct14) ["size", "other"] := ⟨PySem.W.mg_of X G a14, k14, FCommonCount.binds (ps := ["size", "other"]) fun _ _ _ _ _ _ us hl => match us, hl with | [_, _], _ => rfl⟩
  have AHeightCount : At K mg "height_count" f15 (PySem.W.fnOf "height_count" "height_count" (defArgs sHeightCount) (defBody sHeightCount) (defScope sHeightCount) .none kV15 dc15 pm15 an15 cd15 ct15) ["size", "number"] := ⟨PySem.W.mg_of X G a15, k15, FHeightCount.binds (ps := ["size", "number"]) fun _ _ _ _ _ _ us hl => match us, hl with | [_, _], _ => rfl⟩
  have ALawBag : At K mg "_law_bag" f16 (PySem.W.fnOf "_law_bag" "_law_bag" (defArgs sLawBag) (defBody sLawBag) (defScope sLawBag) .none kV16 dc16 pm16 an16 cd16 ct16) ["cell"] := ⟨PySem.W.mg_of X G a16, k16, FLawBag.binds (ps := ["cell"]) fun _ _ _ _ _ _ us hl => match us, hl with | [_], _ => rfl⟩
  have ALawPick : At K mg "_law_pick" f17 (PySem.W.fnOf "_law_pick" "_law_pick" (defArgs sLawPick) (defBody sLawPick) (defScope sLawPick) .none kV17 dc17 pm17 an17 cd17 ct17) ["bag", "many"] := ⟨PySem.W.mg_of X G a17, k17, FLawPick.binds (ps := ["bag", "many"]) fun _ _ _ _ _ _ us hl => match us, hl with | [_, _], _ => rfl⟩
  have ALawSize : At K mg "_law_size" f18 (PySem.W.fnOf "_law_size" "_law_size" (defArgs sLawSize) (defBody sLawSize) (defScope sLawSize) .none kV18 dc18 pm18 an18 cd18 ct18) ["bag"] := ⟨PySem.W.mg_of X G a18, k18, FLawSize.binds (ps := ["bag"]) fun _ _ _ _ _ _ us hl => match us, hl with | [_], _ => rfl⟩
  have ALawClass : At K mg "_law_class" f19 (PySem.W.fnOf "_law_class" "_law_class" (defArgs sLawClass) (defBody sLawClass) (defScope sLawClass) .none kV19 dc19 pm19 an19 cd19 ct19) ["caught"] := ⟨PySem.W.mg_of X G a19, k19, FLawClass.binds (ps := ["caught"]) fun _ _ _ _ _ _ us hl => match us, hl with | [_], _ => rfl⟩
  have ALawBadIntegers : At K mg "_law_bad_integers" f20 (PySem.W.fnOf "_law_bad_integers" "_law_bad_integers" (defArgs sLawBadIntegers) (defBody sLawBadIntegers) (defScope sLawBadIntegers) .none kV20 dc20 pm20 an20 cd20 ct20) ["low", "high"] := ⟨PySem.W.mg_of X G a20, k20, FLawBadIntegers.binds (ps := ["low", "high"]) fun _ _ _ _ _ _ us hl => match us, hl with | [_, _], _ => rfl⟩
  have ALawBadNodes : At K mg "_law_bad_nodes" f21 (PySem.W.fnOf "_law_bad_nodes" "_law_bad_nodes" (defArgs sLawBadNodes) (defBody sLawBadNodes) (defScope sLawBadNodes) .none kV21 dc21 pm21 an21 cd21 ct21) ["size"] := ⟨PySem.W.mg_of X G a21, k21, FLawBadNodes.binds (ps := ["size"]) fun _ _ _ _ _ _ us hl => match us, hl with | [_], _ => rfl⟩
  have ALawCalled : At K mg "_law_called" f22 (PySem.W.fnOf "_law_called" "_law_called" (defArgs sLawCalled) (defBody sLawCalled) (defScope sLawCalled) .none kV22 dc22 pm22 an22 cd22 ct22) ["way", "size", "more"] := ⟨PySem.W.mg_of X G a22, k22, FLawCalled.binds (ps := ["way", "size", "more"]) fun _ _ _ _ _ _ us hl => match us, hl with | [_, _, _], _ => rfl⟩
  have ALawTold : At K mg "_law_told" f23 (PySem.W.fnOf "_law_told" "_law_told" (defArgs sLawTold) (defBody sLawTold) (defScope sLawTold) .none kV23 dc23 pm23 an23 cd23 ct23) ["way", "size", "more"] := ⟨PySem.W.mg_of X G a23, k23, FLawTold.binds (ps := ["way", "size", "more"]) fun _ _ _ _ _ _ us hl => match us, hl with | [_, _, _], _ => rfl⟩
  have ALawRight : At K mg "_law_right" f24 (PySem.W.fnOf "_law_right" "_law_right" (defArgs sLawRight) (defBody sLawRight) (defScope sLawRight) .none kV24 dc24 pm24 an24 cd24 ct24) ["bag"] := ⟨PySem.W.mg_of X G a24, k24, FLawRight.binds (ps := ["bag"]) fun _ _ _ _ _ _ us hl => match us, hl with | [_], _ => rfl⟩
  have z_ValueError := PySem.W.mg_none_of X G z_ValueError
  have z_bool := PySem.W.mg_none_of X G z_bool
  have z_int := PySem.W.mg_none_of X G z_int
  have z_isinstance := PySem.W.mg_none_of X G z_isinstance
  have z_len := PySem.W.mg_none_of X G z_len
  have z_max := PySem.W.mg_none_of X G z_max
  have z_min := PySem.W.mg_none_of X G z_min
  have z_range := PySem.W.mg_none_of X G z_range
  have z_repr := PySem.W.mg_none_of X G z_repr
  have z_tuple := PySem.W.mg_none_of X G z_tuple
  have g_MOST_ENTRIES := PySem.W.mg_of X G g_MOST_ENTRIES
  refine ⟨PySem.W.fnOf "law" "law" (defArgs sLaw) (defBody sLaw) (defScope sLaw) .none kV25 dc25 pm25 an25 cd25 ct25, fun s v => .of_eq rfl, fun base _ _ => ?_⟩
  have GInvalidSpans : GF mg "InvalidSpans" CInvalidSpans := ⟨PySem.W.mg_of X G n_InvalidSpans⟩
  have GInvalidNodes : GF mg "InvalidNodes" CInvalidNodes := ⟨PySem.W.mg_of X G n_InvalidNodes⟩
  have GInvalidBounds : GF mg "InvalidBounds" CInvalidBounds := ⟨PySem.W.mg_of X G n_InvalidBounds⟩
  have GInvalidText : GF mg "InvalidText" CInvalidText := ⟨PySem.W.mg_of X G n_InvalidText⟩
  have GOverBudget : GF mg "OverBudget" COverBudget := ⟨PySem.W.mg_of X G n_OverBudget⟩
  have GInvalidSize : GF mg "InvalidSize" CInvalidSize := ⟨PySem.W.mg_of X G n_InvalidSize⟩
  have GInvalidEntry : GF mg "InvalidEntry" CInvalidEntry := ⟨PySem.W.mg_of X G n_InvalidEntry⟩
  have GInvalidNode : GF mg "InvalidNode" CInvalidNode := ⟨PySem.W.mg_of X G n_InvalidNode⟩
  have GInvalidSpan : GF mg "InvalidSpan" CInvalidSpan := ⟨PySem.W.mg_of X G n_InvalidSpan⟩
  have GInvalidNumber : GF mg "InvalidNumber" CInvalidNumber := ⟨PySem.W.mg_of X G n_InvalidNumber⟩
  have GInvalidHeight : GF mg "InvalidHeight" CInvalidHeight := ⟨PySem.W.mg_of X G n_InvalidHeight⟩
  have GInvalidBudget : GF mg "InvalidBudget" CInvalidBudget := ⟨PySem.W.mg_of X G n_InvalidBudget⟩
  have GNothing : GF mg "Nothing" CNothing := ⟨PySem.W.mg_of X G n_Nothing⟩
  have GInvalidOperation : GF mg "InvalidOperation" CInvalidOperation := ⟨PySem.W.mg_of X G n_InvalidOperation⟩
  have GInvalidCommand : GF mg "InvalidCommand" CInvalidCommand := ⟨PySem.W.mg_of X G n_InvalidCommand⟩
  have GLogError : GF mg "LogError" CLogError := ⟨PySem.W.mg_of X G n_LogError⟩
  have XInvalidSize : XF K mg "InvalidSize" CInvalidSize := ⟨PySem.W.mg_of X G n_InvalidSize, k_InvalidSize, q_InvalidSize, b_InvalidSize, t_InvalidSize⟩
  have KInvalidSize : CK K [CInvalidSpans, CInvalidNodes, CInvalidBounds, CInvalidText, COverBudget, CInvalidSize, CInvalidEntry, CInvalidNode, CInvalidSpan, CInvalidNumber, CInvalidHeight, CInvalidBudget, CNothing, CInvalidOperation, CInvalidCommand] CLogError CInvalidSize "InvalidSize" := ⟨⟨g_InvalidSize, a_InvalidSize, b_InvalidSize, d_InvalidSize, c_InvalidSize, x_n, x_t, m_InvalidSize⟩, ⟨[false, false, false, false, false, true, false, false, false, false, false, false, false, false, false], ⟨kit_of i_InvalidSpans t_InvalidSpans s_InvalidSize_InvalidSpans s_InvalidSize_InvalidSize, kit_of i_InvalidNodes t_InvalidNodes s_InvalidSize_InvalidNodes s_InvalidSize_InvalidSize, kit_of i_InvalidBounds t_InvalidBounds s_InvalidSize_InvalidBounds s_InvalidSize_InvalidSize, kit_of i_InvalidText t_InvalidText s_InvalidSize_InvalidText s_InvalidSize_InvalidSize, kit_of i_OverBudget t_OverBudget s_InvalidSize_OverBudget s_InvalidSize_InvalidSize, kit_of i_InvalidSize t_InvalidSize s_InvalidSize_InvalidSize s_InvalidSize_InvalidSize, kit_of i_InvalidEntry t_InvalidEntry s_InvalidSize_InvalidEntry s_InvalidSize_InvalidSize, kit_of i_InvalidNode t_InvalidNode s_InvalidSize_InvalidNode s_InvalidSize_InvalidSize, kit_of i_InvalidSpan t_InvalidSpan s_InvalidSize_InvalidSpan s_InvalidSize_InvalidSize, kit_of i_InvalidNumber t_InvalidNumber s_InvalidSize_InvalidNumber s_InvalidSize_InvalidSize, kit_of i_InvalidHeight t_InvalidHeight s_InvalidSize_InvalidHeight s_InvalidSize_InvalidSize, kit_of i_InvalidBudget t_InvalidBudget s_InvalidSize_InvalidBudget s_InvalidSize_InvalidSize, kit_of i_Nothing t_Nothing s_InvalidSize_Nothing s_InvalidSize_InvalidSize, kit_of i_InvalidOperation t_InvalidOperation s_InvalidSize_InvalidOperation s_InvalidSize_InvalidSize, kit_of i_InvalidCommand t_InvalidCommand s_InvalidSize_InvalidCommand s_InvalidSize_InvalidSize, trivial⟩, by decide +kernel⟩, kit_ty0 (by decide) v_InvalidSize, by decide +kernel, by decide +kernel, by decide +kernel, PySem.W.exm_ref b_LogError d_LogError t_LogError l_InvalidSize⟩
  have XInvalidNode : XF K mg "InvalidNode" CInvalidNode := ⟨PySem.W.mg_of X G n_InvalidNode, k_InvalidNode, q_InvalidNode, b_InvalidNode, t_InvalidNode⟩
  have KInvalidNode : CK K [CInvalidSpans, CInvalidNodes, CInvalidBounds, CInvalidText, COverBudget, CInvalidSize, CInvalidEntry, CInvalidNode, CInvalidSpan, CInvalidNumber, CInvalidHeight, CInvalidBudget, CNothing, CInvalidOperation, CInvalidCommand] CLogError CInvalidNode "InvalidNode" := ⟨⟨g_InvalidNode, a_InvalidNode, b_InvalidNode, d_InvalidNode, c_InvalidNode, x_n, x_t, m_InvalidNode⟩, ⟨[false, false, false, false, false, false, false, true, false, false, false, false, false, false, false], ⟨kit_of i_InvalidSpans t_InvalidSpans s_InvalidNode_InvalidSpans s_InvalidNode_InvalidNode, kit_of i_InvalidNodes t_InvalidNodes s_InvalidNode_InvalidNodes s_InvalidNode_InvalidNode, kit_of i_InvalidBounds t_InvalidBounds s_InvalidNode_InvalidBounds s_InvalidNode_InvalidNode, kit_of i_InvalidText t_InvalidText s_InvalidNode_InvalidText s_InvalidNode_InvalidNode, kit_of i_OverBudget t_OverBudget s_InvalidNode_OverBudget s_InvalidNode_InvalidNode, kit_of i_InvalidSize t_InvalidSize s_InvalidNode_InvalidSize s_InvalidNode_InvalidNode, kit_of i_InvalidEntry t_InvalidEntry s_InvalidNode_InvalidEntry s_InvalidNode_InvalidNode, kit_of i_InvalidNode t_InvalidNode s_InvalidNode_InvalidNode s_InvalidNode_InvalidNode, kit_of i_InvalidSpan t_InvalidSpan s_InvalidNode_InvalidSpan s_InvalidNode_InvalidNode, kit_of i_InvalidNumber t_InvalidNumber s_InvalidNode_InvalidNumber s_InvalidNode_InvalidNode, kit_of i_InvalidHeight t_InvalidHeight s_InvalidNode_InvalidHeight s_InvalidNode_InvalidNode, kit_of i_InvalidBudget t_InvalidBudget s_InvalidNode_InvalidBudget s_InvalidNode_InvalidNode, kit_of i_Nothing t_Nothing s_InvalidNode_Nothing s_InvalidNode_InvalidNode, kit_of i_InvalidOperation t_InvalidOperation s_InvalidNode_InvalidOperation s_InvalidNode_InvalidNode, kit_of i_InvalidCommand t_InvalidCommand s_InvalidNode_InvalidCommand s_InvalidNode_InvalidNode, trivial⟩, by decide +kernel⟩, kit_ty0 (by decide) v_InvalidNode, by decide +kernel, by decide +kernel, by decide +kernel, PySem.W.exm_ref b_LogError d_LogError t_LogError l_InvalidNode⟩
  have XInvalidNumber : XF K mg "InvalidNumber" CInvalidNumber := ⟨PySem.W.mg_of X G n_InvalidNumber, k_InvalidNumber, q_InvalidNumber, b_InvalidNumber, t_InvalidNumber⟩
  have KInvalidNumber : CK K [CInvalidSpans, CInvalidNodes, CInvalidBounds, CInvalidText, COverBudget, CInvalidSize, CInvalidEntry, CInvalidNode, CInvalidSpan, CInvalidNumber, CInvalidHeight, CInvalidBudget, CNothing, CInvalidOperation, CInvalidCommand] CLogError CInvalidNumber "InvalidNumber" := ⟨⟨g_InvalidNumber, a_InvalidNumber, b_InvalidNumber, d_InvalidNumber, c_InvalidNumber, x_n, x_t, m_InvalidNumber⟩, ⟨[false, false, false, false, false, false, false, false, false, true, false, false, false, false, false], ⟨kit_of i_InvalidSpans t_InvalidSpans s_InvalidNumber_InvalidSpans s_InvalidNumber_InvalidNumber, kit_of i_InvalidNodes t_InvalidNodes s_InvalidNumber_InvalidNodes s_InvalidNumber_InvalidNumber, kit_of i_InvalidBounds t_InvalidBounds s_InvalidNumber_InvalidBounds s_InvalidNumber_InvalidNumber, kit_of i_InvalidText t_InvalidText s_InvalidNumber_InvalidText s_InvalidNumber_InvalidNumber, kit_of i_OverBudget t_OverBudget s_InvalidNumber_OverBudget s_InvalidNumber_InvalidNumber, kit_of i_InvalidSize t_InvalidSize s_InvalidNumber_InvalidSize s_InvalidNumber_InvalidNumber, kit_of i_InvalidEntry t_InvalidEntry s_InvalidNumber_InvalidEntry s_InvalidNumber_InvalidNumber, kit_of i_InvalidNode t_InvalidNode s_InvalidNumber_InvalidNode s_InvalidNumber_InvalidNumber, kit_of i_InvalidSpan t_InvalidSpan s_InvalidNumber_InvalidSpan s_InvalidNumber_InvalidNumber, kit_of i_InvalidNumber t_InvalidNumber s_InvalidNumber_InvalidNumber s_InvalidNumber_InvalidNumber, kit_of i_InvalidHeight t_InvalidHeight s_InvalidNumber_InvalidHeight s_InvalidNumber_InvalidNumber, kit_of i_InvalidBudget t_InvalidBudget s_InvalidNumber_InvalidBudget s_InvalidNumber_InvalidNumber, kit_of i_Nothing t_Nothing s_InvalidNumber_Nothing s_InvalidNumber_InvalidNumber, kit_of i_InvalidOperation t_InvalidOperation s_InvalidNumber_InvalidOperation s_InvalidNumber_InvalidNumber, kit_of i_InvalidCommand t_InvalidCommand s_InvalidNumber_InvalidCommand s_InvalidNumber_InvalidNumber, trivial⟩, by decide +kernel⟩, kit_ty0 (by decide) v_InvalidNumber, by decide +kernel, by decide +kernel, by decide +kernel, PySem.W.exm_ref b_LogError d_LogError t_LogError l_InvalidNumber⟩
  have GIsWhole := ok_is_wholeV (P := l.prog) (w := w) (base := base) FIsWhole z_isinstance z_int z_bool
  have GIsBetween := ok_is_betweenV FIsBetween GIsWhole AIsWhole
  have GIsTreeNode := ok_is_tree_nodeV FIsTreeNode GIsBetween AIsBetween z_isinstance z_tuple z_len
  have GCheckSize := ok_check_size FCheckSize (between_of GIsBetween) AIsBetween g_MOST_ENTRIES
  have GCheckNode := ok_check_node FCheckNode (tree_ofV GIsTreeNode) AIsTreeNode
  have GCheckNumber := ok_check_number FCheckNumber (whole_of GIsWhole) AIsWhole
  have GPowerWithin := ok_power_within (P := l.prog) (w := w) (mg := mg) (base := base) FPowerWithin
  have GPeaks := ok_peaks FPeaks GCheckSize ACheckSize GPowerWithin APowerWithin
  have GEdges := ok_edges FEdges GPeaks APeaks
  have GIsNode := ok_is_node FIsNode GCheckSize ACheckSize GIsTreeNode AIsTreeNode
  have GHalves := ok_halvesA FHalves GCheckSize ACheckSize GCheckNode ACheckNode GPowerWithin APowerWithin
  have GParent := ok_parent FParent GCheckSize ACheckSize GCheckNode ACheckNode z_min
  have GSibling := ok_sibling FSibling GParent AParent GHalves AHalves
  have GNodeCount := ok_node_count FNodeCount GEdges AEdges z_len
  have GCommonCount := ok_common_count FCommonCount GCheckSize ACheckSize GNodeCount ANodeCount z_min
  have GHeightCount := ok_height_count FHeightCount GCheckSize ACheckSize GCheckNumber ACheckNumber
  have YCheckSize := okX_check_size FCheckSize XInvalidSize GIsBetween AIsBetween g_MOST_ENTRIES
  have YCheckNumber := okX_check_number FCheckNumber XInvalidNumber GIsWhole AIsWhole
  have YCheckNode := okX_check_node FCheckNode XInvalidNode GIsTreeNode AIsTreeNode
  have YPeaks := okX_peaks FPeaks YCheckSize ACheckSize GPowerWithin APowerWithin
  have YEdges := okX_edges FEdges YPeaks APeaks
  have YNodeCount := okX_node_count FNodeCount YEdges AEdges z_len
  have YIsNode := okX_is_node FIsNode YCheckSize ACheckSize GIsTreeNode AIsTreeNode
  have YHalves := okX_halves FHalves YCheckSize ACheckSize YCheckNode ACheckNode GPowerWithin APowerWithin
  have YParent := okX_parent FParent YCheckSize ACheckSize YCheckNode ACheckNode z_min
  have YSibling := okX_sibling FSibling YParent AParent YHalves AHalves
  have YCommonCount := okX_common_count FCommonCount YCheckSize ACheckSize GNodeCount ANodeCount z_min
  have YHeightCount := okX_height_count FHeightCount YCheckSize ACheckSize YCheckNumber ACheckNumber
  have GLawBag := ok_law_bag (P := l.prog) (w := w) (base := base) FLawBag z_max
  have GLawPick := ok_law_pick (P := l.prog) (w := w) (base := base) FLawPick z_int
  have GLawSize := ok_law_size FLawSize GLawPick ALawPick z_max z_min
  have GLawClass := ok_law_class (P := l.prog) (w := w) (base := base) FLawClass GInvalidSpans GInvalidNodes GInvalidBounds GInvalidText GOverBudget GInvalidSize GInvalidEntry GInvalidNode GInvalidSpan GInvalidNumber GInvalidHeight GInvalidBudget GNothing GInvalidOperation GInvalidCommand z_isinstance z_len z_repr z_ValueError
  have GLawBadIntegers := ok_law_bad_integers (P := l.prog) (w := w) (mg := mg) (base := base) FLawBadIntegers
  have GLawBadNodes := ok_law_bad_nodes (P := l.prog) (w := w) (K := K) (mg := mg) (base := base) FLawBadNodes
  have GLawCalled := okX_law_called FLawCalled (both (toX GPeaks) YPeaks) APeaks (both (toX GEdges) YEdges) AEdges (both (toX GNodeCount) YNodeCount) ANodeCount (both (toX GIsNode) YIsNode) AIsNode (both (toX GHalves) YHalves) AHalves (both (toX GParent) YParent) AParent (both (toX GSibling) YSibling) ASibling (both (toX GCommonCount) YCommonCount) ACommonCount (both (toX GHeightCount) YHeightCount) AHeightCount
  have GLawTold := ok_law_told FLawTold GLogError GLawCalled ALawCalled GLawClass ALawClass
  have GLawRight := ok_law_right FLawRight KInvalidSize KInvalidNode KInvalidNumber GLawSize ALawSize GLawBadIntegers ALawBadIntegers GLawBadNodes ALawBadNodes GLawTold ALawTold z_range z_int
  exact ok_law FLaw GLawBag ALawBag GLawRight ALawRight
end LT
open PySem PySem.W PyProof.Rows
set_option maxRecDepth 100000 in
set_option maxHeartbeats 0 in
theorem PySem.Challenge.cw_logtrees_k04_errors_of_shapes_holds : PySem.Challenge.rw_logtrees_k04_errors_of_shapes.Holds := by
  w_on; o_law; k_head; (case hw => w_witness2)
  k_fill
  refine L2.walk_of (l := PySem.Challenge.rw_logtrees_k04_errors_of_shapes) (n := 63) (k := 11) (x := "script") (CX := fun _ => L2.CX0) (sp := fun w => LT.spLaw _) rfl (by decide) rfl ⟨rfl, by decide, by decide⟩ (fun w h Y => PySem.W.kIn_of Y) ?F (fun _ _ a ns hl _ hS => ⟨a, ns, rfl, hS, hl, fun _ => rfl⟩) (fun _ _ _ _ _ h => h)
  case F =>
    intro w mg fa h KX G hmg
    refine' LT.all_mk KX G hmg ?a0 ?l0 ?c0 ?k0 ?a1 ?l1 ?c1 ?k1 ?a2 ?l2 ?c2 ?k2 ?a3 ?l3 ?c3 ?k3 ?a4 ?l4 ?c4 ?k4 ?a5 ?l5 ?c5 ?k5 ?a6 ?l6 ?c6 ?k6 ?a7 ?l7 ?c7 ?k7 ?a8 ?l8 ?c8 ?k8 ?a9 ?l9 ?c9 ?k9 ?a10 ?l10 ?c10 ?k10 ?a11 ?l11 ?c11 ?k11 ?a12 ?l12 ?c12 ?k12 ?a13 ?l13 ?c13 ?k13 ?a14 ?l14 ?c14 ?k14 ?a15 ?l15 ?c15 ?k15 ?a16 ?l16 ?c16 ?k16 ?a17 ?l17 ?c17 ?k17 ?a18 ?l18 ?c18 ?k18 ?a19 ?l19 ?c19 ?k19 ?a20 ?l20 ?c20 ?k20 ?a21 ?l21 ?c21 ?k21 ?a22 ?l22 ?c22 ?k22 ?a23 ?l23 ?c23 ?k23 ?a24 ?l24 ?c24 ?k24 ?a25 ?l25 ?c25 ?k25 ?z_ValueError ?z_bool ?z_int ?z_isinstance ?z_len ?z_max ?z_min ?z_range ?z_repr ?z_tuple ?g_MOST_ENTRIES ?n_InvalidSpans ?i_InvalidSpans ?t_InvalidSpans ?n_InvalidNodes ?i_InvalidNodes ?t_InvalidNodes ?n_InvalidBounds ?i_InvalidBounds ?t_InvalidBounds ?n_InvalidText ?i_InvalidText ?t_InvalidText ?n_OverBudget ?i_OverBudget ?t_OverBudget ?n_InvalidSize ?i_InvalidSize ?t_InvalidSize ?n_InvalidEntry ?i_InvalidEntry ?t_InvalidEntry ?n_InvalidNode ?i_InvalidNode ?t_InvalidNode ?n_InvalidSpan ?i_InvalidSpan ?t_InvalidSpan ?n_InvalidNumber ?i_InvalidNumber ?t_InvalidNumber ?n_InvalidHeight ?i_InvalidHeight ?t_InvalidHeight ?n_InvalidBudget ?i_InvalidBudget ?t_InvalidBudget ?n_Nothing ?i_Nothing ?t_Nothing ?n_InvalidOperation ?i_InvalidOperation ?t_InvalidOperation ?n_InvalidCommand ?i_InvalidCommand ?t_InvalidCommand ?n_LogError ?i_LogError ?t_LogError ?b_LogError ?d_LogError ?x_n ?x_t ?k_InvalidSize ?q_InvalidSize ?b_InvalidSize ?g_InvalidSize ?a_InvalidSize ?d_InvalidSize ?c_InvalidSize ?m_InvalidSize ?v_InvalidSize ?l_InvalidSize ?s_InvalidSize_InvalidSpans ?s_InvalidSize_InvalidNodes ?s_InvalidSize_InvalidBounds ?s_InvalidSize_InvalidText ?s_InvalidSize_OverBudget ?s_InvalidSize_InvalidSize ?s_InvalidSize_InvalidEntry ?s_InvalidSize_InvalidNode ?s_InvalidSize_InvalidSpan ?s_InvalidSize_InvalidNumber ?s_InvalidSize_InvalidHeight ?s_InvalidSize_InvalidBudget ?s_InvalidSize_Nothing ?s_InvalidSize_InvalidOperation ?s_InvalidSize_InvalidCommand ?k_InvalidNode ?q_InvalidNode ?b_InvalidNode ?g_InvalidNode ?a_InvalidNode ?d_InvalidNode ?c_InvalidNode ?m_InvalidNode ?v_InvalidNode ?l_InvalidNode ?s_InvalidNode_InvalidSpans ?s_InvalidNode_InvalidNodes ?s_InvalidNode_InvalidBounds ?s_InvalidNode_InvalidText ?s_InvalidNode_OverBudget ?s_InvalidNode_InvalidSize ?s_InvalidNode_InvalidEntry ?s_InvalidNode_InvalidNode ?s_InvalidNode_InvalidSpan ?s_InvalidNode_InvalidNumber ?s_InvalidNode_InvalidHeight ?s_InvalidNode_InvalidBudget ?s_InvalidNode_Nothing ?s_InvalidNode_InvalidOperation ?s_InvalidNode_InvalidCommand ?k_InvalidNumber ?q_InvalidNumber ?b_InvalidNumber ?g_InvalidNumber ?a_InvalidNumber ?d_InvalidNumber ?c_InvalidNumber ?m_InvalidNumber ?v_InvalidNumber ?l_InvalidNumber ?s_InvalidNumber_InvalidSpans ?s_InvalidNumber_InvalidNodes ?s_InvalidNumber_InvalidBounds ?s_InvalidNumber_InvalidText ?s_InvalidNumber_OverBudget ?s_InvalidNumber_InvalidSize ?s_InvalidNumber_InvalidEntry ?s_InvalidNumber_InvalidNode ?s_InvalidNumber_InvalidSpan ?s_InvalidNumber_InvalidNumber ?s_InvalidNumber_InvalidHeight ?s_InvalidNumber_InvalidBudget ?s_InvalidNumber_Nothing ?s_InvalidNumber_InvalidOperation ?s_InvalidNumber_InvalidCommand
    (case a0 => k_is)
    (case l0 => k_is)
    (case c0 => k_is)
    (case k0 => k_is)
    (case a1 => k_is)
    (case l1 => k_is)
    (case c1 => k_is)
    (case k1 => k_is)
    (case a2 => k_is)
    (case l2 => k_is)
    (case c2 => k_is)
    (case k2 => k_is)
    (case a3 => k_is)
    (case l3 => k_is)
    (case c3 => k_is)
    (case k3 => k_is)
    (case a4 => k_is)
    (case l4 => k_is)
    (case c4 => k_is)
    (case k4 => k_is)
    (case a5 => k_is)
    (case l5 => k_is)
    (case c5 => k_is)
    (case k5 => k_is)
    (case a6 => k_is)
    (case l6 => k_is)
    (case c6 => k_is)
    (case k6 => k_is)
    (case a7 => k_is)
    (case l7 => k_is)
    (case c7 => k_is)
    (case k7 => k_is)
    (case a8 => k_is)
    (case l8 => k_is)
    (case c8 => k_is)
    (case k8 => k_is)
    (case a9 => k_is)
    (case l9 => k_is)
    (case c9 => k_is)
    (case k9 => k_is)
    (case a10 => k_is)
    (case l10 => k_is)
    (case c10 => k_is)
    (case k10 => k_is)
    (case a11 => k_is)
    (case l11 => k_is)
    (case c11 => k_is)
    (case k11 => k_is)
    (case a12 => k_is)
    (case l12 => k_is)
    (case c12 => k_is)
    (case k12 => k_is)
    (case a13 => k_is)
    (case l13 => k_is)
    (case c13 => k_is)
    (case k13 => k_is)
    (case a14 => k_is)
    (case l14 => k_is)
    (case c14 => k_is)
    (case k14 => k_is)
    (case a15 => k_is)
    (case l15 => k_is)
    (case c15 => k_is)
    (case k15 => k_is)
    (case a16 => k_is)
    (case l16 => k_is)
    (case c16 => k_is)
    (case k16 => k_is)
    (case a17 => k_is)
    (case l17 => k_is)
    (case c17 => k_is)
    (case k17 => k_is)
    (case a18 => k_is)
    (case l18 => k_is)
    (case c18 => k_is)
    (case k18 => k_is)
    (case a19 => k_is)
    (case l19 => k_is)
    (case c19 => k_is)
    (case k19 => k_is)
    (case a20 => k_is)
    (case l20 => k_is)
    (case c20 => k_is)
    (case k20 => k_is)
    (case a21 => k_is)
    (case l21 => k_is)
    (case c21 => k_is)
    (case k21 => k_is)
    (case a22 => k_is)
    (case l22 => k_is)
    (case c22 => k_is)
    (case k22 => k_is)
    (case a23 => k_is)
    (case l23 => k_is)
    (case c23 => k_is)
    (case k23 => k_is)
    (case a24 => k_is)
    (case l24 => k_is)
    (case c24 => k_is)
    (case k24 => k_is)
    (case a25 => k_is)
    (case l25 => k_is)
    (case c25 => k_is)
    (case k25 => k_is)
    (case z_ValueError => k_is)
    (case z_bool => k_is)
    (case z_int => k_is)
    (case z_isinstance => k_is)
    (case z_len => k_is)
    (case z_max => k_is)
    (case z_min => k_is)
    (case z_range => k_is)
    (case z_repr => k_is)
    (case z_tuple => k_is)
    (case g_MOST_ENTRIES => k_is)
    (case n_InvalidSpans => k_is)
    (case i_InvalidSpans => k_is)
    (case t_InvalidSpans => k_is)
    (case n_InvalidNodes => k_is)
    (case i_InvalidNodes => k_is)
    (case t_InvalidNodes => k_is)
    (case n_InvalidBounds => k_is)
    (case i_InvalidBounds => k_is)
    (case t_InvalidBounds => k_is)
    (case n_InvalidText => k_is)
    (case i_InvalidText => k_is)
    (case t_InvalidText => k_is)
    (case n_OverBudget => k_is)
    (case i_OverBudget => k_is)
    (case t_OverBudget => k_is)
    (case n_InvalidSize => k_is)
    (case i_InvalidSize => k_is)
    (case t_InvalidSize => k_is)
    (case n_InvalidEntry => k_is)
    (case i_InvalidEntry => k_is)
    (case t_InvalidEntry => k_is)
    (case n_InvalidNode => k_is)
    (case i_InvalidNode => k_is)
    (case t_InvalidNode => k_is)
    (case n_InvalidSpan => k_is)
    (case i_InvalidSpan => k_is)
    (case t_InvalidSpan => k_is)
    (case n_InvalidNumber => k_is)
    (case i_InvalidNumber => k_is)
    (case t_InvalidNumber => k_is)
    (case n_InvalidHeight => k_is)
    (case i_InvalidHeight => k_is)
    (case t_InvalidHeight => k_is)
    (case n_InvalidBudget => k_is)
    (case i_InvalidBudget => k_is)
    (case t_InvalidBudget => k_is)
    (case n_Nothing => k_is)
    (case i_Nothing => k_is)
    (case t_Nothing => k_is)
    (case n_InvalidOperation => k_is)
    (case i_InvalidOperation => k_is)
    (case t_InvalidOperation => k_is)
    (case n_InvalidCommand => k_is)
    (case i_InvalidCommand => k_is)
    (case t_InvalidCommand => k_is)
    (case n_LogError => k_is)
    (case i_LogError => k_is)
    (case t_LogError => k_is)
    (case b_LogError => k_is)
    (case d_LogError => k_is)
    (case x_n => k_is)
    (case x_t => k_is)
    (case k_InvalidSize => k_is)
    (case q_InvalidSize => k_exc)
    (case b_InvalidSize => k_is)
    (case g_InvalidSize => k_is)
    (case a_InvalidSize => k_is)
    (case d_InvalidSize => k_is)
    (case c_InvalidSize => k_is)
    (case m_InvalidSize => k_is)
    (case v_InvalidSize => k_is)
    (case l_InvalidSize => k_is)
    (case s_InvalidSize_InvalidSpans => k_is)
    (case s_InvalidSize_InvalidNodes => k_is)
    (case s_InvalidSize_InvalidBounds => k_is)
    (case s_InvalidSize_InvalidText => k_is)
    (case s_InvalidSize_OverBudget => k_is)
    (case s_InvalidSize_InvalidSize => k_is)
    (case s_InvalidSize_InvalidEntry => k_is)
    (case s_InvalidSize_InvalidNode => k_is)
    (case s_InvalidSize_InvalidSpan => k_is)
    (case s_InvalidSize_InvalidNumber => k_is)
    (case s_InvalidSize_InvalidHeight => k_is)
    (case s_InvalidSize_InvalidBudget => k_is)
    (case s_InvalidSize_Nothing => k_is)
    (case s_InvalidSize_InvalidOperation => k_is)
    (case s_InvalidSize_InvalidCommand => k_is)
    (case k_InvalidNode => k_is)
    (case q_InvalidNode => k_exc)
    (case b_InvalidNode => k_is)
    (case g_InvalidNode => k_is)
    (case a_InvalidNode => k_is)
    (case d_InvalidNode => k_is)
    (case c_InvalidNode => k_is)
    (case m_InvalidNode => k_is)
    (case v_InvalidNode => k_is)
    (case l_InvalidNode => k_is)
    (case s_InvalidNode_InvalidSpans => k_is)
    (case s_InvalidNode_InvalidNodes => k_is)
    (case s_InvalidNode_InvalidBounds => k_is)
    (case s_InvalidNode_InvalidText => k_is)
    (case s_InvalidNode_OverBudget => k_is)
    (case s_InvalidNode_InvalidSize => k_is)
    (case s_InvalidNode_InvalidEntry => k_is)
    (case s_InvalidNode_InvalidNode => k_is)
    (case s_InvalidNode_InvalidSpan => k_is)
    (case s_InvalidNode_InvalidNumber => k_is)
    (case s_InvalidNode_InvalidHeight => k_is)
    (case s_InvalidNode_InvalidBudget => k_is)
    (case s_InvalidNode_Nothing => k_is)
    (case s_InvalidNode_InvalidOperation => k_is)
    (case s_InvalidNode_InvalidCommand => k_is)
    (case k_InvalidNumber => k_is)
    (case q_InvalidNumber => k_exc)
    (case b_InvalidNumber => k_is)
    (case g_InvalidNumber => k_is)
    (case a_InvalidNumber => k_is)
    (case d_InvalidNumber => k_is)
    (case c_InvalidNumber => k_is)
    (case m_InvalidNumber => k_is)
    (case v_InvalidNumber => k_is)
    (case l_InvalidNumber => k_is)
    (case s_InvalidNumber_InvalidSpans => k_is)
    (case s_InvalidNumber_InvalidNodes => k_is)
    (case s_InvalidNumber_InvalidBounds => k_is)
    (case s_InvalidNumber_InvalidText => k_is)
    (case s_InvalidNumber_OverBudget => k_is)
    (case s_InvalidNumber_InvalidSize => k_is)
    (case s_InvalidNumber_InvalidEntry => k_is)
    (case s_InvalidNumber_InvalidNode => k_is)
    (case s_InvalidNumber_InvalidSpan => k_is)
    (case s_InvalidNumber_InvalidNumber => k_is)
    (case s_InvalidNumber_InvalidHeight => k_is)
    (case s_InvalidNumber_InvalidBudget => k_is)
    (case s_InvalidNumber_Nothing => k_is)
    (case s_InvalidNumber_InvalidOperation => k_is)
    (case s_InvalidNumber_InvalidCommand => k_is)
