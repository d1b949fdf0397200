import PyProof.Rows.All
import Wide.All
import OpenK.AllK
import Wide.FinOn
import HandS.ForMost
import HandS.Wide
import HandS.WideBits
import HandS.IsInst
import HandS.Style
import HandS.Deep
import HandS.RaiseMore
import HandS.Conv
import HandS.Flow
import HandS.SortRule
import HandS.NoneIn
import HandS.TupLen
import HandS.Set
import HandS.SetFor
import HandS.Strs
import HandS.Defaults
import PyProof.ReprRoads
import PyProof.Rows.NestShow
import KE.DataMinMax
import KE.SortData
import PySem.Challenge.RW_logtrees_k58_whole_logs_moved
set_option Elab.async false
set_option linter.all false
set_option maxRecDepth 100000
set_option maxHeartbeats 4000000
namespace LT
/-- the greatest power of two less than m (m from 2) -/
def gp (m : Nat) : Nat := 2 ^ Nat.log2 (m - 1)
theorem gp_pos (m : Nat) : 0 < gp m := Nat.pow_pos (by decide)
theorem gp_lt {m : Nat} (h : 2 ≤ m) : gp m < m := by
  have := Nat.log2_self_le (n := m - 1) (by omega)
  unfold gp; omega
theorem gp_ge {m : Nat} (h : 2 ≤ m) : m ≤ 2 * gp m := by
  have := Nat.lt_log2_self (n := m - 1)
  unfold gp; rw [Nat.pow_succ] at this; omega
theorem pow_eq_of {i j : Nat} {m : Nat} (h1 : 2 ^ i < m) (h2 : m ≤ 2 * 2 ^ i) (h3 : 2 ^ j < m) (h4 : m ≤ 2 * 2 ^ j) : i = j := by
  have a : 2 ^ i < 2 ^ (j + 1) := by rw [Nat.pow_succ]; omega
  have b : 2 ^ j < 2 ^ (i + 1) := by rw [Nat.pow_succ]; omega
  have a' := (Nat.pow_lt_pow_iff_right (by decide : 1 < 2)).mp a
  have b' := (Nat.pow_lt_pow_iff_right (by decide : 1 < 2)).mp b
  omega
theorem gp_eq {i m : Nat} (h1 : 2 ^ i < m) (h2 : m ≤ 2 * 2 ^ i) : gp m = 2 ^ i := by
  have h : 2 ≤ m := by have := Nat.pow_pos (a := 2) (n := i) (by decide); omega
  have := pow_eq_of (gp_lt h) (gp_ge h) h1 h2
  unfold gp; rw [this]
theorem gp_pow (i : Nat) : gp (2 ^ (i + 1)) = 2 ^ i := gp_eq (by rw [Nat.pow_succ]; have := Nat.pow_pos (a := 2) (n := i) (by decide); omega) (by rw [Nat.pow_succ]; omega)

/-- siblings from the root's half down to the leaf's: nodes as (begin, length-end) pairs -/
def sib (b m e : Nat) : List (Nat × Nat) :=
  if h : m ≤ 1 then [] else
    if e < b + gp m then (b + gp m, b + m) :: sib b (gp m) e
    else (b, b + gp m) :: sib (b + gp m) (m - gp m) e
termination_by m
decreasing_by
  · exact gp_lt (by omega)
  · have := gp_pos m; omega
theorem sib_one {b m e : Nat} (h : m ≤ 1) : sib b m e = [] := by rw [sib]; simp [h]
theorem sib_low {b m e : Nat} (h : 2 ≤ m) (k : e < b + gp m) : sib b m e = (b + gp m, b + m) :: sib b (gp m) e := by
  rw [sib]; rw [dif_neg (by omega), if_pos k]
theorem sib_high {b m e : Nat} (h : 2 ≤ m) (k : ¬ e < b + gp m) : sib b m e = (b, b + gp m) :: sib (b + gp m) (m - gp m) e := by
  rw [sib]; rw [dif_neg (by omega), if_neg k]

/-! ### joining up again -/
def join (x y : Nat × Nat) : Nat × Nat := (min x.1 y.1, max x.2 y.2)
/-- the halves of a node -/
def halv (x : Nat × Nat) : (Nat × Nat) × (Nat × Nat) := ((x.1, x.1 + gp (x.2 - x.1)), (x.1 + gp (x.2 - x.1), x.2))
def ok1 (x y : Nat × Nat) : Prop := (join x y).1 + 2 ≤ (join x y).2 ∧ (halv (join x y) = (x, y) ∨ halv (join x y) = (y, x))
def oks : Nat × Nat → List (Nat × Nat) → Prop
  | _, [] => True
  | x, y :: r => ok1 x y ∧ oks (join x y) r
def top : Nat × Nat → List (Nat × Nat) → Nat × Nat
  | x, [] => x
  | x, y :: r => top (join x y) r
theorem oks_append : ∀ (x : Nat × Nat) (l r : List (Nat × Nat)), oks x l → oks (top x l) r → oks x (l ++ r)
  | _, [], _, _, h => h
  | x, y :: l, r, h1, h2 => ⟨h1.1, oks_append (join x y) l r h1.2 h2⟩
theorem top_append : ∀ (x : Nat × Nat) (l r : List (Nat × Nat)), top x (l ++ r) = top (top x l) r
  | _, [], _ => rfl
  | x, y :: l, r => top_append (join x y) l r
theorem sib_up : ∀ (m b e : Nat), b ≤ e → e < b + m → oks (e, e + 1) (sib b m e).reverse ∧ top (e, e + 1) (sib b m e).reverse = (b, b + m) := by
  intro m
  induction m using Nat.strongRecOn with
  | ind m ih =>
    intro b e h1 h2
    by_cases hm : m ≤ 1
    · have : m = 1 := by omega
      subst this
      rw [sib_one (by omega)]
      have : e = b := by omega
      subst this
      exact ⟨True.intro, rfl⟩
    · have g1 := gp_lt (m := m) (by omega)
      have g2 := gp_pos m
      by_cases k : e < b + gp m
      · rw [sib_low (by omega) k, List.reverse_cons]
        obtain ⟨p, q⟩ := ih (gp m) g1 b e h1 k
        have j : join (b, b + gp m) (b + gp m, b + m) = (b, b + m) := by
          unfold join; simp only []; rw [Nat.min_eq_left (by omega), Nat.max_eq_right (by omega)]
        refine ⟨oks_append _ _ _ p ?_, ?_⟩
        · rw [q]
          refine ⟨⟨?_, .inl ?_⟩, True.intro⟩
          · rw [j]; simp only []; omega
          · rw [j]; unfold halv; simp only []; rw [Nat.add_sub_cancel_left]
        · rw [top_append, q]; exact j
      · rw [sib_high (by omega) k, List.reverse_cons]
        obtain ⟨p, q⟩ := ih (m - gp m) (by omega) (b + gp m) e (by omega) (by omega)
        have e2 : b + gp m + (m - gp m) = b + m := by omega
        rw [e2] at q
        have j : join (b + gp m, b + m) (b, b + gp m) = (b, b + m) := by
          unfold join; simp only []; rw [Nat.min_eq_right (by omega), Nat.max_eq_left (by omega)]
        refine ⟨oks_append _ _ _ p ?_, ?_⟩
        · rw [q]
          refine ⟨⟨?_, .inr ?_⟩, True.intro⟩
          · rw [j]; simp only []; omega
          · rw [j]; unfold halv; simp only []; rw [Nat.add_sub_cancel_left]
        · rw [top_append, q]; exact j
theorem sib_len_pow (i : Nat) : ∀ (b e : Nat), b ≤ e → e < b + 2 ^ i → (sib b (2 ^ i) e).length = i := by
  induction i with
  | zero => intro b e h1 h2; rw [sib_one (by simp)]; rfl
  | succ i ih =>
    intro b e h1 h2
    have h3 : 2 ≤ 2 ^ (i + 1) := by rw [Nat.pow_succ]; have := Nat.pow_pos (a := 2) (n := i) (by decide); omega
    have g := gp_pow i
    have e2 : 2 ^ (i + 1) - 2 ^ i = 2 ^ i := by rw [Nat.pow_succ]; omega
    by_cases k : e < b + gp (2 ^ (i + 1))
    · rw [sib_low h3 k, List.length_cons, g, ih b e h1 (by omega)]
    · rw [sib_high h3 k, List.length_cons, g, e2, ih (b + 2 ^ i) e (by omega) (by rw [Nat.pow_succ] at h2; omega)]
/-! ### the peaks by digits: (begin, height) -/
def pk : Nat → Nat → Nat → List (Nat × Nat)
  | 0, _, _ => []
  | i + 1, n, b => if n.testBit i then (b, i) :: pk i n (b + 2 ^ i) else pk i n b
theorem mod_succ (n i : Nat) : n % 2 ^ (i + 1) = (if n.testBit i then 2 ^ i else 0) + n % 2 ^ i := by
  rw [Nat.mod_pow_succ, Nat.testBit_eq_decide_div_mod_eq, Nat.add_comm]
  have h : n / 2 ^ i % 2 = 0 ∨ n / 2 ^ i % 2 = 1 := by omega
  rcases h with h | h <;> rw [h] <;> simp
theorem pk_nil : ∀ (i n b : Nat), n % 2 ^ i = 0 → pk i n b = []
  | 0, _, _, _ => rfl
  | i + 1, n, b, h => by
    rw [mod_succ] at h
    have p := Nat.pow_pos (a := 2) (n := i) (by decide)
    unfold pk
    cases t : n.testBit i with
    | true => rw [t] at h; simp at h
    | false => rw [t] at h; simp at h; simp; exact pk_nil i n b h
theorem pk_ne : ∀ (i n b : Nat), n % 2 ^ i ≠ 0 → pk i n b ≠ []
  | 0, _, _, h => by simp [Nat.mod_one] at h
  | i + 1, n, b, h => by
    rw [mod_succ] at h
    unfold pk
    cases t : n.testBit i with
    | true => simp
    | false => rw [t] at h; simp at h; simp; exact pk_ne i n b (by omega)
theorem pk_begin : ∀ (i n b : Nat) (x : Nat × Nat), x ∈ pk i n b → b ≤ x.1 ∧ x.2 < i
  | 0, _, _, _, h => by simp [pk] at h
  | i + 1, n, b, x, h => by
    unfold pk at h
    cases t : n.testBit i with
    | true =>
      rw [t] at h; simp at h
      rcases h with h | h
      · subst h; exact ⟨Nat.le_refl _, Nat.lt_succ_self _⟩
      · have := pk_begin i n _ x h; have p := Nat.pow_pos (a := 2) (n := i) (by decide); omega
    | false =>
      rw [t] at h; simp at h
      have := pk_begin i n _ x h; omega
/-- what the law says of the levels: s the place of the first row, of t rows in all -/
def lev (t : Nat) : Nat → List (Nat × Nat) → List (Nat × Nat × Nat)
  | _, [] => []
  | s, x :: r => (x.1, x.1 + 2 ^ x.2, x.2 + min (s + 1) (t - 1)) :: lev t (s + 1) r
def due (e : Nat) (l : List (Nat × Nat × Nat)) : List Nat := (l.filter fun x => decide (x.1 ≤ e) && decide (e < x.2.1)).map fun x => x.2.2
theorem due_none (t e : Nat) : ∀ (l : List (Nat × Nat)) (s : Nat), (∀ x ∈ l, e < x.1) → due e (lev t s l) = []
  | [], _, _ => rfl
  | x :: r, s, h => by
    have h1 := h x (List.mem_cons_self)
    have ih := due_none t e r (s + 1) fun y hy => h y (List.mem_cons_of_mem _ hy)
    show List.map _ (List.filter _ ((x.1, x.1 + 2 ^ x.2, x.2 + min (s + 1) (t - 1)) :: lev t (s + 1) r)) = []
    rw [List.filter_cons, if_neg (by simp; omega)]
    exact ih
theorem due_is (n e : Nat) : ∀ (i b s : Nat), b ≤ e → e < b + n % 2 ^ i → due e (lev (s + (pk i n b).length) s (pk i n b)) = [(sib b (n % 2 ^ i) e).length + min s (s + (pk i n b).length - 1)] := by
  intro i
  induction i with
  | zero => intro b s h1 h2; simp [Nat.mod_one] at h2; omega
  | succ i ih =>
    intro b s h1 h2
    have p := Nat.pow_pos (a := 2) (n := i) (by decide)
    have ml := Nat.mod_lt n p
    cases t : n.testBit i with
    | false =>
      have e1 : n % 2 ^ (i + 1) = n % 2 ^ i := by rw [mod_succ, t]; simp
      have e2 : pk (i + 1) n b = pk i n b := by show (if n.testBit i = true then _ else _) = _; rw [t]; simp
      rw [e1] at h2
      rw [e1, e2]; exact ih b s h1 h2
    | true =>
      have e1 : n % 2 ^ (i + 1) = 2 ^ i + n % 2 ^ i := by rw [mod_succ, t]; simp
      have e2 : pk (i + 1) n b = (b, i) :: pk i n (b + 2 ^ i) := by show (if n.testBit i = true then _ else _) = _; rw [t]; simp
      rw [e1] at h2
      rw [e1, e2, List.length_cons]
      by_cases r0 : n % 2 ^ i = 0
      · rw [pk_nil i n _ r0, r0]
        rw [r0] at h2
        rw [Nat.add_zero] at h2
        rw [Nat.add_zero (2 ^ i), sib_len_pow i b e h1 h2]
        show List.map _ (List.filter _ [(b, b + 2 ^ i, i + min (s + 1) (s + (0 + 1) - 1))]) = _
        rw [List.filter_cons, if_pos (by simp; omega)]
        simp
      · have hne : 1 ≤ (pk i n (b + 2 ^ i)).length := by
          have := pk_ne i n (b + 2 ^ i) r0
          cases hh : pk i n (b + 2 ^ i) with
          | nil => exact absurd hh this
          | cons _ _ => rw [List.length_cons]; omega
        have g : gp (2 ^ i + n % 2 ^ i) = 2 ^ i := gp_eq (by omega) (by omega)
        by_cases k : e < b + 2 ^ i
        · rw [sib_low (by omega) (by rw [g]; exact k), g, List.length_cons, sib_len_pow i b e h1 k]
          have d := due_none (s + ((pk i n (b + 2 ^ i)).length + 1)) e (pk i n (b + 2 ^ i)) (s + 1) fun x hx => by have := pk_begin _ _ _ x hx; omega
          show List.map _ (List.filter _ ((b, b + 2 ^ i, i + min (s + 1) (s + ((pk i n (b + 2 ^ i)).length + 1) - 1)) :: lev (s + ((pk i n (b + 2 ^ i)).length + 1)) (s + 1) (pk i n (b + 2 ^ i)))) = _
          rw [List.filter_cons, if_pos (by simp; omega), List.map_cons]
          have d' : List.map (fun x => x.2.2) (List.filter (fun x => decide (x.1 ≤ e) && decide (e < x.2.1)) (lev (s + ((pk i n (b + 2 ^ i)).length + 1)) (s + 1) (pk i n (b + 2 ^ i)))) = [] := d
          rw [d']
          simp
          omega
        · rw [sib_high (by omega) (by rw [g]; exact k), g, List.length_cons, Nat.add_sub_cancel_left]
          have q := ih (b + 2 ^ i) (s + 1) (by omega) (by omega)
          have e3 : s + 1 + (pk i n (b + 2 ^ i)).length = s + ((pk i n (b + 2 ^ i)).length + 1) := by omega
          rw [e3] at q
          show List.map _ (List.filter _ ((b, b + 2 ^ i, i + min (s + 1) (s + ((pk i n (b + 2 ^ i)).length + 1) - 1)) :: lev (s + ((pk i n (b + 2 ^ i)).length + 1)) (s + 1) (pk i n (b + 2 ^ i)))) = _
          rw [List.filter_cons, if_neg (by simp; omega)]
          refine Eq.trans q ?_
          congr 1
          omega
/-! ### which pairs are nodes -/
/-- the bits of m - 1 -/
def lb (m : Nat) : Nat := if m ≤ 1 then 0 else Nat.log2 (m - 1) + 1
theorem lb_le {x i : Nat} (h : x ≤ 2 ^ i) : lb x ≤ i := by
  unfold lb
  by_cases k : x ≤ 1
  · rw [if_pos k]; omega
  · rw [if_neg k]
    have h1 := Nat.log2_self_le (n := x - 1) (by omega)
    have h2 : 2 ^ Nat.log2 (x - 1) < 2 ^ i := by omega
    exact (Nat.pow_lt_pow_iff_right (by decide : 1 < 2)).mp h2
theorem lb_ge (x : Nat) : x ≤ 2 ^ lb x := by
  unfold lb
  by_cases k : x ≤ 1
  · rw [if_pos k]; omega
  · rw [if_neg k]
    have := Nat.lt_log2_self (n := x - 1)
    omega
theorem lb_pow (i : Nat) : lb (2 ^ i) = i := by
  have h1 := lb_le (Nat.le_refl (2 ^ i))
  have h2 := (Nat.pow_le_pow_iff_right (by decide : 1 < 2)).mp (lb_ge (2 ^ i))
  omega
theorem lb_gp {m : Nat} (h : 2 ≤ m) : 2 ^ lb m = 2 * gp m := by
  unfold lb gp; rw [if_neg (by omega), Nat.pow_succ]; omega
def tree (n b m : Nat) : Prop := 2 ^ lb m ∣ b ∧ (m = 2 ^ lb m ∨ b + m = n)
theorem tree_root (n : Nat) : tree n 0 n := ⟨Nat.dvd_zero _, .inr (Nat.zero_add _)⟩
theorem tree_low {n b m : Nat} (h : 2 ≤ m) (t : tree n b m) : tree n b (gp m) := by
  obtain ⟨d, _⟩ := t
  rw [lb_gp h] at d
  have e : 2 ^ lb (gp m) = gp m := by unfold gp; rw [lb_pow]
  exact ⟨by rw [e]; exact Nat.dvd_trans (Nat.dvd_mul_left _ _) d, .inl e.symm⟩
theorem tree_high {n b m : Nat} (h : 2 ≤ m) (t : tree n b m) : tree n (b + gp m) (m - gp m) := by
  obtain ⟨d, k⟩ := t
  rw [lb_gp h] at d k
  have g1 := gp_lt h
  have g2 := gp_ge h
  have dg : 2 ^ lb (m - gp m) ∣ gp m := by
    have : lb (m - gp m) ≤ Nat.log2 (m - 1) := lb_le (by unfold gp at g1 g2 ⊢; omega)
    exact Nat.pow_dvd_pow 2 this
  refine ⟨Nat.dvd_add (Nat.dvd_trans dg (Nat.dvd_trans (Nat.dvd_mul_left _ _) d)) dg, ?_⟩
  rcases k with k | k
  · left
    have e : m - gp m = gp m := by omega
    rw [e]
    unfold gp; rw [lb_pow]
  · right; omega
theorem sib_len_le : ∀ (m b e : Nat), b ≤ e → e < b + m → (sib b m e).length ≤ lb m := by
  intro m
  induction m using Nat.strongRecOn with
  | ind m ih =>
    intro b e h1 h2
    by_cases hm : m ≤ 1
    · rw [sib_one hm]; exact Nat.zero_le _
    · have g1 := gp_lt (m := m) (by omega)
      have g2 := gp_ge (m := m) (by omega)
      have g3 := gp_pos m
      have e1 : lb m = Nat.log2 (m - 1) + 1 := by unfold lb; rw [if_neg hm]
      by_cases k : e < b + gp m
      · rw [sib_low (by omega) k, List.length_cons]
        have := ih (gp m) g1 b e h1 k
        have e2 : lb (gp m) = Nat.log2 (m - 1) := by unfold gp; rw [lb_pow]
        omega
      · rw [sib_high (by omega) k, List.length_cons]
        have := ih (m - gp m) (by omega) (b + gp m) e (by omega) (by omega)
        have e2 : lb (m - gp m) ≤ Nat.log2 (m - 1) := lb_le (by unfold gp at g1 g2 ⊢; omega)
        omega
end LT
namespace LT
open PySem PySem.Spec PyProof.Rows L2
def topS (i : Nat) : Stmt := PySem.Challenge.pw_logtrees_k58_whole_logs_moved.main.body.getD i (.Pass ⟨0, 0, 0, 0⟩)
abbrev sIsWhole : Stmt := topS 12
theorem scIsWhole : FnScope ["value"] ["value"] (defScope sIsWhole) := ⟨rfl, rfl, rfl, by decide +kernel, rfl, by decide +kernel, by decide +kernel⟩
abbrev sIsBetween : Stmt := topS 13
theorem scIsBetween : FnScope ["value", "low", "high"] ["value", "low", "high"] (defScope sIsBetween) := ⟨rfl, rfl, rfl, by decide +kernel, rfl, by decide +kernel, by decide +kernel⟩
abbrev sCheckSize : Stmt := topS 17
theorem scCheckSize : FnScope ["size"] ["size"] (defScope sCheckSize) := ⟨rfl, rfl, rfl, by decide +kernel, rfl, by decide +kernel, by decide +kernel⟩
abbrev sCheckEntry : Stmt := topS 18
theorem scCheckEntry : FnScope ["size", "entry"] ["size", "entry"] (defScope sCheckEntry) := ⟨rfl, rfl, rfl, by decide +kernel, rfl, by decide +kernel, by decide +kernel⟩
abbrev sCheckNode : Stmt := topS 19
theorem scCheckNode : FnScope ["size", "node"] ["size", "node"] (defScope sCheckNode) := ⟨rfl, rfl, rfl, by decide +kernel, rfl, by decide +kernel, by decide +kernel⟩
abbrev sCheckSpan : Stmt := topS 20
theorem scCheckSpan : FnScope ["size", "begin", "end"] ["size", "begin", "end"] (defScope sCheckSpan) := ⟨rfl, rfl, rfl, by decide +kernel, rfl, by decide +kernel, by decide +kernel⟩
abbrev sCheckSpans : Stmt := topS 21
theorem scCheckSpans : FnScope ["size", "spans", "behind", "item", "span"] ["size", "spans"] (defScope sCheckSpans) := ⟨rfl, rfl, rfl, by decide +kernel, rfl, by decide +kernel, by decide +kernel⟩
abbrev sCheckNodes : Stmt := topS 22
theorem scCheckNodes : FnScope ["size", "nodes", "least", "most", "item", "node"] ["size", "nodes", "least", "most"] (defScope sCheckNodes) := ⟨rfl, rfl, rfl, by decide +kernel, rfl, by decide +kernel, by decide +kernel⟩
abbrev sCheckOlder : Stmt := topS 23
theorem scCheckOlder : FnScope ["size", "older"] ["size", "older"] (defScope sCheckOlder) := ⟨rfl, rfl, rfl, by decide +kernel, rfl, by decide +kernel, by decide +kernel⟩
abbrev sIsTreeNode : Stmt := topS 14
theorem scIsTreeNode : FnScope ["size", "value", "begin", "end", "room"] ["size", "value"] (defScope sIsTreeNode) := ⟨rfl, rfl, rfl, by decide +kernel, rfl, by decide +kernel, by decide +kernel⟩
abbrev sIsListOf : Stmt := topS 15
theorem scIsListOf : FnScope ["value", "least", "most"] ["value", "least", "most"] (defScope sIsListOf) := ⟨rfl, rfl, rfl, by decide +kernel, rfl, by decide +kernel, by decide +kernel⟩
abbrev sIsSpanFrom : Stmt := topS 16
theorem scIsSpanFrom : FnScope ["size", "value", "least", "first", "end"] ["size", "value", "least"] (defScope sIsSpanFrom) := ⟨rfl, rfl, rfl, by decide +kernel, rfl, by decide +kernel, by decide +kernel⟩
abbrev sPowerWithin : Stmt := topS 25
theorem scPowerWithin : FnScope ["number"] ["number"] (defScope sPowerWithin) := ⟨rfl, rfl, rfl, by decide +kernel, rfl, by decide +kernel, by decide +kernel⟩
abbrev sFirstFull : Stmt := topS 26
theorem scFirstFull : FnScope ["begin", "end", "room"] ["begin", "end"] (defScope sFirstFull) := ⟨rfl, rfl, rfl, by decide +kernel, rfl, by decide +kernel, by decide +kernel⟩
abbrev sNodesWithin : Stmt := topS 27
theorem scNodesWithin : FnScope ["size", "begin", "end", "found", "node"] ["size", "begin", "end"] (defScope sNodesWithin) := ⟨rfl, rfl, rfl, by decide +kernel, rfl, by decide +kernel, by decide +kernel⟩
abbrev sNodesBeside : Stmt := topS 28
theorem scNodesBeside : FnScope ["size", "stretches", "found", "behind", "begin", "end"] ["size", "stretches"] (defScope sNodesBeside) := ⟨rfl, rfl, rfl, by decide +kernel, rfl, by decide +kernel, by decide +kernel⟩
abbrev sPeaks : Stmt := topS 29
theorem scPeaks : FnScope ["size", "found", "begin", "end"] ["size"] (defScope sPeaks) := ⟨rfl, rfl, rfl, by decide +kernel, rfl, by decide +kernel, by decide +kernel⟩
abbrev sEdges : Stmt := topS 30
theorem scEdges : FnScope ["size", "begin", "_"] ["size"] (defScope sEdges) := ⟨rfl, rfl, rfl, by decide +kernel, rfl, by decide +kernel, by decide +kernel⟩
abbrev sHalves : Stmt := topS 31
theorem scHalves : FnScope ["size", "node", "begin", "end", "middle"] ["size", "node"] (defScope sHalves) := ⟨rfl, rfl, rfl, by decide +kernel, rfl, by decide +kernel, by decide +kernel⟩
abbrev sParent : Stmt := topS 32
theorem scParent : FnScope ["size", "node", "begin", "end", "first", "last", "room"] ["size", "node"] (defScope sParent) := ⟨rfl, rfl, rfl, by decide +kernel, rfl, by decide +kernel, by decide +kernel⟩
abbrev sNodeCount : Stmt := topS 33
theorem scNodeCount : FnScope ["size", "cut"] ["size"] (defScope sNodeCount) := ⟨rfl, rfl, rfl, by decide +kernel, rfl, by decide +kernel, by decide +kernel⟩
abbrev sJoined : Stmt := topS 42
theorem scJoined : FnScope ["stretches", "found", "begin", "end", "first", "last"] ["stretches"] (defScope sJoined) := ⟨rfl, rfl, rfl, by decide +kernel, rfl, by decide +kernel, by decide +kernel⟩
abbrev sCheck : Stmt := topS 43
theorem scCheck : FnScope ["size", "nodes"] ["size", "nodes"] (defScope sCheck) := ⟨rfl, rfl, rfl, by decide +kernel, rfl, by decide +kernel, by decide +kernel⟩
abbrev sKnownTops : Stmt := topS 44
theorem scKnownTops : FnScope ["size", "nodes", "begin", "end", "top"] ["size", "nodes"] (defScope sKnownTops) := ⟨rfl, rfl, rfl, by decide +kernel, rfl, by decide +kernel, by decide +kernel⟩
abbrev sMissing : Stmt := topS 45
theorem scMissing : FnScope ["size", "nodes"] ["size", "nodes"] (defScope sMissing) := ⟨rfl, rfl, rfl, by decide +kernel, rfl, by decide +kernel, by decide +kernel⟩
abbrev sNeeded : Stmt := topS 47
theorem scNeeded : FnScope ["size", "spans"] ["size", "spans"] (defScope sNeeded) := ⟨rfl, rfl, rfl, by decide +kernel, rfl, by decide +kernel, by decide +kernel⟩
abbrev sDepth : Stmt := topS 35
theorem scDepth : FnScope ["size", "entry"] ["size", "entry"] (defScope sDepth) := ⟨rfl, rfl, rfl, by decide +kernel, rfl, by decide +kernel, by decide +kernel⟩
abbrev sPath : Stmt := topS 36
theorem scPath : FnScope ["size", "entry", "siblings", "node", "low", "high"] ["size", "entry"] (defScope sPath) := ⟨rfl, rfl, rfl, by decide +kernel, rfl, by decide +kernel, by decide +kernel⟩
abbrev sPeakDepths : Stmt := topS 37
theorem scPeakDepths : FnScope ["size", "tops", "rows", "place", "begin", "end", "above"] ["size"] (defScope sPeakDepths) := ⟨rfl, rfl, rfl, by decide +kernel, rfl, by decide +kernel, by decide +kernel⟩
abbrev sDepthsBetween : Stmt := topS 38
theorem scDepthsBetween : FnScope ["size", "begin", "end", "rows", "first", "last", "deep", "count"] ["size", "begin", "end"] (defScope sDepthsBetween) := ⟨rfl, rfl, rfl, by decide +kernel, rfl, by decide +kernel, by decide +kernel⟩
abbrev sDepthSum : Stmt := topS 39
theorem scDepthSum : FnScope ["size", "begin", "end", "count", "deep"] ["size", "begin", "end"] (defScope sDepthSum) := ⟨rfl, rfl, rfl, by decide +kernel, rfl, by decide +kernel, by decide +kernel⟩
abbrev sDepthRange : Stmt := topS 40
theorem scDepthRange : FnScope ["size", "begin", "end", "found", "_", "deep"] ["size", "begin", "end"] (defScope sDepthRange) := ⟨rfl, rfl, rfl, by decide +kernel, rfl, by decide +kernel, by decide +kernel⟩
abbrev sOlderList : Stmt := topS 49
theorem scOlderList : FnScope ["size", "older", "tops"] ["size", "older"] (defScope sOlderList) := ⟨rfl, rfl, rfl, by decide +kernel, rfl, by decide +kernel, by decide +kernel⟩
abbrev sOlderCount : Stmt := topS 50
theorem scOlderCount : FnScope ["size", "older"] ["size", "older"] (defScope sOlderCount) := ⟨rfl, rfl, rfl, by decide +kernel, rfl, by decide +kernel, by decide +kernel⟩
abbrev sLawBag : Stmt := topS 52
theorem scLawBag : FnScope ["cell"] ["cell"] (defScope sLawBag) := ⟨rfl, rfl, rfl, by decide +kernel, rfl, by decide +kernel, by decide +kernel⟩
abbrev sLawPick : Stmt := topS 53
theorem scLawPick : FnScope ["bag", "many", "told", "seed", "turn", "first", "second", "drawn"] ["bag", "many"] (defScope sLawPick) := ⟨rfl, rfl, rfl, by decide +kernel, rfl, by decide +kernel, by decide +kernel⟩
abbrev sLawSize : Stmt := topS 54
theorem scLawSize : FnScope ["bag", "most", "way", "powers", "turn"] ["bag", "most"] (defScope sLawSize) := ⟨rfl, rfl, rfl, by decide +kernel, rfl, by decide +kernel, by decide +kernel⟩
abbrev sLawParted : Stmt := topS 55
theorem scLawParted : FnScope ["node", "wide"] ["node"] (defScope sLawParted) := ⟨rfl, rfl, rfl, by decide +kernel, rfl, by decide +kernel, by decide +kernel⟩
abbrev sLawWalked : Stmt := topS 56
theorem scLawWalked : FnScope ["bag", "size", "most", "node", "turn"] ["bag", "size", "most"] (defScope sLawWalked) := ⟨rfl, rfl, rfl, by decide +kernel, rfl, by decide +kernel, by decide +kernel⟩
abbrev sLawSpans : Stmt := topS 57
theorem scLawSpans : FnScope ["bag", "size", "most", "found", "at", "turn", "first", "more"] ["bag", "size", "most"] (defScope sLawSpans) := ⟨rfl, rfl, rfl, by decide +kernel, rfl, by decide +kernel, by decide +kernel⟩
abbrev sLawMoved : Stmt := topS 58
theorem scLawMoved : FnScope ["nodes", "far", "first", "end"] ["nodes", "far"] (defScope sLawMoved) := ⟨rfl, rfl, rfl, by decide +kernel, rfl, by decide +kernel, by decide +kernel⟩
abbrev sLawOlderRight : Stmt := topS 59
theorem scLawOlderRight : FnScope ["bag", "size", "far", "before", "due", "told"] ["bag", "size", "far"] (defScope sLawOlderRight) := ⟨rfl, rfl, rfl, by decide +kernel, rfl, by decide +kernel, by decide +kernel⟩
abbrev sLawNodesRight : Stmt := topS 60
theorem scLawNodesRight : FnScope ["nodes", "size", "far", "whole", "node", "parted", "there", "above", "due"] ["nodes", "size", "far"] (defScope sLawNodesRight) := ⟨rfl, rfl, rfl, by decide +kernel, rfl, by decide +kernel, by decide +kernel⟩
abbrev sLawShapeRight : Stmt := topS 61
theorem scLawShapeRight : FnScope ["size", "far", "whole", "many", "rims", "rim"] ["size", "far"] (defScope sLawShapeRight) := ⟨rfl, rfl, rfl, by decide +kernel, rfl, by decide +kernel, by decide +kernel⟩
abbrev sLawRight : Stmt := topS 62
theorem scLawRight : FnScope ["bag", "size", "far", "whole", "one", "entry", "least", "most", "spans", "nodes", "turn"] ["bag", "size"] (defScope sLawRight) := ⟨rfl, rfl, rfl, by decide +kernel, rfl, by decide +kernel, by decide +kernel⟩
abbrev sLaw : Stmt := topS 63
theorem scLaw : FnScope ["script", "cell", "bag", "most"] ["script"] (defScope sLaw) := ⟨rfl, rfl, rfl, by decide +kernel, rfl, by decide +kernel, by decide +kernel⟩
/-- a def as it stands behind the top -/
structure At (K : PySem.W.Frag) (mg : Str → Option Value) (x : Str) (f : Addr) (fd : FuncData) (ps : List Str) : Prop where
  m : mg x = some (.ref f)
  kp : PySem.W.keepIn K (.ref f) = true
  b : Binds K fd ps []
theorem units1 {k : Nat} {A : Around} (r : Room k A) : A.units + 65 < cLine := by have := r.un; omega
/-- all but b as it was -/
def But (b : Addr) (H H' : Hp) : Prop := ∀ a o, a ≠ b → H a = some o → H' a = some o
theorem But.refl (b : Addr) (H : Hp) : But b H H := fun _ _ _ h => h
theorem But.trans {b : Addr} {H H1 H2 : Hp} (x : But b H H1) (y : But b H1 H2) : But b H H2 := fun a o n h => y a o n (x a o n h)
theorem But.of {b : Addr} {H H1 : Hp} (x : Same H H1) : But b H H1 := fun a o _ h => x a o h
theorem same_upd {H : Hp} {p : Addr} {o : HO} (h : H p = none) : Same H (upd H p o) := fun b x e => by
  rw [upd_ne (ne_of_none e h)]
  exact e
def BagAt (H : Hp) (b : Addr) : Prop := ∃ x y z : Int, H b = some (.lst [.int x, .int y, .int z])
theorem BagAt.same {H H' : Hp} {b : Addr} (h : BagAt H b) (s : Same H H') : BagAt H' b := by
  obtain ⟨x, y, z, e⟩ := h
  exact ⟨x, y, z, s _ _ e⟩
/-- a pair of ints -/
def Nd (H : Hp) (v : V) (x : Nat × Nat) : Prop := ∃ p, v = .ref p ∧ H p = some (.tup [.int x.1, .int x.2])
theorem Nd.same {H H' : Hp} {v : V} {x : Nat × Nat} (h : Nd H v x) (s : Same H H') : Nd H' v x := by
  obtain ⟨p, e, q⟩ := h
  exact ⟨p, e, s _ _ q⟩
theorem Nd.dp {K : PySem.W.Frag} {H : Hp} {v : V} {x : Nat × Nat} (h : Nd H v x) : Dp K H v (.tuple [.int x.1, .int x.2]) := by
  obtain ⟨p, rfl, q⟩ := h
  exact .tup (SqT.of q) (.cons (.int _) (.cons (.int _) .nil))
theorem nd_shaped (a b : Int) : SeqAt.shaped (.tuple [.int a, .int b]) = true := by
  show (PyData.canLay0 _ && decide (PyData.depth _ ≤ 64)) = true
  simp [PyData.canLay0, PyData.canLayAll0, PyData.depth, PyData.depthAll]
theorem nd_eqv (a b c d : Int) : PyData.eqv (.tuple [.int a, .int b]) (.tuple [.int c, .int d]) = (decide (a = c) && decide (b = d)) := by
  have e : PyData.eqv (.tuple [.int a, .int b]) (.tuple [.int c, .int d]) = ((a == c) && ((b == d) && true)) := by simp only [PyData.eqv, PyData.eqvAll]
  rw [e, Bool.and_true]
  by_cases h1 : a = c <;> by_cases h2 : b = d <;> simp [h1, h2]
/-- lists of values and what they stand for -/
inductive All2 {α : Type} (R : V → α → Prop) : List V → List α → Prop
  | nil : All2 R [] []
  | cons {v : V} {x : α} {vs : List V} {xs : List α} : R v x → All2 R vs xs → All2 R (v :: vs) (x :: xs)
section
variable {α : Type} {R R' : V → α → Prop}
theorem All2.mono (f : ∀ v x, R v x → R' v x) : ∀ {vs : List V} {xs : List α}, All2 R vs xs → All2 R' vs xs
  | _, _, .nil => .nil
  | _, _, .cons h t => .cons (f _ _ h) (All2.mono f t)
theorem All2.len : ∀ {vs : List V} {xs : List α}, All2 R vs xs → vs.length = xs.length
  | _, _, .nil => rfl
  | _, _, .cons _ t => by rw [List.length_cons, List.length_cons, All2.len t]
theorem All2.app : ∀ {vs : List V} {xs : List α} {us : List V} {ys : List α}, All2 R vs xs → All2 R us ys → All2 R (vs ++ us) (xs ++ ys)
  | _, _, _, _, .nil, h => h
  | _, _, _, _, .cons h t, k => .cons h (All2.app t k)
theorem All2.rev : ∀ {vs : List V} {xs : List α}, All2 R vs xs → All2 R vs.reverse xs.reverse
  | _, _, .nil => .nil
  | _, _, .cons h t => by
    rw [List.reverse_cons, List.reverse_cons]
    exact All2.app (All2.rev t) (.cons h .nil)
theorem All2.nth : ∀ {vs : List V} {xs : List α} {i : Nat} {v : V}, All2 R vs xs → vs[i]? = some v → ∃ x, xs[i]? = some x ∧ R v x
  | _, _, _, _, .nil, h => by simp at h
  | _, _, 0, _, .cons h t, e => by
    have := Option.some.inj e
    subst this
    exact ⟨_, rfl, h⟩
  | _, _, i + 1, _, .cons h t, e => by
    rw [List.getElem?_cons_succ] at e ⊢
    exact All2.nth t e
theorem All2.nth2 : ∀ {vs : List V} {xs : List α} {i : Nat} {x : α}, All2 R vs xs → xs[i]? = some x → ∃ v, vs[i]? = some v ∧ R v x
  | _, _, _, _, .nil, h => by simp at h
  | _, _, 0, _, .cons h t, e => by
    have := Option.some.inj e
    subst this
    exact ⟨_, rfl, h⟩
  | _, _, i + 1, _, .cons h t, e => by
    rw [List.getElem?_cons_succ] at e ⊢
    exact All2.nth2 t e
end

/-! ### rules within a comprehension: what they say of the written part is said of the def's -/
section
open PySem L2
variable {X : Cx} {s : Shared} {H : Hp} {sc : Scope} {ce : Env} {fp : List Addr}
theorem pg_tupB {es : List Expr} {k : Nat} {pos : Pos} {t : TGs} {n : Nat} (hc : X.calm = true) (h : PGs (X.blk s H sc ce fp) es t)
    (hn : (assignEach es (X.blk s H sc ce fp).env).length = n := by rfl) (hst : (assignEach es (X.blk s H sc ce fp).env).findIdx? (·.1) = none := by rfl) : PG (X.blk s H sc ce fp) (.Tuple es k pos) (gTup X.K n t) := pg_tup hc h hn hst
theorem ix_listB : IxR (X.blk s H sc ce fp) (rIxL X.K) := ix_list
theorem ix_tupB : IxR (X.blk s H sc ce fp) (rIxT X.K) := ix_tup
theorem call_len_seqB : CallR (X.blk s H sc ce fp) (.builtin "len") (fun xs H Q => ∃ p ys, xs = [.ref p] ∧ (SqL X.K H p ys ∨ SqT X.K H p ys) ∧ Q (.int ys.length) H) := call_len_seq
theorem op_eqDB (hu : X.A.units + 64 < cLine) : OpR (X.blk s H sc ce fp) (compareOp .Eq) (rEqD X.K) := op_eqD (X := X.blk s H sc ce fp) hu
theorem op_neDB (hu : X.A.units + 64 < cLine) : OpR (X.blk s H sc ce fp) (compareOp .NotEq) (rNeD X.K) := op_neD (X := X.blk s H sc ce fp) hu
theorem op_inDB (hu : X.A.units + 65 < cLine) : OpR (X.blk s H sc ce fp) (compareOp .In) (rInD X.K) := op_inD (X := X.blk s H sc ce fp) hu
theorem op_notInDB (hu : X.A.units + 65 < cLine) : OpR (X.blk s H sc ce fp) (compareOp .NotIn) (rNotInD X.K) := op_notInD (X := X.blk s H sc ce fp) hu
end
theorem Nd.upd {H : Hp} {v : V} {x : Nat × Nat} {s : Addr} {xs : List V} {o : HO} (h : Nd H v x) (hs : H s = some (.lst xs)) : Nd (upd H s o) v x := by
  obtain ⟨p, e, q⟩ := h
  exact ⟨p, e, by rw [upd_ne (ne_of q hs (by intro z; cases z))]; exact q⟩
def full (x : Nat × Nat) : Nat × Nat := (x.1, x.1 + 2 ^ x.2)
theorem pk_len : ∀ (i n b : Nat), (pk i n b).length ≤ i
  | 0, _, _ => Nat.le_refl _
  | i + 1, n, b => by
    show (if n.testBit i = true then (b, i) :: pk i n (b + 2 ^ i) else pk i n b).length ≤ i + 1
    by_cases t : n.testBit i = true
    · rw [if_pos t, List.length_cons]
      exact Nat.succ_le_succ (pk_len i n _)
    · rw [if_neg t]
      exact Nat.le_succ_of_le (pk_len i n b)
theorem take_more {α : Type} : ∀ {l : List α} {i : Nat} {x : α}, l[i]? = some x → l.take (i + 1) = l.take i ++ [x]
  | [], i, x, h => by simp at h
  | a :: l, 0, x, h => by
    have e : a = x := Option.some.inj h
    subst e
    rfl
  | a :: l, i + 1, x, h => by
    have ih := take_more (l := l) (i := i) (x := x) h
    show a :: l.take (i + 1) = a :: l.take i ++ [x]
    rw [ih]
    rfl
theorem szle {n : Nat} (h : n ≤ 100000) : n ≤ sizeLine := Nat.le_trans h (by decide)
theorem szlt {n : Nat} (h : n < 100000) : n < sizeLine := Nat.lt_of_lt_of_le h (by decide)
end LT

namespace LT
open PySem PySem.Spec PyProof.Rows L2
section
variable {P : Program} {w : World} {K : PySem.W.Frag} {mg : Str → Option Value} {base : Heap}
def spWhole : Sp := fun vs H Q _ => ∃ i : Int, vs = [.int i] ∧ Q (.bl true) H
theorem ok_is_whole {f : Addr} {fd : FuncData} (F : Fun K "is_whole" "is_whole" sIsWhole f fd) (z_isinstance : mg "isinstance" = none) (z_int : mg "int" = none) (z_bool : mg "bool" = none) : FnOk P w K mg base CX0 1 f fd ["value"] spWhole := by
  refine F.ok scIsWhole (fun vs H Q E h => ?_) (fun cdv A outer s H vs Q E hr h => ?_)
  · obtain ⟨i, rfl, _⟩ := h
    rfl
  obtain ⟨i, rfl, q⟩ := h
  refine ⟨_, (pss_one (ps_ret (pe_and (pe_callB call_isi (by rfl) z_isinstance (by decide +kernel) (pa_cons (pv 0) (pa_cons (pe_bltn (v := .ty "int") (u := .type "int") (by rfl) z_int (by decide +kernel) rfl) pa_nil))) (pe_one (pe_not (pe_callB call_isi (by rfl) z_isinstance (by decide +kernel) (pa_cons (pv 0) (pa_cons (pe_bltn (v := .ty "bool") (u := .type "bool") (by rfl) z_bool (by decide +kernel) rfl) pa_nil)))))))), ?_⟩
  refine ⟨_, rfl, _, _, _, _, true, rfl, .ty "int", .base (.int i), kit_ty (by decide +kernel), true, rfl, ?_⟩
  refine ⟨_, rfl, _, _, _, _, false, rfl, .ty "bool", .base (.int i), kit_ty (by decide +kernel), false, rfl, ?_⟩
  exact q
def spBetween : Sp := fun vs H Q _ => ∃ v lo hi : Int, vs = [.int v, .int lo, .int hi] ∧ Q (.bl (decide (lo ≤ v) && decide (v ≤ hi))) H
theorem ok_is_between {f g : Addr} {fd gd : FuncData} (F : Fun K "is_between" "is_between" sIsBetween f fd) (GIsWhole : FnOk P w K mg base CX0 1 g gd ["value"] spWhole) (AIsWhole : At K mg "is_whole" g gd ["value"]) : FnOk P w K mg base CX0 2 f fd ["value", "low", "high"] spBetween := by
  refine F.ok scIsBetween (fun vs H Q E h => ?_) (fun cdv A outer s H vs Q E hr h => ?_)
  · obtain ⟨i, _, _, rfl, _⟩ := h
    rfl
  obtain ⟨v, lo, hi, rfl, q⟩ := h
  refine ⟨_, (pss_one (ps_ret (pe_and (pe_call GIsWhole (hr.mono (by decide)) rfl AIsWhole.m AIsWhole.kp AIsWhole.b .nil pass0 (pa_cons (pv 0) pa_nil)) (pe_one (pe_chain op_le op_le (pv 1) (pv 0) (pv 2)))))), ?_⟩
  refine ⟨_, rfl, v, rfl, true, rfl, ?_⟩
  refine ⟨_, rfl, _, rfl, _, _, rfl, rfl, _, rfl, ?_⟩
  by_cases h1 : lo ≤ v
  · rw [decide_eq_true h1] at q ⊢
    exact ⟨_, rfl, _, _, rfl, rfl, q⟩
  · rw [decide_eq_false h1] at q ⊢
    exact q
def spCheckSize : Sp := fun vs H Q _ => ∃ n : Int, vs = [.int n] ∧ 1 ≤ n ∧ n ≤ 10 ^ 30 ∧ Q .non H
theorem ok_check_size {f g : Addr} {fd gd : FuncData} {t : Tok} (F : Fun K "check_size" "check_size" sCheckSize f fd) (GIsBetween : FnOk P w K mg base CX0 2 g gd ["value", "low", "high"] spBetween) (AIsBetween : At K mg "is_between" g gd ["value", "low", "high"]) (g_MOST_ENTRIES : mg "MOST_ENTRIES" = some (.int 1000000000000000000000000000000 t)) : FnOk P w K mg base CX0 3 f fd ["size"] spCheckSize := by
  refine F.ok scCheckSize (fun vs H Q E h => ?_) (fun cdv A outer s H vs Q E hr h => ?_)
  · obtain ⟨i, rfl, _⟩ := h
    rfl
  obtain ⟨n, rfl, h1, h2, q⟩ := h
  refine ⟨_, (pss_one (ps_if (pt_not (pt_val (pe_call GIsBetween (hr.mono (by decide)) rfl AIsBetween.m AIsBetween.kp AIsBetween.b .nil pass0 (pa_cons (pv 0) (pa_cons pe_int (pa_cons (pe_glob (v := .int 1000000000000000000000000000000) rfl g_MOST_ENTRIES ⟨_, rfl⟩) pa_nil))))))
    (pss_one ps_never)
    pss_nil)), ?_⟩
  refine ⟨_, rfl, n, 1, 1000000000000000000000000000000, rfl, _, rfl, ?_⟩
  rw [decide_eq_true h1, decide_eq_true (show n ≤ 1000000000000000000000000000000 from h2)]
  exact q
end
end LT

namespace LT
open PySem PySem.Spec PyProof.Rows L2
/-- values of the plain kinds, with their types -/
inductive Pl (K : PySem.W.Frag) (H : Hp) : V → String → Prop
  | non : Pl K H .non "NoneType"
  | bl (b : Bool) : Pl K H (.bl b) "bool"
  | int (i : Int) : Pl K H (.int i) "int"
  | str (s : Str) : Pl K H (.str s) "str"
  | lst {a : Addr} {xs : List V} : H a = some (.lst xs) → Pl K H (.ref a) "list"
  | tup {a : Addr} {xs : List V} : H a = some (.tup xs) → Pl K H (.ref a) "tuple"
  | dict {a : Addr} {kvs : List (Key × V)} : H a = some (.dK kvs) → Pl K H (.ref a) "dict"
theorem Pl.ty {K : PySem.W.Frag} {H : Hp} {v : V} {t : String} (h : Pl K H v t) : TyX K H v (.type t) := by
  cases h with
  | non => exact .base .non
  | bl b => exact .base (.bl b)
  | int i => exact .base (.int i)
  | str s => exact .base (.str s)
  | lst e => exact .base (.lst e)
  | tup e => exact .base (.tup e)
  | dict e => exact .base (.dK e)
def isInt : V → Bool
  | .int _ => true
  | _ => false
def inRange (lo hi : Int) : V → Bool
  | .int i => decide (lo ≤ i) && decide (i ≤ hi)
  | _ => false
section
variable {P : Program} {w : World} {K : PySem.W.Frag} {mg : Str → Option Value} {base : Heap}
def spWholeV (K : PySem.W.Frag) : Sp := fun vs H Q _ => ∃ (v : V) (t : String), vs = [v] ∧ Pl K H v t ∧ Q (.bl (isInt v)) H
theorem ok_is_wholeV {f : Addr} {fd : FuncData} (F : Fun K "is_whole" "is_whole" sIsWhole f fd) (z_isinstance : mg "isinstance" = none) (z_int : mg "int" = none) (z_bool : mg "bool" = none) : FnOk P w K mg base CX0 1 f fd ["value"] (spWholeV K) := by
  refine F.ok scIsWhole (fun vs H Q E h => ?_) (fun cdv A outer s H vs Q E hr h => ?_)
  · obtain ⟨_, _, rfl, _⟩ := h
    rfl
  obtain ⟨v, t, rfl, hv, q⟩ := h
  refine ⟨_, (pss_one (ps_ret (pe_and (pe_callB call_isi (by rfl) z_isinstance (by decide +kernel) (pa_cons (pv 0) (pa_cons (pe_bltn (v := .ty "int") (u := .type "int") (by rfl) z_int (by decide +kernel) rfl) pa_nil))) (pe_one (pe_not (pe_callB call_isi (by rfl) z_isinstance (by decide +kernel) (pa_cons (pv 0) (pa_cons (pe_bltn (v := .ty "bool") (u := .type "bool") (by rfl) z_bool (by decide +kernel) rfl) pa_nil)))))))), ?_⟩
  cases hv with
  | non => exact ⟨_, rfl, _, _, _, _, false, rfl, .ty "int", (Pl.non (K := K) (H := H)).ty, kit_ty (by decide +kernel), false, rfl, q⟩
  | bl b => exact ⟨_, rfl, _, _, _, _, true, rfl, .ty "int", (Pl.bl (K := K) (H := H) b).ty, kit_ty (by decide +kernel), true, rfl, _, rfl, _, _, _, _, true, rfl, .ty "bool", (Pl.bl (K := K) (H := H) b).ty, kit_ty (by decide +kernel), true, rfl, q⟩
  | int i => exact ⟨_, rfl, _, _, _, _, true, rfl, .ty "int", (Pl.int (K := K) (H := H) i).ty, kit_ty (by decide +kernel), true, rfl, _, rfl, _, _, _, _, false, rfl, .ty "bool", (Pl.int (K := K) (H := H) i).ty, kit_ty (by decide +kernel), false, rfl, q⟩
  | str s => exact ⟨_, rfl, _, _, _, _, false, rfl, .ty "int", (Pl.str (K := K) (H := H) s).ty, kit_ty (by decide +kernel), false, rfl, q⟩
  | lst e => exact ⟨_, rfl, _, _, _, _, false, rfl, .ty "int", (Pl.lst (K := K) e).ty, kit_ty (by decide +kernel), false, rfl, q⟩
  | tup e => exact ⟨_, rfl, _, _, _, _, false, rfl, .ty "int", (Pl.tup (K := K) e).ty, kit_ty (by decide +kernel), false, rfl, q⟩
  | dict e => exact ⟨_, rfl, _, _, _, _, false, rfl, .ty "int", (Pl.dict (K := K) e).ty, kit_ty (by decide +kernel), false, rfl, q⟩
def spBetweenV (K : PySem.W.Frag) : Sp := fun vs H Q _ => ∃ (v : V) (t : String) (lo hi : Int), vs = [v, .int lo, .int hi] ∧ Pl K H v t ∧ Q (.bl (inRange lo hi v)) H
theorem ok_is_betweenV {f g : Addr} {fd gd : FuncData} (F : Fun K "is_between" "is_between" sIsBetween f fd) (GIsWhole : FnOk P w K mg base CX0 1 g gd ["value"] (spWholeV K)) (AIsWhole : At K mg "is_whole" g gd ["value"]) : FnOk P w K mg base CX0 2 f fd ["value", "low", "high"] (spBetweenV K) := by
  refine F.ok scIsBetween (fun vs H Q E h => ?_) (fun cdv A outer s H vs Q E hr h => ?_)
  · obtain ⟨_, _, _, _, rfl, _⟩ := h
    rfl
  obtain ⟨v, t, lo, hi, rfl, hv, q⟩ := h
  refine ⟨_, (pss_one (ps_ret (pe_and (pe_call GIsWhole (hr.mono (by decide)) rfl AIsWhole.m AIsWhole.kp AIsWhole.b .nil pass0 (pa_cons (pv 0) pa_nil)) (pe_one (pe_chain op_le op_le (pv 1) (pv 0) (pv 2)))))), ?_⟩
  refine ⟨_, rfl, v, t, rfl, hv, isInt v, rfl, ?_⟩
  cases v with
  | int i =>
    have q' : Q (.bl (decide (lo ≤ i) && decide (i ≤ hi))) H := q
    refine ⟨_, rfl, _, rfl, _, _, rfl, rfl, _, rfl, ?_⟩
    by_cases h1 : lo ≤ i
    · rw [decide_eq_true h1] at q' ⊢
      exact ⟨_, rfl, _, _, rfl, rfl, q'⟩
    · rw [decide_eq_false h1] at q' ⊢
      exact q'
  | non => exact q
  | bl _ => exact q
  | str _ => exact q
  | byt _ => exact q
  | flt _ => exact q
  | ref _ => exact q
  | ty _ => exact q
theorem whole_of {k : Nat} {f : Addr} {fd : FuncData} (F : FnOk P w K mg base CX0 k f fd ["value"] (spWholeV K)) : FnOk P w K mg base CX0 k f fd ["value"] spWhole :=
  F.imp fun vs H Q E h => by
    obtain ⟨i, rfl, q⟩ := h
    exact ⟨_, _, rfl, .int i, q⟩
theorem between_of {k : Nat} {f : Addr} {fd : FuncData} (F : FnOk P w K mg base CX0 k f fd ["value", "low", "high"] (spBetweenV K)) : FnOk P w K mg base CX0 k f fd ["value", "low", "high"] spBetween :=
  F.imp fun vs H Q E h => by
    obtain ⟨v, lo, hi, rfl, q⟩ := h
    exact ⟨_, _, _, _, rfl, .int v, q⟩
end
end LT

namespace LT
open PySem PySem.Spec PyProof.Rows L2
section
variable {P : Program} {w : World} {K : PySem.W.Frag} {mg : Str → Option Value} {base : Heap}
def spCheckEntry : Sp := fun vs H Q _ => ∃ n e : Int, vs = [.int n, .int e] ∧ 0 ≤ e ∧ e < n ∧ Q .non H
theorem ok_check_entry {f g : Addr} {fd gd : FuncData} (F : Fun K "check_entry" "check_entry" sCheckEntry f fd) (GIsBetween : FnOk P w K mg base CX0 2 g gd ["value", "low", "high"] spBetween) (AIsBetween : At K mg "is_between" g gd ["value", "low", "high"]) : FnOk P w K mg base CX0 3 f fd ["size", "entry"] spCheckEntry := by
  refine F.ok scCheckEntry (fun vs H Q E h => ?_) (fun cdv A outer s H vs Q E hr h => ?_)
  · obtain ⟨i, _, rfl, _⟩ := h
    rfl
  obtain ⟨n, e, rfl, h1, h2, q⟩ := h
  refine ⟨_, (pss_one (ps_if (pt_not (pt_val (pe_call GIsBetween (hr.mono (by decide)) rfl AIsBetween.m AIsBetween.kp AIsBetween.b .nil pass0 (pa_cons (pv 1) (pa_cons pe_int (pa_cons (pe_op op_sub (pv 0) pe_int) pa_nil))))))
    (pss_one ps_never)
    pss_nil)), ?_⟩
  refine ⟨_, rfl, _, rfl, _, _, rfl, rfl, e, 0, n - 1, rfl, _, rfl, ?_⟩
  rw [decide_eq_true h1, decide_eq_true (show e ≤ n - 1 by omega)]
  exact q
end
end LT

namespace LT
open PySem PySem.Spec PyProof.Rows L2
theorem bits_nat (k : Nat) : Builtin.Int.intBits (k : Int) = if k = 0 then 0 else k.log2 + 1 := by
  unfold Builtin.Int.intBits
  by_cases h : k = 0
  · subst h; rfl
  · rw [if_neg h, if_neg (by simpa using h)]
    rfl
theorem bits_lb {m : Nat} (h : 1 ≤ m) : Builtin.Int.intBits ((m - 1 : Nat) : Int) = lb m := by
  rw [bits_nat]
  unfold lb
  by_cases k : m ≤ 1
  · rw [if_pos k, if_pos (by omega)]
  · rw [if_neg k, if_neg (by omega)]
theorem lb100 {m : Nat} (h : m ≤ 10 ^ 30) : lb m ≤ 100 := lb_le (Nat.le_trans h (by decide))
theorem fmod_of_dvd {a b : Nat} (h : a ∣ b) : Int.fmod (b : Int) (a : Int) = 0 := by
  rw [Int.fmod_eq_emod_of_nonneg _ (Int.natCast_nonneg _)]
  exact Int.emod_eq_zero_of_dvd (Int.natCast_dvd_natCast.mpr h)
end LT

namespace LT
open PySem PySem.Spec PyProof.Rows L2
section
variable {P : Program} {w : World} {K : PySem.W.Frag} {mg : Str → Option Value} {base : Heap}
def spTree : Sp := fun vs H Q _ => ∃ (n b m : Nat) (v : V), vs = [.int n, v] ∧ Nd H v (b, b + m) ∧ 1 ≤ m ∧ b + m ≤ n ∧ n ≤ 10 ^ 30 ∧ tree n b m ∧ Q (.bl true) H
theorem ok_is_tree_node {f g : Addr} {fd gd : FuncData} (F : Fun K "is_tree_node" "is_tree_node" sIsTreeNode f fd) (GIsBetween : FnOk P w K mg base CX0 2 g gd ["value", "low", "high"] spBetween) (AIsBetween : At K mg "is_between" g gd ["value", "low", "high"])
    (z_isinstance : mg "isinstance" = none) (z_tuple : mg "tuple" = none) (z_len : mg "len" = none) : FnOk P w K mg base CX0 3 f fd ["size", "value"] spTree := by
  refine F.ok scIsTreeNode (fun vs H Q E h => ?_) (fun cdv A outer s H vs Q E hr h => ?_)
  · obtain ⟨_, _, _, _, rfl, _⟩ := h
    rfl
  obtain ⟨n, b, m, v, rfl, ⟨p, rfl, hp⟩, hm, hn, h30, ht, q⟩ := h
  refine ⟨_, (pss_cons (ps_if (PW.pt (pw_or (pt_not (pt_val (pe_callB call_isi (by rfl) z_isinstance (by decide +kernel) (pa_cons (pv 1) (pa_cons (pe_bltn (v := .ty "tuple") (u := .type "tuple") (by rfl) z_tuple (by decide +kernel) rfl) pa_nil))))) (pw_or1 (pt_cmpR op_ne (pe_callB call_len_seq (by rfl) z_len PySem.boot_len (pa_cons (pv 1) pa_nil)) pe_int (nomark _)))))
    (pss_one (ps_ret pe_bl))
    pss_nil)
    (pss_cons (ps_asg (pv 1) (pg_tup (by rfl) (pgs_cons (pg_name (i := 2) scIsTreeNode.nd rfl (Or.inl rfl)) (pgs_cons (pg_name (i := 3) scIsTreeNode.nd rfl (Or.inl rfl)) pgs_nil))))
    (pss_cons (ps_if (PW.pt (pw_or (pt_not (pt_val (pe_call GIsBetween (hr.mono (by decide)) rfl AIsBetween.m AIsBetween.kp AIsBetween.b .nil pass0 (pa_cons (pv 2) (pa_cons pe_int (pa_cons (pe_op op_sub (pv 0) pe_int) pa_nil)))))) (pw_or1 (pt_not (pt_val (pe_call GIsBetween (hr.mono (by decide)) rfl AIsBetween.m AIsBetween.kp AIsBetween.b .nil pass0 (pa_cons (pv 3) (pa_cons (pe_op op_add (pv 2) pe_int) (pa_cons (pv 0) pa_nil)))))))))
    (pss_one (ps_ret pe_bl))
    pss_nil)
    (pss_cons (ps_set (i := 4) scIsTreeNode.nd rfl (Or.inl rfl) (pe_op op_shl pe_int (pe_bits (pe_op op_sub (pe_op op_sub (pv 3) (pv 2)) pe_int))))
    (pss_one (ps_ret (pe_and (pe_cmpR op_eq (pe_op op_modN (pv 2) (pv 4)) pe_int (nomark _)) (pe_one (pe_or (pe_cmpR op_eq (pe_op op_sub (pv 3) (pv 2)) (pv 4) (nomark _)) (pe_one (pe_cmpR op_eq (pv 3) (pv 0) (nomark _)))))))))))), ?_⟩
  refine ⟨_, rfl, _, _, _, _, true, rfl, .ty "tuple", .base (.tup hp), kit_ty (by decide +kernel), true, rfl, ?_⟩
  refine ⟨_, rfl, p, _, rfl, .inr (SqT.of hp), rfl, false, rfl, ?_⟩
  refine ⟨_, rfl, p, _, rfl, SqT.of hp, rfl, _, _, rfl, _, _, rfl, rfl, ?_⟩
  refine ⟨_, rfl, _, rfl, _, _, rfl, rfl, _, _, _, rfl, true, ?_, ?_⟩
  · exact congrArg V.bl (by rw [Bool.and_eq_true]; exact ⟨decide_eq_true (by omega), decide_eq_true (by show (b : Int) ≤ n - 1; omega)⟩)
  refine ⟨_, rfl, _, rfl, _, _, rfl, rfl, _, rfl, _, _, _, rfl, true, ?_, ?_⟩
  · exact congrArg V.bl (by rw [Bool.and_eq_true]; exact ⟨decide_eq_true (by show (b : Int) + 1 ≤ ((b + m : Nat) : Int); omega), decide_eq_true (by show ((b + m : Nat) : Int) ≤ n; omega)⟩)
  have e1 : ((b + m : Nat) : Int) - (b : Int) - 1 = ((m - 1 : Nat) : Int) := by omega
  refine ⟨_, rfl, _, rfl, _, _, rfl, rfl, _, _, rfl, rfl, _, rfl, ?_⟩
  dsimp only
  rw [e1, bits_lb hm]
  have l100 := lb100 (show m ≤ 10 ^ 30 by omega)
  refine ⟨_, _, rfl, rfl, ⟨Int.natCast_nonneg _, by omega, by decide⟩, ?_⟩
  have e2 : (1 : Int) * 2 ^ ((lb m : Nat) : Int).toNat = ((2 ^ lb m : Nat) : Int) := by rw [Int.one_mul, Int.toNat_natCast]; exact (Int.natCast_pow 2 (lb m)).symm
  dsimp only
  rw [e2]
  obtain ⟨d, k⟩ := ht
  have pz : 0 < 2 ^ lb m := Nat.pow_pos (by decide)
  generalize 2 ^ lb m = R at d k pz
  refine ⟨_, rfl, _, rfl, _, _, rfl, rfl, by omega, rfl, true, ?_, ?_⟩
  · show V.bl (decide (V.int (Int.fmod (b : Int) (R : Int)) = V.int 0)) = V.bl true
    rw [fmod_of_dvd d, decide_eq_true rfl]
  refine ⟨_, rfl, _, rfl, _, _, rfl, rfl, _, rfl, rfl, _, rfl, ite2 (fun c => q) (fun c => ?_)⟩
  have c1 : ¬ V.int (((b + m : Nat) : Int) - (b : Int)) = V.int (R : Int) := of_decide_eq_false (Bool.eq_false_iff.mpr c)
  refine ⟨_, rfl, _, rfl, rfl, ?_⟩
  have e4 : b + m = n := by
    rcases k with k | k
    · exact absurd (congrArg V.int (by omega)) c1
    · exact k
  show Q (V.bl (decide (V.int ((b + m : Nat) : Int) = V.int (n : Int)))) H
  rw [decide_eq_true (by rw [e4])]
  exact q
def spCheckNode : Sp := fun vs H Q _ => ∃ (n b m : Nat) (v : V), vs = [.int n, v] ∧ Nd H v (b, b + m) ∧ 1 ≤ m ∧ b + m ≤ n ∧ n ≤ 10 ^ 30 ∧ tree n b m ∧ Q .non H
theorem ok_check_node {f g : Addr} {fd gd : FuncData} (F : Fun K "check_node" "check_node" sCheckNode f fd) (GIsTreeNode : FnOk P w K mg base CX0 3 g gd ["size", "value"] spTree) (AIsTreeNode : At K mg "is_tree_node" g gd ["size", "value"]) : FnOk P w K mg base CX0 4 f fd ["size", "node"] spCheckNode := by
  refine F.ok scCheckNode (fun vs H Q E h => ?_) (fun cdv A outer s H vs Q E hr h => ?_)
  · obtain ⟨_, _, _, _, rfl, _⟩ := h
    rfl
  obtain ⟨n, b, m, v, rfl, hv, hm, hn, h30, ht, q⟩ := h
  refine ⟨_, (pss_one (ps_if (pt_not (pt_val (pe_call GIsTreeNode (hr.mono (by decide)) rfl AIsTreeNode.m AIsTreeNode.kp AIsTreeNode.b .nil pass0 (pa_cons (pv 0) (pa_cons (pv 1) pa_nil)))))
    (pss_one ps_never)
    pss_nil)), ?_⟩
  refine ⟨_, rfl, _, rfl, n, b, m, v, rfl, hv, hm, hn, h30, ht, true, rfl, q⟩
end
end LT

namespace LT
open PySem PySem.Spec PyProof.Rows L2
section
variable {P : Program} {w : World} {K : PySem.W.Frag} {mg : Str → Option Value} {base : Heap}
def spPower : Sp := fun vs H Q _ => ∃ (k : Nat), vs = [.int k] ∧ 1 ≤ k ∧ k ≤ 10 ^ 30 ∧ Q (.int ((2 ^ k.log2 : Nat) : Int)) H
theorem ok_power_within {f : Addr} {fd : FuncData} (F : Fun K "power_within" "power_within" sPowerWithin f fd) : FnOk P w K mg base CX0 1 f fd ["number"] spPower := by
  refine F.ok scPowerWithin (fun vs H Q E h => ?_) (fun cdv A outer s H vs Q E hr h => ?_)
  · obtain ⟨_, rfl, _⟩ := h
    rfl
  obtain ⟨k, rfl, h1, h30, q⟩ := h
  refine ⟨_, (pss_one (ps_ret (pe_op op_shl pe_int (pe_op op_sub (pe_bits (pv 0)) pe_int)))), ?_⟩
  refine ⟨_, rfl, _, rfl, _, _, rfl, rfl, ?_⟩
  dsimp only
  have e : ((Builtin.Int.intBits (k : Int) : Nat) : Int) - 1 = ((k.log2 : Nat) : Int) := by
    rw [bits_nat, if_neg (by omega)]
    omega
  rw [e]
  have l100 : k.log2 < 100 := (Nat.log2_lt (by omega)).mpr (Nat.lt_of_le_of_lt h30 (by decide))
  refine ⟨_, _, rfl, rfl, ⟨Int.natCast_nonneg _, by omega, by decide⟩, ?_⟩
  have e2 : (1 : Int) * 2 ^ ((k.log2 : Nat) : Int).toNat = ((2 ^ k.log2 : Nat) : Int) := by rw [Int.one_mul, Int.toNat_natCast]; exact (Int.natCast_pow 2 _).symm
  show Q (.int ((1 : Int) * 2 ^ ((k.log2 : Nat) : Int).toNat)) H
  rw [e2]
  exact q
end
end LT

namespace LT
open PySem PySem.Spec PyProof.Rows L2
section
variable {P : Program} {w : World} {K : PySem.W.Frag} {mg : Str → Option Value} {base : Heap}
def spHalves : Sp := fun vs H Q _ => ∃ (n b m : Nat) (v : V), vs = [.int n, v] ∧ Nd H v (b, b + m) ∧ 2 ≤ m ∧ b + m ≤ n ∧ n ≤ 10 ^ 30 ∧ tree n b m ∧
  ∀ (H' : Hp) (q : Addr) (l h : V), Same H H' → H q = none → H' q = some (.tup [l, h]) → Nd H' l (b, b + gp m) → Nd H' h (b + gp m, b + m) → Q (.ref q) H'
theorem ok_halves {f g1 g2 g3 : Addr} {fd d1 d2 d3 : FuncData} (F : Fun K "halves" "halves" sHalves f fd) (GCheckSize : FnOk P w K mg base CX0 3 g1 d1 ["size"] spCheckSize) (ACheckSize : At K mg "check_size" g1 d1 ["size"])
    (GCheckNode : FnOk P w K mg base CX0 4 g2 d2 ["size", "node"] spCheckNode) (ACheckNode : At K mg "check_node" g2 d2 ["size", "node"]) (GPowerWithin : FnOk P w K mg base CX0 1 g3 d3 ["number"] spPower) (APowerWithin : At K mg "power_within" g3 d3 ["number"]) :
    FnOk P w K mg base CX0 5 f fd ["size", "node"] spHalves := by
  refine F.ok scHalves (fun vs H Q E h => ?_) (fun cdv A outer s H vs Q E hr h => ?_)
  · obtain ⟨_, _, _, _, rfl, _⟩ := h
    rfl
  obtain ⟨n, b, m, v, rfl, hv, hm, hn, h30, ht, q⟩ := h
  refine ⟨_, (pss_cons (ps_expr (pe_call GCheckSize (hr.mono (by decide)) rfl ACheckSize.m ACheckSize.kp ACheckSize.b .nil pass0 (pa_cons (pv 0) pa_nil)))
    (pss_cons (ps_expr (pe_call GCheckNode (hr.mono (by decide)) rfl ACheckNode.m ACheckNode.kp ACheckNode.b .nil pass0 (pa_cons (pv 0) (pa_cons (pv 1) pa_nil))))
    (pss_cons (ps_asg (pv 1) (pg_tup (by rfl) (pgs_cons (pg_name (i := 2) scHalves.nd rfl (Or.inl rfl)) (pgs_cons (pg_name (i := 3) scHalves.nd rfl (Or.inl rfl)) pgs_nil))))
    (pss_cons (ps_if (pt_cmpR op_eq (pe_op op_sub (pv 3) (pv 2)) pe_int (nomark _))
    (pss_one (ps_ret pe_non))
    pss_nil)
    (pss_cons (ps_set (i := 4) scHalves.nd rfl (Or.inl rfl) (pe_op op_add (pv 2) (pe_call GPowerWithin (hr.mono (by decide)) rfl APowerWithin.m APowerWithin.kp APowerWithin.b .nil pass0 (pa_cons (pe_op op_sub (pe_op op_sub (pv 3) (pv 2)) pe_int) pa_nil))))
    (pss_one (ps_ret (pe_tup (pa_cons (pe_tup (pa_cons (pv 2) (pa_cons (pv 4) pa_nil))) (pa_cons (pe_tup (pa_cons (pv 4) (pa_cons (pv 3) pa_nil))) pa_nil)))))))))), ?_⟩
  refine ⟨_, rfl, n, rfl, by omega, by omega, ?_⟩
  refine ⟨_, rfl, _, rfl, n, b, m, v, rfl, hv, by omega, hn, h30, ht, ?_⟩
  obtain ⟨p, rfl, hp⟩ := id hv
  refine ⟨_, rfl, p, _, rfl, SqT.of hp, rfl, _, _, rfl, _, _, rfl, rfl, ?_⟩
  refine ⟨_, rfl, _, rfl, _, _, rfl, rfl, rfl, _, rfl, ite2 (fun c => ?_) (fun _ => ?_)⟩
  · have c1 : V.int (((b + m : Nat) : Int) - (b : Int)) = V.int 1 := of_decide_eq_true c
    have := V.int.inj c1
    omega
  have e1 : ((b + m : Nat) : Int) - (b : Int) - 1 = ((m - 1 : Nat) : Int) := by omega
  refine ⟨_, rfl, _, rfl, _, rfl, _, _, rfl, rfl, _, _, rfl, rfl, m - 1, congrArg (fun z => [V.int z]) e1, by omega, by omega, _, _, rfl, rfl, ?_⟩
  have e2 : (b : Int) + ((2 ^ (m - 1).log2 : Nat) : Int) = ((b + gp m : Nat) : Int) := by unfold gp; omega
  have two : 2 ≤ sizeLine := by decide
  refine ⟨_, rfl, _, rfl, two, fun t1 n1 => ⟨_, rfl, _, rfl, two, fun t2 n2 => ⟨two, fun t3 n3 => ?_⟩⟩⟩
  dsimp only
  have s1 := same_upd (o := .tup [.int (b : Int), .int ((b : Int) + ((2 ^ (m - 1).log2 : Nat) : Int))]) n1
  have s2 := same_upd (o := .tup [.int ((b : Int) + ((2 ^ (m - 1).log2 : Nat) : Int)), .int ((b + m : Nat) : Int)]) n2
  have s3 := same_upd (o := .tup [.ref t1, .ref t2]) n3
  refine q _ t3 (.ref t1) (.ref t2) (s1.trans (s2.trans s3)) ((s1.trans s2).free n3) upd_same ⟨t1, rfl, s3 _ _ (s2 _ _ ?_)⟩ ⟨t2, rfl, s3 _ _ ?_⟩
  · rw [upd_same]
    dsimp only
    rw [e2]
  · rw [upd_same]
    dsimp only
    rw [e2]
def spPath : Sp := fun vs H Q _ => ∃ (n e : Nat), vs = [.int n, .int e] ∧ e < n ∧ n ≤ 10 ^ 30 ∧
  ∀ (H' : Hp) (p : Addr) (xs : List V), Same H H' → H p = none → H' p = some (.lst xs) → All2 (Nd H') xs (sib 0 n e).reverse → Q (.ref p) H'
theorem ok_path {f g1 g2 g3 : Addr} {fd d1 d2 d3 : FuncData} (F : Fun K "path" "path" sPath f fd) (GCheckSize : FnOk P w K mg base CX0 3 g1 d1 ["size"] spCheckSize) (ACheckSize : At K mg "check_size" g1 d1 ["size"])
    (GCheckEntry : FnOk P w K mg base CX0 3 g2 d2 ["size", "entry"] spCheckEntry) (ACheckEntry : At K mg "check_entry" g2 d2 ["size", "entry"]) (GHalves : FnOk P w K mg base CX0 5 g3 d3 ["size", "node"] spHalves) (AHalves : At K mg "halves" g3 d3 ["size", "node"]) :
    FnOk P w K mg base CX0 6 f fd ["size", "entry"] spPath := by
  refine F.ok scPath (fun vs H Q E h => ?_) (fun cdv A outer s H vs Q E hr h => ?_)
  · obtain ⟨_, _, rfl, _⟩ := h
    rfl
  obtain ⟨n, e, rfl, he, h30, q⟩ := h
  refine ⟨_, (pss_cons (ps_expr (pe_call GCheckSize (hr.mono (by decide)) rfl ACheckSize.m ACheckSize.kp ACheckSize.b .nil pass0 (pa_cons (pv 0) pa_nil)))
    (pss_cons (ps_expr (pe_call GCheckEntry (hr.mono (by decide)) rfl ACheckEntry.m ACheckEntry.kp ACheckEntry.b .nil pass0 (pa_cons (pv 0) (pa_cons (pv 1) pa_nil))))
    (pss_cons (ps_set (i := 2) scPath.nd rfl (Or.inl rfl) (pe_lst pa_nil))
    (pss_cons (ps_set (i := 3) scPath.nd rfl (Or.inl rfl) (pe_tup (pa_cons pe_int (pa_cons (pv 0) pa_nil))))
    (pss_cons (ps_while PassesOwn.never (pt_cmpR (op_neD hr.units) (pv 3) (pe_tup (pa_cons (pv 1) (pa_cons (pe_op op_add (pv 1) pe_int) pa_nil))) (nomark _))
    (pss_cons (ps_asg (pe_call GHalves (hr.mono (by decide)) rfl AHalves.m AHalves.kp AHalves.b .nil pass0 (pa_cons (pv 0) (pa_cons (pv 3) pa_nil))) (pg_tup (by rfl) (pgs_cons (pg_name (i := 4) scPath.nd rfl (Or.inl rfl)) (pgs_cons (pg_name (i := 5) scPath.nd rfl (Or.inl rfl)) pgs_nil))))
    (pss_one (ps_if (pt_cmpR op_lt (pv 1) (pe_ix ix_tup (pv 4) pe_int (fun _ _ => rfl)) (nomark _))
    (pss_cons (ps_set (i := 3) scPath.nd rfl (Or.inl rfl) (pv 4))
    (pss_one (ps_expr (pe_bm PySem.F.plainAttrs_list PySem.F.slot_list_append PySem.F.type_list_append mt_append (pv 2) (pa_cons (pv 5) pa_nil)))))
    (pss_cons (ps_set (i := 3) scPath.nd rfl (Or.inl rfl) (pv 5))
    (pss_one (ps_expr (pe_bm PySem.F.plainAttrs_list PySem.F.slot_list_append PySem.F.type_list_append mt_append (pv 2) (pa_cons (pv 4) pa_nil)))))))))
    (pss_one (ps_ret (pe_revL (pv 2))))))))), ?_⟩
  refine ⟨_, rfl, n, rfl, by omega, by omega, ?_⟩
  refine ⟨_, rfl, _, rfl, n, e, rfl, by omega, by omega, ?_⟩
  have two : 2 ≤ sizeLine := by decide
  refine ⟨Nat.zero_le _, fun sb nsb => ?_⟩
  have z1 := same_upd (o := .lst []) nsb
  refine ⟨_, rfl, two, fun t0 n0 => ?_⟩
  have z2 := same_upd (o := .tup [.int 0, .int (n : Int)]) n0
  refine ⟨fun mu σ H' => ∃ (b : Nat) (nv : V) (v4 v5 : Option V) (xs : List V) (done : List (Nat × Nat)), σ = [some (.int n), some (.int e), some (.ref sb), some nv, v4, v5] ∧ Same H H' ∧ H' sb = some (.lst xs) ∧ All2 (Nd H') xs done ∧
      Nd H' nv (b, b + mu) ∧ 1 ≤ mu ∧ b ≤ e ∧ e < b + mu ∧ b + mu ≤ n ∧ tree n b mu ∧ done ++ sib b mu e = sib 0 n e,
    ⟨n, 0, .ref t0, none, none, [], [], rfl, z1.trans z2, z2 _ _ upd_same, .nil, ⟨t0, rfl, by rw [upd_same]; simp⟩, by omega, by omega, by omega, by omega, tree_root n, rfl⟩, ?_⟩
  rintro m σ H1 ⟨b, nv, v4, v5, xs, done, rfl, sm, hs, hx, hv, hm, hb, hb2, hn, ht, hd⟩
  refine ⟨_, rfl, _, rfl, _, rfl, _, _, rfl, rfl, two, fun t nt => ?_⟩
  have s1 := same_upd (o := .tup [.int (e : Int), .int ((e : Int) + 1)]) nt
  refine ⟨_, _, (hv.same s1).dp, .tup (SqT.of upd_same) (.cons (.int _) (.cons (.int _) .nil)), nd_shaped _ _, nd_shaped _ _, ?_⟩
  rw [nd_eqv]
  have hlen : done.length ≤ 100 := by
    have k1 := sib_len_le n 0 e (Nat.zero_le _) (by omega)
    have k2 := lb100 h30
    have k3 := congrArg List.length hd
    rw [List.length_append] at k3
    omega
  have hs1 : (upd H1 t (.tup [.int (e : Int), .int ((e : Int) + 1)])) sb = some (.lst xs) := s1 _ _ hs
  have hx1 := hx.mono (fun v x (k : Nd H1 v x) => k.same s1)
  have hv1 := hv.same s1
  have sm1 := sm.trans s1
  generalize upd H1 t (.tup [.int (e : Int), .int ((e : Int) + 1)]) = H2 at hs1 hx1 hv1 sm1
  by_cases h1 : m = 1
  · refine ⟨false, ?_, iteF ?_⟩
    · subst h1
      have : b = e := by omega
      subst this
      simp
    · subst h1
      rw [sib_one (by omega), List.append_nil] at hd
      refine ⟨_, rfl, sb, xs, rfl, SqL.of hs1, fun p np => ?_⟩
      have s3 := same_upd (o := .lst xs.reverse) np
      refine q _ p xs.reverse (sm1.trans s3) (sm1.free np) upd_same ?_
      rw [← hd]
      exact (hx1.mono (fun v x (k : Nd H2 v x) => k.same s3)).rev
  · refine ⟨true, ?_, iteT ⟨fun σ' H' => ∃ mu, mu < m ∧ ∃ (b : Nat) (nv : V) (v4 v5 : Option V) (xs : List V) (done : List (Nat × Nat)), σ' = [some (.int n), some (.int e), some (.ref sb), some nv, v4, v5] ∧ Same H H' ∧ H' sb = some (.lst xs) ∧ All2 (Nd H') xs done ∧
      Nd H' nv (b, b + mu) ∧ 1 ≤ mu ∧ b ≤ e ∧ e < b + mu ∧ b + mu ≤ n ∧ tree n b mu ∧ done ++ sib b mu e = sib 0 n e, fun σ' H' h => h, ?_⟩⟩
    · refine congrArg V.bl ?_
      rw [Bool.not_eq_true', Bool.and_eq_false_iff]
      by_cases c : b = e
      · right
        exact decide_eq_false (by show ¬ ((b + m : Nat) : Int) = (e : Int) + 1; omega)
      · left
        exact decide_eq_false (by show ¬ (b : Int) = (e : Int); omega)
    have hm2 : 2 ≤ m := by omega
    have gl := gp_lt hm2
    have gg := gp_pos m
    refine ⟨_, rfl, _, rfl, n, b, m, nv, rfl, hv1, hm2, hn, h30, ht, fun H3 qa l h s3 nqa hqa hl hh => ?_⟩
    refine ⟨qa, _, rfl, SqT.of hqa, rfl, _, _, rfl, _, _, rfl, rfl, ?_⟩
    obtain ⟨lp, rfl, hlp⟩ := id hl
    refine ⟨_, rfl, _, rfl, lp, _, _, _, rfl, rfl, SqT.of hlp, (atI_nat (j := 1) rfl), _, _, rfl, rfl, _, rfl, ite2 (fun c => ?_) (fun c => ?_)⟩
    · have c1 : (e : Int) < ((b + gp m : Nat) : Int) := of_decide_eq_true c
      have hs3 := s3 _ _ hs1
      refine ⟨_, rfl, ?_⟩
      refine ⟨_, rfl, .inl ⟨rfl, _, SqL.of hs3⟩, _, rfl, sb, _, _, rfl, rfl, hs3, szlt (by rw [hx.len]; omega), ?_⟩
      refine ⟨gp m, gl, b, _, _, _, xs ++ [h], done ++ [(b + gp m, b + m)], rfl, ?_, upd_same, ?_, hl.upd hs3, by omega, hb, by omega, by omega, tree_low hm2 ht, ?_⟩
      · exact fun a o k => by rw [upd_ne (ne_of_none k nsb)]; exact s3 _ _ (sm1 _ _ k)
      · exact (hx1.mono (fun v x (k : Nd H2 v x) => (k.same s3).upd hs3)).app (.cons (hh.upd hs3) .nil)
      · rw [sib_low hm2 (by omega)] at hd
        rw [← hd, List.append_assoc]
        rfl
    · have c1 : ¬ (e : Int) < ((b + gp m : Nat) : Int) := of_decide_eq_false (Bool.eq_false_iff.mpr c)
      have hs3 := s3 _ _ hs1
      refine ⟨_, rfl, ?_⟩
      refine ⟨_, rfl, .inl ⟨rfl, _, SqL.of hs3⟩, _, rfl, sb, _, _, rfl, rfl, hs3, szlt (by rw [hx.len]; omega), ?_⟩
      have e5 : b + gp m + (m - gp m) = b + m := by omega
      refine ⟨m - gp m, by omega, b + gp m, _, _, _, xs ++ [.ref lp], done ++ [(b, b + gp m)], rfl, ?_, upd_same, ?_, by rw [e5]; exact hh.upd hs3, by omega, by omega, by omega, by omega, tree_high hm2 ht, ?_⟩
      · exact fun a o k => by rw [upd_ne (ne_of_none k nsb)]; exact s3 _ _ (sm1 _ _ k)
      · exact (hx1.mono (fun v x (k : Nd H2 v x) => (k.same s3).upd hs3)).app (.cons (hl.upd hs3) .nil)
      · rw [sib_high hm2 (by omega)] at hd
        rw [← hd, List.append_assoc]
        rfl
def spDepth : Sp := fun vs H Q _ => ∃ (n e : Nat), vs = [.int n, .int e] ∧ e < n ∧ n ≤ 10 ^ 30 ∧ ∀ (H' : Hp), Same H H' → Q (.int (((sib 0 n e).length : Nat) : Int)) H'
theorem ok_depth {f g1 : Addr} {fd d1 : FuncData} (F : Fun K "depth" "depth" sDepth f fd) (GPath : FnOk P w K mg base CX0 6 g1 d1 ["size", "entry"] spPath) (APath : At K mg "path" g1 d1 ["size", "entry"]) (z_len : mg "len" = none) :
    FnOk P w K mg base CX0 7 f fd ["size", "entry"] spDepth := by
  refine F.ok scDepth (fun vs H Q E h => ?_) (fun cdv A outer s H vs Q E hr h => ?_)
  · obtain ⟨_, _, rfl, _⟩ := h
    rfl
  obtain ⟨n, e, rfl, he, h30, q⟩ := h
  refine ⟨_, (pss_one (ps_ret (pe_callB call_len_seq (by rfl) z_len PySem.boot_len (pa_cons (pe_call GPath (hr.mono (by decide)) rfl APath.m APath.kp APath.b .nil pass0 (pa_cons (pv 0) (pa_cons (pv 1) pa_nil))) pa_nil)))), ?_⟩
  refine ⟨_, rfl, _, rfl, n, e, rfl, he, h30, fun H' p xs sm np hp hx => ⟨p, xs, rfl, .inl (SqL.of hp), ?_⟩⟩
  have k := hx.len
  rw [List.length_reverse] at k
  rw [k]
  exact q H' sm
end
end LT

namespace LT
/-- the nodes from (b, b + m) down, as the law lists them -/
def nodesF : Nat → Nat → Nat → List (Nat × Nat)
  | 0, _, _ => []
  | i + 1, b, m => if m ≤ 1 then [(b, b + m)] else (b, b + m) :: (nodesF i b (gp m) ++ nodesF i (b + gp m) (m - gp m))
theorem nodesF_one {i b m : Nat} (h : m ≤ 1) : nodesF (i + 1) b m = [(b, b + m)] := if_pos h
theorem nodesF_two {i b m : Nat} (h : ¬ m ≤ 1) : nodesF (i + 1) b m = (b, b + m) :: (nodesF i b (gp m) ++ nodesF i (b + gp m) (m - gp m)) := if_neg h
theorem gp_half {i m : Nat} (h : 2 ≤ m) (k : 2 * m ≤ 2 ^ (i + 1)) : 2 * gp m ≤ 2 ^ i ∧ 2 * (m - gp m) ≤ 2 ^ i := by
  have g1 := gp_lt h
  have g2 := gp_ge h
  have p := Nat.pow_succ (n := 2) (m := i)
  have : gp m < 2 ^ i := by omega
  unfold gp at this ⊢
  have e := (Nat.pow_lt_pow_iff_right (by decide : 1 < 2)).mp this
  have e2 : 2 ^ ((m - 1).log2 + 1) ≤ 2 ^ i := Nat.pow_le_pow_right (by decide) (by omega)
  rw [Nat.pow_succ] at e2
  unfold gp at g1 g2
  omega
theorem nodesF_len : ∀ (i b m : Nat), 1 ≤ m → 2 * m ≤ 2 ^ i → (nodesF i b m).length = 2 * m - 1
  | 0, b, m, h1, h2 => by simp at h2; omega
  | i + 1, b, m, h1, h2 => by
    by_cases c : m ≤ 1
    · rw [nodesF_one c]
      simp
      omega
    · rw [nodesF_two c, List.length_cons, List.length_append]
      have g1 := gp_lt (m := m) (by omega)
      have g3 := gp_pos m
      obtain ⟨k1, k2⟩ := gp_half (by omega) h2
      rw [nodesF_len i b (gp m) g3 k1, nodesF_len i (b + gp m) (m - gp m) (by omega) k2]
      omega
/-- a node of tree(n) -/
def isN (n : Nat) (x : Nat × Nat) : Prop := x.1 < x.2 ∧ x.2 ≤ n ∧ tree n x.1 (x.2 - x.1)
theorem mul_le_of_lt {R a b : Nat} (h1 : R ∣ a) (h2 : R ∣ b) (h : a < b) : a + R ≤ b := by
  obtain ⟨x, rfl⟩ := h1
  obtain ⟨y, rfl⟩ := h2
  have : x < y := Nat.lt_of_mul_lt_mul_left h
  calc R * x + R = R * (x + 1) := by rw [Nat.mul_succ]
    _ ≤ R * y := Nat.mul_le_mul_left R this
/-- a node within another one is it, or lies within one of its halves -/
theorem node_in {n b m : Nat} (h : 2 ≤ m) (t : tree n b m) (hn : b + m ≤ n) {x : Nat × Nat} (hx : isN n x) (h1 : b ≤ x.1) (h2 : x.2 ≤ b + m) : x = (b, b + m) ∨ x.2 ≤ b + gp m ∨ b + gp m ≤ x.1 := by
  obtain ⟨x1, x2⟩ := x
  obtain ⟨k1, k2, d, k3⟩ := hx
  simp only at k1 k2 d k3 h1 h2
  by_cases c1 : x2 ≤ b + gp m
  · exact .inr (.inl c1)
  by_cases c2 : b + gp m ≤ x1
  · exact .inr (.inr c2)
  left
  obtain ⟨td, tk⟩ := t
  have e := lb_gp h
  rw [e] at td tk
  have g1 := gp_lt h
  have g2 := gp_ge h
  have gR : gp m = 2 ^ Nat.log2 (m - 1) := rfl
  generalize hr : lb (x2 - x1) = r at d k3
  have ge := lb_ge (x2 - x1)
  rw [hr] at ge
  by_cases c : r ≤ Nat.log2 (m - 1)
  · -- small: a multiple of 2 ^ r below b + gp m ends there at most
    have dg : 2 ^ r ∣ gp m := by rw [gR]; exact Nat.pow_dvd_pow 2 c
    have db : 2 ^ r ∣ b := Nat.dvd_trans dg (Nat.dvd_trans (Nat.dvd_mul_left _ _) td)
    have := mul_le_of_lt d (Nat.dvd_add db dg) (by omega : x1 < b + gp m)
    omega
  · have dd : 2 * gp m ∣ 2 ^ r := by
      rw [gR, Nat.mul_comm, ← Nat.pow_succ]
      exact Nat.pow_dvd_pow 2 (by omega)
    have dx := Nat.dvd_trans dd d
    have ex : x1 = b := by
      by_cases z : b < x1
      · have := mul_le_of_lt td dx z
        omega
      · omega
    subst ex
    have le : 2 * gp m ≤ 2 ^ r := Nat.le_of_dvd (Nat.pow_pos (by decide)) dd
    have rl : r ≤ Nat.log2 (m - 1) + 1 := by
      rw [← hr]
      refine lb_le ?_
      rw [Nat.pow_succ, ← gR]
      omega
    have e2 : 2 ^ r ≤ 2 * gp m := by
      rw [gR, Nat.mul_comm, ← Nat.pow_succ]
      exact Nat.pow_le_pow_right (by decide) rl
    have : x2 = x1 + m := by
      rcases k3 with k3 | k3 <;> omega
    rw [this]
theorem mem_nodesF (n : Nat) (x : Nat × Nat) : ∀ (i b m : Nat), 1 ≤ m → 2 * m ≤ 2 ^ i → tree n b m → b + m ≤ n → (x ∈ nodesF i b m ↔ isN n x ∧ b ≤ x.1 ∧ x.2 ≤ b + m)
  | 0, b, m, h1, h2, _, _ => by simp at h2; omega
  | i + 1, b, m, h1, h2, t, hn => by
    by_cases c : m ≤ 1
    · have em : m = 1 := by omega
      subst em
      rw [nodesF_one (by omega), List.mem_singleton]
      constructor
      · rintro rfl
        exact ⟨⟨by simp, by simpa using hn, by simpa using t⟩, by simp, by simp⟩
      · rintro ⟨⟨k1, _⟩, k2, k3⟩
        have : x.1 = b ∧ x.2 = b + 1 := by omega
        exact Prod.ext this.1 this.2
    · rw [nodesF_two c, List.mem_cons, List.mem_append]
      have g1 := gp_lt (m := m) (by omega)
      have g3 := gp_pos m
      obtain ⟨k1, k2⟩ := gp_half (by omega) h2
      have e : b + gp m + (m - gp m) = b + m := by omega
      have il := mem_nodesF n x i b (gp m) g3 k1 (tree_low (by omega) t) (by omega)
      have ih := mem_nodesF n x i (b + gp m) (m - gp m) (by omega) k2 (tree_high (by omega) t) (by omega)
      rw [il, ih, e]
      constructor
      · rintro (rfl | ⟨p, q, r⟩ | ⟨p, q, r⟩)
        · exact ⟨⟨by simp; omega, by simpa using hn, by simpa using t⟩, by simp, by simp⟩
        · exact ⟨p, q, by omega⟩
        · exact ⟨p, by omega, r⟩
      · rintro ⟨p, q, r⟩
        rcases node_in (by omega) t hn p q r with z | z | z
        · exact .inl z
        · exact .inr (.inl ⟨p, q, z⟩)
        · exact .inr (.inr ⟨p, z, r⟩)
instance (n : Nat) (x : Nat × Nat) : Decidable (tree n x.1 (x.2 - x.1)) := by unfold tree; infer_instance
instance (n : Nat) (x : Nat × Nat) : Decidable (isN n x) := by unfold isN; infer_instance
end LT

namespace LT
open PySem PySem.Spec PyProof.Rows L2
def tnV (n : Nat) : V → V → Bool
  | .int b, .int e => decide (0 ≤ b ∧ isN n (b.toNat, e.toNat))
  | _, _ => false
theorem tn_out {n : Nat} {b e : Int} (h : ¬ (0 ≤ b ∧ b < e ∧ e ≤ n)) : tnV n (.int b) (.int e) = false := by
  refine decide_eq_false (fun ⟨h0, k⟩ => h ⟨h0, ?_, ?_⟩)
  · have := k.1
    simp only at this
    omega
  · have := k.1
    have := k.2.1
    simp only at *
    omega
/-- what may be asked whether it is a node -/
inductive Ask (K : PySem.W.Frag) (H : Hp) (n : Nat) : V → Bool → Prop
  | kind {v : V} {t : String} : Pl K H v t → t ≠ "tuple" → Ask K H n v false
  | long {p : Addr} {xs : List V} : H p = some (.tup xs) → xs.length ≠ 2 → xs.length ≤ 1000 → Ask K H n (.ref p) false
  | pair {p : Addr} {v1 v2 : V} {t1 t2 : String} : H p = some (.tup [v1, v2]) → Pl K H v1 t1 → Pl K H v2 t2 → Ask K H n (.ref p) (tnV n v1 v2)
theorem kit_tup {t : String} {K : PySem.W.Frag} {H : Hp} {v : V} (h : Pl K H v t) (hn : t ≠ "tuple") : PySem.W.kitOne K (.type t) (.type "tuple") = some false := by
  cases h with
  | non => exact kit_ty (by decide +kernel)
  | bl _ => exact kit_ty (by decide +kernel)
  | int _ => exact kit_ty (by decide +kernel)
  | str _ => exact kit_ty (by decide +kernel)
  | lst _ => exact kit_ty (by decide +kernel)
  | tup _ => exact absurd rfl hn
  | dict _ => exact kit_ty (by decide +kernel)
section
variable {P : Program} {w : World} {K : PySem.W.Frag} {mg : Str → Option Value} {base : Heap}
def spTreeV (K : PySem.W.Frag) : Sp := fun vs H Q _ => ∃ (n : Nat) (v : V) (r : Bool), vs = [.int n, v] ∧ 1 ≤ n ∧ n ≤ 2 ^ 100 ∧ Ask K H n v r ∧ Q (.bl r) H
theorem ok_is_tree_nodeV {f g : Addr} {fd gd : FuncData} (F : Fun K "is_tree_node" "is_tree_node" sIsTreeNode f fd) (GIsBetween : FnOk P w K mg base CX0 2 g gd ["value", "low", "high"] (spBetweenV K)) (AIsBetween : At K mg "is_between" g gd ["value", "low", "high"])
    (z_isinstance : mg "isinstance" = none) (z_tuple : mg "tuple" = none) (z_len : mg "len" = none) : FnOk P w K mg base CX0 3 f fd ["size", "value"] (spTreeV K) := by
  refine F.ok scIsTreeNode (fun vs H Q E h => ?_) (fun cdv A outer s H vs Q E hr h => ?_)
  · obtain ⟨_, _, _, rfl, _⟩ := h
    rfl
  obtain ⟨n, v, r, rfl, n1, h30, ask, q⟩ := h
  refine ⟨_, (pss_cons (ps_if (PW.pt (pw_or (pt_not (pt_val (pe_callB call_isi (by rfl) z_isinstance (by decide +kernel) (pa_cons (pv 1) (pa_cons (pe_bltn (v := .ty "tuple") (u := .type "tuple") (by rfl) z_tuple (by decide +kernel) rfl) pa_nil))))) (pw_or1 (pt_cmpR op_ne (pe_callB call_len_seq (by rfl) z_len PySem.boot_len (pa_cons (pv 1) pa_nil)) pe_int (nomark _)))))
    (pss_one (ps_ret pe_bl))
    pss_nil)
    (pss_cons (ps_asg (pv 1) (pg_tup (by rfl) (pgs_cons (pg_name (i := 2) scIsTreeNode.nd rfl (Or.inl rfl)) (pgs_cons (pg_name (i := 3) scIsTreeNode.nd rfl (Or.inl rfl)) pgs_nil))))
    (pss_cons (ps_if (PW.pt (pw_or (pt_not (pt_val (pe_call GIsBetween (hr.mono (by decide)) rfl AIsBetween.m AIsBetween.kp AIsBetween.b .nil pass0 (pa_cons (pv 2) (pa_cons pe_int (pa_cons (pe_op op_sub (pv 0) pe_int) pa_nil)))))) (pw_or1 (pt_not (pt_val (pe_call GIsBetween (hr.mono (by decide)) rfl AIsBetween.m AIsBetween.kp AIsBetween.b .nil pass0 (pa_cons (pv 3) (pa_cons (pe_op op_add (pv 2) pe_int) (pa_cons (pv 0) pa_nil)))))))))
    (pss_one (ps_ret pe_bl))
    pss_nil)
    (pss_cons (ps_set (i := 4) scIsTreeNode.nd rfl (Or.inl rfl) (pe_op op_shl pe_int (pe_bits (pe_op op_sub (pe_op op_sub (pv 3) (pv 2)) pe_int))))
    (pss_one (ps_ret (pe_and (pe_cmpR op_eq (pe_op op_modN (pv 2) (pv 4)) pe_int (nomark _)) (pe_one (pe_or (pe_cmpR op_eq (pe_op op_sub (pv 3) (pv 2)) (pv 4) (nomark _)) (pe_one (pe_cmpR op_eq (pv 3) (pv 0) (nomark _)))))))))))), ?_⟩
  cases ask with
  | @kind _ t hv ht => exact ⟨_, rfl, _, _, _, _, false, rfl, .ty "tuple", hv.ty, kit_tup hv ht, false, rfl, q⟩
  | @long p xs hp hl h1000 =>
    refine ⟨_, rfl, _, _, _, _, true, rfl, .ty "tuple", .base (.tup hp), kit_ty (by decide +kernel), true, rfl, ?_⟩
    refine ⟨_, rfl, p, _, rfl, .inr (SqT.of hp), rfl, true, ?_, q⟩
    refine congrArg V.bl ?_
    rw [Bool.not_eq_true']
    exact decide_eq_false (fun z => hl (by have := V.int.inj z; omega))
  | @pair p v1 v2 ty1 ty2 hp p1 p2 =>
    refine ⟨_, rfl, _, _, _, _, true, rfl, .ty "tuple", .base (.tup hp), kit_ty (by decide +kernel), true, rfl, ?_⟩
    refine ⟨_, rfl, p, _, rfl, .inr (SqT.of hp), rfl, false, rfl, ?_⟩
    refine ⟨_, rfl, p, _, rfl, SqT.of hp, rfl, _, _, rfl, _, _, rfl, rfl, ?_⟩
    refine ⟨_, rfl, _, rfl, _, _, rfl, rfl, v1, ty1, _, _, rfl, p1, inRange 0 ((n : Int) - 1) v1, rfl, ?_⟩
    cases h1 : inRange 0 ((n : Int) - 1) v1 with
    | false =>
      have e : tnV n v1 v2 = false := by
        cases v1 with
        | int b =>
          cases v2 with
          | int e =>
            refine tn_out (fun k => ?_)
            have h1' : (decide (0 ≤ b) && decide (b ≤ (n : Int) - 1)) = false := h1
            rw [decide_eq_true k.1, decide_eq_true (show b ≤ (n : Int) - 1 by omega)] at h1'
            exact absurd h1' (by decide)
          | _ => rfl
        | _ => rfl
      rw [e] at q
      exact q
    | true =>
      cases p1 with
      | int b =>
        have h1' : (decide (0 ≤ b) && decide (b ≤ (n : Int) - 1)) = true := h1
        rw [Bool.and_eq_true] at h1'
        have b0 := of_decide_eq_true h1'.1
        have b1 := of_decide_eq_true h1'.2
        refine ⟨_, rfl, _, rfl, _, _, rfl, rfl, _, rfl, v2, ty2, _, _, rfl, p2, inRange (b + 1) (n : Int) v2, rfl, ?_⟩
        cases h2 : inRange (b + 1) (n : Int) v2 with
        | false =>
          have e : tnV n (.int b) v2 = false := by
            cases v2 with
            | int e =>
              refine tn_out (fun k => ?_)
              have h2' : (decide (b + 1 ≤ e) && decide (e ≤ (n : Int))) = false := h2
              rw [decide_eq_true (show b + 1 ≤ e by omega), decide_eq_true k.2.2] at h2'
              exact absurd h2' (by decide)
            | _ => rfl
          rw [e] at q
          exact q
        | true =>
          cases p2 with
          | int e =>
            have h2' : (decide (b + 1 ≤ e) && decide (e ≤ (n : Int))) = true := h2
            rw [Bool.and_eq_true] at h2'
            have e0 := of_decide_eq_true h2'.1
            have e1 := of_decide_eq_true h2'.2
            obtain ⟨bn, rfl⟩ := Int.eq_ofNat_of_zero_le b0
            obtain ⟨en, rfl⟩ := Int.eq_ofNat_of_zero_le (show 0 ≤ e by omega)
            have hlt : bn < en := by omega
            have ev : tnV n (.int (bn : Int)) (.int (en : Int)) = decide (isN n (bn, en)) := by
              show decide (0 ≤ (bn : Int) ∧ isN n ((bn : Int).toNat, (en : Int).toNat)) = decide (isN n (bn, en))
              rw [Int.toNat_natCast, Int.toNat_natCast]
              by_cases k : isN n (bn, en)
              · rw [decide_eq_true k, decide_eq_true ⟨b0, k⟩]
              · rw [decide_eq_false k, decide_eq_false (fun z => k z.2)]
            rw [ev] at q
            have em : (en : Int) - (bn : Int) - 1 = ((en - bn - 1 : Nat) : Int) := by omega
            refine ⟨_, rfl, _, rfl, _, _, rfl, rfl, _, _, rfl, rfl, _, rfl, ?_⟩
            dsimp only
            rw [em, bits_lb (show 1 ≤ en - bn by omega)]
            have l100 := lb_le (show en - bn ≤ 2 ^ 100 by omega)
            refine ⟨_, _, rfl, rfl, ⟨Int.natCast_nonneg _, by omega, by decide⟩, ?_⟩
            have e2 : (1 : Int) * 2 ^ ((lb (en - bn) : Nat) : Int).toNat = ((2 ^ lb (en - bn) : Nat) : Int) := by rw [Int.one_mul, Int.toNat_natCast]; exact (Int.natCast_pow 2 _).symm
            dsimp only
            rw [e2]
            have pz : 0 < 2 ^ lb (en - bn) := Nat.pow_pos (by decide)
            have isE : isN n (bn, en) ↔ (bn % 2 ^ lb (en - bn) = 0 ∧ (en - bn = 2 ^ lb (en - bn) ∨ en = n)) := by
              unfold isN tree
              simp only
              constructor
              · rintro ⟨_, _, k1, k2⟩
                exact ⟨Nat.mod_eq_zero_of_dvd k1, k2.elim .inl (fun z => .inr (by omega))⟩
              · rintro ⟨k1, k2⟩
                exact ⟨hlt, by omega, Nat.dvd_of_mod_eq_zero k1, k2.elim .inl (fun z => .inr (by omega))⟩
            generalize 2 ^ lb (en - bn) = R at pz isE
            have fm : Int.fmod (bn : Int) (R : Int) = ((bn % R : Nat) : Int) := by
              rw [Int.fmod_eq_emod_of_nonneg _ (Int.natCast_nonneg _)]
              exact (Int.natCast_emod _ _).symm
            refine ⟨_, rfl, _, rfl, _, _, rfl, rfl, by omega, rfl, decide (bn % R = 0), ?_, ?_⟩
            · show V.bl (decide (V.int (Int.fmod (bn : Int) (R : Int)) = V.int 0)) = V.bl (decide (bn % R = 0))
              rw [fm]
              refine congrArg V.bl ?_
              by_cases k : bn % R = 0
              · rw [decide_eq_true k, k]; rfl
              · rw [decide_eq_false k]
                exact decide_eq_false (fun z => k (by have := V.int.inj z; omega))
            by_cases k : bn % R = 0
            · rw [decide_eq_true k]
              refine iteT ?_
              refine ⟨_, rfl, _, rfl, _, _, rfl, rfl, _, rfl, rfl, _, rfl, ite2 (fun c => ?_) (fun c => ?_)⟩
              · have c1 : V.int ((en : Int) - (bn : Int)) = V.int (R : Int) := of_decide_eq_true c
                have c2 := V.int.inj c1
                rw [decide_eq_true (isE.mpr ⟨k, .inl (by omega)⟩)] at q
                exact q
              · have c1 : ¬ V.int ((en : Int) - (bn : Int)) = V.int (R : Int) := of_decide_eq_false (Bool.eq_false_iff.mpr c)
                refine ⟨_, rfl, _, rfl, rfl, ?_⟩
                have ed : decide (V.int (en : Int) = V.int (n : Int)) = decide (isN n (bn, en)) := by
                  by_cases z : en = n
                  · rw [decide_eq_true (isE.mpr ⟨k, .inr z⟩), decide_eq_true (by rw [z])]
                  · rw [decide_eq_false (fun y => z (by have := V.int.inj y; omega)), decide_eq_false (fun y => (isE.mp y).2.elim (fun u => c1 (congrArg V.int (by omega))) z)]
                show Q (.bl (decide (V.int (en : Int) = V.int (n : Int)))) H
                rw [ed]
                exact q
            · rw [decide_eq_false k]
              refine iteF ?_
              rw [decide_eq_false (fun z => k (isE.mp z).1)] at q
              exact q
          | _ => exact absurd h2 (by intro z; cases z)
      | _ => exact absurd h1 (by intro z; cases z)
end
end LT

namespace LT
/-! ### the greatest nodes within a stretch -/
theorem and_pred_odd (c : Nat) : (2 * c + 1) &&& (2 * c) = 2 * c := by
  apply Nat.eq_of_testBit_eq
  intro i
  rw [Nat.testBit_and]
  cases i with
  | zero => simp
  | succ i =>
    rw [Nat.testBit_succ, Nat.testBit_succ, show (2 * c + 1) / 2 = c by omega, show 2 * c / 2 = c by omega, Bool.and_self]
theorem and_pred_even (c : Nat) (h : 0 < c) : (2 * c) &&& (2 * c - 1) = 2 * (c &&& (c - 1)) := by
  apply Nat.eq_of_testBit_eq
  intro i
  rw [Nat.testBit_and]
  cases i with
  | zero => simp
  | succ i =>
    rw [Nat.testBit_succ, Nat.testBit_succ, Nat.testBit_succ, show 2 * c / 2 = c by omega, show (2 * c - 1) / 2 = c - 1 by omega, show 2 * (c &&& (c - 1)) / 2 = c &&& (c - 1) by omega, Nat.testBit_and]
def low (b : Nat) : Nat := b - (b &&& (b - 1))
theorem low_is : ∀ b : Nat, 0 < b → ∃ k, low b = 2 ^ k ∧ 2 ^ k ∣ b ∧ ¬ 2 ^ (k + 1) ∣ b := by
  intro b
  induction b using Nat.strongRecOn with
  | ind b ih =>
    intro hb
    rcases Nat.mod_two_eq_zero_or_one b with h | h
    · obtain ⟨c, rfl⟩ : ∃ c, b = 2 * c := ⟨b / 2, by omega⟩
      obtain ⟨k, e, d1, d2⟩ := ih c (by omega) (by omega)
      refine ⟨k + 1, ?_, ?_, ?_⟩
      · unfold low at e ⊢
        rw [and_pred_even c (by omega), Nat.pow_succ]
        omega
      · rw [Nat.pow_succ, Nat.mul_comm]
        exact Nat.mul_dvd_mul_left 2 d1
      · rw [Nat.pow_succ, Nat.mul_comm (2 ^ (k + 1)) 2]
        exact fun z => d2 (Nat.dvd_of_mul_dvd_mul_left (by decide) z)
    · obtain ⟨c, rfl⟩ : ∃ c, b = 2 * c + 1 := ⟨b / 2, by omega⟩
      refine ⟨0, ?_, Nat.one_dvd _, ?_⟩
      · unfold low
        rw [show 2 * c + 1 - 1 = 2 * c by omega, and_pred_odd]
        omega
      · intro z
        have := Nat.mod_eq_zero_of_dvd z
        omega
/-- the room of the greatest full node that begins at b, up to e -/
def rm (b e : Nat) : Nat := if b = 0 then 2 ^ (e - b).log2 else min (2 ^ (e - b).log2) (low b)
theorem rm_is {b e : Nat} (h : b < e) : ∃ k, rm b e = 2 ^ k ∧ 2 ^ k ∣ b ∧ b + 2 ^ k ≤ e ∧ (2 ^ (k + 1) ∣ b → e < b + 2 ^ (k + 1)) := by
  have l1 := Nat.log2_self_le (n := e - b) (by omega)
  have l2 := Nat.lt_log2_self (n := e - b)
  unfold rm
  by_cases c : b = 0
  · subst c
    rw [if_pos rfl]
    exact ⟨_, rfl, Nat.dvd_zero _, by omega, fun _ => by omega⟩
  · rw [if_neg c]
    obtain ⟨k, e1, d1, d2⟩ := low_is b (by omega)
    rw [e1]
    by_cases c2 : (e - b).log2 ≤ k
    · have := Nat.pow_le_pow_right (n := 2) (by decide) c2
      rw [Nat.min_eq_left this]
      exact ⟨_, rfl, Nat.dvd_trans (Nat.pow_dvd_pow 2 c2) d1, by omega, fun _ => by omega⟩
    · have := Nat.pow_le_pow_right (n := 2) (by decide) (show k ≤ (e - b).log2 by omega)
      rw [Nat.min_eq_right this]
      exact ⟨k, rfl, d1, by omega, fun z => absurd z d2⟩
def rw1 (n b e : Nat) : Nat := if isN n (b, e) then e - b else rm b e
def nwF (n : Nat) : Nat → Nat → Nat → List (Nat × Nat)
  | 0, _, _ => []
  | f + 1, b, e => if b < e then (b, b + rw1 n b e) :: nwF n f (b + rw1 n b e) e else []
def nw (n b e : Nat) : List (Nat × Nat) := nwF n (e - b) b e
theorem rw1_pos {n b e : Nat} (h : b < e) : 0 < rw1 n b e ∧ b + rw1 n b e ≤ e := by
  unfold rw1
  split
  · omega
  · obtain ⟨k, e1, _, e2, _⟩ := rm_is h
    have := Nat.pow_pos (a := 2) (n := k) (by decide)
    omega
theorem nwF_eq (n e : Nat) : ∀ (f g b : Nat), e - b ≤ f → e - b ≤ g → nwF n f b e = nwF n g b e
  | 0, 0, _, _, _ => rfl
  | 0, g + 1, b, h, _ => by
    show [] = if b < e then _ else _
    rw [if_neg (by omega)]
  | f + 1, 0, b, _, h => by
    show (if b < e then _ else _) = []
    rw [if_neg (by omega)]
  | f + 1, g + 1, b, h1, h2 => by
    show (if b < e then _ else _) = if b < e then _ else _
    by_cases c : b < e
    · have := rw1_pos (n := n) c
      rw [if_pos c, if_pos c, nwF_eq n e f g (b + rw1 n b e) (by omega) (by omega)]
    · rw [if_neg c, if_neg c]
theorem nw_nil {n b e : Nat} (h : e ≤ b) : nw n b e = [] := by
  unfold nw
  rw [show e - b = 0 by omega]
  rfl
theorem nw_step {n b e : Nat} (h : b < e) : nw n b e = (b, b + rw1 n b e) :: nw n (b + rw1 n b e) e := by
  have p := rw1_pos (n := n) h
  unfold nw
  rw [show e - b = (e - b - 1) + 1 by omega]
  show (if b < e then _ else _) = _
  rw [if_pos h, nwF_eq n e (e - b - 1) (e - (b + rw1 n b e)) (b + rw1 n b e) (by omega) (by omega)]
/-- induction over the nodes within -/
theorem nw_ind {n e : Nat} {p : Nat → Prop} (h0 : ∀ b, e ≤ b → p b) (h1 : ∀ b, b < e → p (b + rw1 n b e) → p b) (b : Nat) : p b := by
  have : ∀ (f b : Nat), e - b ≤ f → p b := by
    intro f
    induction f with
    | zero => exact fun b h => h0 b (by omega)
    | succ f ih =>
      intro b h
      by_cases c : b < e
      · have := rw1_pos (n := n) c
        exact h1 b c (ih _ (by omega))
      · exact h0 b (by omega)
  exact this _ b (Nat.le_refl _)
theorem nw_len2 {n e : Nat} : ∀ (L b : Nat), 2 ^ L ∣ b → e < b + 2 ^ L → (nw n b e).length ≤ L
  | 0, b, _, h => by rw [nw_nil (by simp at h; omega)]; exact Nat.zero_le _
  | L + 1, b, d, h => by
    have d' : 2 ^ L ∣ b := Nat.dvd_trans (Nat.pow_dvd_pow 2 (Nat.le_succ L)) d
    by_cases c : b < e
    · by_cases c2 : e < b + 2 ^ L
      · have := nw_len2 (n := n) (e := e) L b d' c2
        omega
      · rw [nw_step c, List.length_cons]
        unfold rw1
        split
        · rw [nw_nil (by omega)]
          simp
        · obtain ⟨k, e1, e2, e3, e4⟩ := rm_is c
          rw [e1]
          have kL : k = L := by
            by_cases z : k < L
            · have := e4 (Nat.dvd_trans (Nat.pow_dvd_pow 2 z) d')
              have := Nat.pow_le_pow_right (n := 2) (by decide) (show k + 1 ≤ L from z)
              omega
            · have : 2 ^ k < 2 ^ (L + 1) := by omega
              have := (Nat.pow_lt_pow_iff_right (by decide : 1 < 2)).mp this
              omega
          subst kL
          have := nw_len2 (n := n) (e := e) k (b + 2 ^ k) (Nat.dvd_add e2 (Nat.dvd_refl _)) (by rw [Nat.pow_succ] at h; omega)
          omega
    · rw [nw_nil (by omega)]
      exact Nat.zero_le _
theorem nw_len1 {n e L : Nat} : ∀ (t j b : Nat), j + t = L → 2 ^ j ∣ b → e < b + 2 ^ L → (nw n b e).length ≤ L + t
  | 0, j, b, hj, d, h => by
    have : j = L := by omega
    subst this
    exact nw_len2 j b d h
  | t + 1, j, b, hj, d, h => by
    by_cases c : b < e
    · by_cases d1 : 2 ^ (j + 1) ∣ b
      · have := nw_len1 (n := n) (e := e) (L := L) t (j + 1) b (by omega) d1 h
        omega
      · rw [nw_step c, List.length_cons]
        unfold rw1
        split
        · rw [nw_nil (by omega)]
          simp
          omega
        · obtain ⟨k, e1, e2, e3, e4⟩ := rm_is c
          rw [e1]
          by_cases z : k < j
          · have e5 := e4 (Nat.dvd_trans (Nat.pow_dvd_pow 2 z) d)
            have := nw_len2 (n := n) (e := e) k (b + 2 ^ k) (Nat.dvd_add e2 (Nat.dvd_refl _)) (by rw [Nat.pow_succ] at e5; omega)
            omega
          · have kj : k = j := by
              by_cases y : j < k
              · exact absurd (Nat.dvd_trans (Nat.pow_dvd_pow 2 y) e2) d1
              · omega
            subst kj
            have d2 : 2 ^ (k + 1) ∣ b + 2 ^ k := by
              obtain ⟨x, rfl⟩ := d
              rcases Nat.mod_two_eq_zero_or_one x with y | y
              · exact absurd (by rw [Nat.pow_succ]; exact Nat.mul_dvd_mul_left _ (Nat.dvd_of_mod_eq_zero y)) d1
              · refine ⟨x / 2 + 1, ?_⟩
                have : x = 2 * (x / 2) + 1 := by omega
                rw [Nat.pow_succ]
                generalize x / 2 = u at this
                subst this
                rw [Nat.mul_add, Nat.mul_add, Nat.mul_assoc (2 ^ k) 2 u]
                omega
            have p := Nat.pow_pos (a := 2) (n := k) (by decide)
            have := nw_len1 (n := n) (e := e) (L := L) t (k + 1) (b + 2 ^ k) (by omega) d2 (by omega)
            omega
    · rw [nw_nil (by omega)]
      exact Nat.zero_le _
theorem nw_len {n b e : Nat} (h : e ≤ 2 ^ 100) : (nw n b e).length ≤ 202 := by
  have := nw_len1 (n := n) (e := e) (L := 101) 101 0 b (by decide) (by simp) (by rw [Nat.pow_succ]; omega)
  omega
/-- nodes are nested or apart -/
theorem lam {n b m B M : Nat} (t : tree n b m) (hm : 1 ≤ m) (T : tree n B M) (hn : b + m ≤ n) (HN : B + M ≤ n) (h1 : b < B) (h2 : B < b + m) : B + M ≤ b + m := by
  obtain ⟨d, k⟩ := t
  obtain ⟨D, _⟩ := T
  have ge := lb_ge m
  have gE := lb_ge M
  by_cases c : lb m ≤ lb M
  · have := mul_le_of_lt d (Nat.dvd_trans (Nat.pow_dvd_pow 2 c) D) h1
    omega
  · have c1 : lb M ≤ lb m := by omega
    have := mul_le_of_lt D (Nat.dvd_add (Nat.dvd_trans (Nat.pow_dvd_pow 2 c1) d) (Nat.pow_dvd_pow 2 c1)) (show B < b + 2 ^ lb m by omega)
    rcases k with k | k
    · omega
    · omega
theorem isN_tree {n b e : Nat} (h : isN n (b, e)) : b < e ∧ e ≤ n ∧ tree n b (e - b) := h
theorem isN_of {n b m : Nat} (h1 : 1 ≤ m) (h2 : b + m ≤ n) (t : tree n b m) : isN n (b, b + m) := ⟨by show b < b + m; omega, h2, by show tree n b (b + m - b); rw [Nat.add_sub_cancel_left]; exact t⟩
theorem full_isN {n b k : Nat} (h2 : b + 2 ^ k ≤ n) (d : 2 ^ k ∣ b) : isN n (b, b + 2 ^ k) := isN_of (Nat.pow_pos (by decide)) h2 ⟨by rw [lb_pow]; exact d, .inl (by rw [lb_pow])⟩
theorem rw1_isN {n b e : Nat} (h : b < e) (hn : e ≤ n) : isN n (b, b + rw1 n b e) := by
  unfold rw1
  split
  · rename_i c
    rw [show b + (e - b) = e by omega]
    exact c
  · obtain ⟨k, e1, e2, e3, _⟩ := rm_is h
    rw [e1]
    exact full_isN (by omega) e2
/-- the first node is the greatest one that begins there -/
theorem rw1_max {n b e y : Nat} (hn : e ≤ n) (hy : isN n (b, y)) (h : y ≤ e) : y ≤ b + rw1 n b e := by
  have hb : b < y := hy.1
  unfold rw1
  split
  · omega
  · rename_i c
    obtain ⟨k, e1, e2, e3, e4⟩ := rm_is (show b < e by omega)
    rw [e1]
    obtain ⟨_, y1, d, t⟩ := isN_tree hy
    rcases t with t | t
    · by_cases z : k < lb (y - b)
      · have := e4 (Nat.dvd_trans (Nat.pow_dvd_pow 2 z) d)
        have := Nat.pow_le_pow_right (n := 2) (by decide) (show k + 1 ≤ lb (y - b) from z)
        omega
      · have := Nat.pow_le_pow_right (n := 2) (by decide) (show lb (y - b) ≤ k by omega)
        omega
    · have : y = e := by omega
      subst this
      exact absurd hy c
/-- a list of nodes one behind the other -/
def Ch (n : Nat) : Nat → Nat → List (Nat × Nat) → Prop
  | lo, hi, [] => lo = hi
  | lo, hi, x :: l => x.1 = lo ∧ isN n x ∧ x.2 ≤ hi ∧ Ch n x.2 hi l
theorem nw_ch {n e : Nat} (hn : e ≤ n) (b : Nat) : b ≤ e → Ch n b e (nw n b e) := by
  refine nw_ind (n := n) (e := e) (p := fun b => b ≤ e → Ch n b e (nw n b e)) (fun b h h2 => ?_) (fun b h ih _ => ?_) b
  · rw [nw_nil h]
    exact Nat.le_antisymm h2 h
  · rw [nw_step h]
    have := rw1_pos (n := n) h
    exact ⟨rfl, rw1_isN h hn, this.2, ih this.2⟩
/-- nothing greater in the stretch has one of them -/
def Mx (n lo hi : Nat) (l : List (Nat × Nat)) : Prop := ∀ x ∈ l, ∀ p, isN n p → lo ≤ p.1 → p.2 ≤ hi → p.1 ≤ x.1 → x.2 ≤ p.2 → p = x
theorem nw_mx {n lo e : Nat} (hn : e ≤ n) (b : Nat) : b ≤ e → lo ≤ b → (∀ p, isN n p → lo ≤ p.1 → p.2 ≤ e → p.1 < b → p.2 ≤ b) → Mx n lo e (nw n b e) := by
  refine nw_ind (n := n) (e := e) (p := fun b => b ≤ e → lo ≤ b → (∀ p, isN n p → lo ≤ p.1 → p.2 ≤ e → p.1 < b → p.2 ≤ b) → Mx n lo e (nw n b e)) (fun b h h2 _ _ => ?_) (fun b h ih h1 h2 h3 => ?_) b
  · rw [nw_nil h]
    exact fun x hx => by cases hx
  · have w := rw1_pos (n := n) h
    have wN := rw1_isN h hn
    have wM : ∀ p, isN n p → lo ≤ p.1 → p.2 ≤ e → p.1 = b → p.2 ≤ b + rw1 n b e := by
      rintro ⟨p1, p2⟩ k1 k2 k3 rfl
      exact rw1_max hn k1 k3
    rw [nw_step h]
    intro x hx
    rcases List.mem_cons.mp hx with rfl | hx
    · rintro ⟨p1, p2⟩ k1 k2 k3 k4 k5
      simp only at k2 k3 k4 k5
      by_cases c : p1 < b
      · have := h3 _ k1 k2 k3 c
        simp only at this
        omega
      · have : p1 = b := by omega
        subst this
        have := wM _ k1 k2 k3 rfl
        simp only at this
        exact Prod.ext rfl (by show p2 = _; omega)
    · refine ih w.2 (by omega) ?_ x hx
      rintro ⟨p1, p2⟩ k1 k2 k3 k4
      simp only at k2 k3 k4 ⊢
      by_cases c : p1 < b
      · have := h3 _ k1 k2 k3 c
        simp only at this
        omega
      · by_cases c2 : p1 = b
        · subst c2
          exact wM _ k1 k2 k3 rfl
        · obtain ⟨q1, q2, q3⟩ := isN_tree k1
          obtain ⟨u1, u2, u3⟩ := isN_tree wN
          have := lam (n := n) (b := b) (m := b + rw1 n b e - b) (B := p1) (M := p2 - p1) u3 (by omega) q3 (by omega) (by omega) (by omega) (by omega)
          omega
theorem nw_max {n b e : Nat} (hn : e ≤ n) (h : b ≤ e) : Mx n b e (nw n b e) := nw_mx hn b h (Nat.le_refl _) (fun p _ k1 _ k3 => by omega)
theorem Ch.mem {n : Nat} : ∀ {lo hi : Nat} {l : List (Nat × Nat)}, Ch n lo hi l → ∀ x ∈ l, isN n x ∧ lo ≤ x.1 ∧ x.2 ≤ hi
  | lo, hi, y :: l, ⟨h1, h2, h3, h4⟩, x, hx => by
    have k := h2.1
    rcases List.mem_cons.mp hx with rfl | hx
    · exact ⟨h2, by omega, h3⟩
    · obtain ⟨k1, k2, k3⟩ := Ch.mem h4 x hx
      exact ⟨k1, by omega, k3⟩
theorem Ch.le {n : Nat} : ∀ {lo hi : Nat} {l : List (Nat × Nat)}, Ch n lo hi l → lo ≤ hi
  | _, _, [], h => Nat.le_of_eq h
  | lo, hi, y :: l, ⟨h1, h2, h3, h4⟩ => by
    have k := h2.1
    omega
theorem Ch.app {n : Nat} : ∀ {lo mid hi : Nat} {l r : List (Nat × Nat)}, Ch n lo mid l → Ch n mid hi r → Ch n lo hi (l ++ r)
  | _, _, _, [], _, h, k => by
    have h : _ = _ := h
    subst h
    exact k
  | _, _, _, x :: l, r, ⟨h1, h2, h3, h4⟩, k => ⟨h1, h2, Nat.le_trans h3 k.le, Ch.app h4 k⟩
/-- each entry between is in one of them -/
theorem Ch.at {n : Nat} : ∀ {lo hi : Nat} {l : List (Nat × Nat)}, Ch n lo hi l → ∀ i, lo ≤ i → i < hi → ∃ x ∈ l, x.1 ≤ i ∧ i < x.2
  | lo, hi, [], h, i, h1, h2 => by
    have h : lo = hi := h
    omega
  | lo, hi, y :: l, ⟨h1, h2, h3, h4⟩, i, k1, k2 => by
    by_cases c : i < y.2
    · exact ⟨y, List.mem_cons_self, by omega, c⟩
    · obtain ⟨x, hx, r⟩ := Ch.at h4 i (by omega) k2
      exact ⟨x, List.mem_cons_of_mem _ hx, r⟩
theorem Ch.sum {n : Nat} : ∀ {lo hi : Nat} {l : List (Nat × Nat)}, Ch n lo hi l → (l.map fun x => x.2 - x.1).sum = hi - lo
  | lo, hi, [], h => by
    have h : lo = hi := h
    simp; omega
  | lo, hi, y :: l, ⟨h1, h2, h3, h4⟩ => by
    have := Ch.sum h4
    have k := h2.1
    have := h4.le
    rw [List.map_cons, List.sum_cons]
    omega
/-- any node within the stretch lies in one of them -/
theorem nw_in {n b e : Nat} (hn : e ≤ n) (h : b ≤ e) {p : Nat × Nat} (hp : isN n p) (h1 : b ≤ p.1) (h2 : p.2 ≤ e) : ∃ x ∈ nw n b e, x.1 ≤ p.1 ∧ p.2 ≤ x.2 := by
  have k := hp.1
  obtain ⟨x, hx, a1, a2⟩ := (nw_ch hn b h).at p.1 h1 (by omega)
  refine ⟨x, hx, a1, ?_⟩
  obtain ⟨x1, x2, x3⟩ := (nw_ch hn b h).mem x hx
  have kx := x1.1
  have kn := x1.2.1
  have pn := hp.2.1
  by_cases c : x.1 < p.1
  · have := lam (n := n) (b := x.1) (m := x.2 - x.1) (B := p.1) (M := p.2 - p.1) x1.2.2 (by omega) hp.2.2 (by omega) (by omega) c (by omega)
    omega
  · by_cases c2 : p.2 ≤ x.2
    · exact c2
    · have := nw_max hn h x hx p hp h1 h2 (by omega) (by omega)
      rw [this]
      exact Nat.le_refl _
/-- a list of nodes one behind the other, none within a greater one of the stretch, is that of the greatest ones -/
theorem nw_unique {n hi lo0 : Nat} (hn : hi ≤ n) : ∀ (l r : List (Nat × Nat)) (lo : Nat), lo0 ≤ lo → Ch n lo hi l → Ch n lo hi r → Mx n lo0 hi l → Mx n lo0 hi r → l = r
  | [], [], _, _, _, _, _, _ => rfl
  | [], y :: r, lo, _, h1, ⟨k1, k2, k3, k4⟩, _, _ => by
    have h1 : lo = hi := h1
    have := k2.1
    omega
  | x :: l, [], lo, _, ⟨k1, k2, k3, k4⟩, h1, _, _ => by
    have h1 : lo = hi := h1
    have := k2.1
    omega
  | x :: l, y :: r, lo, h0, ⟨k1, k2, k3, k4⟩, ⟨j1, j2, j3, j4⟩, m1, m2 => by
    have e : x = y := by
      by_cases c : x.2 ≤ y.2
      · exact (m1 x List.mem_cons_self y j2 (by omega) j3 (by omega) c).symm
      · exact m2 y List.mem_cons_self x k2 (by omega) k3 (by omega) (by omega)
    subst e
    have := k2.1
    rw [nw_unique hn l r x.2 (by omega) k4 j4 (fun z hz => m1 z (List.mem_cons_of_mem _ hz)) (fun z hz => m2 z (List.mem_cons_of_mem _ hz))]
end LT

namespace LT
open PySem PySem.Spec PyProof.Rows L2
theorem bitAnd_low (b : Nat) (h : 0 < b) : Builtin.bitAnd (b : Int) (-(b : Int)) = ((low b : Nat) : Int) := by
  rw [bitAnd_pn (Int.natCast_nonneg b) (by omega)]
  have e : (Builtin.bitNot (-(b : Int))).toNat = b - 1 := by
    show (-(-(b : Int)) - 1).toNat = b - 1
    omega
  rw [e, Int.toNat_natCast]
  have : b &&& (b - 1) ≤ b := Nat.and_le_left
  unfold low
  omega
section
variable {P : Program} {w : World} {K : PySem.W.Frag} {mg : Str → Option Value} {base : Heap}
def spFirstFull : Sp := fun vs H Q _ => ∃ (b e : Nat), vs = [.int b, .int e] ∧ b < e ∧ e ≤ 10 ^ 30 ∧ ∀ (H' : Hp) (p : Addr), Same H H' → H p = none → H' p = some (.tup [.int b, .int ((b + rm b e : Nat) : Int)]) → Q (.ref p) H'
theorem ok_first_full {f g1 : Addr} {fd d1 : FuncData} (F : Fun K "_first_full" "_first_full" sFirstFull f fd) (GPowerWithin : FnOk P w K mg base CX0 1 g1 d1 ["number"] spPower) (APowerWithin : At K mg "power_within" g1 d1 ["number"]) (z_min : mg "min" = none) :
    FnOk P w K mg base CX0 2 f fd ["begin", "end"] spFirstFull := by
  refine F.ok scFirstFull (fun vs H Q E h => ?_) (fun cdv A outer s H vs Q E hr h => ?_)
  · obtain ⟨_, _, rfl, _⟩ := h
    rfl
  obtain ⟨b, e, rfl, hb, h30, q⟩ := h
  refine ⟨_, (pss_cons (ps_set (i := 2) scFirstFull.nd rfl (Or.inl rfl) (pe_call GPowerWithin (hr.mono (by decide)) rfl APowerWithin.m APowerWithin.kp APowerWithin.b .nil pass0 (pa_cons (pe_op op_sub (pv 1) (pv 0)) pa_nil)))
    (pss_cons (ps_if (pt_cmpR op_gt (pv 0) pe_int (nomark _))
    (pss_one (ps_set (i := 2) scFirstFull.nd rfl (Or.inl rfl) (pe_callB (call_min2 rfl) (by rfl) z_min (by decide +kernel) (pa_cons (pv 2) (pa_cons (pe_op op_and (pv 0) (pe_un un_neg (pv 0))) pa_nil)))))
    pss_nil)
    (pss_one (ps_ret (pe_tup (pa_cons (pv 0) (pa_cons (pe_op op_add (pv 0) (pv 2)) pa_nil))))))), ?_⟩
  have two : 2 ≤ sizeLine := by decide
  refine ⟨_, rfl, _, rfl, _, _, rfl, rfl, e - b, congrArg (fun z => [V.int z]) (by omega), by omega, by omega, ?_⟩
  refine ⟨_, rfl, _, _, rfl, rfl, _, rfl, ite2 (fun c => ?_) (fun c => ?_)⟩
  · have c1 : (b : Int) > 0 := of_decide_eq_true c
    refine ⟨_, rfl, _, rfl, _, rfl, _, rfl, _, _, rfl, rfl, _, _, rfl, ?_⟩
    rw [bitAnd_low b (by omega)]
    have em : (if ((low b : Nat) : Int) < ((2 ^ (e - b).log2 : Nat) : Int) then ((low b : Nat) : Int) else ((2 ^ (e - b).log2 : Nat) : Int)) = ((rm b e : Nat) : Int) := by
      unfold rm
      rw [if_neg (show ¬ b = 0 by omega)]
      split <;> omega
    refine ⟨_, rfl, _, rfl, _, rfl, _, _, rfl, rfl, two, fun t nt => ?_⟩
    dsimp only
    rw [em]
    refine q _ t (same_upd nt) nt ?_
    rw [upd_same, show (b : Int) + ((rm b e : Nat) : Int) = ((b + rm b e : Nat) : Int) by omega]
  · have c1 : ¬ (b : Int) > 0 := of_decide_eq_false (Bool.eq_false_iff.mpr c)
    have b0 : b = 0 := by omega
    have em : rm b e = 2 ^ (e - b).log2 := by unfold rm; rw [if_pos b0]
    refine ⟨_, rfl, _, rfl, _, rfl, _, _, rfl, rfl, two, fun t nt => ?_⟩
    refine q _ t (same_upd nt) nt ?_
    rw [upd_same, em]
    rfl
def spWithinX : Sp := fun vs H Q _ => ∃ (n b e : Nat), vs = [.int n, .int b, .int e] ∧ 1 ≤ n ∧ n ≤ 2 ^ 100 ∧ e ≤ n ∧ e ≤ 10 ^ 30 ∧
  ∀ (H' : Hp) (p : Addr) (xs : List V), Same H H' → H p = none → H' p = some (.lst xs) → All2 (Nd H') xs (nw n b e) → Q (.ref p) H'
theorem tn_nat (n b e : Nat) : tnV n (.int (b : Int)) (.int (e : Int)) = decide (isN n (b, e)) := by
  show decide (0 ≤ (b : Int) ∧ isN n ((b : Int).toNat, (e : Int).toNat)) = decide (isN n (b, e))
  rw [Int.toNat_natCast, Int.toNat_natCast]
  by_cases k : isN n (b, e)
  · rw [decide_eq_true k, decide_eq_true ⟨Int.natCast_nonneg _, k⟩]
  · rw [decide_eq_false k, decide_eq_false (fun z => k z.2)]
theorem ok_nodes_withinX {f g1 g2 : Addr} {fd d1 d2 : FuncData} (F : Fun K "nodes_within" "nodes_within" sNodesWithin f fd) (GIsTreeNode : FnOk P w K mg base CX0 3 g1 d1 ["size", "value"] (spTreeV K)) (AIsTreeNode : At K mg "is_tree_node" g1 d1 ["size", "value"])
    (GFirstFull : FnOk P w K mg base CX0 2 g2 d2 ["begin", "end"] spFirstFull) (AFirstFull : At K mg "_first_full" g2 d2 ["begin", "end"]) : FnOk P w K mg base CX0 4 f fd ["size", "begin", "end"] spWithinX := by
  refine F.ok scNodesWithin (fun vs H Q E h => ?_) (fun cdv A outer s H vs Q E hr h => ?_)
  · obtain ⟨_, _, _, rfl, _⟩ := h
    rfl
  obtain ⟨n, b0, e, rfl, n1, n100, he, h30, q⟩ := h
  refine ⟨_, (pss_cons (ps_set (i := 3) scNodesWithin.nd rfl (Or.inl rfl) (pe_lst pa_nil))
    (pss_cons (ps_while PassesOwn.never (pt_cmpR op_lt (pv 1) (pv 2) (nomark _))
    (pss_cons (ps_if (pt_val (pe_call GIsTreeNode (hr.mono (by decide)) rfl AIsTreeNode.m AIsTreeNode.kp AIsTreeNode.b .nil pass0 (pa_cons (pv 0) (pa_cons (pe_tup (pa_cons (pv 1) (pa_cons (pv 2) pa_nil))) pa_nil))))
    (pss_one (ps_set (i := 4) scNodesWithin.nd rfl (Or.inl rfl) (pe_tup (pa_cons (pv 1) (pa_cons (pv 2) pa_nil)))))
    (pss_one (ps_set (i := 4) scNodesWithin.nd rfl (Or.inl rfl) (pe_call GFirstFull (hr.mono (by decide)) rfl AFirstFull.m AFirstFull.kp AFirstFull.b .nil pass0 (pa_cons (pv 1) (pa_cons (pv 2) pa_nil))))))
    (pss_cons (ps_expr (pe_bm PySem.F.plainAttrs_list PySem.F.slot_list_append PySem.F.type_list_append mt_append (pv 3) (pa_cons (pv 4) pa_nil)))
    (pss_one (ps_set (i := 1) scNodesWithin.nd rfl (Or.inl rfl) (pe_ix ix_tup (pv 4) pe_int (fun _ _ => rfl)))))))
    (pss_one (ps_ret (pv 3))))), ?_⟩
  have two : 2 ≤ sizeLine := by decide
  refine ⟨Nat.zero_le _, fun fa nf => ?_⟩
  refine ⟨fun mu σ H' => ∃ (b : Nat) (v4 : Option V) (xs : List V) (done : List (Nat × Nat)), σ = [some (.int n), some (.int (b : Int)), some (.int (e : Int)), some (.ref fa), v4] ∧ Same H H' ∧ H' fa = some (.lst xs) ∧ All2 (Nd H') xs done ∧ done ++ nw n b e = nw n b0 e ∧ mu = e - b,
    ⟨e - b0, b0, none, [], [], rfl, same_upd nf, upd_same, .nil, rfl, rfl⟩, ?_⟩
  rintro m σ H1 ⟨b, v4, xs, done, rfl, sm, hf, hx, hd, rfl⟩
  refine ⟨_, rfl, _, rfl, _, _, rfl, rfl, _, rfl, ite2 (fun c => ?_) (fun c => ?_)⟩
  · have c1 : (b : Int) < (e : Int) := of_decide_eq_true c
    have dl : done.length ≤ 202 := by
      have k1 := congrArg List.length hd
      rw [List.length_append] at k1
      have k2 := nw_len (n := n) (b := b0) (e := e) (by omega)
      omega
    have w1 := rw1_pos (n := n) (show b < e by omega)
    have st := nw_step (n := n) (show b < e by omega)
    refine ⟨fun σ' H' => ∃ mu, mu < e - b ∧ ∃ (b : Nat) (v4 : Option V) (xs : List V) (done : List (Nat × Nat)), σ' = [some (.int n), some (.int (b : Int)), some (.int (e : Int)), some (.ref fa), v4] ∧ Same H H' ∧ H' fa = some (.lst xs) ∧ All2 (Nd H') xs done ∧ done ++ nw n b e = nw n b0 e ∧ mu = e - b, fun σ' H' h => h, ?_⟩
    -- behind the choice
    have fin : ∀ (H2 : Hp) (p : Addr), Same H1 H2 → H2 p = some (.tup [.int (b : Int), .int ((b + rw1 n b e : Nat) : Int)]) →
        (pss_term_fin : True) → ∃ (b' : Nat) (xs' : List V) (done' : List (Nat × Nat)), b' = b + rw1 n b e ∧ xs' = xs ++ [.ref p] ∧ Same H (upd H2 fa (.lst xs')) ∧ All2 (Nd (upd H2 fa (.lst xs'))) xs' done' ∧ done' ++ nw n b' e = nw n b0 e := fun H2 p s2 hp _ => by
      have hf2 := s2 _ _ hf
      refine ⟨_, _, done ++ [(b, b + rw1 n b e)], rfl, rfl, ?_, ?_, ?_⟩
      · exact fun a o k => by rw [upd_ne (ne_of_none k nf)]; exact s2 _ _ (sm _ _ k)
      · refine (hx.mono (fun v x (k : Nd H1 v x) => (k.same s2).upd hf2)).app (.cons ?_ .nil)
        exact Nd.upd (x := (b, b + rw1 n b e)) ⟨p, rfl, hp⟩ hf2
      · rw [← hd, st, List.append_assoc]
        rfl
    refine ⟨_, rfl, _, rfl, _, rfl, two, fun t nt => ?_⟩
    have s1 := same_upd (o := .tup [.int (b : Int), .int (e : Int)]) nt
    have ht : (upd H1 t (.tup [.int (b : Int), .int (e : Int)])) t = some (.tup [.int (b : Int), .int (e : Int)]) := upd_same
    generalize upd H1 t (.tup [.int (b : Int), .int (e : Int)]) = H2 at s1 ht
    refine ⟨n, .ref t, _, rfl, n1, n100, .pair ht (.int _) (.int _), ?_⟩
    rw [tn_nat]
    by_cases c2 : isN n (b, e)
    · rw [decide_eq_true c2]
      refine ⟨true, rfl, ?_⟩
      have rw_e : rw1 n b e = e - b := by unfold rw1; rw [if_pos c2]
      refine ⟨_, rfl, _, rfl, two, fun t2 nt2 => ?_⟩
      have s2 := same_upd (o := .tup [.int (b : Int), .int (e : Int)]) nt2
      obtain ⟨b', xs', done', eb, ex, f1, f2, f3⟩ := fin _ t2 (s1.trans s2) (by rw [upd_same, rw_e, show b + (e - b) = e by omega]) trivial
      subst ex
      have hf3 := s2 _ _ (s1 _ _ hf)
      have ht3 : (upd H2 t2 (.tup [.int (b : Int), .int (e : Int)])) t2 = some (.tup [.int (b : Int), .int (e : Int)]) := upd_same
      refine ⟨_, rfl, .inl ⟨rfl, _, SqL.of hf3⟩, _, rfl, fa, _, _, rfl, rfl, hf3, szlt (by rw [hx.len]; omega), ?_⟩
      refine ⟨_, rfl, t2, _, _, _, rfl, rfl, SqT.of ((upd_ne (ne_of ht3 hf3 (by intro z; cases z))).trans ht3), atI_nat (j := 1) rfl, ?_⟩
      refine ⟨e - b', by omega, b', some (.ref t2), xs ++ [.ref t2], done', ?_, f1, ?_, f2, f3, rfl⟩
      · rw [eb, rw_e, show b + (e - b) = e by omega]
        rfl
      · exact upd_same
    · rw [decide_eq_false c2]
      refine ⟨false, rfl, ?_⟩
      have rw_e : rw1 n b e = rm b e := by unfold rw1; rw [if_neg c2]
      refine ⟨_, rfl, _, rfl, b, e, rfl, by omega, by omega, fun H3 t2 s2 nt2 ht2 => ?_⟩
      obtain ⟨b', xs', done', eb, ex, f1, f2, f3⟩ := fin _ t2 (s1.trans s2) (by rw [ht2, rw_e]) trivial
      subst ex
      have hf3 := s2 _ _ (s1 _ _ hf)
      refine ⟨_, rfl, .inl ⟨rfl, _, SqL.of hf3⟩, _, rfl, fa, _, _, rfl, rfl, hf3, szlt (by rw [hx.len]; omega), ?_⟩
      refine ⟨_, rfl, t2, _, _, _, rfl, rfl, SqT.of ((upd_ne (ne_of ht2 hf3 (by intro z; cases z))).trans ht2), atI_nat (j := 1) rfl, ?_⟩
      refine ⟨e - b', by omega, b', some (.ref t2), xs ++ [.ref t2], done', ?_, f1, ?_, f2, f3, rfl⟩
      · rw [eb, rw_e]
        rfl
      · exact upd_same
  · have c1 : ¬ (b : Int) < (e : Int) := of_decide_eq_false (Bool.eq_false_iff.mpr c)
    rw [nw_nil (show e ≤ b by omega), List.append_nil] at hd
    rw [hd] at hx
    exact ⟨_, rfl, q H1 fa xs sm nf hf hx⟩
def spWithin : Sp := fun vs H Q _ => ∃ (n b e : Nat), vs = [.int n, .int b, .int e] ∧ 1 ≤ n ∧ n ≤ 2 ^ 100 ∧ b ≤ e ∧ e ≤ n ∧ e ≤ 10 ^ 30 ∧
  ∀ (H' : Hp) (p : Addr) (xs : List V), Same H H' → H p = none → H' p = some (.lst xs) → All2 (Nd H') xs (nw n b e) → Q (.ref p) H'
theorem within_of {k : Nat} {f : Addr} {fd : FuncData} (F : FnOk P w K mg base CX0 k f fd ["size", "begin", "end"] spWithinX) : FnOk P w K mg base CX0 k f fd ["size", "begin", "end"] spWithin :=
  F.imp fun vs H Q E h => by
    obtain ⟨n, b, e, rfl, n1, n100, hb, he, h30, q⟩ := h
    exact ⟨n, b, e, rfl, n1, n100, he, h30, q⟩
end
end LT

namespace LT
/-! ### an entry's siblings, by side -/
def lft (b m e : Nat) : List (Nat × Nat) :=
  if h : m ≤ 1 then [] else
    if e < b + gp m then lft b (gp m) e
    else (b, b + gp m) :: lft (b + gp m) (m - gp m) e
termination_by m
decreasing_by
  · exact gp_lt (by omega)
  · have := gp_pos m; omega
theorem lft_one {b m e : Nat} (h : m ≤ 1) : lft b m e = [] := by rw [lft]; simp [h]
theorem lft_low {b m e : Nat} (h : 2 ≤ m) (k : e < b + gp m) : lft b m e = lft b (gp m) e := by
  rw [lft, dif_neg (by omega), if_pos k]
theorem lft_high {b m e : Nat} (h : 2 ≤ m) (k : ¬ e < b + gp m) : lft b m e = (b, b + gp m) :: lft (b + gp m) (m - gp m) e := by
  rw [lft, dif_neg (by omega), if_neg k]
def rgt (b m e : Nat) : List (Nat × Nat) :=
  if h : m ≤ 1 then [] else
    if e < b + gp m then rgt b (gp m) e ++ [(b + gp m, b + m)]
    else rgt (b + gp m) (m - gp m) e
termination_by m
decreasing_by
  · exact gp_lt (by omega)
  · have := gp_pos m; omega
theorem rgt_one {b m e : Nat} (h : m ≤ 1) : rgt b m e = [] := by rw [rgt]; simp [h]
theorem rgt_low {b m e : Nat} (h : 2 ≤ m) (k : e < b + gp m) : rgt b m e = rgt b (gp m) e ++ [(b + gp m, b + m)] := by
  rw [rgt, dif_neg (by omega), if_pos k]
theorem rgt_high {b m e : Nat} (h : 2 ≤ m) (k : ¬ e < b + gp m) : rgt b m e = rgt (b + gp m) (m - gp m) e := by
  rw [rgt, dif_neg (by omega), if_neg k]
/-- induction down the way to an entry -/
theorem way_ind {n e : Nat} {p : Nat → Nat → Prop} (h1 : ∀ b m, m ≤ 1 → b ≤ e → e < b + m → b + m ≤ n → p b m)
    (h2 : ∀ b m, 2 ≤ m → tree n b m → b ≤ e → e < b + gp m → b + m ≤ n → p b (gp m) → p b m)
    (h3 : ∀ b m, 2 ≤ m → tree n b m → b ≤ e → ¬ e < b + gp m → e < b + m → b + m ≤ n → p (b + gp m) (m - gp m) → p b m) :
    ∀ (m b : Nat), tree n b m → b ≤ e → e < b + m → b + m ≤ n → p b m := by
  intro m
  induction m using Nat.strongRecOn with
  | ind m ih =>
    intro b t k1 k2 k3
    by_cases c : m ≤ 1
    · exact h1 b m c k1 k2 k3
    · have m2 : 2 ≤ m := by omega
      have g1 := gp_lt m2
      have g3 := gp_pos m
      by_cases k : e < b + gp m
      · exact h2 b m m2 t k1 k k3 (ih _ g1 b (tree_low m2 t) k1 k (by omega))
      · exact h3 b m m2 t k1 k k2 k3 (ih _ (by omega) _ (tree_high m2 t) (by omega) (by omega) (by omega))
theorem sides_len {n e : Nat} : ∀ (m b : Nat), tree n b m → b ≤ e → e < b + m → b + m ≤ n → (lft b m e).length + (rgt b m e).length = (sib b m e).length := by
  refine way_ind (fun b m h _ _ _ => ?_) (fun b m h _ _ k _ ih => ?_) (fun b m h _ _ k _ _ ih => ?_)
  · rw [lft_one h, rgt_one h, sib_one h]; rfl
  · rw [lft_low h k, rgt_low h k, sib_low h k]; simp only [List.length_append, List.length_cons, List.length_nil]; omega
  · rw [lft_high h k, rgt_high h k, sib_high h k, List.length_cons, List.length_cons]; omega
theorem half_low_isN {n b m : Nat} (h : 2 ≤ m) (t : tree n b m) (hn : b + m ≤ n) : isN n (b, b + gp m) := isN_of (gp_pos m) (by have := gp_lt h; omega) (tree_low h t)
theorem half_high_isN {n b m : Nat} (h : 2 ≤ m) (t : tree n b m) (hn : b + m ≤ n) : isN n (b + gp m, b + m) := by
  have g := gp_lt h
  have := isN_of (n := n) (b := b + gp m) (m := m - gp m) (by omega) (by omega) (tree_high h t)
  rw [show b + gp m + (m - gp m) = b + m by omega] at this
  exact this
theorem lft_ch {n e : Nat} : ∀ (m b : Nat), tree n b m → b ≤ e → e < b + m → b + m ≤ n → Ch n b e (lft b m e) := by
  refine way_ind (fun b m h _ _ _ => ?_) (fun b m h _ _ k _ ih => ?_) (fun b m h t _ k k2 hn ih => ?_)
  · rw [lft_one h]; show b = e; omega
  · rw [lft_low h k]; exact ih
  · rw [lft_high h k]
    exact ⟨rfl, half_low_isN h t hn, by show b + gp m ≤ e; omega, ih⟩
theorem rgt_ch {n e : Nat} : ∀ (m b : Nat), tree n b m → b ≤ e → e < b + m → b + m ≤ n → Ch n (e + 1) (b + m) (rgt b m e) := by
  refine way_ind (fun b m h _ _ _ => ?_) (fun b m h t _ k hn ih => ?_) (fun b m h _ _ k _ _ ih => ?_)
  · rw [rgt_one h]; show e + 1 = b + m; omega
  · rw [rgt_low h k]
    refine ih.app ⟨rfl, half_high_isN h t hn, Nat.le_refl _, rfl⟩
  · rw [rgt_high h k]
    have := gp_lt h
    rw [show b + gp m + (m - gp m) = b + m by omega] at ih
    exact ih
theorem lft_mx {n e : Nat} (he : e < n) : ∀ (m b : Nat), tree n b m → b ≤ e → e < b + m → b + m ≤ n → Mx n 0 e (lft b m e) := by
  refine way_ind (fun b m h _ _ _ => ?_) (fun b m h _ _ k _ ih => ?_) (fun b m h t _ k k2 hn ih => ?_)
  · rw [lft_one h]; exact fun x hx => by cases hx
  · rw [lft_low h k]; exact ih
  · rw [lft_high h k]
    intro x hx
    rcases List.mem_cons.mp hx with rfl | hx
    · rintro ⟨p1, p2⟩ hp _ q2 q3 q4
      simp only at q2 q3 q4
      have g := gp_pos m
      obtain ⟨a1, a2, a3⟩ := isN_tree hp
      by_cases c : p1 < b
      · have := lam (n := n) (b := p1) (m := p2 - p1) (B := b) (M := m) a3 (by omega) t (by omega) hn c (by omega)
        omega
      · have e1 : p1 = b := by omega
        subst e1
        rcases node_in h t hn hp (Nat.le_refl _) (by show p2 ≤ p1 + m; omega) with z | z | z
        · have : p2 = p1 + m := congrArg Prod.snd z
          omega
        · simp only at z
          exact Prod.ext rfl (by show p2 = _; omega)
        · simp only at z
          omega
    · exact ih x hx
theorem rgt_mx {n e : Nat} : ∀ (m b : Nat), tree n b m → b ≤ e → e < b + m → b + m ≤ n → Mx n (e + 1) n (rgt b m e) := by
  refine way_ind (fun b m h _ _ _ => ?_) (fun b m h t hb k hn ih => ?_) (fun b m h _ _ k _ _ ih => ?_)
  · rw [rgt_one h]; exact fun x hx => by cases hx
  · rw [rgt_low h k]
    intro x hx
    rcases List.mem_append.mp hx with hx | hx
    · exact ih x hx
    · rw [List.mem_singleton] at hx
      subst hx
      rintro ⟨p1, p2⟩ hp q1 q2 q3 q4
      simp only at q1 q2 q3 q4
      have g := gp_lt h
      obtain ⟨a1, a2, a3⟩ := isN_tree hp
      have := lam (n := n) (b := b) (m := m) (B := p1) (M := p2 - p1) t (by omega) a3 hn (by omega) (by omega) (by omega)
      have e2 : p2 = b + m := by omega
      rcases node_in h t hn hp (by show b ≤ p1; omega) (by show p2 ≤ b + m; omega) with z | z | z
      · have : p1 = b := congrArg Prod.fst z
        omega
      · simp only at z
        omega
      · simp only at z
        exact Prod.ext (by show p1 = _; omega) (by show p2 = _; omega)
  · rw [rgt_high h k]; exact ih
/-- what lies ahead of an entry, and behind it -/
theorem nw_lft {n e : Nat} (h : e < n) : nw n 0 e = lft 0 n e := by
  have r := tree_root n
  exact nw_unique (n := n) (hi := e) (lo0 := 0) (by omega) _ _ 0 (Nat.le_refl _) (nw_ch (by omega) 0 (by omega)) (lft_ch n 0 r (by omega) (by omega) (by omega)) (nw_max (by omega) (by omega)) (lft_mx h n 0 r (by omega) (by omega) (by omega))
theorem nw_rgt {n e : Nat} (h : e < n) : nw n (e + 1) n = rgt 0 n e := by
  have r := tree_root n
  have c := rgt_ch (e := e) n 0 r (by omega) (by omega) (by omega)
  rw [Nat.zero_add] at c
  exact nw_unique (n := n) (hi := n) (lo0 := e + 1) (Nat.le_refl _) _ _ (e + 1) (Nat.le_refl _) (nw_ch (Nat.le_refl _) (e + 1) (by omega)) c (nw_max (Nat.le_refl _) (by omega)) (rgt_mx n 0 r (by omega) (by omega) (by omega))
theorem nw_single {n e : Nat} (h : e < n) : (nw n 0 e).length + (nw n (e + 1) n).length = (sib 0 n e).length := by
  rw [nw_lft h, nw_rgt h]
  exact sides_len n 0 (tree_root n) (by omega) (by omega) (by omega)
/-! ### peaks -/
theorem pk_ch {n e : Nat} (he : e ≤ n) : ∀ (i b : Nat), 2 ^ i ∣ b → b + e % 2 ^ i = e → Ch n b e ((pk i e b).map full)
  | 0, b, _, h => by rw [Nat.pow_zero, Nat.mod_one] at h; exact h
  | i + 1, b, d, h => by
    rw [mod_succ] at h
    have d' : 2 ^ i ∣ b := Nat.dvd_trans (Nat.pow_dvd_pow 2 (Nat.le_succ i)) d
    show Ch n b e ((if e.testBit i = true then (b, i) :: pk i e (b + 2 ^ i) else pk i e b).map full)
    by_cases t : e.testBit i = true
    · rw [if_pos t] at h ⊢
      refine ⟨rfl, (show isN n (b, b + 2 ^ i) from full_isN (by omega) d'), ?_, pk_ch he i (b + 2 ^ i) (Nat.dvd_add d' (Nat.dvd_refl _)) (by omega)⟩
      show b + 2 ^ i ≤ e
      omega
    · rw [if_neg t] at h ⊢
      exact pk_ch he i b d' (by omega)
theorem pk_mx {n e : Nat} (he : e < n) : ∀ (i b : Nat), 2 ^ i ∣ b → b + e % 2 ^ i = e → Mx n 0 e ((pk i e b).map full)
  | 0, b, _, h => fun x hx => by cases hx
  | i + 1, b, d, h => by
    have ml := Nat.mod_lt e (Nat.pow_pos (a := 2) (n := i + 1) (by decide))
    have hh := h
    rw [mod_succ] at h
    have d' : 2 ^ i ∣ b := Nat.dvd_trans (Nat.pow_dvd_pow 2 (Nat.le_succ i)) d
    show Mx n 0 e ((if e.testBit i = true then (b, i) :: pk i e (b + 2 ^ i) else pk i e b).map full)
    by_cases t : e.testBit i = true
    · rw [if_pos t] at h ⊢
      intro x hx
      rw [List.map_cons] at hx
      rcases List.mem_cons.mp hx with rfl | hx
      · rintro ⟨p1, p2⟩ hp _ q2 q3 q4
        have q3 : p1 ≤ b := q3
        have q4 : b + 2 ^ i ≤ p2 := q4
        simp only at q2
        have pz := Nat.pow_pos (a := 2) (n := i) (by decide)
        obtain ⟨a1, a2, a3, a4⟩ := isN_tree hp
        have a5 : p2 - p1 = 2 ^ lb (p2 - p1) := by
          rcases a4 with a4 | a4
          · exact a4
          · omega
        by_cases c : i < lb (p2 - p1)
        · have m1 := Nat.pow_le_pow_right (n := 2) (by decide) (show i + 1 ≤ lb (p2 - p1) from c)
          have m2 := mul_le_of_lt (R := 2 ^ (i + 1)) d (Nat.dvd_add (Nat.dvd_trans (Nat.pow_dvd_pow 2 (show i + 1 ≤ lb (p2 - p1) from c)) a3) (Nat.pow_dvd_pow 2 (show i + 1 ≤ lb (p2 - p1) from c))) (show b < p1 + 2 ^ lb (p2 - p1) by omega)
          omega
        · have m1 := Nat.pow_le_pow_right (n := 2) (by decide) (show lb (p2 - p1) ≤ i by omega)
          exact Prod.ext (by show p1 = b; omega) (by show p2 = b + 2 ^ i; omega)
      · exact pk_mx he i (b + 2 ^ i) (Nat.dvd_add d' (Nat.dvd_refl _)) (by omega) x hx
    · rw [if_neg t] at h ⊢
      exact pk_mx he i b d' (by omega)
theorem nw_pk {n e : Nat} (h : e < n) (h100 : e < 2 ^ 101) : nw n 0 e = (pk 101 e 0).map full := by
  have em : 0 + e % 2 ^ 101 = e := by rw [Nat.mod_eq_of_lt h100, Nat.zero_add]
  exact nw_unique (n := n) (hi := e) (lo0 := 0) (by omega) _ _ 0 (Nat.le_refl _) (nw_ch (by omega) 0 (by omega)) (pk_ch (by omega) 101 0 (Nat.dvd_zero _) em) (nw_max (by omega) (by omega)) (pk_mx h 101 0 (Nat.dvd_zero _) em)
theorem pk_even : ∀ (i c b b' : Nat), (pk (i + 1) (2 * c) b).length = (pk i c b').length
  | 0, c, b, b' => by
    show (if (2 * c).testBit 0 = true then _ else _ : List (Nat × Nat)).length = 0
    have : (2 * c).testBit 0 = false := by simp
    rw [this]
    rfl
  | i + 1, c, b, b' => by
    show (if (2 * c).testBit (i + 1) = true then (b, i + 1) :: pk (i + 1) (2 * c) (b + 2 ^ (i + 1)) else pk (i + 1) (2 * c) b).length = (if c.testBit i = true then (b', i) :: pk i c (b' + 2 ^ i) else pk i c b').length
    rw [Nat.testBit_succ, show 2 * c / 2 = c by omega]
    by_cases t : c.testBit i = true
    · rw [if_pos t, if_pos t, List.length_cons, List.length_cons, pk_even i c _ (b' + 2 ^ i)]
    · rw [if_neg t, if_neg t, pk_even i c b b']
theorem pk_odd : ∀ (i c b b' : Nat), (pk (i + 1) (2 * c + 1) b).length = (pk i c b').length + 1
  | 0, c, b, b' => by
    show (if (2 * c + 1).testBit 0 = true then (b, 0) :: ([] : List (Nat × Nat)) else []).length = 0 + 1
    have : (2 * c + 1).testBit 0 = true := by simp
    rw [this]
    rfl
  | i + 1, c, b, b' => by
    show (if (2 * c + 1).testBit (i + 1) = true then (b, i + 1) :: pk (i + 1) (2 * c + 1) (b + 2 ^ (i + 1)) else pk (i + 1) (2 * c + 1) b).length = (if c.testBit i = true then (b', i) :: pk i c (b' + 2 ^ i) else pk i c b').length + 1
    rw [Nat.testBit_succ, show (2 * c + 1) / 2 = c by omega]
    by_cases t : c.testBit i = true
    · rw [if_pos t, if_pos t, List.length_cons, List.length_cons, pk_odd i c _ (b' + 2 ^ i)]
    · rw [if_neg t, if_neg t, pk_odd i c b b']
theorem pow_dvd_odd {k c : Nat} (h : 2 ^ k ∣ 2 * c + 1) : k = 0 := by
  cases k with
  | zero => rfl
  | succ k =>
    have := Nat.dvd_trans (⟨2 ^ k, by rw [Nat.pow_succ, Nat.mul_comm]⟩ : 2 ∣ 2 ^ (k + 1)) h
    omega
theorem pk_pred : ∀ (i e k b b' : Nat), 0 < e → e < 2 ^ i → 2 ^ k ∣ e → ¬ 2 ^ (k + 1) ∣ e → (pk i e b).length + k = (pk i (e - 1) b').length + 1
  | 0, e, k, _, _, h, h2, _, _ => by simp at h2; omega
  | i + 1, e, k, b, b', h, h2, d1, d2 => by
    rcases Nat.mod_two_eq_zero_or_one e with z | z
    · obtain ⟨c, rfl⟩ : ∃ c, e = 2 * c := ⟨e / 2, by omega⟩
      have kp : k ≠ 0 := fun y => d2 (by rw [y]; exact ⟨c, by simp⟩)
      obtain ⟨j, rfl⟩ : ∃ j, k = j + 1 := ⟨k - 1, by omega⟩
      rw [Nat.pow_succ] at h2
      have ih := pk_pred i c j 0 0 (by omega) (by omega) (by rw [Nat.pow_succ, Nat.mul_comm] at d1; exact Nat.dvd_of_mul_dvd_mul_left (by decide) d1) (fun y => d2 (by rw [Nat.pow_succ, Nat.mul_comm]; exact Nat.mul_dvd_mul_left 2 y))
      rw [show 2 * c - 1 = 2 * (c - 1) + 1 by omega, pk_even i c b 0, pk_odd i (c - 1) b' 0]
      omega
    · obtain ⟨c, rfl⟩ : ∃ c, e = 2 * c + 1 := ⟨e / 2, by omega⟩
      have := pow_dvd_odd d1
      subst this
      rw [show 2 * c + 1 - 1 = 2 * c by omega, pk_odd i c b 0, pk_even i c b' 0]
theorem lb_big {n : Nat} (h : 2 ≤ n) : lb n = Nat.log2 (n - 1) + 1 := by unfold lb; rw [if_neg (by omega)]
end LT

namespace LT
open PySem PySem.Spec PyProof.Rows L2
/-! ### lists of ints as data -/
theorem ints_lay : ∀ ns : List Int, PyData.canLayAll0 (ns.map PyData.int) = true
  | [] => by simp [PyData.canLayAll0]
  | n :: ns => by simp [PyData.canLayAll0, PyData.canLay0, ints_lay ns]
theorem ints_depth : ∀ ns : List Int, PyData.depthAll (ns.map PyData.int) ≤ 1
  | [] => by simp [PyData.depthAll]
  | n :: ns => by
    have := ints_depth ns
    simp only [List.map_cons, PyData.depthAll, PyData.depth]
    omega
theorem ints_shaped (ns : List Int) : SeqAt.shaped (.list (ns.map PyData.int)) = true := by
  have h := ints_depth ns
  have h2 : PyData.depth (.list (ns.map PyData.int)) ≤ 64 := by
    simp only [PyData.depth]
    omega
  show (PyData.canLay0 (.list (ns.map PyData.int)) && decide (PyData.depth (.list (ns.map PyData.int)) ≤ 64)) = true
  rw [Bool.and_eq_true]
  exact ⟨by simp only [PyData.canLay0]; exact ints_lay ns, decide_eq_true h2⟩
theorem ints_dp {K : PySem.W.Frag} {H : Hp} : ∀ ns : List Int, DpAll K H (ns.map V.int) (ns.map PyData.int)
  | [] => .nil
  | n :: ns => .cons (.int n) (ints_dp ns)
theorem ints_nil : ∀ ns : List Int, PyData.eqv (.list (ns.map PyData.int)) (.list []) = ns.isEmpty
  | [] => by simp only [List.map_nil, PyData.eqv, PyData.eqvAll, List.isEmpty_nil]
  | n :: ns => by simp only [List.map_cons, PyData.eqv, PyData.eqvAll, List.isEmpty_cons]
theorem nil_shaped : SeqAt.shaped (.list []) = true := ints_shaped []
end LT

namespace LT
open PySem PySem.Spec PyProof.Rows L2
def nd (x : Nat × Nat) : PyData := .tuple [.int x.1, .int x.2]
theorem nds_lay : ∀ l : List (Nat × Nat), PyData.canLayAll0 (l.map nd) = true
  | [] => by simp [PyData.canLayAll0]
  | x :: l => by simp [PyData.canLayAll0, nd, PyData.canLay0, nds_lay l]
theorem nds_depth : ∀ l : List (Nat × Nat), PyData.depthAll (l.map nd) ≤ 2
  | [] => by simp [PyData.depthAll]
  | x :: l => by
    have := nds_depth l
    simp only [List.map_cons, PyData.depthAll, nd, PyData.depth]
    omega
theorem nds_shaped (l : List (Nat × Nat)) : SeqAt.shaped (.list (l.map nd)) = true := by
  have h := nds_depth l
  have h2 : PyData.depth (.list (l.map nd)) ≤ 64 := by
    simp only [PyData.depth]
    omega
  show (PyData.canLay0 (.list (l.map nd)) && decide (PyData.depth (.list (l.map nd)) ≤ 64)) = true
  rw [Bool.and_eq_true]
  exact ⟨by simp only [PyData.canLay0]; exact nds_lay l, decide_eq_true h2⟩
theorem nds_dp {K : PySem.W.Frag} {H : Hp} : ∀ {vs : List V} {l : List (Nat × Nat)}, All2 (Nd H) vs l → DpAll K H vs (l.map nd)
  | _, _, .nil => .nil
  | _, _, .cons h t => .cons h.dp (nds_dp t)
theorem nds_any (l : List (Nat × Nat)) (x : Nat × Nat) : (l.map nd).any (fun z => PyData.eqv z (.tuple [.int x.1, .int x.2])) = decide (x ∈ l) := by
  induction l with
  | nil => simp
  | cons y l ih =>
    rw [List.map_cons, List.any_cons, ih]
    show (PyData.eqv (.tuple [.int y.1, .int y.2]) _ || _) = _
    rw [nd_eqv]
    by_cases c : x = y
    · subst c
      simp
    · have e : (decide ((y.1 : Int) = (x.1 : Int)) && decide ((y.2 : Int) = (x.2 : Int))) = false := by
        rw [Bool.and_eq_false_iff]
        by_cases c1 : y.1 = x.1
        · right
          refine decide_eq_false (fun z => c (Prod.ext c1.symm ?_))
          omega
        · left
          exact decide_eq_false (fun z => c1 (by omega))
      rw [e, Bool.false_or]
      simp [c]
end LT

namespace LT
open PySem PySem.Spec PyProof.Rows L2
theorem ndt_shaped (l : List (Nat × Nat)) : SeqAt.shaped (.tuple (l.map nd)) = true := by
  have h := nds_depth l
  have h2 : PyData.depth (.tuple (l.map nd)) ≤ 64 := by
    simp only [PyData.depth]
    omega
  show (PyData.canLay0 (.tuple (l.map nd)) && decide (PyData.depth (.tuple (l.map nd)) ≤ 64)) = true
  rw [Bool.and_eq_true]
  exact ⟨by simp only [PyData.canLay0]; exact nds_lay l, decide_eq_true h2⟩
theorem tup_dp {K : PySem.W.Frag} {H : Hp} {p : Addr} {vs : List V} {l : List (Nat × Nat)} (h : H p = some (.tup vs)) (k : All2 (Nd H) vs l) : Dp K H (.ref p) (.tuple (l.map nd)) := .tup (SqT.of h) (nds_dp k)
theorem lst_dp {K : PySem.W.Frag} {H : Hp} {p : Addr} {vs : List V} {l : List (Nat × Nat)} (h : H p = some (.lst vs)) (k : All2 (Nd H) vs l) : Dp K H (.ref p) (.list (l.map nd)) := .lst (SqL.of h) (nds_dp k)
end LT

namespace LT
open PySem PySem.Spec PyProof.Rows L2
section
variable {P : Program} {w : World} {K : PySem.W.Frag} {mg : Str → Option Value} {base : Heap}
/-! ### walking an enumerate -/
theorem for_enum {a : Addr} {xs : List V} {g : TG} {tb : TS} {D : Ends} {σ : L2.St} {H : Hp} (Pv : Nat → L2.St → Hp → Prop) (h0 : Pv 0 σ H) (hl : ∀ i σ H, i ≤ xs.length → Pv i σ H → SqL K H a xs)
    (hs : ∀ i x σ H T, xs[i]? = some x → Pv i σ H → H T = none → g (.ref T) σ (upd H T (.tup [.int (i : Nat), x])) fun σ2 H2 => tb { D with nx := Pv (i + 1), ct := Pv (i + 1), bk := D.nx } σ2 H2) (hd : ∀ σ H, Pv xs.length σ H → D.nx σ H) :
    ∃ W : Nat → Nat → L2.St → Hp → Prop, (∃ m, W 0 m σ H) ∧ ∀ i m σ H, W i m σ H →
      ((Ite K a).stop i H ∧ D.nx σ H) ∨ ((Ite K a).go i H ∧ ∃ N : L2.St → Hp → Prop, (∀ σ' H', N σ' H' → ∃ m', m' < m ∧ W (i + 1) m' σ' H') ∧ ∀ x H', (Ite K a).yld i H x H' → g x σ H' fun σ2 H2 => tb { D with nx := N, ct := N, bk := D.nx } σ2 H2) := by
  refine ⟨fun i m σ H => m = xs.length - i ∧ i ≤ xs.length ∧ Pv i σ H, ⟨xs.length, by simp, Nat.zero_le _, h0⟩, ?_⟩
  rintro i m σ H ⟨rfl, hi, p⟩
  have q := hl i σ H hi p
  by_cases hlt : i < xs.length
  · refine .inr ⟨⟨xs, xs[i], q, by simp [hlt]⟩, Pv (i + 1), fun σ' H' p' => ⟨xs.length - (i + 1), by omega, rfl, hlt, p'⟩, fun x H' y => ?_⟩
    obtain ⟨T, x1, rfl, nT, rfl, f⟩ := y
    exact hs i x1 σ H T (f xs q) p nT
  · have e : i = xs.length := by omega
    subst e
    exact .inl ⟨⟨xs, q, Nat.le_refl _⟩, hd σ H p⟩
end
end LT

namespace LT
open PySem PySem.Spec PyProof.Rows L2
/-- three ints -/
def Tr (H : Hp) (v : V) (x : Nat × Nat × Nat) : Prop := ∃ p, v = .ref p ∧ H p = some (.tup [.int x.1, .int x.2.1, .int x.2.2])
theorem Tr.same {H H' : Hp} {v : V} {x : Nat × Nat × Nat} (h : Tr H v x) (s : Same H H') : Tr H' v x := by
  obtain ⟨p, e, q⟩ := h
  exact ⟨p, e, s _ _ q⟩
theorem Tr.upd {H : Hp} {v : V} {x : Nat × Nat × Nat} {s : Addr} {xs : List V} {o : HO} (h : Tr H v x) (hs : H s = some (.lst xs)) : Tr (upd H s o) v x := by
  obtain ⟨p, e, q⟩ := h
  exact ⟨p, e, by rw [upd_ne (ne_of q hs (by intro z; cases z))]; exact q⟩
theorem lev_len (t : Nat) : ∀ (l : List (Nat × Nat)) (s : Nat), (lev t s l).length = l.length
  | [], _ => rfl
  | x :: r, s => by
    show (lev t (s + 1) r).length + 1 = r.length + 1
    rw [lev_len t r (s + 1)]
theorem lev_app (t : Nat) : ∀ (l r : List (Nat × Nat)) (s : Nat), lev t s (l ++ r) = lev t s l ++ lev t (s + l.length) r
  | [], r, s => rfl
  | x :: l, r, s => by
    show _ :: lev t (s + 1) (l ++ r) = _ :: (lev t (s + 1) l ++ lev t (s + (l.length + 1)) r)
    rw [lev_app t l r (s + 1), show s + 1 + l.length = s + (l.length + 1) by omega]
end LT

namespace LT
open PySem PySem.Spec PyProof.Rows L2
theorem log2_is {r h : Nat} (h1 : 2 ^ h ≤ r) (h2 : r < 2 ^ (h + 1)) : r.log2 = h := (Nat.log2_eq_iff (by have := Nat.pow_pos (a := 2) (n := h) (by decide); omega)).mpr ⟨h1, h2⟩
theorem pk_step : ∀ (i n b : Nat), n % 2 ^ i ≠ 0 → ∃ h, h < i ∧ pk i n b = (b, h) :: pk h n (b + 2 ^ h) ∧ n % 2 ^ i = 2 ^ h + n % 2 ^ h
  | 0, n, b, hr => by simp [Nat.mod_one] at hr
  | i + 1, n, b, hr => by
    rw [mod_succ] at hr
    by_cases t : n.testBit i = true
    · refine ⟨i, Nat.lt_succ_self i, ?_, by rw [mod_succ, if_pos t]⟩
      show (if n.testBit i = true then _ else _) = _
      rw [if_pos t]
    · rw [if_neg t, Nat.zero_add] at hr
      obtain ⟨h, h1, h2, h3⟩ := pk_step i n b hr
      refine ⟨h, by omega, ?_, by rw [mod_succ, if_neg t, Nat.zero_add]; exact h3⟩
      show (if n.testBit i = true then _ else _) = _
      rw [if_neg t]
      exact h2
section
variable {P : Program} {w : World} {K : PySem.W.Frag} {mg : Str → Option Value} {base : Heap}
def spTops : Sp := fun vs H Q _ => ∃ (n : Nat), vs = [.int n] ∧ 1 ≤ n ∧ n ≤ 10 ^ 30 ∧ ∀ (H' : Hp) (p : Addr) (xs : List V), Same H H' → H p = none → H' p = some (.lst xs) → All2 (Nd H') xs ((pk 101 n 0).map full) → Q (.ref p) H'
theorem ok_peaks {f g1 g2 : Addr} {fd d1 d2 : FuncData} (F : Fun K "peaks" "peaks" sPeaks f fd) (GCheckSize : FnOk P w K mg base CX0 3 g1 d1 ["size"] spCheckSize) (ACheckSize : At K mg "check_size" g1 d1 ["size"])
    (GPowerWithin : FnOk P w K mg base CX0 1 g2 d2 ["number"] spPower) (APowerWithin : At K mg "power_within" g2 d2 ["number"]) : FnOk P w K mg base CX0 4 f fd ["size"] spTops := by
  refine F.ok scPeaks (fun vs H Q E h => ?_) (fun cdv A outer s H vs Q E hr h => ?_)
  · obtain ⟨_, rfl, _⟩ := h
    rfl
  obtain ⟨n, rfl, h1, h30, q⟩ := h
  refine ⟨_, (pss_cons (ps_expr (pe_call GCheckSize (hr.mono (by decide)) rfl ACheckSize.m ACheckSize.kp ACheckSize.b .nil pass0 (pa_cons (pv 0) pa_nil)))
    (pss_cons (ps_set (i := 1) scPeaks.nd rfl (Or.inl rfl) (pe_lst pa_nil))
    (pss_cons (ps_set (i := 2) scPeaks.nd rfl (Or.inl rfl) pe_int)
    (pss_cons (ps_while PassesOwn.never (pt_cmpR op_lt (pv 2) (pv 0) (nomark _))
    (pss_cons (ps_set (i := 3) scPeaks.nd rfl (Or.inl rfl) (pe_op op_add (pv 2) (pe_call GPowerWithin (hr.mono (by decide)) rfl APowerWithin.m APowerWithin.kp APowerWithin.b .nil pass0 (pa_cons (pe_op op_sub (pv 0) (pv 2)) pa_nil))))
    (pss_cons (ps_expr (pe_bm PySem.F.plainAttrs_list PySem.F.slot_list_append PySem.F.type_list_append mt_append (pv 1) (pa_cons (pe_tup (pa_cons (pv 2) (pa_cons (pv 3) pa_nil))) pa_nil)))
    (pss_one (ps_set (i := 2) scPeaks.nd rfl (Or.inl rfl) (pv 3))))))
    (pss_one (ps_ret (pv 1))))))), ?_⟩
  refine ⟨_, rfl, n, rfl, by omega, by omega, ?_⟩
  refine ⟨Nat.zero_le _, fun fa nf => ?_⟩
  have nm : n % 2 ^ 101 = n := Nat.mod_eq_of_lt (Nat.lt_of_le_of_lt h30 (by decide))
  refine ⟨fun mu σ H' => ∃ (i b : Nat) (v3 : Option V) (xs : List V) (done : List (Nat × Nat)), σ = [some (.int n), some (.ref fa), some (.int b), v3] ∧ Same H H' ∧ H' fa = some (.lst xs) ∧ All2 (Nd H') xs (done.map full) ∧ done ++ pk i n b = pk 101 n 0 ∧ b + n % 2 ^ i = n ∧ mu = n - b,
    ⟨n, 101, 0, none, [], [], rfl, same_upd nf, upd_same, .nil, rfl, by omega, by omega⟩, ?_⟩
  rintro m σ H1 ⟨i, b, v3, xs, done, rfl, sm, hf, hx, hd, hb, rfl⟩
  refine ⟨_, rfl, _, rfl, _, _, rfl, rfl, _, rfl, ite2 (fun c => ?_) (fun c => ?_)⟩
  · have c1 : (b : Int) < (n : Int) := of_decide_eq_true c
    obtain ⟨h, hi, hp, hm⟩ := pk_step i n b (by omega)
    have ph := Nat.pow_pos (a := 2) (n := h) (by decide)
    have lh : (n - b).log2 = h := log2_is (by omega) (by have := Nat.mod_lt n ph; rw [Nat.pow_succ]; omega)
    have dl : done.length ≤ 101 := by
      have k1 := congrArg List.length hd
      rw [List.length_append] at k1
      have k2 := pk_len 101 n 0
      omega
    refine ⟨fun σ' H' => ∃ mu, mu < n - b ∧ ∃ (i b : Nat) (v3 : Option V) (xs : List V) (done : List (Nat × Nat)), σ' = [some (.int n), some (.ref fa), some (.int b), v3] ∧ Same H H' ∧ H' fa = some (.lst xs) ∧ All2 (Nd H') xs (done.map full) ∧ done ++ pk i n b = pk 101 n 0 ∧ b + n % 2 ^ i = n ∧ mu = n - b, fun σ' H' h => h, ?_⟩
    have e1 : (n : Int) - (b : Int) = ((n - b : Nat) : Int) := by omega
    refine ⟨_, rfl, _, rfl, _, rfl, _, _, rfl, rfl, n - b, congrArg (fun z => [V.int z]) e1, by omega, by omega, _, _, rfl, rfl, ?_⟩
    have e2 : (b : Int) + ((2 ^ (n - b).log2 : Nat) : Int) = ((b + 2 ^ h : Nat) : Int) := by rw [lh]; omega
    dsimp only
    rw [e2]
    refine ⟨_, rfl, .inl ⟨rfl, _, SqL.of hf⟩, _, rfl, _, rfl, (by show 2 ≤ sizeLine; decide), fun t nt => ?_⟩
    have s1 := same_upd (o := .tup [.int (b : Int), .int ((b + 2 ^ h : Nat) : Int)]) nt
    have hf1 := s1 _ _ hf
    refine ⟨fa, _, _, rfl, rfl, hf1, szlt (by rw [hx.len, List.length_map]; omega), ?_⟩
    refine ⟨_, rfl, ?_⟩
    refine ⟨n - (b + 2 ^ h), by omega, h, b + 2 ^ h, _, xs ++ [.ref t], done ++ [(b, h)], rfl, ?_, upd_same, ?_, ?_, by omega, rfl⟩
    · exact fun a o k => by rw [upd_ne (ne_of_none k nf)]; exact s1 _ _ (sm _ _ k)
    · rw [List.map_append]
      refine (hx.mono (fun v x (k : Nd H1 v x) => (k.same s1).upd hf1)).app (.cons ?_ .nil)
      exact Nd.upd (x := full (b, h)) ⟨t, rfl, upd_same⟩ hf1
    · rw [← hd, hp, List.append_assoc]
      rfl
  · have c1 : ¬ (b : Int) < (n : Int) := of_decide_eq_false (Bool.eq_false_iff.mpr c)
    rw [pk_nil i n b (by omega), List.append_nil] at hd
    rw [hd] at hx
    exact ⟨_, rfl, q H1 fa xs sm nf hf hx⟩
end
end LT

namespace LT
open PySem PySem.Spec PyProof.Rows L2
theorem cut_last (xs : List V) : cutV xs none (some (-1)) = xs.dropLast := by
  unfold cutV
  have e : HT.sIx xs.length xs.length (some (-1)) = xs.length - 1 := by
    show (if (-1 : Int) < 0 then ((-1 : Int) + (xs.length : Int)).toNat else min (-1 : Int).toNat xs.length) = _
    rw [if_pos (by decide)]
    omega
  rw [e, HT.sIx_none, List.drop_zero, Nat.sub_zero, List.dropLast_eq_take]
theorem All2.droplast {α : Type} {R : V → α → Prop} : ∀ {vs : List V} {xs : List α}, All2 R vs xs → All2 R vs.dropLast xs.dropLast
  | _, _, .nil => .nil
  | _, _, .cons _ .nil => .nil
  | _, _, .cons h (.cons k t) => .cons h (All2.droplast (.cons k t))
/-- how many peaks -/
def npk (n : Nat) : Nat := (pk 101 n 0).length
theorem npk_pos {n : Nat} (h : 1 ≤ n) (h30 : n ≤ 10 ^ 30) : 1 ≤ npk n := by
  have k := pk_ne 101 n 0 (by rw [Nat.mod_eq_of_lt (Nat.lt_of_le_of_lt h30 (by decide))]; omega)
  unfold npk
  cases hh : pk 101 n 0 with
  | nil => exact absurd hh k
  | cons _ _ => rw [List.length_cons]; omega
/-- how many of each height -/
def hcount (n : Nat) (k : Int) : Int := if k < 0 ∨ k > ((Builtin.Int.intBits (n : Int) : Nat) : Int) then 0 else if k = 0 then (n : Int) else (((n : Int) - 1) / 2 ^ (k - 1).toNat + 1) / 2
def ccount (n o : Nat) : Int := if n = o then 2 * (min n o : Nat) - 1 else 2 * (min n o : Nat) - 1 - ((npk (min n o) - 1 : Nat) : Int)
section
variable {P : Program} {w : World} {K : PySem.W.Frag} {mg : Str → Option Value} {base : Heap}
def spEdges : Sp := fun vs H Q _ => ∃ (n : Nat), vs = [.int n] ∧ 1 ≤ n ∧ n ≤ 10 ^ 30 ∧ ∀ (H' : Hp) (p : Addr) (xs : List V), Same H H' → H p = none → H' p = some (.lst xs) → All2 (Nd H') xs (((pk 101 n 0).map full).dropLast.map fun x => (x.1, n)) → Q (.ref p) H'
theorem ok_edges {f g1 : Addr} {fd d1 : FuncData} (F : Fun K "edges" "edges" sEdges f fd) (GPeaks : FnOk P w K mg base CX0 4 g1 d1 ["size"] spTops) (APeaks : At K mg "peaks" g1 d1 ["size"]) : FnOk P w K mg base CX0 5 f fd ["size"] spEdges := by
  refine F.ok scEdges (fun vs H Q E h => ?_) (fun cdv A outer s H vs Q E hr h => ?_)
  · obtain ⟨_, rfl, _⟩ := h
    rfl
  obtain ⟨n, rfl, h1, h30, q⟩ := h
  refine ⟨_, (pss_one (ps_ret (pe_lc (own := [("begin", 1), ("_", 2)]) rfl scEdges.nd (pi_list (pe_slice sl_list (pe_call GPeaks (hr.mono (by decide)) rfl APeaks.m APeaks.kp APeaks.b .nil pass0 (pa_cons (pv 0) pa_nil)) po_none (po_some (pe_un un_neg pe_int)))) (blkOk_by (N := ["size", "begin", "_"]) (sc := defScope sEdges) (by decide +kernel)) (fun _ _ _ _ _ => (pg_tupB (n := 2) rfl (pgs_cons (pg_name (i := 1) scEdges.nd rfl (Or.inl rfl)) (pgs_cons (pg_name (i := 2) scEdges.nd rfl (Or.inl rfl)) pgs_nil)))) (fun _ _ _ _ _ => pts_nil) (fun _ _ _ _ _ => (pe_tup (pa_cons (pv 1) (pa_cons (pv 0) pa_nil))))))), ?_⟩
  refine ⟨_, rfl, n, rfl, h1, h30, fun H1 p xs sm np hp hx => ?_⟩
  have L101 : ((pk 101 n 0).map full).length ≤ 101 := by rw [List.length_map]; exact pk_len 101 n 0
  generalize (pk 101 n 0).map full = L at q hx L101
  refine ⟨1, rfl, -1, rfl, p, _, rfl, SqL.of hp, fun c nc => ?_⟩
  have sc := same_upd (o := .lst (cutV xs none (some (-1)))) nc
  have hc : (upd H1 c (.lst (cutV xs none (some (-1))))) c = some (.lst xs.dropLast) := by rw [upd_same, cut_last]
  have hx1 := (hx.mono (fun v x (k : Nd H1 v x) => k.same sc)).droplast
  generalize upd H1 c (.lst (cutV xs none (some (-1)))) = H2 at hc hx1 sc
  refine ⟨c, rfl, ⟨_, SqL.of hc⟩, fun D nD => lc_list (xs := xs.dropLast) (fun i H' => ∃ ys : List V, Same H2 H' ∧ H' D = some (.lst ys) ∧ All2 (Nd H') ys ((L.dropLast.take i).map fun x => (x.1, n))) ⟨[], same_upd nD, upd_same, .nil⟩ (fun i H' _ ⟨_, k, _⟩ => SqL.of (k _ _ hc)) ?_ ?_⟩
  · rintro i x H3 hi ⟨ys, s3, hD, hy3⟩
    obtain ⟨y, hy, xp, rfl, hxp⟩ := hx1.nth hi
    have il : i < L.dropLast.length := (List.getElem?_eq_some_iff.mp hy).1
    rw [List.length_dropLast] at il
    refine ⟨xp, _, rfl, SqT.of (s3 _ _ hxp), rfl, _, _, rfl, _, _, rfl, rfl, rfl, ?_⟩
    refine ⟨_, rfl, _, rfl, (by show 2 ≤ sizeLine; decide), fun t nt => ?_⟩
    have st := same_upd (o := .tup [.int (y.1 : Int), .int (n : Int)]) nt
    refine ⟨ys, st _ _ hD, szlt (by rw [hy3.len, List.length_map, List.length_take, List.length_dropLast]; omega), ys ++ [.ref t], ?_, upd_same, ?_⟩
    · exact fun a o k => by rw [upd_ne (ne_of_none k nD)]; exact st _ _ (s3 _ _ k)
    · rw [take_more hy, List.map_append]
      exact (hy3.mono (fun v x (k : Nd H3 v x) => (k.same st).upd (st _ _ hD))).app (.cons (Nd.upd (x := (y.1, n)) ⟨t, rfl, upd_same⟩ (st _ _ hD)) .nil)
  rintro H3 ⟨ys, s3, hD, hy3⟩
  have et : L.dropLast.take xs.dropLast.length = L.dropLast := List.take_of_length_le (by rw [hx1.len]; exact Nat.le_refl _)
  rw [et] at hy3
  refine q H3 D ys (sm.trans (sc.trans s3)) ?_ hD hy3
  exact (sm.trans sc).free nD
def spNodeCount : Sp := fun vs H Q _ => ∃ (n : Nat), vs = [.int n] ∧ 1 ≤ n ∧ n ≤ 10 ^ 30 ∧ ∀ (H' : Hp) (p : Addr), Same H H' → H' p = some (.tup [.int (2 * (n : Int) - 1 - ((npk n - 1 : Nat) : Int)), .int ((npk n - 1 : Nat) : Int)]) → Q (.ref p) H'
theorem ok_node_count {f g1 : Addr} {fd d1 : FuncData} (F : Fun K "node_count" "node_count" sNodeCount f fd) (GEdges : FnOk P w K mg base CX0 5 g1 d1 ["size"] spEdges) (AEdges : At K mg "edges" g1 d1 ["size"]) (z_len : mg "len" = none) : FnOk P w K mg base CX0 6 f fd ["size"] spNodeCount := by
  refine F.ok scNodeCount (fun vs H Q E h => ?_) (fun cdv A outer s H vs Q E hr h => ?_)
  · obtain ⟨_, rfl, _⟩ := h
    rfl
  obtain ⟨n, rfl, h1, h30, q⟩ := h
  refine ⟨_, (pss_cons (ps_set (i := 1) scNodeCount.nd rfl (Or.inl rfl) (pe_callB call_len_seq (by rfl) z_len PySem.boot_len (pa_cons (pe_call GEdges (hr.mono (by decide)) rfl AEdges.m AEdges.kp AEdges.b .nil pass0 (pa_cons (pv 0) pa_nil)) pa_nil)))
    (pss_one (ps_ret (pe_tup (pa_cons (pe_op op_sub (pe_op op_sub (pe_op op_mul pe_int (pv 0)) pe_int) (pv 1)) (pa_cons (pv 1) pa_nil)))))), ?_⟩
  refine ⟨_, rfl, n, rfl, h1, h30, fun H1 p xs sm np hp hx => ?_⟩
  have xl : xs.length = npk n - 1 := by
    rw [hx.len, List.length_map, List.length_dropLast, List.length_map]
    rfl
  refine ⟨p, xs, rfl, .inl (SqL.of hp), ?_⟩
  dsimp only
  rw [xl]
  refine ⟨_, rfl, _, _, rfl, rfl, .inl ⟨by decide, by decide⟩, _, _, rfl, rfl, _, rfl, _, _, rfl, rfl, _, rfl, (by show 2 ≤ sizeLine; decide), fun t nt => ?_⟩
  exact q _ t (sm.trans (same_upd nt)) upd_same
end
end LT

namespace LT
open PySem PySem.Spec PyProof.Rows L2
/-- spans, each one at or behind the end of the one ahead -/
def So (n : Nat) : Nat → List (Nat × Nat) → Prop
  | lo, [] => lo ≤ n
  | lo, x :: l => lo ≤ x.1 ∧ x.1 < x.2 ∧ x.2 ≤ n ∧ So n x.2 l
theorem So.le {n : Nat} : ∀ {lo : Nat} {l : List (Nat × Nat)}, So n lo l → lo ≤ n
  | _, [], h => h
  | _, _ :: _, ⟨h1, h2, h3, _⟩ => by omega
theorem So.mem {n : Nat} : ∀ {lo : Nat} {l : List (Nat × Nat)}, So n lo l → ∀ x ∈ l, lo ≤ x.1 ∧ x.1 < x.2 ∧ x.2 ≤ n
  | lo, y :: l, ⟨h1, h2, h3, h4⟩, x, hx => by
    rcases List.mem_cons.mp hx with rfl | hx
    · exact ⟨h1, h2, h3⟩
    · obtain ⟨k1, k2, k3⟩ := So.mem h4 x hx
      exact ⟨by omega, k2, k3⟩
/-- the needed nodes -/
def nl (n : Nat) : Nat → List (Nat × Nat) → List (Nat × Nat)
  | lo, [] => nw n lo n
  | lo, x :: l => nw n lo x.1 ++ nl n x.2 l
section
variable {P : Program} {w : World} {K : PySem.W.Frag} {mg : Str → Option Value} {base : Heap}
def spListOf : Sp := fun vs H Q _ => ∃ (p : Addr) (xs : List V) (lo hi : Nat), vs = [.ref p, .int lo, .int hi] ∧ H p = some (.lst xs) ∧ lo ≤ xs.length ∧ xs.length ≤ hi ∧ Q (.bl true) H
theorem ok_is_list_of {f : Addr} {fd : FuncData} (F : Fun K "is_list_of" "is_list_of" sIsListOf f fd) (z_isinstance : mg "isinstance" = none) (z_list : mg "list" = none) (z_len : mg "len" = none) : FnOk P w K mg base CX0 1 f fd ["value", "least", "most"] spListOf := by
  refine F.ok scIsListOf (fun vs H Q E h => ?_) (fun cdv A outer s H vs Q E hr h => ?_)
  · obtain ⟨_, _, _, _, rfl, _⟩ := h
    rfl
  obtain ⟨p, xs, lo, hi, rfl, hp, h1, h2, q⟩ := h
  refine ⟨_, (pss_one (ps_ret (pe_and (pe_callB call_isi (by rfl) z_isinstance (by decide +kernel) (pa_cons (pv 0) (pa_cons (pe_bltn (v := .ty "list") (u := .type "list") (by rfl) z_list (by decide +kernel) rfl) pa_nil))) (pe_one (pe_chain op_le op_le (pv 1) (pe_callB call_len_seq (by rfl) z_len PySem.boot_len (pa_cons (pv 0) pa_nil)) (pv 2)))))), ?_⟩
  refine ⟨_, rfl, _, _, _, _, true, rfl, .ty "list", .base (.lst hp), kit_ty (by decide +kernel), true, rfl, ?_⟩
  refine ⟨_, rfl, _, rfl, p, xs, rfl, .inl (SqL.of hp), _, _, rfl, rfl, true, congrArg V.bl (decide_eq_true (by omega)), _, rfl, _, _, rfl, rfl, ?_⟩
  show Q (.bl (decide (((xs.length : Nat) : Int) ≤ (hi : Int)))) H
  rw [decide_eq_true (show ((xs.length : Nat) : Int) ≤ (hi : Int) by omega)]
  exact q
def spSpanFrom : Sp := fun vs H Q _ => ∃ (n lo : Nat) (v : V) (x : Nat × Nat), vs = [.int n, v, .int lo] ∧ Nd H v x ∧ lo ≤ x.1 ∧ x.1 < x.2 ∧ x.2 ≤ n ∧ Q (.bl true) H
theorem ok_is_span_from {f g : Addr} {fd gd : FuncData} (F : Fun K "is_span_from" "is_span_from" sIsSpanFrom f fd) (GIsBetween : FnOk P w K mg base CX0 2 g gd ["value", "low", "high"] spBetween) (AIsBetween : At K mg "is_between" g gd ["value", "low", "high"])
    (z_isinstance : mg "isinstance" = none) (z_tuple : mg "tuple" = none) (z_len : mg "len" = none) : FnOk P w K mg base CX0 3 f fd ["size", "value", "least"] spSpanFrom := by
  refine F.ok scIsSpanFrom (fun vs H Q E h => ?_) (fun cdv A outer s H vs Q E hr h => ?_)
  · obtain ⟨_, _, _, _, rfl, _⟩ := h
    rfl
  obtain ⟨n, lo, v, x, rfl, ⟨p, rfl, hp⟩, h1, h2, h3, q⟩ := h
  refine ⟨_, (pss_cons (ps_if (PW.pt (pw_or (pt_not (pt_val (pe_callB call_isi (by rfl) z_isinstance (by decide +kernel) (pa_cons (pv 1) (pa_cons (pe_bltn (v := .ty "tuple") (u := .type "tuple") (by rfl) z_tuple (by decide +kernel) rfl) pa_nil))))) (pw_or1 (pt_cmpR op_ne (pe_callB call_len_seq (by rfl) z_len PySem.boot_len (pa_cons (pv 1) pa_nil)) pe_int (nomark _)))))
    (pss_one (ps_ret pe_bl))
    pss_nil)
    (pss_cons (ps_asg (pv 1) (pg_tup (by rfl) (pgs_cons (pg_name (i := 3) scIsSpanFrom.nd rfl (Or.inl rfl)) (pgs_cons (pg_name (i := 4) scIsSpanFrom.nd rfl (Or.inl rfl)) pgs_nil))))
    (pss_one (ps_ret (pe_and (pe_call GIsBetween (hr.mono (by decide)) rfl AIsBetween.m AIsBetween.kp AIsBetween.b .nil pass0 (pa_cons (pv 3) (pa_cons (pv 2) (pa_cons (pe_op op_sub (pv 0) pe_int) pa_nil)))) (pe_one (pe_call GIsBetween (hr.mono (by decide)) rfl AIsBetween.m AIsBetween.kp AIsBetween.b .nil pass0 (pa_cons (pv 4) (pa_cons (pe_op op_add (pv 3) pe_int) (pa_cons (pv 0) pa_nil)))))))))), ?_⟩
  refine ⟨_, rfl, _, _, _, _, true, rfl, .ty "tuple", .base (.tup hp), kit_ty (by decide +kernel), true, rfl, ?_⟩
  refine ⟨_, rfl, p, _, rfl, .inr (SqT.of hp), rfl, false, rfl, ?_⟩
  refine ⟨_, rfl, p, _, rfl, SqT.of hp, rfl, _, _, rfl, _, _, rfl, rfl, ?_⟩
  refine ⟨_, rfl, _, rfl, _, rfl, _, _, rfl, rfl, _, _, _, rfl, true, ?_, ?_⟩
  · exact congrArg V.bl (by rw [Bool.and_eq_true]; exact ⟨decide_eq_true (by omega), decide_eq_true (by omega)⟩)
  refine ⟨_, rfl, _, rfl, _, _, rfl, rfl, _, rfl, _, _, _, rfl, ?_⟩
  have e : (decide ((x.1 : Int) + 1 ≤ (x.2 : Int)) && decide ((x.2 : Int) ≤ (n : Int))) = true := by
    rw [Bool.and_eq_true]
    exact ⟨decide_eq_true (by omega), decide_eq_true (by omega)⟩
  show Q (.bl (decide ((x.1 : Int) + 1 ≤ (x.2 : Int)) && decide ((x.2 : Int) ≤ (n : Int)))) H
  rw [e]
  exact q
def spCheckSpans : Sp := fun vs H Q _ => ∃ (n : Nat) (p : Addr) (xs : List V) (S : List (Nat × Nat)), vs = [.int n, .ref p] ∧ H p = some (.lst xs) ∧ All2 (Nd H) xs S ∧ 1 ≤ S.length ∧ S.length ≤ 12 ∧ So n 0 S ∧ ∀ H', Same H H' → Q .non H'
theorem ok_check_spans {f g1 g2 : Addr} {fd d1 d2 : FuncData} {t : Tok} (F : Fun K "check_spans" "check_spans" sCheckSpans f fd) (GIsListOf : FnOk P w K mg base CX0 1 g1 d1 ["value", "least", "most"] spListOf) (AIsListOf : At K mg "is_list_of" g1 d1 ["value", "least", "most"])
    (GIsSpanFrom : FnOk P w K mg base CX0 3 g2 d2 ["size", "value", "least"] spSpanFrom) (AIsSpanFrom : At K mg "is_span_from" g2 d2 ["size", "value", "least"]) (g_MOST_SPANS : mg "MOST_SPANS" = some (.int 12 t)) (z_enumerate : mg "enumerate" = none) : FnOk P w K mg base CX0 4 f fd ["size", "spans"] spCheckSpans := by
  refine F.ok scCheckSpans (fun vs H Q E h => ?_) (fun cdv A outer s H vs Q E hr h => ?_)
  · obtain ⟨_, _, _, _, rfl, _⟩ := h
    rfl
  obtain ⟨n, p, xs, S, rfl, hp, hx, l1, l12, hS, q⟩ := h
  refine ⟨_, (pss_cons (ps_if (pt_not (pt_val (pe_call GIsListOf (hr.mono (by decide)) rfl AIsListOf.m AIsListOf.kp AIsListOf.b .nil pass0 (pa_cons (pv 1) (pa_cons pe_int (pa_cons (pe_glob (v := .int 12) rfl g_MOST_SPANS ⟨_, rfl⟩) pa_nil))))))
    (pss_one ps_never)
    pss_nil)
    (pss_cons (ps_set (i := 2) scCheckSpans.nd rfl (Or.inl rfl) pe_int)
    (pss_one (ps_for PassesOwn.never rfl (pi_enum (by rfl) z_enumerate (pa_cons (pv 1) pa_nil)) (pg_tup (by rfl) (pgs_cons (pg_name (i := 3) scCheckSpans.nd rfl (Or.inl rfl)) (pgs_cons (pg_name (i := 4) scCheckSpans.nd rfl (Or.inl rfl)) pgs_nil)))
    (pss_cons (ps_if (pt_not (pt_val (pe_call GIsSpanFrom (hr.mono (by decide)) rfl AIsSpanFrom.m AIsSpanFrom.kp AIsSpanFrom.b .nil pass0 (pa_cons (pv 0) (pa_cons (pv 4) (pa_cons (pv 2) pa_nil))))))
    (pss_one ps_never)
    pss_nil)
    (pss_one (ps_set (i := 2) scCheckSpans.nd rfl (Or.inl rfl) (pe_ix ix_tup (pv 4) pe_int (fun _ _ => rfl))))))))), ?_⟩
  have xl := hx.len
  refine ⟨_, rfl, p, xs, 1, 12, rfl, hp, by omega, by omega, true, rfl, ?_⟩
  refine ⟨_, rfl, p, xs, rfl, SqL.of hp, ?_⟩
  refine for_enum (a := p) (xs := xs) (fun i σ H' => ∃ (lo : Nat) (v3 v4 : Option V), σ = [some (.int (n : Int)), some (.ref p), some (.int (lo : Int)), v3, v4] ∧ Same H H' ∧ So n lo (S.drop i))
    ⟨0, none, none, rfl, Same.refl _, hS⟩ (fun i σ H' _ ⟨_, _, _, _, sm, _⟩ => SqL.of (sm _ _ hp)) ?_ ?_
  · rintro i x σ H2 T hi ⟨lo, v3, v4, rfl, sm, hs⟩ nT
    obtain ⟨y, hyi, hy⟩ := hx.nth hi
    have hdr : S.drop i = y :: S.drop (i + 1) := by
      obtain ⟨hl, hxe⟩ := List.getElem?_eq_some_iff.mp hyi
      rw [List.drop_eq_getElem_cons hl, hxe]
    rw [hdr] at hs
    obtain ⟨k1, k2, k3, k4⟩ := hs
    have sT := same_upd (o := .tup [.int ((i : Nat) : Int), x]) nT
    have hy2 := (hy.same sm).same sT
    obtain ⟨yp, rfl, hyp⟩ := id hy2
    refine ⟨T, _, rfl, SqT.of upd_same, rfl, _, _, rfl, _, _, rfl, rfl, ?_⟩
    refine ⟨_, rfl, _, rfl, _, rfl, n, lo, _, y, rfl, hy2, k1, k2, k3, true, rfl, ?_⟩
    refine ⟨_, rfl, yp, _, _, _, rfl, rfl, SqT.of hyp, atI_nat (j := 1) rfl, ?_⟩
    exact ⟨y.2, _, _, rfl, sm.trans sT, k4⟩
  · rintro σ H2 ⟨lo, v3, v4, rfl, sm, hs⟩
    exact q H2 sm
end
end LT

namespace LT
open PySem PySem.Spec PyProof.Rows L2
/-- the parts of a stretch within the rows -/
def db (b e : Nat) (T : List (Nat × Nat × Nat)) : List (Nat × Nat) := (T.filter fun x => decide (max b x.1 < min e x.2.1)).map fun x => (min e x.2.1 - max b x.1, x.2.2)
def total (b e : Nat) (T : List (Nat × Nat × Nat)) : Nat := ((db b e T).map fun p => p.1 * p.2).sum
theorem db_len (b e : Nat) (T : List (Nat × Nat × Nat)) : (db b e T).length ≤ T.length := by
  unfold db
  rw [List.length_map]
  exact List.length_filter_le _ _
theorem db_more {b e i : Nat} {T : List (Nat × Nat × Nat)} {y : Nat × Nat × Nat} (h : T[i]? = some y) : db b e (T.take (i + 1)) = db b e (T.take i) ++ (if max b y.1 < min e y.2.1 then [(min e y.2.1 - max b y.1, y.2.2)] else []) := by
  rw [take_more h]
  unfold db
  rw [List.filter_append, List.map_append, List.filter_cons, List.filter_nil]
  by_cases c : max b y.1 < min e y.2.1
  · rw [if_pos (decide_eq_true c), if_pos c]; rfl
  · rw [if_neg (by simpa using c), if_neg c]; rfl
theorem sum_cast : ∀ l : List Nat, (l.map fun x => ((x : Nat) : Int)).sum = ((l.sum : Nat) : Int)
  | [] => rfl
  | x :: l => by
    rw [List.map_cons, List.sum_cons, List.sum_cons, sum_cast l]
    omega
theorem lev_deep (t : Nat) : ∀ (l : List (Nat × Nat)) (s : Nat) (x : Nat × Nat × Nat), x ∈ lev t s l → (∀ y ∈ l, y.2 ≤ 100) → t ≤ 101 → x.2.2 ≤ 201
  | [], _, _, h, _, _ => by simp [lev] at h
  | y :: r, s, x, h, hl, ht => by
    have h' : x ∈ (y.1, y.1 + 2 ^ y.2, y.2 + min (s + 1) (t - 1)) :: lev t (s + 1) r := h
    rcases List.mem_cons.mp h' with h | h
    · subst h
      have := hl y List.mem_cons_self
      simp only []
      omega
    · exact lev_deep t r (s + 1) x h (fun z hz => hl z (List.mem_cons_of_mem _ hz)) ht
theorem rows_deep (n : Nat) (x : Nat × Nat × Nat) (h : x ∈ lev (pk 101 n 0).length 0 (pk 101 n 0)) : x.2.2 ≤ 201 :=
  lev_deep _ _ _ x h (fun y hy => by have := (pk_begin 101 n 0 y hy).2; omega) (pk_len 101 n 0)
theorem db_deep {b e n : Nat} (p : Nat × Nat) (h : p ∈ db b e (lev (pk 101 n 0).length 0 (pk 101 n 0))) : p.2 ≤ 201 := by
  unfold db at h
  obtain ⟨x, h1, h2⟩ := List.mem_map.mp h
  have := rows_deep n x (List.mem_filter.mp h1).1
  rw [← h2]
  exact this
theorem rows_len (n : Nat) : (lev (pk 101 n 0).length 0 (pk 101 n 0)).length ≤ 101 := by
  rw [lev_len]
  exact pk_len 101 n 0
theorem min_castA (a c : Nat) : (if ((c : Nat) : Int) < (a : Int) then (c : Int) else (a : Int)) = ((min a c : Nat) : Int) := by split <;> omega
theorem max_castA (a c : Nat) : (if ((c : Nat) : Int) > (a : Int) then (c : Int) else (a : Int)) = ((max a c : Nat) : Int) := by split <;> omega
section
variable {P : Program} {w : World} {K : PySem.W.Frag} {mg : Str → Option Value} {base : Heap}
def spCheckSpan : Sp := fun vs H Q _ => ∃ n b e : Nat, vs = [.int n, .int b, .int e] ∧ b < e ∧ e ≤ n ∧ Q .non H
theorem ok_check_span {f g : Addr} {fd gd : FuncData} (F : Fun K "check_span" "check_span" sCheckSpan f fd) (GIsBetween : FnOk P w K mg base CX0 2 g gd ["value", "low", "high"] spBetween) (AIsBetween : At K mg "is_between" g gd ["value", "low", "high"]) : FnOk P w K mg base CX0 3 f fd ["size", "begin", "end"] spCheckSpan := by
  refine F.ok scCheckSpan (fun vs H Q E h => ?_) (fun cdv A outer s H vs Q E hr h => ?_)
  · obtain ⟨_, _, _, rfl, _⟩ := h
    rfl
  obtain ⟨n, b, e, rfl, h1, h2, q⟩ := h
  refine ⟨_, (pss_cons (ps_if (pt_not (pt_val (pe_call GIsBetween (hr.mono (by decide)) rfl AIsBetween.m AIsBetween.kp AIsBetween.b .nil pass0 (pa_cons (pv 1) (pa_cons pe_int (pa_cons (pe_op op_sub (pv 0) pe_int) pa_nil))))))
    (pss_one ps_never)
    pss_nil)
    (pss_one (ps_if (pt_not (pt_val (pe_call GIsBetween (hr.mono (by decide)) rfl AIsBetween.m AIsBetween.kp AIsBetween.b .nil pass0 (pa_cons (pv 2) (pa_cons (pe_op op_add (pv 1) pe_int) (pa_cons (pv 0) pa_nil))))))
    (pss_one ps_never)
    pss_nil))), ?_⟩
  refine ⟨_, rfl, _, rfl, _, _, rfl, rfl, _, _, _, rfl, true, ?_, ?_⟩
  · exact congrArg V.bl (by rw [Bool.and_eq_true]; exact ⟨decide_eq_true (by omega), decide_eq_true (by show (b : Int) ≤ n - 1; omega)⟩)
  refine ⟨_, rfl, _, rfl, _, _, rfl, rfl, _, rfl, _, _, _, rfl, true, ?_, ?_⟩
  · exact congrArg V.bl (by rw [Bool.and_eq_true]; exact ⟨decide_eq_true (by show (b : Int) + 1 ≤ (e : Int); omega), decide_eq_true (by show (e : Int) ≤ n; omega)⟩)
  exact q
def spRows : Sp := fun vs H Q _ => ∃ (n : Nat), vs = [.int n] ∧ 1 ≤ n ∧ n ≤ 10 ^ 30 ∧ ∀ (H' : Hp) (p : Addr) (xs : List V), Same H H' → H p = none → H' p = some (.lst xs) → All2 (Tr H') xs (lev (pk 101 n 0).length 0 (pk 101 n 0)) → Q (.ref p) H'
theorem ok_peak_depths {f g1 : Addr} {fd d1 : FuncData} (F : Fun K "_peak_depths" "_peak_depths" sPeakDepths f fd) (GPeaks : FnOk P w K mg base CX0 4 g1 d1 ["size"] spTops) (APeaks : At K mg "peaks" g1 d1 ["size"])
    (z_min : mg "min" = none) (z_enumerate : mg "enumerate" = none) (z_len : mg "len" = none) : FnOk P w K mg base CX0 5 f fd ["size"] spRows := by
  refine F.ok scPeakDepths (fun vs H Q E h => ?_) (fun cdv A outer s H vs Q E hr h => ?_)
  · obtain ⟨_, rfl, _⟩ := h
    rfl
  obtain ⟨n, rfl, h1, h30, q⟩ := h
  refine ⟨_, (pss_cons (ps_set (i := 1) scPeakDepths.nd rfl (Or.inl rfl) (pe_call GPeaks (hr.mono (by decide)) rfl APeaks.m APeaks.kp APeaks.b .nil pass0 (pa_cons (pv 0) pa_nil)))
    (pss_cons (ps_set (i := 2) scPeakDepths.nd rfl (Or.inl rfl) (pe_lst pa_nil))
    (pss_cons (ps_for PassesOwn.never rfl (pi_enum (by rfl) z_enumerate (pa_cons (pv 1) pa_nil)) (pg_tup (by rfl) (pgs_cons (pg_name (i := 3) scPeakDepths.nd rfl (Or.inl rfl)) (pgs_cons (pg_tup (by rfl) (pgs_cons (pg_name (i := 4) scPeakDepths.nd rfl (Or.inl rfl)) (pgs_cons (pg_name (i := 5) scPeakDepths.nd rfl (Or.inl rfl)) pgs_nil))) pgs_nil)))
    (pss_cons (ps_set (i := 6) scPeakDepths.nd rfl (Or.inl rfl) (pe_callB (call_min2 rfl) (by rfl) z_min (by decide +kernel) (pa_cons (pe_op op_add (pv 3) pe_int) (pa_cons (pe_op op_sub (pe_callB call_len_seq (by rfl) z_len PySem.boot_len (pa_cons (pv 1) pa_nil)) pe_int) pa_nil))))
    (pss_one (ps_expr (pe_bm PySem.F.plainAttrs_list PySem.F.slot_list_append PySem.F.type_list_append mt_append (pv 2) (pa_cons (pe_tup (pa_cons (pv 4) (pa_cons (pv 5) (pa_cons (pe_op op_sub (pe_op op_add (pv 6) (pe_bits (pe_op op_sub (pv 5) (pv 4)))) pe_int) pa_nil)))) pa_nil))))))
    (pss_one (ps_ret (pv 2)))))), ?_⟩
  refine ⟨_, rfl, n, rfl, h1, h30, fun H1 pa xs sm0 npa hpa hxs => ?_⟩
  refine ⟨Nat.zero_le _, fun fa nf => ?_⟩
  have nf0 : H fa = none := sm0.free nf
  have sf := same_upd (o := .lst []) nf
  refine ⟨_, rfl, pa, xs, rfl, sf.seq (SqL.of hpa), ?_⟩
  have L101 := pk_len 101 n 0
  have pkb : ∀ x ∈ pk 101 n 0, x.2 ≤ 100 := fun x hx => by have := (pk_begin 101 n 0 x hx).2; omega
  generalize pk 101 n 0 = L at q hxs L101 pkb
  refine for_enum (a := pa) (xs := xs) (fun i σ H' => ∃ (v3 v4 v5 v6 : Option V) (ys : List V), σ = [some (.int n), some (.ref pa), some (.ref fa), v3, v4, v5, v6] ∧ Same H1 H' ∧ H' fa = some (.lst ys) ∧ All2 (Tr H') ys (lev L.length 0 (L.take i)))
    ⟨none, none, none, none, [], rfl, sf, upd_same, .nil⟩ (fun i σ H' _ ⟨_, _, _, _, _, _, sm, _⟩ => SqL.of (sm _ _ hpa)) ?_ ?_
  · rintro i x σ H2 T hi ⟨v3, v4, v5, v6, ys, rfl, sm, hf, hy⟩ nT
    obtain ⟨⟨b, h⟩, hbh, hnd⟩ : ∃ y : Nat × Nat, L[i]? = some y ∧ Nd H1 x (full y) := by
      obtain ⟨y, e1, e2⟩ := hxs.nth hi
      rw [List.getElem?_map] at e1
      cases e3 : L[i]? with
      | none => rw [e3] at e1; cases e1
      | some z => rw [e3] at e1; exact ⟨z, rfl, by rw [show full z = y from Option.some.inj e1]; exact e2⟩
    have hh : h ≤ 100 := pkb _ (List.mem_of_getElem? hbh)
    obtain ⟨p, rfl, hp⟩ := hnd
    have sT := same_upd (o := .tup [.int ((i : Nat) : Int), .ref p]) nT
    refine ⟨T, _, rfl, SqT.of upd_same, rfl, _, _, rfl, _, _, rfl, p, _, rfl, SqT.of (sT _ _ (sm _ _ hp)), rfl, _, _, rfl, _, _, rfl, rfl, rfl, ?_⟩
    have hpa3 := sT _ _ (sm _ _ hpa)
    have hf3 := sT _ _ hf
    have hy3 := hy.mono (fun v x (k : Tr H2 v x) => k.same sT)
    have sm3 := sm.trans sT
    generalize upd H2 T (.tup [.int ((i : Nat) : Int), .ref p]) = H3 at hpa3 hf3 hy3 sm3
    have xl : xs.length = L.length := by rw [hxs.len, List.length_map]
    have il : i < L.length := (List.getElem?_eq_some_iff.mp hbh).1
    refine ⟨_, rfl, _, _, rfl, rfl, _, rfl, pa, _, rfl, .inl (SqL.of hpa3), _, _, rfl, rfl, _, _, rfl, ?_⟩
    have e6 : (if ((xs.length : Nat) : Int) - 1 < (i : Int) + 1 then ((xs.length : Nat) : Int) - 1 else (i : Int) + 1) = ((min (i + 1) (L.length - 1) : Nat) : Int) := by
      rw [xl]
      split <;> omega
    dsimp only
    rw [e6]
    refine ⟨_, rfl, .inl ⟨rfl, _, SqL.of hf3⟩, _, rfl, _, rfl, _, rfl, _, rfl, _, rfl, _, _, rfl, rfl, _, rfl, _, _, rfl, rfl, _, _, rfl, rfl, (by show 3 ≤ sizeLine; decide), fun t nt => ?_⟩
    have e7 : ((b + 2 ^ h : Nat) : Int) - (b : Int) = ((2 ^ h : Nat) : Int) := by omega
    have e8 : ((min (i + 1) (L.length - 1) : Nat) : Int) + ((Builtin.Int.intBits (((b + 2 ^ h : Nat) : Int) - (b : Int)) : Nat) : Int) - 1 = ((h + min (i + 1) (L.length - 1) : Nat) : Int) := by
      have ph := Nat.pow_pos (a := 2) (n := h) (by decide)
      rw [e7, bits_nat, if_neg (by omega), log2_is (Nat.le_refl _) (by rw [Nat.pow_succ]; omega)]
      omega
    dsimp only
    have e8' : ((min (i + 1) (L.length - 1) : Nat) : Int) + ((Builtin.Int.intBits (((full (b, h)).2 : Int) - ((full (b, h)).1 : Int)) : Nat) : Int) - 1 = ((h + min (i + 1) (L.length - 1) : Nat) : Int) := e8
    rw [e8']
    have st := same_upd (o := .tup [.int ((full (b, h)).1 : Int), .int ((full (b, h)).2 : Int), .int ((h + min (i + 1) (L.length - 1) : Nat) : Int)]) nt
    have hf5 := st _ _ hf3
    have hlen : (lev L.length 0 (L.take i)).length ≤ 101 := by rw [lev_len, List.length_take]; omega
    refine ⟨fa, _, _, rfl, rfl, hf5, szlt (by rw [hy.len]; omega), ?_⟩
    refine ⟨_, _, _, _, ys ++ [.ref t], rfl, ?_, upd_same, ?_⟩
    · exact fun a o k => by rw [upd_ne (ne_of_none k nf)]; exact st _ _ (sm3 _ _ k)
    · rw [take_more hbh, lev_app]
      refine (hy3.mono (fun v x (k : Tr H3 v x) => (k.same st).upd hf5)).app (.cons ?_ .nil)
      have e9 : 0 + (L.take i).length = i := by rw [List.length_take]; omega
      rw [e9]
      exact Tr.upd (x := (b, b + 2 ^ h, h + min (i + 1) (L.length - 1))) ⟨t, rfl, upd_same⟩ hf5
  · rintro σ H2 ⟨v3, v4, v5, v6, ys, rfl, sm, hf, hy⟩
    have e : L.take xs.length = L := List.take_of_length_le (by rw [hxs.len, List.length_map]; exact Nat.le_refl _)
    rw [e] at hy
    exact ⟨_, rfl, q H2 fa ys (sm0.trans sm) nf0 hf hy⟩
def spBetweenRows : Sp := fun vs H Q _ => ∃ (n b e : Nat), vs = [.int n, .int b, .int e] ∧ 1 ≤ n ∧ n ≤ 10 ^ 30 ∧ ∀ (H' : Hp) (p : Addr) (xs : List V), Same H H' → H p = none → H' p = some (.lst xs) → All2 (Nd H') xs (db b e (lev (pk 101 n 0).length 0 (pk 101 n 0))) → Q (.ref p) H'
theorem ok_depths_between {f g1 : Addr} {fd d1 : FuncData} (F : Fun K "_depths_between" "_depths_between" sDepthsBetween f fd) (GPeakDepths : FnOk P w K mg base CX0 5 g1 d1 ["size"] spRows) (APeakDepths : At K mg "_peak_depths" g1 d1 ["size"])
    (z_min : mg "min" = none) (z_max : mg "max" = none) : FnOk P w K mg base CX0 6 f fd ["size", "begin", "end"] spBetweenRows := by
  refine F.ok scDepthsBetween (fun vs H Q E h => ?_) (fun cdv A outer s H vs Q E hr h => ?_)
  · obtain ⟨_, _, _, rfl, _⟩ := h
    rfl
  obtain ⟨n, b, e, rfl, h1, h30, q⟩ := h
  refine ⟨_, (pss_cons (ps_set (i := 3) scDepthsBetween.nd rfl (Or.inl rfl) (pe_lst pa_nil))
    (pss_cons (ps_for PassesOwn.never rfl (pi_list (pe_call GPeakDepths (hr.mono (by decide)) rfl APeakDepths.m APeakDepths.kp APeakDepths.b .nil pass0 (pa_cons (pv 0) pa_nil))) (pg_tup (by rfl) (pgs_cons (pg_name (i := 4) scDepthsBetween.nd rfl (Or.inl rfl)) (pgs_cons (pg_name (i := 5) scDepthsBetween.nd rfl (Or.inl rfl)) (pgs_cons (pg_name (i := 6) scDepthsBetween.nd rfl (Or.inl rfl)) pgs_nil))))
    (pss_cons (ps_set (i := 7) scDepthsBetween.nd rfl (Or.inl rfl) (pe_op op_sub (pe_callB (call_min2 rfl) (by rfl) z_min (by decide +kernel) (pa_cons (pv 2) (pa_cons (pv 5) pa_nil))) (pe_callB (call_max2 rfl) (by rfl) z_max (by decide +kernel) (pa_cons (pv 1) (pa_cons (pv 4) pa_nil)))))
    (pss_one (ps_if (pt_cmpR op_gt (pv 7) pe_int (nomark _))
    (pss_one (ps_expr (pe_bm PySem.F.plainAttrs_list PySem.F.slot_list_append PySem.F.type_list_append mt_append (pv 3) (pa_cons (pe_tup (pa_cons (pv 7) (pa_cons (pv 6) pa_nil))) pa_nil))))
    pss_nil))))
    (pss_one (ps_ret (pv 3))))), ?_⟩
  refine ⟨Nat.zero_le _, fun fa nf => ?_⟩
  have sf := same_upd (o := .lst []) nf
  refine ⟨_, rfl, n, rfl, h1, h30, fun H1 pa xs sm0 npa hpa hxs => ?_⟩
  have T101 := rows_len n
  generalize lev (pk 101 n 0).length 0 (pk 101 n 0) = T at q hxs T101
  refine ⟨pa, rfl, ⟨_, SqL.of hpa⟩, for_list (K := K) (a := pa) (xs := xs) (fun i σ H' => ∃ (v4 v5 v6 v7 : Option V) (ys : List V), σ = [some (.int n), some (.int b), some (.int e), some (.ref fa), v4, v5, v6, v7] ∧ (∀ a o, a ≠ fa → H1 a = some o → H' a = some o) ∧ H' fa = some (.lst ys) ∧ All2 (Nd H') ys (db b e (T.take i)))
    ⟨none, none, none, none, [], rfl, fun a o _ k => k, sm0 _ _ upd_same, .nil⟩ (fun i σ H' _ ⟨_, _, _, _, _, _, sm, _⟩ => SqL.of (sm _ _ (fun z => by rw [z, upd_same] at npa; cases npa) hpa)) ?_ ?_⟩
  · rintro i x σ H2 hi ⟨v4, v5, v6, v7, ys, rfl, sm, hf, hy⟩
    obtain ⟨y, hyT, p, rfl, hp⟩ := hxs.nth hi
    have pf : p ≠ fa := fun z => by
      have k := sm0 _ _ (upd_same (H := H) (a := fa) (o := .lst []))
      rw [← z, hp] at k
      cases k
    have hp2 := sm _ _ pf hp
    have hdl : (db b e (T.take i)).length ≤ 101 := Nat.le_trans (db_len _ _ _) (by rw [List.length_take]; omega)
    refine ⟨p, _, rfl, SqT.of hp2, rfl, _, _, rfl, _, _, rfl, _, _, rfl, rfl, ?_⟩
    refine ⟨_, rfl, _, rfl, _, _, rfl, _, rfl, _, rfl, _, _, rfl, _, _, rfl, rfl, ?_⟩
    dsimp only
    rw [min_castA, max_castA]
    refine ⟨_, rfl, _, _, rfl, rfl, _, rfl, ite2 (fun c => ?_) (fun c => ?_)⟩
    · have c1 : ((min e y.2.1 : Nat) : Int) - ((max b y.1 : Nat) : Int) > 0 := of_decide_eq_true c
      have e1 : ((min e y.2.1 : Nat) : Int) - ((max b y.1 : Nat) : Int) = ((min e y.2.1 - max b y.1 : Nat) : Int) := by omega
      rw [e1]
      refine ⟨_, rfl, .inl ⟨rfl, _, SqL.of hf⟩, _, rfl, _, rfl, (by show 2 ≤ sizeLine; decide), fun t nt => ?_⟩
      have st := same_upd (o := .tup [.int ((min e y.2.1 - max b y.1 : Nat) : Int), .int (y.2.2 : Int)]) nt
      have hf5 := st _ _ hf
      refine ⟨fa, _, _, rfl, rfl, hf5, szlt (by rw [hy.len]; omega), ?_⟩
      refine ⟨_, _, _, _, ys ++ [.ref t], rfl, ?_, upd_same, ?_⟩
      · exact fun a o n k => by rw [upd_ne n]; exact st _ _ (sm _ _ n k)
      · rw [db_more hyT, if_pos (by omega)]
        refine (hy.mono (fun v x (k : Nd H2 v x) => (k.same st).upd hf5)).app (.cons ?_ .nil)
        exact Nd.upd (x := (min e y.2.1 - max b y.1, y.2.2)) ⟨t, rfl, upd_same⟩ hf5
    · have c1 : ¬ ((min e y.2.1 : Nat) : Int) - ((max b y.1 : Nat) : Int) > 0 := of_decide_eq_false (Bool.eq_false_iff.mpr c)
      refine ⟨_, _, _, _, ys, rfl, sm, hf, ?_⟩
      rw [db_more hyT, if_neg (by omega), List.append_nil]
      exact hy
  · rintro σ H2 ⟨v4, v5, v6, v7, ys, rfl, sm, hf, hy⟩
    have e : T.take xs.length = T := List.take_of_length_le (by rw [hxs.len]; exact Nat.le_refl _)
    rw [e] at hy
    exact ⟨_, rfl, q H2 fa ys (fun a o k => sm _ _ (ne_of_none k nf) (sm0 _ _ (sf _ _ k))) nf hf hy⟩
def spDepthSum : Sp := fun vs H Q _ => ∃ (n b e : Nat), vs = [.int n, .int b, .int e] ∧ b < e ∧ e ≤ n ∧ n ≤ 10 ^ 30 ∧ ∀ (H' : Hp), Same H H' → Q (.int ((total b e (lev (pk 101 n 0).length 0 (pk 101 n 0)) : Nat) : Int)) H'
theorem ok_depth_sum {f g1 g2 g3 : Addr} {fd d1 d2 d3 : FuncData} (F : Fun K "depth_sum" "depth_sum" sDepthSum f fd) (GCheckSize : FnOk P w K mg base CX0 3 g1 d1 ["size"] spCheckSize) (ACheckSize : At K mg "check_size" g1 d1 ["size"])
    (GCheckSpan : FnOk P w K mg base CX0 3 g2 d2 ["size", "begin", "end"] spCheckSpan) (ACheckSpan : At K mg "check_span" g2 d2 ["size", "begin", "end"])
    (GDepthsBetween : FnOk P w K mg base CX0 6 g3 d3 ["size", "begin", "end"] spBetweenRows) (ADepthsBetween : At K mg "_depths_between" g3 d3 ["size", "begin", "end"]) (z_sum : mg "sum" = none) : FnOk P w K mg base CX0 7 f fd ["size", "begin", "end"] spDepthSum := by
  refine F.ok scDepthSum (fun vs H Q E h => ?_) (fun cdv A outer s H vs Q E hr h => ?_)
  · obtain ⟨_, _, _, rfl, _⟩ := h
    rfl
  obtain ⟨n, b, e, rfl, h1, h2, h30, q⟩ := h
  refine ⟨_, (pss_cons (ps_expr (pe_call GCheckSize (hr.mono (by decide)) rfl ACheckSize.m ACheckSize.kp ACheckSize.b .nil pass0 (pa_cons (pv 0) pa_nil)))
    (pss_cons (ps_expr (pe_call GCheckSpan (hr.mono (by decide)) rfl ACheckSpan.m ACheckSpan.kp ACheckSpan.b .nil pass0 (pa_cons (pv 0) (pa_cons (pv 1) (pa_cons (pv 2) pa_nil)))))
    (pss_one (ps_ret (pe_callB (cr_sum rfl) (by rfl) z_sum (by decide +kernel) (pa_cons (pe_lc (own := [("count", 3), ("deep", 4)]) rfl scDepthSum.nd (pi_list (pe_call GDepthsBetween (hr.mono (by decide)) rfl ADepthsBetween.m ADepthsBetween.kp ADepthsBetween.b .nil pass0 (pa_cons (pv 0) (pa_cons (pv 1) (pa_cons (pv 2) pa_nil))))) (blkOk_by (N := ["size", "begin", "end", "count", "deep"]) (sc := defScope sDepthSum) (by decide +kernel)) (fun _ _ _ _ _ => (pg_tupB (n := 2) rfl (pgs_cons (pg_name (i := 3) scDepthSum.nd rfl (Or.inl rfl)) (pgs_cons (pg_name (i := 4) scDepthSum.nd rfl (Or.inl rfl)) pgs_nil)))) (fun _ _ _ _ _ => pts_nil) (fun _ _ _ _ _ => (pe_op op_mul (pv 3) (pv 4)))) pa_nil)))))), ?_⟩
  refine ⟨_, rfl, n, rfl, by omega, by omega, ?_⟩
  refine ⟨_, rfl, _, rfl, _, rfl, n, b, e, rfl, h1, h2, ?_⟩
  refine ⟨_, rfl, _, rfl, _, rfl, n, b, e, rfl, by omega, h30, fun H1 p xs sm np hp hx => ?_⟩
  have hd : ∀ z ∈ db b e (lev (pk 101 n 0).length 0 (pk 101 n 0)), z.2 ≤ 201 := fun z hz => db_deep z hz
  have hl : (db b e (lev (pk 101 n 0).length 0 (pk 101 n 0))).length ≤ 101 := Nat.le_trans (db_len _ _ _) (rows_len n)
  have q' : ∀ H', Same H H' → Q (.int ((((db b e (lev (pk 101 n 0).length 0 (pk 101 n 0))).map fun p => p.1 * p.2).sum : Nat) : Int)) H' := q
  generalize db b e (lev (pk 101 n 0).length 0 (pk 101 n 0)) = T at q' hx hd hl
  refine ⟨p, rfl, ⟨_, SqL.of hp⟩, fun D nD => lc_list (xs := xs) (fun i H' => Same H1 H' ∧ H' D = some (.lst (((T.take i).map fun z => ((z.1 * z.2 : Nat) : Int)).map V.int))) ⟨same_upd nD, upd_same⟩ (fun i H' _ k => SqL.of (k.1 _ _ hp)) ?_ ?_⟩
  · rintro i x H2 hi ⟨s2, hD⟩
    obtain ⟨y, hy, xp, rfl, hxp⟩ := hx.nth hi
    have il : i < T.length := (List.getElem?_eq_some_iff.mp hy).1
    have y2 := hd y (List.mem_of_getElem? hy)
    refine ⟨xp, _, rfl, SqT.of (s2 _ _ hxp), rfl, _, _, rfl, _, _, rfl, rfl, rfl, ?_⟩
    refine ⟨_, rfl, _, rfl, _, _, rfl, rfl, .inr ⟨by omega, by omega⟩, _, hD, szlt (by rw [List.length_map, List.length_map, List.length_take]; omega), ?_, ?_⟩
    · exact fun a o k => by rw [upd_ne (ne_of_none k nD)]; exact s2 _ _ k
    · rw [take_more hy, List.map_append, List.map_append]
      have em : ((y.1 : Nat) : Int) * ((y.2 : Nat) : Int) = ((y.1 * y.2 : Nat) : Int) := (Int.natCast_mul _ _).symm
      dsimp only
      rw [em]
      exact upd_same
  rintro H2 ⟨s2, hD⟩
  have et : T.take xs.length = T := List.take_of_length_le (by rw [hx.len]; exact Nat.le_refl _)
  rw [et] at hD
  refine ⟨D, _, rfl, SqL.of hD, ?_⟩
  have es : (T.map fun z => ((z.1 * z.2 : Nat) : Int)).sum = (((T.map fun p => p.1 * p.2).sum : Nat) : Int) := by
    rw [← sum_cast, List.map_map]
    rfl
  rw [es]
  exact q' _ (sm.trans s2)
def least (m : Int) (l : List (Nat × Nat)) : Prop := (∃ z ∈ l, m = (z.2 : Int)) ∧ ∀ z ∈ l, m ≤ (z.2 : Int)
def most (m : Int) (l : List (Nat × Nat)) : Prop := (∃ z ∈ l, m = (z.2 : Int)) ∧ ∀ z ∈ l, (z.2 : Int) ≤ m
def spDepthRange : Sp := fun vs H Q _ => ∃ (n b e : Nat), vs = [.int n, .int b, .int e] ∧ b < e ∧ e ≤ n ∧ n ≤ 10 ^ 30 ∧ db b e (lev (pk 101 n 0).length 0 (pk 101 n 0)) ≠ [] ∧
  ∀ (H' : Hp) (p : Addr) (lo hi : Int), Same H H' → H' p = some (.tup [.int lo, .int hi]) → least lo (db b e (lev (pk 101 n 0).length 0 (pk 101 n 0))) → most hi (db b e (lev (pk 101 n 0).length 0 (pk 101 n 0))) → Q (.ref p) H'
theorem ok_depth_range {f g1 g2 g3 : Addr} {fd d1 d2 d3 : FuncData} (F : Fun K "depth_range" "depth_range" sDepthRange f fd) (GCheckSize : FnOk P w K mg base CX0 3 g1 d1 ["size"] spCheckSize) (ACheckSize : At K mg "check_size" g1 d1 ["size"])
    (GCheckSpan : FnOk P w K mg base CX0 3 g2 d2 ["size", "begin", "end"] spCheckSpan) (ACheckSpan : At K mg "check_span" g2 d2 ["size", "begin", "end"])
    (GDepthsBetween : FnOk P w K mg base CX0 6 g3 d3 ["size", "begin", "end"] spBetweenRows) (ADepthsBetween : At K mg "_depths_between" g3 d3 ["size", "begin", "end"]) (z_min : mg "min" = none) (z_max : mg "max" = none) : FnOk P w K mg base CX0 7 f fd ["size", "begin", "end"] spDepthRange := by
  refine F.ok scDepthRange (fun vs H Q E h => ?_) (fun cdv A outer s H vs Q E hr h => ?_)
  · obtain ⟨_, _, _, rfl, _⟩ := h
    rfl
  obtain ⟨n, b, e, rfl, h1, h2, h30, hne, q⟩ := h
  refine' ⟨_, (pss_cons (ps_expr (pe_call GCheckSize (hr.mono (by decide)) rfl ACheckSize.m ACheckSize.kp ACheckSize.b .nil pass0 (pa_cons (pv 0) pa_nil)))
    (pss_cons (ps_expr (pe_call GCheckSpan (hr.mono (by decide)) rfl ACheckSpan.m ACheckSpan.kp ACheckSpan.b .nil pass0 (pa_cons (pv 0) (pa_cons (pv 1) (pa_cons (pv 2) pa_nil)))))
    (pss_cons ?cc1
    (pss_one (ps_ret (pe_tup (pa_cons (pe_callB (cr_min rfl) (by rfl) z_min (by decide +kernel) (pa_cons (pv 3) pa_nil)) (pa_cons (pe_callB (cr_max rfl) (by rfl) z_max (by decide +kernel) (pa_cons (pv 3) pa_nil)) pa_nil)))))))), ?_⟩
  case cc1 => exact (ps_setLc (i := 3) (own := [("_", 4), ("deep", 5)]) rfl scDepthRange.nd rfl rfl (sw_true rfl rfl rfl (by decide +kernel)) (pi_list (pe_call GDepthsBetween (hr.mono (by decide)) rfl ADepthsBetween.m ADepthsBetween.kp ADepthsBetween.b .nil pass0 (pa_cons (pv 0) (pa_cons (pv 1) (pa_cons (pv 2) pa_nil))))) (blkOk_by (N := ["size", "begin", "end", "found", "_", "deep"]) (sc := defScope sDepthRange) (by decide +kernel)) (fun _ _ _ _ _ => (pg_tupB (n := 2) rfl (pgs_cons (pg_name (i := 4) scDepthRange.nd rfl (Or.inl rfl)) (pgs_cons (pg_name (i := 5) scDepthRange.nd rfl (Or.inl rfl)) pgs_nil)))) (fun _ _ _ _ _ => pts_nil) (fun _ _ _ _ _ => (pv 5)))
  refine ⟨_, rfl, n, rfl, by omega, by omega, ?_⟩
  refine ⟨_, rfl, _, rfl, _, rfl, n, b, e, rfl, h1, h2, ?_⟩
  refine ⟨_, rfl, _, rfl, _, rfl, n, b, e, rfl, by omega, h30, fun H1 p xs sm np hp hx => ?_⟩
  have hl : (db b e (lev (pk 101 n 0).length 0 (pk 101 n 0))).length ≤ 101 := Nat.le_trans (db_len _ _ _) (rows_len n)
  generalize db b e (lev (pk 101 n 0).length 0 (pk 101 n 0)) = T at q hx hne hl
  refine ⟨p, rfl, ⟨_, SqL.of hp⟩, fun D nD => lc_list (xs := xs) (fun i H' => Same H1 H' ∧ H' D = some (.lst (((T.take i).map fun z => ((z.2 : Nat) : Int)).map V.int))) ⟨same_upd nD, upd_same⟩ (fun i H' _ k => SqL.of (k.1 _ _ hp)) ?_ ?_⟩
  · rintro i x H2 hi ⟨s2, hD⟩
    obtain ⟨y, hy, xp, rfl, hxp⟩ := hx.nth hi
    have il : i < T.length := (List.getElem?_eq_some_iff.mp hy).1
    refine ⟨xp, _, rfl, SqT.of (s2 _ _ hxp), rfl, _, _, rfl, _, _, rfl, rfl, rfl, ?_⟩
    refine ⟨_, rfl, _, hD, szlt (by rw [List.length_map, List.length_map, List.length_take]; omega), ?_, ?_⟩
    · exact fun a o k => by rw [upd_ne (ne_of_none k nD)]; exact s2 _ _ k
    · rw [take_more hy, List.map_append, List.map_append]
      exact upd_same
  rintro H2 ⟨s2, hD⟩
  have et : T.take xs.length = T := List.take_of_length_le (by rw [hx.len]; exact Nat.le_refl _)
  rw [et] at hD
  have hlen : 0 < (T.map fun z => ((z.2 : Nat) : Int)).length := by
    rw [List.length_map]
    exact List.length_pos_iff.mpr hne
  refine ⟨_, rfl, D, _, rfl, SqL.of hD, hlen, fun lo hlo hlo2 => ?_⟩
  refine ⟨_, rfl, D, _, rfl, SqL.of hD, hlen, fun hi hhi hhi2 => ?_⟩
  refine ⟨(by show 2 ≤ sizeLine; decide), fun u nu => ?_⟩
  refine q _ u lo hi (sm.trans (s2.trans (same_upd nu))) upd_same ⟨?_, ?_⟩ ⟨?_, ?_⟩
  · obtain ⟨z, h1, h2⟩ := List.mem_map.mp hlo
    exact ⟨z, h1, h2.symm⟩
  · exact fun z hz => hlo2 _ (List.mem_map.mpr ⟨z, hz, rfl⟩)
  · obtain ⟨z, h1, h2⟩ := List.mem_map.mp hhi
    exact ⟨z, h1, h2.symm⟩
  · exact fun z hz => hhi2 _ (List.mem_map.mpr ⟨z, hz, rfl⟩)
end
end LT

namespace LT
open PySem PySem.Spec PyProof.Rows L2
def cst (x : Nat × Nat) : Int × Int := (x.1, x.2)
theorem lex_anti (x y : Int × Int) (h1 : SrtO.lexB y x = false) (h2 : SrtO.lexB x y = false) : x = y := by
  unfold SrtO.lexB at h1 h2
  by_cases c : x.1 = y.1
  · rw [if_pos c.symm] at h1
    rw [if_pos c] at h2
    have := of_decide_eq_false h1
    have := of_decide_eq_false h2
    exact Prod.ext c (by omega)
  · rw [if_neg (fun z => c z.symm)] at h1
    rw [if_neg c] at h2
    have := of_decide_eq_false h1
    have := of_decide_eq_false h2
    omega
/-- the key of a pair in the heap -/
def kOf (H : Hp) : V → Int × Int
  | .ref a => match H a with
    | some (.tup [.int i, .int j]) => (i, j)
    | _ => (0, 0)
  | _ => (0, 0)
theorem kOf_nd {H : Hp} {v : V} {x : Nat × Nat} (h : Nd H v x) : kOf H v = cst x := by
  obtain ⟨p, rfl, q⟩ := h
  unfold kOf
  simp only [q]
  rfl
theorem keys_of {H : Hp} : ∀ {vs : List V} {l : List (Nat × Nat)}, All2 (Nd H) vs l → vs.map (kOf H) = l.map cst
  | _, _, .nil => rfl
  | _, _, .cons h t => by rw [List.map_cons, List.map_cons, kOf_nd h, keys_of t]
theorem cst_inj {x y : Nat × Nat} (h : cst x = cst y) : x = y := by
  have h1 := congrArg Prod.fst h
  have h2 := congrArg Prod.snd h
  unfold cst at h1 h2
  simp only at h1 h2
  exact Prod.ext (by omega) (by omega)
theorem of_keys {H : Hp} : ∀ (vs : List V) (l : List (Nat × Nat)), vs.map (kOf H) = l.map cst → (∀ v ∈ vs, ∃ x, Nd H v x) → All2 (Nd H) vs l
  | [], [], _, _ => .nil
  | [], y :: l, h, _ => by cases h
  | v :: vs, [], h, _ => by cases h
  | v :: vs, y :: l, h, k => by
    rw [List.map_cons, List.map_cons, List.cons.injEq] at h
    obtain ⟨x, hx⟩ := k v List.mem_cons_self
    have e : x = y := cst_inj (by rw [← kOf_nd hx]; exact h.1)
    subst e
    exact .cons hx (of_keys vs l h.2 fun u hu => k u (List.mem_cons_of_mem _ hu))
theorem All2.mem {α : Type} {R : V → α → Prop} : ∀ {vs : List V} {xs : List α} {v : V}, All2 R vs xs → v ∈ vs → ∃ x, x ∈ xs ∧ R v x
  | _, _, _, .cons h t, m => by
    rcases List.mem_cons.mp m with rfl | m
    · exact ⟨_, List.mem_cons_self, h⟩
    · obtain ⟨x, k1, k2⟩ := All2.mem t m
      exact ⟨x, List.mem_cons_of_mem _ k1, k2⟩
def leN (x y : Nat × Nat) : Bool := decide (x.1 < y.1) || (decide (x.1 = y.1) && decide (x.2 ≤ y.2))
theorem leN_iff {x y : Nat × Nat} : leN x y = true ↔ x.1 < y.1 ∨ (x.1 = y.1 ∧ x.2 ≤ y.2) := by
  unfold leN
  simp only [Bool.or_eq_true, Bool.and_eq_true, decide_eq_true_eq]
theorem leN_trans (a b c : Nat × Nat) (h1 : leN a b = true) (h2 : leN b c = true) : leN a c = true := by
  rw [leN_iff] at *
  omega
theorem leN_total (a b : Nat × Nat) : (leN a b || leN b a) = true := by
  rw [Bool.or_eq_true, leN_iff, leN_iff]
  omega
/-- the pairs in their order -/
def srt (l : List (Nat × Nat)) : List (Nat × Nat) := l.mergeSort leN
theorem srt_perm (l : List (Nat × Nat)) : (srt l).Perm l := List.mergeSort_perm l leN
theorem srt_pair (l : List (Nat × Nat)) : (srt l).Pairwise (fun x y => leN x y = true) := List.pairwise_mergeSort leN_trans leN_total l
theorem srt_len (l : List (Nat × Nat)) : (srt l).length = l.length := (srt_perm l).length_eq
theorem srt_mem {l : List (Nat × Nat)} {x : Nat × Nat} : x ∈ srt l ↔ x ∈ l := (srt_perm l).mem_iff
theorem leN_anti {x y : Nat × Nat} (h1 : leN x y = true) (h2 : leN y x = true) : x = y := by
  rw [leN_iff] at *
  exact Prod.ext (by omega) (by omega)
theorem srt_id {l : List (Nat × Nat)} (h : l.Pairwise (fun x y => leN x y = true)) : srt l = l :=
  List.Perm.eq_of_pairwise (le := fun x y => leN x y = true) (fun _ _ _ _ h1 h2 => leN_anti h1 h2) (srt_pair l) h (srt_perm l)
theorem srt_eq {l k : List (Nat × Nat)} (h : l.Perm k) : srt l = srt k :=
  List.Perm.eq_of_pairwise (le := fun x y => leN x y = true) (fun _ _ _ _ h1 h2 => leN_anti h1 h2) (srt_pair l) (srt_pair k) ((srt_perm l).trans (h.trans (srt_perm k).symm))
theorem lexB_of {x y : Nat × Nat} (h : leN x y = true) : SrtO.lexB (cst y) (cst x) = false := by
  rw [leN_iff] at h
  show (if ((y.1 : Nat) : Int) = ((x.1 : Nat) : Int) then decide (((y.2 : Nat) : Int) < ((x.2 : Nat) : Int)) else decide (((y.1 : Nat) : Int) < ((x.1 : Nat) : Int))) = false
  by_cases c : y.1 = x.1
  · rw [if_pos (by omega)]; exact decide_eq_false (by omega)
  · rw [if_neg (by omega)]; exact decide_eq_false (by omega)
theorem sorted_srt {H : Hp} {xs ys : List V} {l : List (Nat × Nat)} (hx : All2 (Nd H) xs l) (h : SrtO.Srtd (ltP (kOf H)) ys) (p : ys.Perm xs) : All2 (Nd H) ys (srt l) := by
  refine of_keys ys (srt l) ?_ (fun v hv => ?_)
  · have p1 := (p.map (kOf H))
    rw [keys_of hx] at p1
    refine List.Perm.eq_of_pairwise (le := fun x y => SrtO.lexB y x = false) (fun a b _ _ h1 h2 => lex_anti a b h1 h2) ?_ ?_ (p1.trans ((srt_perm l).map cst).symm)
    · exact List.pairwise_map.mpr h
    · exact List.pairwise_map.mpr ((srt_pair l).imp fun h => lexB_of h)
  · obtain ⟨x, _, k⟩ := hx.mem (p.mem_iff.mp hv)
    exact ⟨x, k⟩
end LT

namespace LT
open PySem PySem.Spec PyProof.Rows L2
/-- the greatest nodes beside stretches that ascend by their begins -/
def nb (n : Nat) : Nat → List (Nat × Nat) → List (Nat × Nat)
  | lo, [] => nw n lo n
  | lo, x :: l => nw n lo x.1 ++ nb n (max lo x.2) l
theorem nb_len {n : Nat} (h : n ≤ 2 ^ 100) : ∀ (l : List (Nat × Nat)) (lo : Nat), (∀ x ∈ l, x.1 ≤ n) → (nb n lo l).length ≤ 202 * (l.length + 1)
  | [], lo, _ => nw_len h
  | x :: l, lo, k => by
    have k1 := k x List.mem_cons_self
    have a := nw_len (n := n) (b := lo) (e := x.1) (by omega)
    have b := nb_len h l (max lo x.2) (fun y hy => k y (List.mem_cons_of_mem _ hy))
    show (nw n lo x.1 ++ nb n (max lo x.2) l).length ≤ 202 * (l.length + 1 + 1)
    rw [List.length_append]
    omega
theorem max_castB (a c : Nat) : (if ((c : Nat) : Int) > (a : Int) then (c : Int) else (a : Int)) = ((max a c : Nat) : Int) := by split <;> omega
section
variable {P : Program} {w : World} {K : PySem.W.Frag} {mg : Str → Option Value} {base : Heap}
def spBeside : Sp := fun vs H Q _ => ∃ (n : Nat) (p : Addr) (xs : List V) (S : List (Nat × Nat)), vs = [.int n, .ref p] ∧ 1 ≤ n ∧ n ≤ 10 ^ 30 ∧ H p = some (.lst xs) ∧ All2 (Nd H) xs S ∧ S.length ≤ 400 ∧ (∀ x ∈ S, x.1 ≤ n) ∧
  ∀ (H' : Hp) (r : Addr) (ys : List V), Same H H' → H r = none → H' r = some (.lst ys) → All2 (Nd H') ys (nb n 0 (srt S)) → Q (.ref r) H'
theorem ok_nodes_beside {f g3 : Addr} {fd d3 : FuncData} (F : Fun K "nodes_beside" "nodes_beside" sNodesBeside f fd)
    (GNodesWithin : FnOk P w K mg base CX0 4 g3 d3 ["size", "begin", "end"] spWithinX) (ANodesWithin : At K mg "nodes_within" g3 d3 ["size", "begin", "end"]) (z_sorted : mg "sorted" = none) (z_max : mg "max" = none) : FnOk P w K mg base CX0 5 f fd ["size", "stretches"] spBeside := by
  refine F.ok scNodesBeside (fun vs H Q E h => ?_) (fun cdv A outer s H vs Q E hr h => ?_)
  · obtain ⟨_, _, _, _, rfl, _⟩ := h
    rfl
  obtain ⟨n, p, xs, S, rfl, n1, h30, hp, hx, l400, hS, q⟩ := h
  refine ⟨_, (pss_cons (ps_set (i := 2) scNodesBeside.nd rfl (Or.inl rfl) (pe_lst pa_nil))
    (pss_cons (ps_set (i := 3) scNodesBeside.nd rfl (Or.inl rfl) pe_int)
    (pss_cons (ps_for PassesOwn.never rfl (pi_list (pe_callB cr_sortedPO (by rfl) z_sorted (by decide +kernel) (pa_cons (pv 1) pa_nil))) (pg_tup (by rfl) (pgs_cons (pg_name (i := 4) scNodesBeside.nd rfl (Or.inl rfl)) (pgs_cons (pg_name (i := 5) scNodesBeside.nd rfl (Or.inl rfl)) pgs_nil)))
    (pss_cons (ps_expr (pe_bm PySem.F.plainAttrs_list PySem.F.slot_list_extend PySem.F.type_list_extend mt_extend (pv 2) (pa_cons (pe_call GNodesWithin (hr.mono (by decide)) rfl ANodesWithin.m ANodesWithin.kp ANodesWithin.b .nil pass0 (pa_cons (pv 0) (pa_cons (pv 3) (pa_cons (pv 4) pa_nil)))) pa_nil)))
    (pss_one (ps_set (i := 3) scNodesBeside.nd rfl (Or.inl rfl) (pe_callB (call_max2 rfl) (by rfl) z_max (by decide +kernel) (pa_cons (pv 3) (pa_cons (pv 5) pa_nil)))))))
    (pss_cons (ps_expr (pe_bm PySem.F.plainAttrs_list PySem.F.slot_list_extend PySem.F.type_list_extend mt_extend (pv 2) (pa_cons (pe_call GNodesWithin (hr.mono (by decide)) rfl ANodesWithin.m ANodesWithin.kp ANodesWithin.b .nil pass0 (pa_cons (pv 0) (pa_cons (pv 3) (pa_cons (pv 0) pa_nil)))) pa_nil)))
    (pss_one (ps_ret (pv 2))))))), ?_⟩
  refine ⟨Nat.zero_le _, fun fa nf => ?_⟩
  have s2 := same_upd (o := .lst []) nf
  have hx2 := hx.mono (fun v x (k : Nd H v x) => k.same s2)
  have hp2 := s2 _ _ hp
  have hf2 : (upd H fa (.lst [])) fa = some (.lst []) := upd_same
  generalize upd H fa (.lst []) = H2 at s2 hx2 hp2 hf2
  refine ⟨_, rfl, p, xs, kOf H2, rfl, SqL.of hp2, fun x hm => ?_, fun ys so hs1 hs2 nso => ?_⟩
  · obtain ⟨y, _, pa, rfl, hpa⟩ := hx2.mem hm
    exact ⟨pa, rfl, by rw [hpa]; simp only [kOf, hpa]⟩
  have s3 := same_upd (o := .lst ys) nso
  have hy0 := (sorted_srt hx2 hs1 hs2.perm).mono (fun v x (k : Nd H2 v x) => k.same s3)
  have hso : (upd H2 so (.lst ys)) so = some (.lst ys) := upd_same
  have hf3 := s3 _ _ hf2
  have sof : so ≠ fa := fun z => by rw [z, hf2] at nso; cases nso
  have s03 := s2.trans s3
  have tot := nb_len (n := n) (by omega) (srt S) 0 (fun x hx => hS x (srt_mem.mp hx))
  have hT : ∀ x ∈ srt S, x.1 ≤ n := fun x hx => hS x (srt_mem.mp hx)
  have tl : (srt S).length ≤ 400 := by rw [srt_len]; exact l400
  generalize srt S = T at q hy0 tot hT tl
  generalize upd H2 so (.lst ys) = H3 at s3 hso hf3 hy0 s03
  have yl := hy0.len
  refine ⟨so, rfl, ⟨_, SqL.of hso⟩, for_list (K := K) (a := so) (xs := ys) (fun i σ H' => ∃ (lo : Nat) (v4 v5 : Option V) (zs : List V) (done : List (Nat × Nat)), σ = [some (.int (n : Int)), some (.ref p), some (.ref fa), some (.int (lo : Int)), v4, v5] ∧ Same H H' ∧ But fa H3 H' ∧ H' fa = some (.lst zs) ∧ All2 (Nd H') zs done ∧ done ++ nb n lo (T.drop i) = nb n 0 T)
    ⟨0, none, none, [], [], rfl, s03, But.refl _ _, hf3, .nil, rfl⟩ (fun i σ H' _ ⟨_, _, _, _, _, _, _, k, _⟩ => SqL.of (k _ _ sof hso)) ?_ ?_⟩
  · rintro i v σ H4 hi ⟨lo, v4, v5, zs, done, rfl, sm, B4, hf, hz, hd⟩
    obtain ⟨x, hxi, pv, rfl, hpv⟩ := hy0.nth hi
    have hdr : T.drop i = x :: T.drop (i + 1) := by
      obtain ⟨hl, hxe⟩ := List.getElem?_eq_some_iff.mp hxi
      rw [List.drop_eq_getElem_cons hl, hxe]
    rw [hdr] at hd
    have xn := hT x (List.mem_of_getElem? hxi)
    have pvf : pv ≠ fa := fun z => by rw [z, hf3] at hpv; cases hpv
    have hpv4 := B4 _ _ pvf hpv
    refine ⟨pv, _, rfl, SqT.of hpv4, rfl, _, _, rfl, _, _, rfl, rfl, ?_⟩
    refine ⟨_, rfl, .inl ⟨rfl, _, SqL.of hf⟩, _, rfl, _, rfl, _, rfl, n, lo, x.1, rfl, n1, by omega, xn, by omega, fun H5 r us s5 nr hr5 hu => ?_⟩
    have hf5 := s5 _ _ hf
    have lz : zs.length + us.length ≤ 100000 := by
      have k := congrArg List.length hd
      rw [List.length_append] at k
      have k2 : (nb n lo (x :: T.drop (i + 1))).length = (nw n lo x.1).length + (nb n (max lo x.2) (T.drop (i + 1))).length := by
        show (nw n lo x.1 ++ _).length = _
        rw [List.length_append]
      rw [hz.len, hu.len]
      omega
    refine ⟨fa, r, zs, us, rfl, rfl, hf5, hr5, szle (by omega), ?_⟩
    refine ⟨_, rfl, _, rfl, _, _, rfl, ?_⟩
    rw [max_castB]
    refine ⟨max lo x.2, _, _, zs ++ us, done ++ nw n lo x.1, rfl, ?_, ?_, upd_same, ?_, ?_⟩
    · exact fun a o k => by rw [upd_ne (ne_of_none k nf)]; exact s5 _ _ (sm _ _ k)
    · exact fun a o n k => by rw [upd_ne n]; exact s5 _ _ (B4 a o n k)
    · exact (hz.mono (fun v x (k : Nd H4 v x) => (k.same s5).upd hf5)).app (hu.mono (fun v x (k : Nd H5 v x) => k.upd hf5))
    · rw [← hd, List.append_assoc]
      rfl
  · rintro σ H4 ⟨lo, v4, v5, zs, done, rfl, sm, B4, hf, hz, hd⟩
    rw [yl, List.drop_length] at hd
    refine ⟨_, rfl, .inl ⟨rfl, _, SqL.of hf⟩, _, rfl, _, rfl, _, rfl, n, lo, n, rfl, n1, by omega, by omega, by omega, fun H5 r us s5 nr hr5 hu => ?_⟩
    have hf5 := s5 _ _ hf
    have lz : zs.length + us.length ≤ 100000 := by
      have k := congrArg List.length hd
      rw [List.length_append] at k
      have k2 : (nb n lo []).length = (nw n lo n).length := rfl
      rw [hz.len, hu.len]
      omega
    refine ⟨fa, r, zs, us, rfl, rfl, hf5, hr5, szle (by omega), ?_⟩
    refine ⟨_, rfl, q _ fa (zs ++ us) ?_ nf upd_same ?_⟩
    · exact fun a o k => by rw [upd_ne (ne_of_none k nf)]; exact s5 _ _ (sm _ _ k)
    · rw [← hd]
      exact (hz.mono (fun v x (k : Nd H4 v x) => (k.same s5).upd hf5)).app (hu.mono (fun v x (k : Nd H5 v x) => k.upd hf5))
end
end LT

namespace LT
open PySem PySem.Spec PyProof.Rows L2
section
variable {P : Program} {w : World} {K : PySem.W.Frag} {mg : Str → Option Value} {base : Heap}
theorem nl_len {n : Nat} (h : n ≤ 2 ^ 100) : ∀ (l : List (Nat × Nat)) (lo : Nat), So n lo l → (nl n lo l).length ≤ 202 * (l.length + 1)
  | [], lo, _ => nw_len h
  | x :: l, lo, ⟨h1, h2, h3, h4⟩ => by
    have a := nw_len (n := n) (b := lo) (e := x.1) (by omega)
    have b := nl_len h l x.2 h4
    show (nw n lo x.1 ++ nl n x.2 l).length ≤ 202 * (l.length + 1 + 1)
    rw [List.length_append]
    omega
def spNeeded : Sp := fun vs H Q _ => ∃ (n : Nat) (p : Addr) (xs : List V) (S : List (Nat × Nat)), vs = [.int n, .ref p] ∧ 1 ≤ n ∧ n ≤ 10 ^ 30 ∧ H p = some (.lst xs) ∧ All2 (Nd H) xs S ∧ 1 ≤ S.length ∧ S.length ≤ 12 ∧ So n 0 S ∧
  ∀ (H' : Hp) (r : Addr) (ys : List V), Same H H' → H r = none → H' r = some (.lst ys) → All2 (Nd H') ys (nl n 0 S) → Q (.ref r) H'
theorem so_pair {n : Nat} : ∀ {lo : Nat} {l : List (Nat × Nat)}, So n lo l → l.Pairwise (fun x y => leN x y = true)
  | _, [], _ => .nil
  | lo, x :: l, ⟨h1, h2, h3, h4⟩ => .cons (fun y hy => by
      obtain ⟨k1, k2, k3⟩ := So.mem h4 y hy
      rw [leN_iff]
      omega) (so_pair h4)
theorem nb_nl {n : Nat} : ∀ {lo : Nat} {l : List (Nat × Nat)}, So n lo l → nb n lo l = nl n lo l
  | _, [], _ => rfl
  | lo, x :: l, ⟨h1, h2, h3, h4⟩ => by
    show nw n lo x.1 ++ nb n (max lo x.2) l = nw n lo x.1 ++ nl n x.2 l
    rw [Nat.max_eq_right (by omega), nb_nl h4]
theorem ok_needed {f g1 g2 g3 : Addr} {fd d1 d2 d3 : FuncData} (F : Fun K "needed" "needed" sNeeded f fd) (GCheckSize : FnOk P w K mg base CX0 3 g1 d1 ["size"] spCheckSize) (ACheckSize : At K mg "check_size" g1 d1 ["size"])
    (GCheckSpans : FnOk P w K mg base CX0 4 g2 d2 ["size", "spans"] spCheckSpans) (ACheckSpans : At K mg "check_spans" g2 d2 ["size", "spans"])
    (GNodesBeside : FnOk P w K mg base CX0 5 g3 d3 ["size", "stretches"] spBeside) (ANodesBeside : At K mg "nodes_beside" g3 d3 ["size", "stretches"]) : FnOk P w K mg base CX0 6 f fd ["size", "spans"] spNeeded := by
  refine F.ok scNeeded (fun vs H Q E h => ?_) (fun cdv A outer s H vs Q E hr h => ?_)
  · obtain ⟨_, _, _, _, rfl, _⟩ := h
    rfl
  obtain ⟨n, p, xs, S, rfl, n1, h30, hp, hx, l1, l12, hS, q⟩ := h
  refine ⟨_, (pss_cons (ps_expr (pe_call GCheckSize (hr.mono (by decide)) rfl ACheckSize.m ACheckSize.kp ACheckSize.b .nil pass0 (pa_cons (pv 0) pa_nil)))
    (pss_cons (ps_expr (pe_call GCheckSpans (hr.mono (by decide)) rfl ACheckSpans.m ACheckSpans.kp ACheckSpans.b .nil pass0 (pa_cons (pv 0) (pa_cons (pv 1) pa_nil))))
    (pss_one (ps_ret (pe_call GNodesBeside (hr.mono (by decide)) rfl ANodesBeside.m ANodesBeside.kp ANodesBeside.b .nil pass0 (pa_cons (pv 0) (pa_cons (pv 1) pa_nil))))))), ?_⟩
  refine ⟨_, rfl, _, rfl, by omega, by omega, _, rfl, _, rfl, n, p, xs, S, rfl, hp, hx, l1, l12, hS, fun H1 s1 => ?_⟩
  refine ⟨_, rfl, _, rfl, n, p, xs, S, rfl, n1, h30, s1 _ _ hp, hx.mono (fun v x (k : Nd H v x) => k.same s1), by omega, fun x hx => by have := (So.mem hS x hx); omega, fun H2 r ys s2 nr hr2 hy => ?_⟩
  rw [srt_id (so_pair hS), nb_nl hS] at hy
  exact q H2 r ys (s1.trans s2) (s1.free nr) hr2 hy
end
end LT

namespace LT
open PySem PySem.Spec PyProof.Rows L2
section
variable {P : Program} {w : World} {K : PySem.W.Frag} {mg : Str → Option Value} {base : Heap}
def spBag : Sp := fun vs H Q _ => ∃ c : Int, vs = [.int c] ∧ ∀ (H' : Hp) (p : Addr), Same H H' → H p = none → BagAt H' p → Q (.ref p) H'
theorem ok_law_bag {f : Addr} {fd : FuncData} (F : Fun K "_law_bag" "_law_bag" sLawBag f fd) (z_max : mg "max" = none) : FnOk P w K mg base CX0 1 f fd ["cell"] spBag := by
  refine F.ok scLawBag (fun vs H Q E h => ?_) (fun cdv A outer s H vs Q E hr h => ?_)
  · obtain ⟨_, rfl, _⟩ := h
    rfl
  obtain ⟨c, rfl, q⟩ := h
  refine ⟨_, (pss_one (ps_ret (pe_lst (pa_cons (pe_callB (call_max2 rfl) (by rfl) z_max (by decide +kernel) (pa_cons pe_int (pa_cons (pe_op op_sub (pv 0) (pe_op op_pow pe_int pe_int)) pa_nil))) (pa_cons (pv 0) (pa_cons pe_int pa_nil)))))), ?_⟩
  refine ⟨_, rfl, _, _, rfl, rfl, ⟨by decide, by decide, by decide⟩, _, _, rfl, rfl, _, _, rfl, _, rfl, (by show 3 ≤ sizeLine; decide), fun p np => ?_⟩
  exact q _ p (same_upd np) np ⟨_, _, _, upd_same⟩
theorem fm0 (x : Int) {m : Int} (h : 0 < m) : 0 ≤ x.fmod m := by
  rw [Int.fmod_eq_emod_of_nonneg _ (by omega)]
  exact Int.emod_nonneg _ (by omega)
theorem fm1 (x : Int) {m : Int} (h : 0 < m) : x.fmod m < m := by
  rw [Int.fmod_eq_emod_of_nonneg _ (by omega)]
  exact Int.emod_lt_of_pos _ h
def spPick : Sp := fun vs H Q _ => ∃ (b : Addr) (many : Int), vs = [.ref b, .int many] ∧ 0 < many ∧ many.natAbs < 2 ^ 250 ∧ BagAt H b ∧
  ∀ (r : Int) (H' : Hp), 0 ≤ r → r < many → (∀ a, a ≠ b → H' a = H a) → BagAt H' b → Q (.int r) H'
theorem ok_law_pick {f : Addr} {fd : FuncData} (F : Fun K "_law_pick" "_law_pick" sLawPick f fd) (z_int : mg "int" = none) : FnOk P w K mg base CX0 1 f fd ["bag", "many"] spPick := by
  refine F.ok scLawPick (fun vs H Q E h => ?_) (fun cdv A outer s H vs Q E hr h => ?_)
  · obtain ⟨_, _, rfl, _⟩ := h
    rfl
  obtain ⟨b, many, rfl, hm, hm2, ⟨x, y, z, h0⟩, q⟩ := h
  refine ⟨_, (pss_cons (ps_asg (pe_op op_add (pe_ix ix_list (pv 0) pe_int (fun _ _ => rfl)) pe_int) (pg_sub (pv 0) pe_int set_list))
    (pss_cons (ps_if (pt_cmpR op_gt (pe_ix ix_list (pv 0) pe_int (fun _ _ => rfl)) pe_int (nomark _))
    (pss_cons (ps_set (i := 2) scLawPick.nd rfl (Or.inl rfl) (pe_op op_modN (pe_callTy call_int1 (by rfl) z_int (by decide +kernel) (pa_cons (pe_ix ix_list (pv 0) pe_int (fun _ _ => rfl)) pa_nil)) (pv 1)))
    (pss_cons (ps_asg (pe_op op_fdivW (pe_callTy call_int1 (by rfl) z_int (by decide +kernel) (pa_cons (pe_ix ix_list (pv 0) pe_int (fun _ _ => rfl)) pa_nil)) (pv 1)) (pg_sub (pv 0) pe_int set_list))
    (pss_one (ps_ret (pv 2)))))
    pss_nil)
    (pss_cons (ps_par (i := 3) (j := 4) (by rfl) scLawPick.nd rfl rfl (by decide) rfl rfl (pa_cons (pe_callTy call_int1 (by rfl) z_int (by decide +kernel) (pa_cons (pe_ix ix_list (pv 0) pe_int (fun _ _ => rfl)) pa_nil)) (pa_cons (pe_callTy call_int1 (by rfl) z_int (by decide +kernel) (pa_cons (pe_ix ix_list (pv 0) pe_int (fun _ _ => rfl)) pa_nil)) pa_nil)) (by rfl))
    (pss_cons (ps_set (i := 5) scLawPick.nd rfl (Or.inl rfl) (pe_op op_modN (pe_callTy call_int1 (by rfl) z_int (by decide +kernel) (pa_cons (pe_op op_add (pe_op op_add (pe_op op_mul (pe_op op_modN (pv 3) pe_int) pe_int) (pe_op op_mul (pv 4) pe_int)) pe_int) pa_nil)) pe_int))
    (pss_cons (ps_set (i := 6) scLawPick.nd rfl (Or.inl rfl) (pe_op op_modN (pe_callTy call_int1 (by rfl) z_int (by decide +kernel) (pa_cons (pe_op op_add (pe_op op_mul (pv 5) (pv 5)) (pe_op op_mul (pv 4) pe_int)) pa_nil)) pe_int))
    (pss_cons (ps_set (i := 7) scLawPick.nd rfl (Or.inl rfl) (pe_op op_fdivW (pe_callTy call_int1 (by rfl) z_int (by decide +kernel) (pa_cons (pe_op op_add (pe_op op_mul (pv 5) pe_int) (pv 6)) pa_nil)) pe_int))
    (pss_cons (ps_if (pt_cmpR op_gt (pv 1) (pe_op op_pow pe_int pe_int) (nomark _))
    (pss_one (ps_set (i := 7) scLawPick.nd rfl (Or.inl rfl) (pe_op op_add (pe_op op_pow (pv 7) pe_int) (pv 6))))
    pss_nil)
    (pss_one (ps_ret (pe_op op_modN (pe_callTy call_int1 (by rfl) z_int (by decide +kernel) (pa_cons (pv 7) pa_nil)) (pv 1))))))))))), ?_⟩
  refine ⟨_, rfl, b, _, _, _, rfl, rfl, SqL.of h0, atI_nat (j := 2) rfl, _, _, rfl, rfl, _, rfl, b, _, _, 2, rfl, rfl, h0, rfl, ?_⟩
  dsimp only
  have h1 : (upd H b (.lst ([.int x, .int y, .int z].set 2 (.int (z + 1))))) b = some (.lst [.int x, .int y, .int (z + 1)]) := upd_same
  have k1 : ∀ a, a ≠ b → (upd H b (.lst ([.int x, .int y, .int z].set 2 (.int (z + 1))))) a = H a := fun a ha => upd_ne ha
  generalize upd H b (.lst ([.int x, .int y, .int z].set 2 (.int (z + 1)))) = H1 at h1 k1
  refine ⟨_, rfl, b, _, _, _, rfl, rfl, SqL.of h1, atI_nat (j := 0) rfl, _, _, rfl, rfl, _, rfl, ite2 (fun c => ?_) (fun c => ?_)⟩
  · refine ⟨_, rfl, b, _, _, _, rfl, rfl, SqL.of h1, atI_nat (j := 0) rfl, .inl ⟨_, rfl, _, rfl, _, _, rfl, rfl, by omega, ?_⟩⟩
    refine ⟨_, rfl, b, _, _, _, rfl, rfl, SqL.of h1, atI_nat (j := 0) rfl, .inl ⟨_, rfl, _, rfl, _, _, rfl, rfl, wide_div hm hm2 (by decide) (by decide), _, rfl, b, _, _, 0, rfl, rfl, h1, rfl, ?_⟩⟩
    refine ⟨_, rfl, ?_⟩
    exact q _ _ (fm0 x hm) (fm1 x hm) (fun a ha => by rw [upd_ne ha]; exact k1 a ha) ⟨_, _, _, upd_same⟩
  · refine ⟨_, rfl, b, _, _, _, rfl, rfl, SqL.of h1, atI_nat (j := 1) rfl, .inl ⟨_, rfl, _, rfl, b, _, _, _, rfl, rfl, SqL.of h1, atI_nat (j := 2) rfl, .inl ⟨_, rfl, _, _, rfl, ?_⟩⟩⟩
    refine ⟨_, rfl, _, _, rfl, rfl, (by show (2147483629 : Int) ≠ 0; decide), _, _, rfl, rfl, .inr ⟨by decide, by decide⟩, _, rfl, _, _, rfl, rfl, .inr ⟨by decide, by decide⟩, _, _, rfl, rfl, _, _, rfl, rfl, .inl ⟨_, rfl, _, _, rfl, rfl, (by show (2147483647 : Int) ≠ 0; decide), ?_⟩⟩
    dsimp only
    have a0 := fm0 (y.fmod 2147483629 * 48271 + (z + 1) * 69621 + 12345) (m := 2147483647) (by decide)
    have a1 := fm1 (y.fmod 2147483629 * 48271 + (z + 1) * 69621 + 12345) (m := 2147483647) (by decide)
    generalize (y.fmod 2147483629 * 48271 + (z + 1) * 69621 + 12345).fmod 2147483647 = fi at a0 a1
    refine ⟨_, rfl, _, rfl, _, _, rfl, rfl, .inl ⟨by omega, by omega⟩, _, rfl, _, _, rfl, rfl, .inr ⟨by decide, by decide⟩, _, _, rfl, rfl, .inl ⟨_, rfl, _, _, rfl, rfl, (by show (2147483587 : Int) ≠ 0; decide), ?_⟩⟩
    dsimp only
    have b0 := fm0 (fi * fi + (z + 1) * 40692) (m := 2147483587) (by decide)
    have b1 := fm1 (fi * fi + (z + 1) * 40692) (m := 2147483587) (by decide)
    generalize (fi * fi + (z + 1) * 40692).fmod 2147483587 = se at b0 b1
    refine ⟨_, rfl, _, _, rfl, rfl, .inl ⟨by omega, by omega⟩, _, rfl, _, _, rfl, rfl, .inl ⟨_, rfl, _, _, rfl, rfl, wide_div (b := 6) (by decide) (by decide) (by decide) (by decide), ?_⟩⟩
    dsimp only
    have c0 : 0 ≤ (fi * 2147483587 + se) / 32 := by omega
    have c1 : (fi * 2147483587 + se) / 32 < 2 ^ 62 := by omega
    generalize (fi * 2147483587 + se) / 32 = dr at c0 c1
    refine ⟨_, rfl, _, _, rfl, rfl, ⟨by decide, by decide, by decide⟩, _, _, rfl, rfl, _, rfl, ite2 (fun c => ?_) (fun c => ?_)⟩
    · refine ⟨_, rfl, _, _, rfl, rfl, ⟨by decide, by decide, by omega⟩, _, rfl, _, _, rfl, rfl, ?_⟩
      refine ⟨_, rfl, .inl ⟨_, rfl, _, rfl, _, _, rfl, rfl, by omega, ?_⟩⟩
      exact q _ _ (fm0 _ hm) (fm1 _ hm) k1 ⟨_, _, _, h1⟩
    · refine ⟨_, rfl, .inl ⟨_, rfl, _, rfl, _, _, rfl, rfl, by omega, ?_⟩⟩
      exact q _ _ (fm0 _ hm) (fm1 _ hm) k1 ⟨_, _, _, h1⟩
end
end LT

namespace LT
open PySem PySem.Spec PyProof.Rows L2
section
variable {P : Program} {w : World} {K : PySem.W.Frag} {mg : Str → Option Value} {base : Heap}
theorem But.same {b : Addr} {H H1 H2 : Hp} (x : But b H H1) (y : Same H1 H2) : But b H H2 := fun a o n h => y a o (x a o n h)
theorem But.pick {b : Addr} {H H1 H2 : Hp} (x : But b H H1) (k : ∀ a, a ≠ b → H2 a = H1 a) : But b H H2 := fun a o n h => by rw [k a n]; exact x a o n h
theorem BagAt.ne {H : Hp} {b p : Addr} (h : BagAt H b) (n : H p = none) : p ≠ b := fun z => by
  obtain ⟨_, _, _, e⟩ := h
  rw [← z, n] at e
  cases e
theorem BagAt.upd {H : Hp} {b p : Addr} {o : HO} (h : BagAt H b) (n : p ≠ b) : BagAt (upd H p o) b := by
  obtain ⟨x, y, z, e⟩ := h
  exact ⟨x, y, z, by rw [upd_ne (fun z => n z.symm)]; exact e⟩
def spSizeM : Sp := fun vs H Q _ => ∃ (b : Addr) (most : Nat), vs = [.ref b, .int most] ∧ 1 ≤ most ∧ most ≤ 10 ^ 30 ∧ BagAt H b ∧ ∀ (n : Nat) (H' : Hp), 1 ≤ n → n ≤ most → But b H H' → BagAt H' b → Q (.int n) H'
theorem ok_law_sizeM {f g1 : Addr} {fd d1 : FuncData} (F : Fun K "_law_size" "_law_size" sLawSize f fd) (GLawPick : FnOk P w K mg base CX0 1 g1 d1 ["bag", "many"] spPick) (ALawPick : At K mg "_law_pick" g1 d1 ["bag", "many"]) (z_max : mg "max" = none) (z_min : mg "min" = none) (z_sum : mg "sum" = none) (z_range : mg "range" = none) :
    FnOk P w K mg base CX0 2 f fd ["bag", "most"] spSizeM := by
  refine F.ok scLawSize (fun vs H Q E h => ?_) (fun cdv A outer s H vs Q E hr h => ?_)
  · obtain ⟨_, _, rfl, _⟩ := h
    rfl
  obtain ⟨b, most, rfl, m1, m30, hb, q⟩ := h
  refine' ⟨_, (pss_cons (ps_set (i := 2) scLawSize.nd rfl (Or.inl rfl) (pe_call GLawPick (hr.mono (by decide)) rfl ALawPick.m ALawPick.kp ALawPick.b .nil pass0 (pa_cons (pv 0) (pa_cons pe_int pa_nil))))
    (pss_cons (ps_if (pt_cmpR op_eq (pv 2) pe_int (nomark _))
    (pss_one (ps_ret (pe_op op_add pe_int (pe_call GLawPick (hr.mono (by decide)) rfl ALawPick.m ALawPick.kp ALawPick.b .nil pass0 (pa_cons (pv 0) (pa_cons (pv 1) pa_nil))))))
    pss_nil)
    (pss_cons ?cc1
    (pss_one (ps_ret (pe_callB (call_min2 rfl) (by rfl) z_min (by decide +kernel) (pa_cons (pv 1) (pa_cons (pe_callB (call_max2 rfl) (by rfl) z_max (by decide +kernel) (pa_cons pe_int (pa_cons (pe_op op_sub (pe_op op_add (pe_callB (cr_sum rfl) (by rfl) z_sum (by decide +kernel) (pa_cons (pv 3) pa_nil)) (pe_call GLawPick (hr.mono (by decide)) rfl ALawPick.m ALawPick.kp ALawPick.b .nil pass0 (pa_cons (pv 0) (pa_cons pe_int pa_nil)))) pe_int) pa_nil))) pa_nil)))))))), ?_⟩
  case cc1 => exact (ps_setLc (i := 3) (own := [("turn", 4)]) rfl scLawSize.nd rfl rfl (sw_true rfl rfl rfl (by decide +kernel)) (pi_range1 (by rfl) z_range (pa_cons (pe_ix ix_list (pe_lst (pa_cons pe_int (pa_cons pe_int (pa_cons pe_int (pa_cons pe_int pa_nil))))) (pv 2) (fun _ _ => rfl)) pa_nil)) (blkOk_by (N := ["bag", "most", "way", "powers", "turn"]) (sc := defScope sLawSize) (by decide +kernel)) (fun _ _ _ _ _ => (pg_name (i := 4) scLawSize.nd rfl (Or.inl rfl))) (fun _ _ _ _ _ => pts_nil) (fun _ _ _ _ _ => (pe_op op_shl pe_int (pe_call GLawPick (hr.mono (by decide)) rfl ALawPick.m ALawPick.kp ALawPick.b .nil pass0 (pa_cons (pv 0) (pa_cons (pe_bits (pv 1)) pa_nil))))))
  have fin : ∀ (z : Int) (H5 : Hp), But b H H5 → BagAt H5 b → Q (.int (if (if z > 1 then z else 1) < (most : Int) then (if z > 1 then z else 1) else (most : Int))) H5 := fun z H5 B5 b5 => by
    have z1 : 1 ≤ (if z > 1 then z else 1) := by split <;> omega
    generalize (if z > 1 then z else 1) = y at z1
    have y1 : 1 ≤ (if y < (most : Int) then y else (most : Int)) ∧ (if y < (most : Int) then y else (most : Int)) ≤ most := by split <;> omega
    generalize (if y < (most : Int) then y else (most : Int)) = u at y1
    obtain ⟨un, rfl⟩ := Int.eq_ofNat_of_zero_le (show 0 ≤ u by omega)
    exact q un H5 (by omega) (by omega) B5 b5
  refine ⟨_, rfl, b, 4, rfl, by decide, by decide, hb, fun r H1 r0 r1 k1 b1 => ?_⟩
  have B1 : But b H H1 := (But.refl b H).pick k1
  refine ⟨_, rfl, rfl, _, rfl, ite2 (fun c => ?_) (fun c => ?_)⟩
  · refine ⟨_, rfl, _, rfl, b, most, rfl, by omega, by omega, b1, fun r2 H2 r20 r21 k2 b2 => ⟨_, _, rfl, rfl, ?_⟩⟩
    have B2 := B1.pick k2
    obtain ⟨rn, rfl⟩ := Int.eq_ofNat_of_zero_le r20
    have e : (1 : Int) + (rn : Int) = ((1 + rn : Nat) : Int) := by omega
    have q2 := q (1 + rn) H2 (by omega) (by omega) B2 b2
    rw [← e] at q2
    exact q2
  · have rne : r ≠ 0 := fun z => by
      subst z
      exact c (decide_eq_true rfl)
    have hv : ∃ m : Nat, atI [V.int 1, V.int 1, V.int 3, V.int 6] r = some (.int (m : Int)) ∧ m ≤ 6 := by
      have : r = 1 ∨ r = 2 ∨ r = 3 := by omega
      rcases this with rfl | rfl | rfl
      · exact ⟨1, atI_nat (j := 1) rfl, by decide⟩
      · exact ⟨3, atI_nat (j := 2) rfl, by decide⟩
      · exact ⟨6, atI_nat (j := 3) rfl, by decide⟩
    obtain ⟨m, hm, m6⟩ := hv
    refine ⟨(by show 4 ≤ sizeLine; decide), fun l nl => ?_⟩
    have s2 := same_upd (o := .lst [.int 1, .int 1, .int 3, .int 6]) nl
    have h2 : (upd H1 l (.lst [.int 1, .int 1, .int 3, .int 6])) l = some (.lst [.int 1, .int 1, .int 3, .int 6]) := upd_same
    have B2 := B1.same s2
    have b2 := b1.same s2
    generalize upd H1 l (.lst [.int 1, .int 1, .int 3, .int 6]) = H2 at h2 B2 b2
    refine ⟨_, rfl, l, _, _, _, rfl, rfl, SqL.of h2, hm, ?_⟩
    have bl : ((Builtin.Int.intBits (most : Int) : Nat) : Int) = ((most.log2 + 1 : Nat) : Int) := by rw [bits_nat, if_neg (by omega)]
    have l100 : most.log2 < 100 := (Nat.log2_lt (by omega)).mpr (Nat.lt_of_le_of_lt m30 (by decide))
    refine ⟨(m : Int), rfl, by omega, by omega, fun D nD => ?_⟩
    have Db := b2.ne nD
    refine lc_range (lo := 0) (n := m) (fun i H' => ∃ L : List Int, But b H2 H' ∧ BagAt H' b ∧ H' D = some (.lst (L.map V.int)) ∧ L.length = i) ⟨[], But.of (same_upd nD), b2.upd Db, upd_same, rfl⟩ ?_ ?_
    · rintro j H3 hj ⟨L, B3, b3, hD, hl⟩
      refine ⟨rfl, ?_⟩
      refine ⟨_, rfl, _, rfl, _, rfl, b, _, congrArg (fun z => [V.ref b, V.int z]) bl, by omega, by omega, b3, fun r4 H4 r40 r41 k4 b4 => ?_⟩
      refine ⟨_, _, rfl, rfl, ⟨r40, by omega, by decide⟩, ?_⟩
      have hD4 : H4 D = some (.lst (L.map V.int)) := (k4 D Db).trans hD
      refine ⟨_, hD4, szlt (by rw [List.length_map]; omega), L ++ [(1 : Int) * 2 ^ r4.toNat], ?_, b4.upd Db, ?_, by rw [List.length_append, List.length_singleton, hl]⟩
      · exact fun a o n k => by
          by_cases z : a = D
          · subst z; rw [nD] at k; cases k
          · rw [upd_ne z, k4 a n]; exact B3 a o n k
      · rw [List.map_append]; exact upd_same
    rintro H3 ⟨L, B3, b3, hD, hl⟩
    refine ⟨_, rfl, _, rfl, D, L, rfl, SqL.of hD, _, rfl, b, 3, rfl, by decide, by decide, b3, fun r4 H4 r40 r41 k4 b4 => ?_⟩
    exact ⟨_, _, rfl, rfl, _, _, rfl, rfl, _, _, rfl, _, _, rfl, fin _ H4 ((B2.trans B3).pick k4) b4⟩
end
end LT

namespace LT
open PySem PySem.Spec PyProof.Rows L2
/-- a def with defaults dvs, as it stands behind the top -/
structure FunT (K : PySem.W.Frag) (x qual : Str) (st : Stmt) (its : List Value) (dvs : List V) (f : Addr) (fd : FuncData) : Prop where
  ex : ∃ (oc : Value) (od : Option Addr) (T : Addr) (kV doc pm : Value) (an : Option Addr) (cdv ct : Value) (osl : Array (Option Value)) (o : Obj) (n : Nat),
    fd = PySem.W.fnOf x qual (defArgs st) (defBody st) (defScope st) (.ref T) kV doc pm an cdv ct ∧ K.lookup f = some ⟨oc, od, .func fd, osl⟩ ∧ PySem.W.codeIn K cdv qual = true ∧ K.lookup T = some o ∧ o.data = .seq its.toArray n
  kp : PySem.W.keepIn K (.ref f) = true
  v : Vals dvs its
/-- how it is called with its defaults -/
structure AtT (K : PySem.W.Frag) (mg : Str → Option Value) (x : Str) (f : Addr) (fd : FuncData) (ps : List Str) (ds : List Value) (dvs : List V) : Prop where
  m : mg x = some (.ref f)
  kp : PySem.W.keepIn K (.ref f) = true
  b : Binds K fd ps ds
  v : Vals dvs ds
section
variable {P : Program} {w : World} {K : PySem.W.Frag} {mg : Str → Option Value} {base : Heap}
theorem FunT.ok {x qual : Str} {st : Stmt} {its : List Value} {dvs : List V} {f : Addr} {fd : FuncData} {N ps : List Str} {k : Nat} {sp : Sp} (F : FunT K x qual st its dvs f fd) (S : FnScope N ps (defScope st)) (len : ∀ vs H Q E, sp vs H Q E → vs.length = ps.length)
    (hbody : ∀ (cdv : Value) (A : Around) (outer : List Env) (s : Shared) (H : Hp) (vs : List V) (Q : VK) (E : XK), Room k (A.deeper (envOfC qual (defScope st) s.heap.objs.size f cdv)) → sp vs H Q E →
      ∃ t, PSs (cxOf CX0 P w K mg base N qual (defScope st) f cdv A outer s H E).nox (defBody st) t ∧ t { nx := fun _ H' => Q .non H', rt := Q } (start N vs) H) : FnOk P w K mg base CX0 (k + 1) f fd ps sp := by
  obtain ⟨oc, od, T, kV, doc, pm, an, cdv, ct, osl, o, n, rfl, lk, hcd, lT, oT⟩ := F.ex
  refine fn_of lk hcd S len fun A outer s H vs Q E hr hsp => ?_
  obtain ⟨t, h, q⟩ := hbody cdv A outer s H vs Q E hr hsp
  exact ⟨t, h.nox, q⟩
theorem funT_mk {x qual : Str} {st : Stmt} {f T : Addr} {oc tc : Value} {od an td : Option Addr} {osl tsl : Array (Option Value)} {tits : Array Value} {tn : Nat} {dvs : List V} {kV doc pm cdv ct : Value} (l : K.lookup f = some ⟨oc, od, .func (PySem.W.fnOf x qual (defArgs st) (defBody st) (defScope st) (.ref T) kV doc pm an cdv ct), osl⟩)
    (c : PySem.W.codeIn K cdv qual = true) (k : PySem.W.keepIn K (.ref f) = true) (lT : K.lookup T = some ⟨tc, td, .seq tits tn, tsl⟩) (v : Vals dvs tits.toList) : FunT K x qual st tits.toList dvs f (PySem.W.fnOf x qual (defArgs st) (defBody st) (defScope st) (.ref T) kV doc pm an cdv ct) :=
  ⟨⟨oc, od, T, kV, doc, pm, an, cdv, ct, osl, _, tn, rfl, l, c, lT, by simp⟩, k, v⟩
theorem FunT.binds {x qual : Str} {st : Stmt} {its : List Value} {dvs : List V} {f : Addr} {fd : FuncData} {ps : List Str} {n m : Nat} (F : FunT K x qual st its dvs f fd) (hm : dvs.length = m)
    (h : ∀ (T : Addr) (kV doc pm : Value) (an : Option Addr) (cdv ct : Value) (us its : List Value), us.length = n → its.length = m →
      ∃ k, bindArgs (PySem.W.fnOf x qual (defArgs st) (defBody st) (defScope st) (.ref T) kV doc pm an cdv ct) ⟨us, []⟩ = seqItems? (.ref T) >>= k ∧ k (some its.toArray) = pure (ps.zip (us ++ its))) (hn : n + m = ps.length := by rfl) : Binds K fd ps its := by
  obtain ⟨oc, od, T, kV, doc, pm, an, cdv, ct, osl, o, nn, rfl, lk, hcd, lT, oT⟩ := F.ex
  intro s us X hl
  have e := F.v.length
  rw [List.length_append] at hl
  obtain ⟨k, e1, e2⟩ := h T kV doc pm an cdv ct us its (by omega) (by omega)
  refine BindsTo.of_looks fun M => ?_
  rw [e1]
  exact looks_items X lT oT (.of_pure e2)
end
section
variable {X : Cx} {s : Shared} {H : Hp} {sc : Scope} {ce : Env} {fp : List Addr}
theorem pi_listB {tg l : Expr} {tl : TE} (hl : PE (X.blk s H sc ce fp) l tl) : PI (X.blk s H sc ce fp) tg l (iList X.K tl) := pi_list hl
end
section
variable {K : PySem.W.Frag} {a D : Addr} {xs : List V} {g g1 : TG} {tt tt1 : TT} {te : TE} {wi1 : TI} {vs vs1 : List Nat} {σ : L2.St} {H1 : Hp} {Qd : Hp → Prop}
/-- the inner walk of a comprehension with two for -/
abbrev InT (D : Addr) (wi1 : TI) (g1 : TG) (tt1 : TT) (te : TE) (vs1 : List Nat) (Nx : Hp → Prop) (σ2 : L2.St) (H3 : Hp) : Prop := wi1 σ2 H3 fun J1 H4 => ∃ W1 : Nat → Nat → Hp → Prop, (∃ m, W1 0 m H4) ∧ ∀ j k H, W1 j k H →
  (J1.stop j H ∧ Nx H) ∨ (J1.go j H ∧ ∃ Nx1 : Hp → Prop, (∀ H', Nx1 H' → ∃ k', k' < k ∧ W1 (j + 1) k' H') ∧ ∀ x H', J1.yld j H x H' → g1 x (wipe σ2 vs1) H' fun σ3 H5 => wipe σ3 vs1 = wipe σ2 vs1 ∧ tt1 σ3 H5 fun b H6 =>
    if b = true then te σ3 H6 fun y H7 => ∃ acc, H7 D = some (.lst acc) ∧ acc.length < sizeLine ∧ Nx1 (upd H7 D (.lst (acc ++ [y]))) else Nx1 H6)
theorem lc2_list (Pv : Nat → Hp → Prop) (h0 : Pv 0 (upd H1 D (.lst []))) (hl : ∀ i H, i ≤ xs.length → Pv i H → SqL K H a xs)
    (hs : ∀ i x H, xs[i]? = some x → Pv i H → g x (wipe σ vs) H fun σ2 H2 => wipe σ2 vs = wipe σ vs ∧ tt σ2 H2 fun b H3 => if b = true then InT D wi1 g1 tt1 te vs1 (Pv (i + 1)) σ2 H3 else Pv (i + 1) H3) (hd : ∀ H, Pv xs.length H → Qd H) :
    ∃ W : Nat → Nat → Hp → Prop, (∃ m, W 0 m (upd H1 D (.lst []))) ∧ ∀ i m H, W i m H →
      ((Itl K a).stop i H ∧ Qd H) ∨ ((Itl K a).go i H ∧ ∃ Nx : Hp → Prop, (∀ H', Nx H' → ∃ m', m' < m ∧ W (i + 1) m' H') ∧ ∀ x H', (Itl K a).yld i H x H' → g x (wipe σ vs) H' fun σ2 H2 => wipe σ2 vs = wipe σ vs ∧ tt σ2 H2 fun b H3 =>
        if b = true then InT D wi1 g1 tt1 te vs1 Nx σ2 H3 else Nx H3) := by
  refine ⟨fun i m H => m + i = xs.length ∧ Pv i H, ⟨xs.length, rfl, h0⟩, ?_⟩
  rintro i m H ⟨im, p⟩
  have q := hl i H (by omega) p
  by_cases hlt : i < xs.length
  · refine .inr ⟨⟨xs, xs[i], q, by simp [hlt]⟩, Pv (i + 1), fun H' p' => ⟨m - 1, by omega, by omega, p'⟩, fun x H' y => ?_⟩
    obtain ⟨e, y⟩ := y
    subst e
    exact hs i x _ (y xs q) p
  · have e : i = xs.length := by omega
    subst e
    exact .inl ⟨⟨xs, q, Nat.le_refl _⟩, hd H p⟩
theorem lc_in {σ2 : L2.St} {H4 : Hp} {Nx : Hp → Prop} (Pv : Nat → Hp → Prop) (h0 : Pv 0 H4) (hl : ∀ i H, i ≤ xs.length → Pv i H → SqL K H a xs)
    (hs : ∀ i x H, xs[i]? = some x → Pv i H → g1 x (wipe σ2 vs1) H fun σ3 H5 => wipe σ3 vs1 = wipe σ2 vs1 ∧ tt1 σ3 H5 fun b H6 =>
      if b = true then te σ3 H6 fun y H7 => ∃ acc, H7 D = some (.lst acc) ∧ acc.length < sizeLine ∧ Pv (i + 1) (upd H7 D (.lst (acc ++ [y]))) else Pv (i + 1) H6) (hd : ∀ H, Pv xs.length H → Nx H) :
    ∃ W1 : Nat → Nat → Hp → Prop, (∃ m, W1 0 m H4) ∧ ∀ j k H, W1 j k H →
      ((Itl K a).stop j H ∧ Nx H) ∨ ((Itl K a).go j H ∧ ∃ Nx1 : Hp → Prop, (∀ H', Nx1 H' → ∃ k', k' < k ∧ W1 (j + 1) k' H') ∧ ∀ x H', (Itl K a).yld j H x H' → g1 x (wipe σ2 vs1) H' fun σ3 H5 => wipe σ3 vs1 = wipe σ2 vs1 ∧ tt1 σ3 H5 fun b H6 =>
        if b = true then te σ3 H6 fun y H7 => ∃ acc, H7 D = some (.lst acc) ∧ acc.length < sizeLine ∧ Nx1 (upd H7 D (.lst (acc ++ [y]))) else Nx1 H6) := by
  refine ⟨fun i m H => m + i = xs.length ∧ Pv i H, ⟨xs.length, rfl, h0⟩, ?_⟩
  rintro i m H ⟨im, p⟩
  have q := hl i H (by omega) p
  by_cases hlt : i < xs.length
  · refine .inr ⟨⟨xs, xs[i], q, by simp [hlt]⟩, Pv (i + 1), fun H' p' => ⟨m - 1, by omega, by omega, p'⟩, fun x H' y => ?_⟩
    obtain ⟨e, y⟩ := y
    subst e
    exact hs i x _ (y xs q) p
  · have e : i = xs.length := by omega
    subst e
    exact .inl ⟨⟨xs, q, Nat.le_refl _⟩, hd H p⟩
end
end LT

namespace LT
open PySem PySem.Spec PyProof.Rows L2
/-- the fewest stretches with the same entries as some that ascend -/
def jgo : Nat × Nat → List (Nat × Nat) → List (Nat × Nat)
  | cur, [] => [cur]
  | cur, x :: l => if x.1 ≤ cur.2 then jgo (cur.1, max cur.2 x.2) l else cur :: jgo x l
def jn : List (Nat × Nat) → List (Nat × Nat)
  | [] => []
  | x :: l => jgo x l
theorem jgo_len : ∀ (l : List (Nat × Nat)) (c : Nat × Nat), (jgo c l).length ≤ l.length + 1
  | [], c => Nat.le_refl _
  | x :: l, c => by
    unfold jgo
    split
    · have := jgo_len l (c.1, max c.2 x.2)
      show _ ≤ l.length + 1 + 1
      omega
    · have := jgo_len l x
      show (jgo x l).length + 1 ≤ l.length + 1 + 1
      omega
theorem jn_len (l : List (Nat × Nat)) : (jn l).length ≤ l.length := by
  cases l with
  | nil => exact Nat.le_refl _
  | cons x l => exact jgo_len l x
theorem jgo_mem : ∀ (l : List (Nat × Nat)) (c : Nat × Nat) (n : Nat), c.1 < c.2 → c.2 ≤ n → (∀ x ∈ l, x.1 < x.2 ∧ x.2 ≤ n) → ∀ y ∈ jgo c l, y.1 < y.2 ∧ y.2 ≤ n
  | [], c, n, h1, h2, _, y, hy => by
    rw [List.mem_singleton.mp hy]
    exact ⟨h1, h2⟩
  | x :: l, c, n, h1, h2, h, y, hy => by
    have hx := h x List.mem_cons_self
    unfold jgo at hy
    split at hy
    · exact jgo_mem l (c.1, max c.2 x.2) n (by show c.1 < max c.2 x.2; omega) (by show max c.2 x.2 ≤ n; omega) (fun z hz => h z (List.mem_cons_of_mem _ hz)) y hy
    · rcases List.mem_cons.mp hy with rfl | hy
      · exact ⟨h1, h2⟩
      · exact jgo_mem l x n hx.1 hx.2 (fun z hz => h z (List.mem_cons_of_mem _ hz)) y hy
theorem jn_mem {l : List (Nat × Nat)} {n : Nat} (h : ∀ x ∈ l, x.1 < x.2 ∧ x.2 ≤ n) : ∀ y ∈ jn l, y.1 < y.2 ∧ y.2 ≤ n := by
  cases l with
  | nil => exact fun y hy => absurd hy (by simp [jn])
  | cons x l =>
    have hx := h x List.mem_cons_self
    exact jgo_mem l x n hx.1 hx.2 fun z hz => h z (List.mem_cons_of_mem _ hz)
theorem nds_eqvAll : ∀ l k : List (Nat × Nat), PyData.eqvAll (l.map nd) (k.map nd) = decide (l = k)
  | [], [] => by simp [PyData.eqvAll]
  | [], y :: k => by simp [PyData.eqvAll]
  | x :: l, [] => by simp [PyData.eqvAll]
  | x :: l, y :: k => by
    have e : PyData.eqvAll ((x :: l).map nd) ((y :: k).map nd) = (PyData.eqv (nd x) (nd y) && PyData.eqvAll (l.map nd) (k.map nd)) := by simp only [List.map_cons, PyData.eqvAll]
    rw [e, nds_eqvAll l k]
    unfold nd
    rw [nd_eqv]
    by_cases h : x = y
    · subst h
      simp
    · have : ¬ ((x.1 : Int) = (y.1 : Int) ∧ (x.2 : Int) = (y.2 : Int)) := fun z => h (Prod.ext (by omega) (by omega))
      have e2 : (decide ((x.1 : Int) = (y.1 : Int)) && decide ((x.2 : Int) = (y.2 : Int))) = false := by
        rw [Bool.and_eq_false_iff]
        by_cases h1 : (x.1 : Int) = (y.1 : Int)
        · exact .inr (decide_eq_false fun z => this ⟨h1, z⟩)
        · exact .inl (decide_eq_false h1)
      rw [e2]
      simp [h]
theorem nds_eqv (l k : List (Nat × Nat)) : PyData.eqv (.list (l.map nd)) (.list (k.map nd)) = decide (l = k) := by
  have e : PyData.eqv (.list (l.map nd)) (.list (k.map nd)) = PyData.eqvAll (l.map nd) (k.map nd) := by simp only [PyData.eqv]
  rw [e, nds_eqvAll]
section
variable {P : Program} {w : World} {K : PySem.W.Frag} {mg : Str → Option Value} {base : Heap}
def spCheckNodes : Sp := fun vs H Q _ => ∃ (n : Nat) (p : Addr) (xs : List V) (S : List (Nat × Nat)), vs = [.int n, .ref p, .int 1, .int 60] ∧ 1 ≤ n ∧ n ≤ 10 ^ 30 ∧ H p = some (.lst xs) ∧ All2 (Nd H) xs S ∧ 1 ≤ S.length ∧ S.length ≤ 60 ∧ (∀ x ∈ S, isN n x) ∧ ∀ H', Same H H' → Q .non H'
theorem ok_check_nodes {f g1 g2 : Addr} {fd d1 d2 : FuncData} {its : List Value} {dvs : List V} (F : FunT K "check_nodes" "check_nodes" sCheckNodes its dvs f fd) (GIsListOf : FnOk P w K mg base CX0 1 g1 d1 ["value", "least", "most"] spListOf) (AIsListOf : At K mg "is_list_of" g1 d1 ["value", "least", "most"])
    (GIsTreeNode : FnOk P w K mg base CX0 3 g2 d2 ["size", "value"] (spTreeV K)) (AIsTreeNode : At K mg "is_tree_node" g2 d2 ["size", "value"]) (z_enumerate : mg "enumerate" = none) : FnOk P w K mg base CX0 4 f fd ["size", "nodes", "least", "most"] spCheckNodes := by
  refine F.ok scCheckNodes (fun vs H Q E h => ?_) (fun cdv A outer s H vs Q E hr h => ?_)
  · obtain ⟨_, _, _, _, rfl, _⟩ := h
    rfl
  obtain ⟨n, p, xs, S, rfl, n1, h30, hp, hx, l1, l60, hS, q⟩ := h
  refine ⟨_, (pss_cons (ps_if (pt_not (pt_val (pe_call GIsListOf (hr.mono (by decide)) rfl AIsListOf.m AIsListOf.kp AIsListOf.b .nil pass0 (pa_cons (pv 1) (pa_cons (pv 2) (pa_cons (pv 3) pa_nil))))))
    (pss_one ps_never)
    pss_nil)
    (pss_one (ps_for PassesOwn.never rfl (pi_enum (by rfl) z_enumerate (pa_cons (pv 1) pa_nil)) (pg_tup (by rfl) (pgs_cons (pg_name (i := 4) scCheckNodes.nd rfl (Or.inl rfl)) (pgs_cons (pg_name (i := 5) scCheckNodes.nd rfl (Or.inl rfl)) pgs_nil)))
    (pss_one (ps_if (pt_not (pt_val (pe_call GIsTreeNode (hr.mono (by decide)) rfl AIsTreeNode.m AIsTreeNode.kp AIsTreeNode.b .nil pass0 (pa_cons (pv 0) (pa_cons (pv 5) pa_nil)))))
    (pss_one ps_never)
    pss_nil))))), ?_⟩
  have xl := hx.len
  refine ⟨_, rfl, _, rfl, _, rfl, p, xs, 1, 60, rfl, hp, by omega, by omega, true, rfl, ?_⟩
  refine ⟨_, rfl, p, xs, rfl, SqL.of hp, ?_⟩
  refine for_enum (a := p) (xs := xs) (fun i σ H' => ∃ (v4 v5 : Option V), σ = [some (.int (n : Int)), some (.ref p), some (.int 1), some (.int 60), v4, v5] ∧ Same H H')
    ⟨none, none, rfl, Same.refl _⟩ (fun i σ H' _ ⟨_, _, _, sm⟩ => SqL.of (sm _ _ hp)) ?_ ?_
  · rintro i x σ H2 T hi ⟨v4, v5, rfl, sm⟩ nT
    obtain ⟨y, hyi, hy⟩ := hx.nth hi
    have sT := same_upd (o := .tup [.int ((i : Nat) : Int), x]) nT
    have hy2 := (hy.same sm).same sT
    obtain ⟨yp, rfl, hyp⟩ := id hy2
    refine ⟨T, _, rfl, SqT.of upd_same, rfl, _, _, rfl, _, _, rfl, rfl, ?_⟩
    refine ⟨_, rfl, _, rfl, n, _, true, rfl, n1, by omega, ?_, true, rfl, ?_⟩
    · have e : tnV n (.int (y.1 : Int)) (.int (y.2 : Int)) = true := by
        rw [tn_nat]
        exact decide_eq_true (hS y (List.mem_of_getElem? hyi))
      exact e ▸ Ask.pair (n := n) hyp (.int _) (.int _)
    · exact ⟨_, _, rfl, sm.trans sT⟩
  · rintro σ H2 ⟨v4, v5, rfl, sm⟩
    exact q H2 sm
def spJoined : Sp := fun vs H Q _ => ∃ (p : Addr) (xs : List V) (S : List (Nat × Nat)), vs = [.ref p] ∧ H p = some (.lst xs) ∧ All2 (Nd H) xs S ∧ S.length ≤ 400 ∧
  ∀ (H' : Hp) (r : Addr) (ys : List V), Same H H' → H r = none → H' r = some (.lst ys) → All2 (Nd H') ys (jn (srt S)) → Q (.ref r) H'
theorem ok_joined {f : Addr} {fd : FuncData} (F : Fun K "joined" "joined" sJoined f fd) (z_sorted : mg "sorted" = none) (z_max : mg "max" = none) : FnOk P w K mg base CX0 1 f fd ["stretches"] spJoined := by
  refine F.ok scJoined (fun vs H Q E h => ?_) (fun cdv A outer s H vs Q E hr h => ?_)
  · obtain ⟨_, _, _, rfl, _⟩ := h
    rfl
  obtain ⟨p, xs, S, rfl, hp, hx, l400, q⟩ := h
  refine ⟨_, (pss_cons (ps_set (i := 1) scJoined.nd rfl (Or.inl rfl) (pe_lst pa_nil))
    (pss_cons (ps_for PassesOwn.never rfl (pi_list (pe_callB cr_sortedPO (by rfl) z_sorted (by decide +kernel) (pa_cons (pv 0) pa_nil))) (pg_tup (by rfl) (pgs_cons (pg_name (i := 2) scJoined.nd rfl (Or.inl rfl)) (pgs_cons (pg_name (i := 3) scJoined.nd rfl (Or.inl rfl)) pgs_nil)))
    (pss_one (ps_if (PW.pt (pw_and (pt_truth (pv 1) (fun _ => rfl)) (pw_and1 (pt_cmpR op_le (pv 2) (pe_ix ix_tup (pe_ix ix_list (pv 1) (pe_un un_neg pe_int) (fun _ _ => rfl)) pe_int (fun _ _ => rfl)) (nomark _)))))
    (pss_cons (ps_asg (pe_bm0 PySem.F.plainAttrs_list PySem.F.slot_list_pop PySem.F.type_list_pop mt_pop (pv 1)) (pg_tup (by rfl) (pgs_cons (pg_name (i := 4) scJoined.nd rfl (Or.inl rfl)) (pgs_cons (pg_name (i := 5) scJoined.nd rfl (Or.inl rfl)) pgs_nil))))
    (pss_one (ps_expr (pe_bm PySem.F.plainAttrs_list PySem.F.slot_list_append PySem.F.type_list_append mt_append (pv 1) (pa_cons (pe_tup (pa_cons (pv 4) (pa_cons (pe_callB (call_max2 rfl) (by rfl) z_max (by decide +kernel) (pa_cons (pv 5) (pa_cons (pv 3) pa_nil))) pa_nil))) pa_nil)))))
    (pss_one (ps_expr (pe_bm PySem.F.plainAttrs_list PySem.F.slot_list_append PySem.F.type_list_append mt_append (pv 1) (pa_cons (pe_tup (pa_cons (pv 2) (pa_cons (pv 3) pa_nil))) pa_nil)))))))
    (pss_one (ps_ret (pv 1))))), ?_⟩
  refine ⟨Nat.zero_le _, fun fa nf => ?_⟩
  have s2 := same_upd (o := .lst []) nf
  have hx2 := hx.mono (fun v x (k : Nd H v x) => k.same s2)
  have hp2 := s2 _ _ hp
  have hf2 : (upd H fa (.lst [])) fa = some (.lst []) := upd_same
  generalize upd H fa (.lst []) = H2 at s2 hx2 hp2 hf2
  refine ⟨_, rfl, p, xs, kOf H2, rfl, SqL.of hp2, fun x hm => ?_, fun ys so hs1 hs2 nso => ?_⟩
  · obtain ⟨y, _, pa, rfl, hpa⟩ := hx2.mem hm
    exact ⟨pa, rfl, by rw [hpa]; simp only [kOf, hpa]⟩
  have s3 := same_upd (o := .lst ys) nso
  have hy0 := (sorted_srt hx2 hs1 hs2.perm).mono (fun v x (k : Nd H2 v x) => k.same s3)
  have hso : (upd H2 so (.lst ys)) so = some (.lst ys) := upd_same
  have hf3 := s3 _ _ hf2
  have sof : so ≠ fa := fun z => by rw [z, hf2] at nso; cases nso
  have s03 := s2.trans s3
  have tl : (srt S).length ≤ 400 := by rw [srt_len]; exact l400
  generalize srt S = T at q hy0 tl
  generalize upd H2 so (.lst ys) = H3 at s3 hso hf3 hy0 s03
  have yl := hy0.len
  refine ⟨so, rfl, ⟨_, SqL.of hso⟩, for_list (K := K) (a := so) (xs := ys) (fun i σ H' => ∃ (v2 v3 v4 v5 : Option V) (zs : List V) (D : List (Nat × Nat)), σ = [some (.ref p), some (.ref fa), v2, v3, v4, v5] ∧ Same H H' ∧ But fa H3 H' ∧ H' fa = some (.lst zs) ∧ All2 (Nd H') zs D ∧ D.length ≤ i ∧
      ((i = 0 ∧ D = []) ∨ ∃ (done : List (Nat × Nat)) (c : Nat × Nat), D = done ++ [c] ∧ jn T = done ++ jgo c (T.drop i)))
    ⟨none, none, none, none, [], [], rfl, s03, But.refl _ _, hf3, .nil, Nat.le_refl _, .inl ⟨rfl, rfl⟩⟩ (fun i σ H' _ ⟨_, _, _, _, _, _, _, _, k, _⟩ => SqL.of (k _ _ sof hso)) ?_ ?_⟩
  · rintro i v σ H4 hi ⟨v2, v3, v4, v5, zs, D, rfl, sm, B4, hf, hz, dl, hd⟩
    obtain ⟨x, hxi, pv, rfl, hpv⟩ := hy0.nth hi
    have hdr : T.drop i = x :: T.drop (i + 1) := by
      obtain ⟨hl, hxe⟩ := List.getElem?_eq_some_iff.mp hxi
      rw [List.drop_eq_getElem_cons hl, hxe]
    have il : i < 400 := by
      have := (List.getElem?_eq_some_iff.mp hxi).1
      omega
    have pvf : pv ≠ fa := fun z => by rw [z, hf3] at hpv; cases hpv
    have hpv4 := B4 _ _ pvf hpv
    refine ⟨pv, _, rfl, SqT.of hpv4, rfl, _, _, rfl, _, _, rfl, rfl, ?_⟩
    have two : 2 ≤ sizeLine := by decide
    have step : ∀ (D2 : List (Nat × Nat)) (zs2 : List V) (H5 : Hp) (y : Nat × Nat) (t : Addr), Same H H5 → But fa H3 H5 → H5 fa = some (.lst zs2) → All2 (Nd H5) zs2 D2 → H5 t = none →
        let H6 := upd (upd H5 t (.tup [.int (y.1 : Int), .int (y.2 : Int)])) fa (.lst (zs2 ++ [.ref t]))
        Same H H6 ∧ But fa H3 H6 ∧ H6 fa = some (.lst (zs2 ++ [.ref t])) ∧ All2 (Nd H6) (zs2 ++ [.ref t]) (D2 ++ [y]) := by
      intro D2 zs2 H5 y t a1 a2 a3 a4 a5
      have w1 := same_upd (o := .tup [.int (y.1 : Int), .int (y.2 : Int)]) a5
      have f1 := w1 _ _ a3
      have tf : t ≠ fa := fun z => by rw [z, a3] at a5; cases a5
      refine ⟨fun u o k => by rw [upd_ne (ne_of_none k nf)]; exact w1 _ _ (a1 _ _ k), fun u o n k => by rw [upd_ne n]; exact w1 _ _ (a2 u o n k), upd_same, ?_⟩
      exact (a4.mono (fun v x (k : Nd H5 v x) => (k.same w1).upd f1)).app (.cons ⟨t, rfl, by rw [upd_ne tf, upd_same]⟩ .nil)
    rcases hd with ⟨i0, rfl⟩ | ⟨done, c, rfl, hj⟩
    · cases hz
      refine ⟨_, rfl, false, .inl ⟨[], SqL.of hf, rfl⟩, ?_⟩
      refine ⟨_, rfl, .inl ⟨rfl, _, SqL.of hf⟩, _, rfl, _, rfl, two, fun t nt => ?_⟩
      obtain ⟨b1, b2, b3, b4⟩ := step [] [] H4 x t sm B4 hf .nil nt
      refine ⟨fa, [], _, rfl, rfl, same_upd nt _ _ hf, szlt (by decide), ?_⟩
      refine ⟨_, _, _, _, [] ++ [.ref t], [x], rfl, b1, b2, b3, b4, by show 1 ≤ i + 1; omega, .inr ⟨[], x, rfl, ?_⟩⟩
      subst i0
      rw [List.drop_zero] at hdr
      rw [hdr]
      rfl
    · obtain ⟨zs0, zc, rfl, hz0, hzc⟩ : ∃ (zs0 : List V) (zc : V), zs = zs0 ++ [zc] ∧ All2 (Nd H4) zs0 done ∧ Nd H4 zc c := by
        have := hz.rev
        rw [List.reverse_append] at this
        generalize hzr : zs.reverse = zr at this
        cases this with
        | @cons v _ vs _ h r =>
          refine ⟨vs.reverse, v, ?_, ?_, h⟩
          · rw [← List.reverse_reverse zs, hzr, List.reverse_cons]
          · have r2 : All2 (Nd H4) vs.reverse (done.reverse).reverse := r.rev
            rwa [List.reverse_reverse] at r2
      obtain ⟨cp, rfl, hcp⟩ := hzc
      rw [hdr] at hj
      have hz9 : done.length + 1 ≤ 400 := by
        rw [List.length_append] at dl
        have : ([c] : List (Nat × Nat)).length = 1 := rfl
        omega
      refine ⟨_, rfl, true, .inl ⟨_, SqL.of hf, by cases zs0 <;> rfl⟩, ?_⟩
      refine ⟨_, rfl, _, rfl, _, rfl, fa, _, _, _, rfl, rfl, SqL.of hf, atI_last _ _, cp, _, _, _, rfl, rfl, SqT.of hcp, atI_nat (j := 1) rfl, _, _, rfl, rfl, ?_⟩
      by_cases le : x.1 ≤ c.2
      · refine ⟨true, congrArg V.bl (decide_eq_true (by omega)), ?_⟩
        refine ⟨_, rfl, .inl ⟨rfl, _, SqL.of hf⟩, fa, _, .ref cp, rfl, rfl, hf, by simp, ?_⟩
        have e1 : jn T = done ++ jgo (c.1, max c.2 x.2) (T.drop (i + 1)) := by
          rw [hj]
          show done ++ jgo c (x :: T.drop (i + 1)) = _
          rw [jgo, if_pos le]
        rw [List.dropLast_concat]
        have p1 : Same H (upd H4 fa (.lst zs0)) := fun u o k => by rw [upd_ne (ne_of_none k nf)]; exact sm _ _ k
        have p2 : But fa H3 (upd H4 fa (.lst zs0)) := fun u o n k => by rw [upd_ne n]; exact B4 u o n k
        have p3 : (upd H4 fa (.lst zs0)) fa = some (.lst zs0) := upd_same
        have p4 : All2 (Nd (upd H4 fa (.lst zs0))) zs0 done := hz0.mono (fun v x (k : Nd H4 v x) => k.upd hf)
        have p5 : (upd H4 fa (.lst zs0)) cp = some (.tup [.int (c.1 : Int), .int (c.2 : Int)]) := by
          rw [upd_ne (ne_of hcp hf (by intro z; cases z))]
          exact hcp
        generalize upd H4 fa (.lst zs0) = H5 at p1 p2 p3 p4 p5 ⊢
        refine ⟨cp, _, rfl, SqT.of p5, rfl, _, _, rfl, _, _, rfl, rfl, ?_⟩
        refine ⟨_, rfl, .inl ⟨rfl, _, SqL.of p3⟩, _, rfl, _, rfl, _, rfl, _, _, rfl, two, fun t nt => ?_⟩
        rw [max_castB]
        obtain ⟨b1, b2, b3, b4⟩ := step done zs0 H5 (c.1, max c.2 x.2) t p1 p2 p3 p4 nt
        refine ⟨fa, zs0, _, rfl, rfl, same_upd nt _ _ p3, szlt (by rw [p4.len]; omega), ?_⟩
        refine ⟨_, _, _, _, zs0 ++ [.ref t], done ++ [(c.1, max c.2 x.2)], rfl, b1, b2, b3, b4, ?_, .inr ⟨done, _, rfl, e1⟩⟩
        rw [List.length_append] at dl ⊢
        exact Nat.le_succ_of_le dl
      · refine ⟨false, congrArg V.bl (decide_eq_false (by omega)), ?_⟩
        have e1 : jn T = (done ++ [c]) ++ jgo x (T.drop (i + 1)) := by
          rw [hj, List.append_assoc]
          show done ++ jgo c (x :: T.drop (i + 1)) = _
          rw [jgo, if_neg le]
          rfl
        refine ⟨_, rfl, .inl ⟨rfl, _, SqL.of hf⟩, _, rfl, _, rfl, two, fun t nt => ?_⟩
        obtain ⟨b1, b2, b3, b4⟩ := step _ _ H4 x t sm B4 hf hz nt
        refine ⟨fa, _, _, rfl, rfl, same_upd nt _ _ hf, szlt (by rw [hz.len, List.length_append]; show done.length + 1 < 100000; omega), ?_⟩
        refine ⟨_, _, _, _, _, done ++ [c] ++ [x], rfl, b1, b2, b3, b4, ?_, .inr ⟨done ++ [c], _, rfl, e1⟩⟩
        rw [List.length_append]
        exact Nat.succ_le_succ dl
  · rintro σ H4 ⟨v2, v3, v4, v5, zs, D, rfl, sm, B4, hf, hz, dl, hd⟩
    refine ⟨_, rfl, q H4 fa zs sm nf hf ?_⟩
    rw [yl, List.drop_length] at hd
    rcases hd with ⟨e, rfl⟩ | ⟨done, c, rfl, e⟩
    · have : T = [] := List.eq_nil_of_length_eq_zero (by omega)
      subst this
      exact hz
    · rw [e]
      exact hz
def spCheckK : Sp := fun vs H Q _ => ∃ (n : Nat) (p : Addr) (xs : List V) (S : List (Nat × Nat)), vs = [.int n, .ref p] ∧ 1 ≤ n ∧ n ≤ 10 ^ 30 ∧ H p = some (.lst xs) ∧ All2 (Nd H) xs S ∧ 1 ≤ S.length ∧ S.length ≤ 60 ∧ (∀ x ∈ S, isN n x) ∧ ∀ H', Same H H' → Q .non H'
theorem ok_check {f g1 g2 : Addr} {fd d1 d2 : FuncData} {ds : List Value} (F : Fun K "_check" "_check" sCheck f fd) (GCheckSize : FnOk P w K mg base CX0 3 g1 d1 ["size"] spCheckSize) (ACheckSize : At K mg "check_size" g1 d1 ["size"])
    (GCheckNodes : FnOk P w K mg base CX0 4 g2 d2 ["size", "nodes", "least", "most"] spCheckNodes) (ACheckNodes : AtT K mg "check_nodes" g2 d2 ["size", "nodes", "least", "most"] ds [.int 1, .int 60]) : FnOk P w K mg base CX0 5 f fd ["size", "nodes"] spCheckK := by
  refine F.ok scCheck (fun vs H Q E h => ?_) (fun cdv A outer s H vs Q E hr h => ?_)
  · obtain ⟨_, _, _, _, rfl, _⟩ := h
    rfl
  obtain ⟨n, p, xs, S, rfl, n1, h30, hp, hx, l1, l60, hS, q⟩ := h
  refine ⟨_, (pss_cons (ps_expr (pe_call GCheckSize (hr.mono (by decide)) rfl ACheckSize.m ACheckSize.kp ACheckSize.b .nil pass0 (pa_cons (pv 0) pa_nil)))
    (pss_one (ps_expr (pe_call GCheckNodes (hr.mono (by decide)) rfl ACheckNodes.m ACheckNodes.kp ACheckNodes.b ACheckNodes.v pass0 (pa_cons (pv 0) (pa_cons (pv 1) pa_nil)))))), ?_⟩
  refine ⟨_, rfl, _, rfl, by omega, by omega, _, rfl, _, rfl, n, p, xs, S, rfl, n1, h30, hp, hx, l1, l60, hS, q⟩
def tps (n : Nat) (l : List (Nat × Nat)) : List (Nat × Nat) := l.flatMap fun x => nw n x.1 x.2
theorem tps_len {n : Nat} : ∀ (l : List (Nat × Nat)), (∀ x ∈ l, x.2 ≤ 2 ^ 100) → (tps n l).length ≤ 202 * l.length
  | [], _ => Nat.le_refl _
  | x :: l, h => by
    have a := nw_len (n := n) (b := x.1) (h x List.mem_cons_self)
    have b := tps_len (n := n) l fun y hy => h y (List.mem_cons_of_mem _ hy)
    show (nw n x.1 x.2 ++ tps n l).length ≤ 202 * (l.length + 1)
    rw [List.length_append]
    omega
def spTopsK : Sp := fun vs H Q _ => ∃ (n : Nat) (p : Addr) (xs : List V) (S : List (Nat × Nat)), vs = [.int n, .ref p] ∧ 1 ≤ n ∧ n ≤ 10 ^ 30 ∧ H p = some (.lst xs) ∧ All2 (Nd H) xs S ∧ 1 ≤ S.length ∧ S.length ≤ 60 ∧ (∀ x ∈ S, isN n x) ∧
  ∀ (H' : Hp) (r : Addr) (ys : List V), Same H H' → H r = none → H' r = some (.lst ys) → All2 (Nd H') ys (tps n (jn (srt S))) → Q (.ref r) H'
theorem ok_known_tops {f g1 g2 g3 : Addr} {fd d1 d2 d3 : FuncData} (F : Fun K "known_tops" "known_tops" sKnownTops f fd) (GCheck : FnOk P w K mg base CX0 5 g1 d1 ["size", "nodes"] spCheckK) (ACheck : At K mg "_check" g1 d1 ["size", "nodes"])
    (GJoined : FnOk P w K mg base CX0 1 g2 d2 ["stretches"] spJoined) (AJoined : At K mg "joined" g2 d2 ["stretches"])
    (GNodesWithin : FnOk P w K mg base CX0 4 g3 d3 ["size", "begin", "end"] spWithinX) (ANodesWithin : At K mg "nodes_within" g3 d3 ["size", "begin", "end"]) : FnOk P w K mg base CX0 6 f fd ["size", "nodes"] spTopsK := by
  refine F.ok scKnownTops (fun vs H Q E h => ?_) (fun cdv A outer s H vs Q E hr h => ?_)
  · obtain ⟨_, _, _, _, rfl, _⟩ := h
    rfl
  obtain ⟨n, p, xs, S, rfl, n1, h30, hp, hx, l1, l60, hS, q⟩ := h
  refine' ⟨_, (pss_cons (ps_expr (pe_call GCheck (hr.mono (by decide)) rfl ACheck.m ACheck.kp ACheck.b .nil pass0 (pa_cons (pv 0) (pa_cons (pv 1) pa_nil))))
    (pss_one (ps_ret (pe_lc2 (own := [("begin", 2), ("end", 3), ("top", 4)]) (vs1 := [4]) rfl scKnownTops.nd (pi_list (pe_call GJoined (hr.mono (by decide)) rfl AJoined.m AJoined.kp AJoined.b .nil pass0 (pa_cons (pv 1) pa_nil))) (blkOk_by (N := ["size", "nodes", "begin", "end", "top"]) (sc := defScope sKnownTops) (by decide +kernel)) (by decide) (fun _ _ _ _ _ => (pg_tupB (n := 2) rfl (pgs_cons (pg_name (i := 2) scKnownTops.nd rfl (Or.inl rfl)) (pgs_cons (pg_name (i := 3) scKnownTops.nd rfl (Or.inl rfl)) pgs_nil)))) (fun _ _ _ _ _ => pts_nil) (fun _ _ _ _ _ => (pi_listB (pe_call GNodesWithin (hr.mono (by decide)) rfl ANodesWithin.m ANodesWithin.kp ANodesWithin.b .nil pass0 (pa_cons (pv 0) (pa_cons (pv 2) (pa_cons (pv 3) pa_nil)))))) (fun _ _ _ _ _ => (pg_name (i := 4) scKnownTops.nd rfl (Or.inl rfl))) (fun _ _ _ _ _ => pts_nil) (fun _ _ _ _ _ => (pv 4)))))), ?_⟩
  refine ⟨_, rfl, _, rfl, n, p, xs, S, rfl, n1, h30, hp, hx, l1, l60, hS, fun H1 s1 => ?_⟩
  refine ⟨_, rfl, p, xs, S, rfl, s1 _ _ hp, hx.mono (fun v x (k : Nd H v x) => k.same s1), by omega, fun H2 r ys s2 nr hr2 hy => ?_⟩
  have hb : ∀ x ∈ jn (srt S), x.1 < x.2 ∧ x.2 ≤ n := jn_mem fun x hx => by
    obtain ⟨a, b, _⟩ := isN_tree (hS x (srt_mem.mp hx))
    exact ⟨a, b⟩
  have len : (jn (srt S)).length ≤ 60 := by
    have := jn_len (srt S)
    rw [srt_len] at this
    omega
  have tot := tps_len (n := n) (jn (srt S)) fun x hx => by have := (hb x hx).2; omega
  generalize jn (srt S) = T at hb len tot hy q
  have s02 := s1.trans s2
  refine ⟨r, rfl, ⟨_, SqL.of hr2⟩, fun D nD => ?_⟩
  have yl := hy.len
  refine lc2_list (K := K) (a := r) (xs := ys) (fun i H' => ∃ (zs : List V), Same H2 H' ∧ H' D = some (.lst zs) ∧ All2 (Nd H') zs (tps n (T.take i))) ⟨[], same_upd nD, upd_same, .nil⟩ (fun i H' _ ⟨_, sm, _⟩ => SqL.of (sm _ _ hr2)) ?_ ?_
  · rintro i v H4 hi ⟨zs, sm, hD, hz⟩
    obtain ⟨x, hxi, pv, rfl, hpv⟩ := hy.nth hi
    have hpv4 := sm _ _ hpv
    obtain ⟨x1, x2⟩ := hb x (List.mem_of_getElem? hxi)
    refine ⟨pv, _, rfl, SqT.of hpv4, rfl, _, _, rfl, _, _, rfl, rfl, rfl, ?_⟩
    refine ⟨_, rfl, _, rfl, _, rfl, n, x.1, x.2, rfl, n1, by omega, x2, by omega, fun H5 r2 us s5 nr5 hr5 hu => ⟨r2, rfl, ⟨_, SqL.of hr5⟩, ?_⟩⟩
    have hD5 := s5 _ _ hD
    have rD : r2 ≠ D := fun z => by rw [z, hD] at nr5; cases nr5
    have etake : tps n (T.take (i + 1)) = tps n (T.take i) ++ nw n x.1 x.2 := by
      rw [take_more hxi]
      unfold tps
      rw [List.flatMap_append]
      simp
    have lenU : (tps n (T.take i)).length + (nw n x.1 x.2).length ≤ 202 * 60 := by
      have := tps_len (n := n) (T.take (i + 1)) fun x hx => by have := (hb x (List.mem_of_mem_take hx)).2; omega
      rw [etake, List.length_append, List.length_take] at this
      omega
    generalize tps n (T.take i) = A0 at hz etake lenU
    generalize nw n x.1 x.2 = L at hu etake lenU
    refine lc_in (K := K) (a := r2) (xs := us) (fun j H' => ∃ (ws : List V), Same H2 H' ∧ H' r2 = some (.lst us) ∧ All2 (Nd H') us L ∧ H' D = some (.lst ws) ∧ All2 (Nd H') ws (A0 ++ L.take j))
      ⟨zs, sm.trans s5, hr5, hu, hD5, by rw [List.take_zero, List.append_nil]; exact hz.mono fun v x (k : Nd H4 v x) => k.same s5⟩ (fun j H' _ ⟨_, _, hr, _⟩ => SqL.of hr) ?_ ?_
    · rintro j u H6 hj ⟨ws, sm6, hr6, hu6, hD6, hw6⟩
      obtain ⟨y, hyj, hy6⟩ := hu6.nth hj
      have jl : j < L.length := (List.getElem?_eq_some_iff.mp hyj).1
      refine ⟨rfl, ?_⟩
      refine ⟨_, rfl, ws, hD6, szlt (by rw [hw6.len, List.length_append, List.length_take]; omega), ws ++ [u], ?_, ?_, ?_, upd_same, ?_⟩
      · exact fun a o k => by rw [upd_ne (ne_of_none k nD)]; exact sm6 _ _ k
      · rw [upd_ne rD]
        exact hr6
      · exact hu6.mono fun v x (k : Nd H6 v x) => k.upd hD6
      · rw [take_more hyj, ← List.append_assoc]
        exact (hw6.mono fun v x (k : Nd H6 v x) => k.upd hD6).app (.cons (hy6.upd hD6) .nil)
    · rintro H6 ⟨ws, sm6, hr6, hu6, hD6, hw6⟩
      refine ⟨ws, sm6, hD6, ?_⟩
      rw [hu6.len, List.take_length] at hw6
      rw [etake]
      exact hw6
  · rintro H4 ⟨zs, sm, hD, hz⟩
    rw [yl, List.take_length] at hz
    exact q H4 D zs (s02.trans sm) (s02.free nD) hD hz
def spMissing : Sp := fun vs H Q _ => ∃ (n : Nat) (p : Addr) (xs : List V) (S : List (Nat × Nat)), vs = [.int n, .ref p] ∧ 1 ≤ n ∧ n ≤ 10 ^ 30 ∧ H p = some (.lst xs) ∧ All2 (Nd H) xs S ∧ 1 ≤ S.length ∧ S.length ≤ 60 ∧ (∀ x ∈ S, isN n x) ∧
  ∀ (H' : Hp) (r : Addr) (ys : List V), Same H H' → H r = none → H' r = some (.lst ys) → All2 (Nd H') ys (nb n 0 (srt S)) → Q (.ref r) H'
theorem ok_missing {f g1 g2 : Addr} {fd d1 d2 : FuncData} (F : Fun K "missing" "missing" sMissing f fd) (GCheck : FnOk P w K mg base CX0 5 g1 d1 ["size", "nodes"] spCheckK) (ACheck : At K mg "_check" g1 d1 ["size", "nodes"])
    (GNodesBeside : FnOk P w K mg base CX0 5 g2 d2 ["size", "stretches"] spBeside) (ANodesBeside : At K mg "nodes_beside" g2 d2 ["size", "stretches"]) : FnOk P w K mg base CX0 6 f fd ["size", "nodes"] spMissing := by
  refine F.ok scMissing (fun vs H Q E h => ?_) (fun cdv A outer s H vs Q E hr h => ?_)
  · obtain ⟨_, _, _, _, rfl, _⟩ := h
    rfl
  obtain ⟨n, p, xs, S, rfl, n1, h30, hp, hx, l1, l60, hS, q⟩ := h
  refine ⟨_, (pss_cons (ps_expr (pe_call GCheck (hr.mono (by decide)) rfl ACheck.m ACheck.kp ACheck.b .nil pass0 (pa_cons (pv 0) (pa_cons (pv 1) pa_nil))))
    (pss_one (ps_ret (pe_call GNodesBeside (hr.mono (by decide)) rfl ANodesBeside.m ANodesBeside.kp ANodesBeside.b .nil pass0 (pa_cons (pv 0) (pa_cons (pv 1) pa_nil)))))), ?_⟩
  refine ⟨_, rfl, _, rfl, n, p, xs, S, rfl, n1, h30, hp, hx, l1, l60, hS, fun H1 s1 => ?_⟩
  refine ⟨_, rfl, _, rfl, n, p, xs, S, rfl, n1, h30, s1 _ _ hp, hx.mono (fun v x (k : Nd H v x) => k.same s1), by omega, fun x hx => ?_, fun H2 r ys s2 nr hr2 hy => ?_⟩
  · obtain ⟨a, b, _⟩ := isN_tree (hS x hx)
    omega
  exact q H2 r ys (s1.trans s2) (s1.free nr) hr2 hy
end
end LT

namespace LT
open PySem PySem.Spec PyProof.Rows L2
def isHalfP (B M : Nat) (x : Nat × Nat) : Prop := x = (B, B + gp M) ∨ x = (B + gp M, B + M)
def wayL (b m : Nat) (x : Nat × Nat) : List (Nat × Nat) :=
  if h : m ≤ 1 then [(b, b + m)] else
    if x = (b, b + m) then [(b, b + m)] else
      if x.1 < b + gp m then (b, b + m) :: wayL b (gp m) x else (b, b + m) :: wayL (b + gp m) (m - gp m) x
termination_by m
decreasing_by
  · exact gp_lt (by omega)
  · have := gp_pos m; omega
theorem wayL_here {b m : Nat} {x : Nat × Nat} (h : x = (b, b + m)) : wayL b m x = [x] := by
  rw [wayL, ← h]
  simp
theorem wayL_low {b m : Nat} {x : Nat × Nat} (h : 2 ≤ m) (c : x ≠ (b, b + m)) (k : x.1 < b + gp m) : wayL b m x = (b, b + m) :: wayL b (gp m) x := by
  rw [wayL, dif_neg (by omega), if_neg c, if_pos k]
theorem wayL_high {b m : Nat} {x : Nat × Nat} (h : 2 ≤ m) (c : x ≠ (b, b + m)) (k : ¬ x.1 < b + gp m) : wayL b m x = (b, b + m) :: wayL (b + gp m) (m - gp m) x := by
  rw [wayL, dif_neg (by omega), if_neg c, if_neg k]
/-- a node within a node of two entries or more that is not it lies in a half -/
theorem in_half {n b m : Nat} {x : Nat × Nat} (hm : 1 ≤ m) (t : tree n b m) (hn : b + m ≤ n) (hx : isN n x) (h1 : b ≤ x.1) (h2 : x.2 ≤ b + m) (c : x ≠ (b, b + m)) :
    2 ≤ m ∧ (x.1 < b + gp m → x.2 ≤ b + gp m) := by
  have k := hx.1
  have m2 : 2 ≤ m := by
    by_cases z : m = 1
    · subst z
      exact absurd (Prod.ext (by show x.1 = b; omega) (by show x.2 = b + 1; omega)) c
    · omega
  refine ⟨m2, fun z => ?_⟩
  rcases node_in m2 t hn hx h1 h2 with y | y | y
  · exact absurd y c
  · exact y
  · omega
theorem wayL_end {n : Nat} {x : Nat × Nat} (hx : isN n x) : ∀ (m b : Nat), 1 ≤ m → tree n b m → b + m ≤ n → b ≤ x.1 → x.2 ≤ b + m → x ≠ (b, b + m) →
    ∃ us B M, wayL b m x = us ++ [(B, B + M), x] ∧ isN n (B, B + M) ∧ 2 ≤ M ∧ tree n B M ∧ isHalfP B M x := by
  intro m
  induction m using Nat.strongRecOn with
  | ind m ih =>
    intro b hm t hn h1 h2 c
    obtain ⟨m2, hh⟩ := in_half hm t hn hx h1 h2 c
    have g1 := gp_lt m2
    have g3 := gp_pos m
    have em : b + gp m + (m - gp m) = b + m := by omega
    by_cases k : x.1 < b + gp m
    · rw [wayL_low m2 c k]
      by_cases c2 : x = (b, b + gp m)
      · rw [wayL_here c2]
        exact ⟨[], b, m, rfl, isN_of hm hn t, m2, t, .inl c2⟩
      · obtain ⟨us, B, M, e, r⟩ := ih (gp m) g1 b g3 (tree_low m2 t) (by omega) h1 (hh k) c2
        exact ⟨(b, b + m) :: us, B, M, by rw [e]; rfl, r⟩
    · rw [wayL_high m2 c k]
      by_cases c2 : x = (b + gp m, b + gp m + (m - gp m))
      · rw [wayL_here c2]
        exact ⟨[], b, m, rfl, isN_of hm hn t, m2, t, .inr (by rw [c2, em])⟩
      · obtain ⟨us, B, M, e, r⟩ := ih (m - gp m) (by omega) (b + gp m) (by omega) (tree_high m2 t) (by omega) (by omega) (by omega) c2
        exact ⟨(b, b + m) :: us, B, M, by rw [e]; rfl, r⟩
theorem wayL_len {n e : Nat} : ∀ (m b : Nat), tree n b m → b ≤ e → e < b + m → b + m ≤ n → (wayL b m (e, e + 1)).length = (sib b m e).length + 1 := by
  refine way_ind (fun b m h h1 h2 _ => ?_) (fun b m h _ h1 k _ ih => ?_) (fun b m h _ h1 k _ _ ih => ?_)
  · rw [wayL_here (Prod.ext (by show e = b; omega) (by show e + 1 = b + m; omega)), sib_one h]
    rfl
  · rw [wayL_low h (fun z => by have := congrArg Prod.fst z; have := congrArg Prod.snd z; simp only at *; omega) k, sib_low h k, List.length_cons, List.length_cons, ih]
  · rw [wayL_high h (fun z => by have := congrArg Prod.fst z; have := congrArg Prod.snd z; simp only at *; omega) k, sib_high h k, List.length_cons, List.length_cons, ih]
theorem wayL_most (x : Nat × Nat) : ∀ (m b : Nat), 1 ≤ m → (wayL b m x).length ≤ lb m + 1 := by
  intro m
  induction m using Nat.strongRecOn with
  | ind m ih =>
    intro b hm
    by_cases c1 : m ≤ 1
    · rw [wayL, dif_pos c1]; simp
    · have m2 : 2 ≤ m := by omega
      have g1 := gp_lt m2
      have g2 := gp_ge m2
      have g3 := gp_pos m
      have e1 := lb_big m2
      by_cases c : x = (b, b + m)
      · rw [wayL_here c]; simp
      · by_cases k : x.1 < b + gp m
        · rw [wayL_low m2 c k, List.length_cons]
          have := ih (gp m) g1 b g3
          have e2 : lb (gp m) = Nat.log2 (m - 1) := by unfold gp; rw [lb_pow]
          omega
        · rw [wayL_high m2 c k, List.length_cons]
          have := ih (m - gp m) (by omega) (b + gp m) (by omega)
          have e2 : lb (m - gp m) ≤ Nat.log2 (m - 1) := lb_le (by unfold gp at g1 g2 ⊢; omega)
          omega
end LT

namespace LT
open PySem PySem.Spec PyProof.Rows L2
/-- the parts of the log's entries around b in rooms of 2 ^ j -/
def cutAt (n b j : Nat) : Nat × Nat := (b - b % 2 ^ j, min (b - b % 2 ^ j + 2 ^ j) n)
/-- a half of a node -/
def isHalf (B M : Nat) (x : Nat × Nat) : Prop := x = (B, B + gp M) ∨ x = (B + gp M, B + M)
theorem cut_here {n b m : Nat} (t : tree n b m) (hn : b + m ≤ n) : cutAt n b (lb m) = (b, b + m) := by
  obtain ⟨d, k⟩ := t
  unfold cutAt
  rw [Nat.mod_eq_zero_of_dvd d, Nat.sub_zero]
  have := lb_ge m
  refine Prod.ext rfl ?_
  simp only
  rcases k with k | k
  · rw [← k]; exact Nat.min_eq_left hn
  · rw [k]; exact Nat.min_eq_right (by omega)
theorem mod_of_room {R B b : Nat} (d : R ∣ B) (h1 : B ≤ b) (h2 : b < B + R) : b - b % R = B := by
  obtain ⟨x, rfl⟩ := d
  have e : b % R = b - R * x := by
    have h : b = R * x + (b - R * x) := by omega
    rw [h, Nat.mul_add_mod, Nat.mod_eq_of_lt (by omega), Nat.add_sub_cancel_left]
  omega
theorem cut_above {n B M b : Nat} (t : tree n B M) (hn : B + M ≤ n) (h1 : B ≤ b) (h2 : b < B + M) : cutAt n b (lb M) = (B, B + M) := by
  rw [← cut_here t hn]
  have := lb_ge M
  unfold cutAt
  rw [mod_of_room t.1 h1 (by omega), mod_of_room t.1 (Nat.le_refl _) (by have := Nat.pow_pos (a := 2) (n := lb M) (by decide); omega)]
theorem half_lb {M : Nat} (h : 2 ≤ M) : lb M = Nat.log2 (M - 1) + 1 := by unfold lb; rw [if_neg (by omega)]
theorem cut_between {n B M : Nat} (h : 2 ≤ M) (t : tree n B M) (hn : B + M ≤ n) {x : Nat × Nat} (hx : isHalf B M x) {j : Nat} (h1 : lb (x.2 - x.1) ≤ j) (h2 : j < lb M) : cutAt n x.1 j = x := by
  have g1 := gp_lt h
  have g2 := gp_ge h
  have e1 := half_lb h
  have eg : lb (gp M) = Nat.log2 (M - 1) := by unfold gp; rw [lb_pow]
  rcases hx with rfl | rfl
  · simp only [Nat.add_sub_cancel_left] at h1
    have ej : j = lb (gp M) := by omega
    subst ej
    exact cut_here (tree_low h t) (by omega)
  · have em : B + M - (B + gp M) = M - gp M := by omega
    simp only at h1
    rw [em] at h1
    have th := tree_high h t
    by_cases c : j = lb (M - gp M)
    · subst c
      have := cut_here th (by omega)
      rw [show B + gp M + (M - gp M) = B + M by omega] at this
      exact this
    · have lt : lb (M - gp M) < lb (gp M) := by omega
      have hn2 : B + M = n := by
        rcases t.2 with k | k
        · exfalso
          have e2 := lb_gp h
          have e3 : M - gp M = gp M := by omega
          rw [e3] at lt
          omega
        · exact k
      unfold cutAt
      have dj : 2 ^ j ∣ B + gp M := by
        have d1 : 2 ^ j ∣ gp M := by unfold gp; exact Nat.pow_dvd_pow 2 (by omega)
        have d2 : gp M ∣ B := by
          have k := t.1
          rw [lb_gp h] at k
          exact Nat.dvd_trans (Nat.dvd_mul_left _ _) k
        exact Nat.dvd_add (Nat.dvd_trans d1 d2) d1
      simp only
      rw [Nat.mod_eq_zero_of_dvd dj, Nat.sub_zero]
      refine Prod.ext rfl ?_
      simp only
      have k1 := lb_ge (M - gp M)
      have k2 : 2 ^ lb (M - gp M) ≤ 2 ^ j := Nat.pow_le_pow_right (by decide) h1
      rw [Nat.min_eq_right (by omega), hn2]
theorem half_ne {B M n : Nat} (h : 2 ≤ M) (hn : B + M ≤ n) {x : Nat × Nat} (hx : isHalf B M x) : x ≠ (0, n) ∧ x ≠ (B, B + M) ∧ B ≤ x.1 ∧ x.1 < x.2 ∧ x.2 ≤ B + M := by
  have g1 := gp_lt h
  have g3 := gp_pos M
  rcases hx with rfl | rfl
  · refine ⟨fun z => ?_, fun z => ?_, Nat.le_refl _, by simp only; omega, by simp only; omega⟩
    · have := congrArg Prod.snd z; simp only at this; omega
    · have := congrArg Prod.snd z; simp only at this; omega
  · refine ⟨fun z => ?_, fun z => ?_, by simp only; omega, by simp only; omega, Nat.le_refl _⟩
    · have := congrArg Prod.fst z; simp only at this; omega
    · have := congrArg Prod.fst z; simp only at this; omega
theorem half_tree {B M n : Nat} (h : 2 ≤ M) (t : tree n B M) {x : Nat × Nat} (hx : isHalf B M x) : tree n x.1 (x.2 - x.1) := by
  have g1 := gp_lt h
  rcases hx with rfl | rfl
  · simp only [Nat.add_sub_cancel_left]
    exact tree_low h t
  · simp only
    rw [show B + M - (B + gp M) = M - gp M by omega]
    exact tree_high h t
theorem half_lt {B M : Nat} (h : 2 ≤ M) {x : Nat × Nat} (hx : isHalf B M x) : lb (x.2 - x.1) < lb M := by
  have g1 := gp_lt h
  have g2 := gp_ge h
  have e1 := half_lb h
  have eg : lb (gp M) = Nat.log2 (M - 1) := by unfold gp; rw [lb_pow]
  rcases hx with rfl | rfl
  · simp only [Nat.add_sub_cancel_left]
    omega
  · simp only
    rw [show B + M - (B + gp M) = M - gp M by omega]
    have : lb (M - gp M) ≤ Nat.log2 (M - 1) := lb_le (by unfold gp at g1 g2 ⊢; omega)
    omega
theorem nd_is (x y : Nat × Nat) : PyData.eqv (nd x) (nd y) = decide (x = y) := by
  show PyData.eqv (.tuple [.int x.1, .int x.2]) (.tuple [.int y.1, .int y.2]) = _
  rw [nd_eqv]
  by_cases c : x = y
  · subst c; simp
  · rw [decide_eq_false c, Bool.and_eq_false_iff]
    by_cases c1 : x.1 = y.1
    · right
      exact decide_eq_false (fun z => c (Prod.ext c1 (by omega)))
    · left
      exact decide_eq_false (fun z => c1 (by omega))
section
variable {P : Program} {w : World} {K : PySem.W.Frag} {mg : Str → Option Value} {base : Heap}
/-- the halves of any node -/
def spHalvesA : Sp := fun vs H Q _ => ∃ (n b m : Nat) (v : V), vs = [.int n, v] ∧ Nd H v (b, b + m) ∧ 1 ≤ m ∧ b + m ≤ n ∧ n ≤ 10 ^ 30 ∧ tree n b m ∧
  ((m = 1 ∧ Q .non H) ∨ (2 ≤ m ∧ ∀ (H' : Hp) (q : Addr) (l h : V), Same H H' → H q = none → H' q = some (.tup [l, h]) → Nd H' l (b, b + gp m) → Nd H' h (b + gp m, b + m) → Q (.ref q) H'))
theorem ok_halvesA {f g1 g2 g3 : Addr} {fd d1 d2 d3 : FuncData} (F : Fun K "halves" "halves" sHalves f fd) (GCheckSize : FnOk P w K mg base CX0 3 g1 d1 ["size"] spCheckSize) (ACheckSize : At K mg "check_size" g1 d1 ["size"])
    (GCheckNode : FnOk P w K mg base CX0 4 g2 d2 ["size", "node"] spCheckNode) (ACheckNode : At K mg "check_node" g2 d2 ["size", "node"]) (GPowerWithin : FnOk P w K mg base CX0 1 g3 d3 ["number"] spPower) (APowerWithin : At K mg "power_within" g3 d3 ["number"]) :
    FnOk P w K mg base CX0 5 f fd ["size", "node"] spHalvesA := by
  refine F.ok scHalves (fun vs H Q E h => ?_) (fun cdv A outer s H vs Q E hr h => ?_)
  · obtain ⟨_, _, _, _, rfl, _⟩ := h
    rfl
  obtain ⟨n, b, m, v, rfl, hv, hm, hn, h30, ht, q⟩ := h
  refine ⟨_, (pss_cons (ps_expr (pe_call GCheckSize (hr.mono (by decide)) rfl ACheckSize.m ACheckSize.kp ACheckSize.b .nil pass0 (pa_cons (pv 0) pa_nil)))
    (pss_cons (ps_expr (pe_call GCheckNode (hr.mono (by decide)) rfl ACheckNode.m ACheckNode.kp ACheckNode.b .nil pass0 (pa_cons (pv 0) (pa_cons (pv 1) pa_nil))))
    (pss_cons (ps_asg (pv 1) (pg_tup (by rfl) (pgs_cons (pg_name (i := 2) scHalves.nd rfl (Or.inl rfl)) (pgs_cons (pg_name (i := 3) scHalves.nd rfl (Or.inl rfl)) pgs_nil))))
    (pss_cons (ps_if (pt_cmpR op_eq (pe_op op_sub (pv 3) (pv 2)) pe_int (nomark _))
    (pss_one (ps_ret pe_non))
    pss_nil)
    (pss_cons (ps_set (i := 4) scHalves.nd rfl (Or.inl rfl) (pe_op op_add (pv 2) (pe_call GPowerWithin (hr.mono (by decide)) rfl APowerWithin.m APowerWithin.kp APowerWithin.b .nil pass0 (pa_cons (pe_op op_sub (pe_op op_sub (pv 3) (pv 2)) pe_int) pa_nil))))
    (pss_one (ps_ret (pe_tup (pa_cons (pe_tup (pa_cons (pv 2) (pa_cons (pv 4) pa_nil))) (pa_cons (pe_tup (pa_cons (pv 4) (pa_cons (pv 3) pa_nil))) pa_nil)))))))))), ?_⟩
  refine ⟨_, rfl, n, rfl, by omega, by omega, ?_⟩
  refine ⟨_, rfl, _, rfl, n, b, m, v, rfl, hv, by omega, hn, h30, ht, ?_⟩
  obtain ⟨p, rfl, hp⟩ := id hv
  refine ⟨_, rfl, p, _, rfl, SqT.of hp, rfl, _, _, rfl, _, _, rfl, rfl, ?_⟩
  refine ⟨_, rfl, _, rfl, _, _, rfl, rfl, rfl, _, rfl, ite2 (fun c => ?_) (fun c => ?_)⟩
  · have c1 : V.int (((b + m : Nat) : Int) - (b : Int)) = V.int 1 := of_decide_eq_true c
    have := V.int.inj c1
    rcases q with ⟨_, q⟩ | ⟨h2, _⟩
    · exact q
    · omega
  have c1 : ¬ V.int (((b + m : Nat) : Int) - (b : Int)) = V.int 1 := of_decide_eq_false (Bool.eq_false_iff.mpr c)
  have c2 : m ≠ 1 := fun z => c1 (congrArg V.int (by omega))
  have q : ∀ (H' : Hp) (q : Addr) (l h : V), Same H H' → H q = none → H' q = some (.tup [l, h]) → Nd H' l (b, b + gp m) → Nd H' h (b + gp m, b + m) → Q (.ref q) H' := q.elim (fun z => absurd z.1 c2) (fun z => z.2)
  have e1 : ((b + m : Nat) : Int) - (b : Int) - 1 = ((m - 1 : Nat) : Int) := by omega
  refine ⟨_, rfl, _, rfl, _, rfl, _, _, rfl, rfl, _, _, rfl, rfl, m - 1, congrArg (fun z => [V.int z]) e1, by omega, by omega, _, _, rfl, rfl, ?_⟩
  have e2 : (b : Int) + ((2 ^ (m - 1).log2 : Nat) : Int) = ((b + gp m : Nat) : Int) := by unfold gp; omega
  have two : 2 ≤ sizeLine := by decide
  refine ⟨_, rfl, _, rfl, two, fun t1 n1 => ⟨_, rfl, _, rfl, two, fun t2 n2 => ⟨two, fun t3 n3 => ?_⟩⟩⟩
  dsimp only
  have s1 := same_upd (o := .tup [.int (b : Int), .int ((b : Int) + ((2 ^ (m - 1).log2 : Nat) : Int))]) n1
  have s2 := same_upd (o := .tup [.int ((b : Int) + ((2 ^ (m - 1).log2 : Nat) : Int)), .int ((b + m : Nat) : Int)]) n2
  have s3 := same_upd (o := .tup [.ref t1, .ref t2]) n3
  refine q _ t3 (.ref t1) (.ref t2) (s1.trans (s2.trans s3)) ((s1.trans s2).free n3) upd_same ⟨t1, rfl, s3 _ _ (s2 _ _ ?_)⟩ ⟨t2, rfl, s3 _ _ ?_⟩
  · rw [upd_same]
    dsimp only
    rw [e2]
  · rw [upd_same]
    dsimp only
    rw [e2]
/-- the node above -/
def spParent : Sp := fun vs H Q _ => ∃ (n : Nat) (x : Nat × Nat) (v : V), vs = [.int n, v] ∧ Nd H v x ∧ 1 ≤ n ∧ n ≤ 10 ^ 30 ∧
  ((x = (0, n) ∧ ∀ H', Same H H' → Q .non H') ∨ (∃ B M, 2 ≤ M ∧ tree n B M ∧ B + M ≤ n ∧ isHalf B M x ∧ ∀ (H' : Hp) (u : V), Same H H' → Nd H' u (B, B + M) → Q u H'))
theorem ok_parent {f g1 g2 : Addr} {fd d1 d2 : FuncData} (F : Fun K "parent" "parent" sParent f fd) (GCheckSize : FnOk P w K mg base CX0 3 g1 d1 ["size"] spCheckSize) (ACheckSize : At K mg "check_size" g1 d1 ["size"])
    (GCheckNode : FnOk P w K mg base CX0 4 g2 d2 ["size", "node"] spCheckNode) (ACheckNode : At K mg "check_node" g2 d2 ["size", "node"]) (z_min : mg "min" = none) :
    FnOk P w K mg base CX0 5 f fd ["size", "node"] spParent := by
  refine F.ok scParent (fun vs H Q E h => ?_) (fun cdv A outer s H vs Q E hr h => ?_)
  · obtain ⟨_, _, _, rfl, _⟩ := h
    rfl
  obtain ⟨n, x, v, rfl, hv, n1, h30, q⟩ := h
  have two : 2 ≤ sizeLine := by decide
  have hx : x.1 < x.2 ∧ x.2 ≤ n ∧ tree n x.1 (x.2 - x.1) := by
    rcases q with ⟨rfl, _⟩ | ⟨B, M, h2, t, hn, hh, _⟩
    · exact ⟨n1, Nat.le_refl _, tree_root n⟩
    · have k := half_ne h2 hn hh
      exact ⟨k.2.2.2.1, by omega, half_tree h2 t hh⟩
  obtain ⟨x1, x2, x3⟩ := hx
  refine ⟨_, (pss_cons (ps_expr (pe_call GCheckSize (hr.mono (by decide)) rfl ACheckSize.m ACheckSize.kp ACheckSize.b .nil pass0 (pa_cons (pv 0) pa_nil)))
    (pss_cons (ps_expr (pe_call GCheckNode (hr.mono (by decide)) rfl ACheckNode.m ACheckNode.kp ACheckNode.b .nil pass0 (pa_cons (pv 0) (pa_cons (pv 1) pa_nil))))
    (pss_cons (ps_if (pt_cmpR (op_eqD hr.units) (pv 1) (pe_tup (pa_cons pe_int (pa_cons (pv 0) pa_nil))) (nomark _))
    (pss_one (ps_ret pe_non))
    pss_nil)
    (pss_cons (ps_asg (pv 1) (pg_tup (by rfl) (pgs_cons (pg_name (i := 2) scParent.nd rfl (Or.inl rfl)) (pgs_cons (pg_name (i := 3) scParent.nd rfl (Or.inl rfl)) pgs_nil))))
    (pss_cons (ps_par (i := 4) (j := 5) (by rfl) scParent.nd rfl rfl (by decide) rfl rfl (pa_cons (pv 2) (pa_cons (pv 3) pa_nil)) (by rfl))
    (pss_cons (ps_set (i := 6) scParent.nd rfl (Or.inl rfl) (pe_op op_shl pe_int (pe_bits (pe_op op_sub (pe_op op_sub (pv 3) (pv 2)) pe_int))))
    (pss_cons (ps_while PassesOwn.never (pt_cmpR (op_eqD hr.units) (pe_tup (pa_cons (pv 4) (pa_cons (pv 5) pa_nil))) (pe_tup (pa_cons (pv 2) (pa_cons (pv 3) pa_nil))) (nomark _))
    (pss_cons (ps_set (i := 6) scParent.nd rfl (Or.inl rfl) (pe_op op_mul (pv 6) pe_int))
    (pss_cons (ps_set (i := 4) scParent.nd rfl (Or.inl rfl) (pe_op op_sub (pv 2) (pe_op op_modN (pv 2) (pv 6))))
    (pss_one (ps_set (i := 5) scParent.nd rfl (Or.inl rfl) (pe_callB (call_min2 rfl) (by rfl) z_min (by decide +kernel) (pa_cons (pe_op op_add (pv 4) (pv 6)) (pa_cons (pv 0) pa_nil))))))))
    (pss_one (ps_ret (pe_tup (pa_cons (pv 4) (pa_cons (pv 5) pa_nil)))))))))))), ?_⟩
  refine ⟨_, rfl, n, rfl, by omega, by omega, ?_⟩
  have ex : x.1 + (x.2 - x.1) = x.2 := by omega
  refine ⟨_, rfl, _, rfl, n, x.1, x.2 - x.1, v, rfl, by rw [ex]; exact hv, by omega, by omega, h30, x3, ?_⟩
  refine ⟨_, rfl, _, rfl, two, fun t0 n0 => ?_⟩
  have s0 := same_upd (o := .tup [.int 0, .int (n : Int)]) n0
  refine ⟨nd x, nd (0, n), (hv.same s0).dp, .tup (SqT.of upd_same) (.cons (.int _) (.cons (.int _) .nil)), nd_shaped _ _, nd_shaped _ _, ?_⟩
  rw [nd_is]
  generalize upd H t0 (.tup [.int 0, .int (n : Int)]) = H0 at s0
  refine ⟨_, rfl, ite2 (fun c => ?_) (fun c => ?_)⟩
  · have c1 : x = (0, n) := of_decide_eq_true c
    rcases q with ⟨_, q⟩ | ⟨B, M, h2, t, hn, hh, _⟩
    · exact q _ s0
    · exact absurd c1 (half_ne h2 hn hh).1
  have c1 : ¬ x = (0, n) := of_decide_eq_false (Bool.eq_false_iff.mpr c)
  obtain ⟨B, M, h2, t, hn, hh, q⟩ : ∃ B M, 2 ≤ M ∧ tree n B M ∧ B + M ≤ n ∧ isHalf B M x ∧ ∀ (H' : Hp) (u : V), Same H H' → Nd H' u (B, B + M) → Q u H' := q.elim (fun z => absurd z.1 c1) id
  obtain ⟨k1, k2, k3, k4, k5⟩ := half_ne h2 hn hh
  obtain ⟨p, rfl, hp⟩ := id hv
  refine ⟨_, rfl, p, _, rfl, SqT.of (s0 _ _ hp), rfl, _, _, rfl, _, _, rfl, rfl, ?_⟩
  have em : (x.2 : Int) - (x.1 : Int) - 1 = ((x.2 - x.1 - 1 : Nat) : Int) := by omega
  have hb : Builtin.Int.intBits ((x.2 : Int) - (x.1 : Int) - 1) = lb (x.2 - x.1) := by rw [em, bits_lb (by omega)]
  have l100 := lb100 (show x.2 - x.1 ≤ 10 ^ 30 by omega)
  have lM := lb100 (show M ≤ 10 ^ 30 by omega)
  have ll := half_lt h2 hh
  have e0 : cutAt n x.1 (lb (x.2 - x.1)) = x := by
    have := cut_here (m := x.2 - x.1) (half_tree h2 t hh) (by omega)
    rw [ex] at this
    exact this
  refine ⟨_, rfl, _, rfl, _, _, rfl, _, rfl, _, rfl, _, _, rfl, rfl, _, _, rfl, rfl, _, rfl, _, _, rfl, rfl, ⟨Int.natCast_nonneg _, by omega, by decide⟩, ?_⟩
  refine ⟨fun mu σ H' => ∃ j : Nat, σ = [some (.int n), some (.ref p), some (.int (x.1 : Int)), some (.int (x.2 : Int)), some (.int ((cutAt n x.1 j).1 : Int)), some (.int ((cutAt n x.1 j).2 : Int)), some (.int ((2 ^ j : Nat) : Int))] ∧ Same H H' ∧ lb (x.2 - x.1) ≤ j ∧ j ≤ lb M ∧ mu = lb M - j,
    ⟨lb M - lb (x.2 - x.1), lb (x.2 - x.1), ?_, s0, Nat.le_refl _, by omega, rfl⟩, ?_⟩
  · have e2 : (1 : Int) * 2 ^ ((Builtin.Int.intBits ((x.2 : Int) - (x.1 : Int) - 1) : Nat) : Int).toNat = ((2 ^ lb (x.2 - x.1) : Nat) : Int) := by rw [hb, Int.one_mul, Int.toNat_natCast]; exact (Int.natCast_pow 2 _).symm
    rw [e0, ← e2]
    rfl
  rintro mu σ H1 ⟨j, rfl, s1, j1, j2, rfl⟩
  refine ⟨_, rfl, _, rfl, two, fun t1 nt1 => ⟨_, rfl, _, rfl, two, fun t2 nt2 => ?_⟩⟩
  have st1 := same_upd (o := .tup [.int ((cutAt n x.1 j).1 : Int), .int ((cutAt n x.1 j).2 : Int)]) nt1
  have st2 := same_upd (o := .tup [.int (x.1 : Int), .int (x.2 : Int)]) nt2
  have sE := s1.trans (st1.trans st2)
  refine ⟨nd (cutAt n x.1 j), nd x, .tup (SqT.of (st2 _ _ upd_same)) (.cons (.int _) (.cons (.int _) .nil)), .tup (SqT.of upd_same) (.cons (.int _) (.cons (.int _) .nil)), nd_shaped _ _, nd_shaped _ _, ?_⟩
  rw [nd_is]
  refine ⟨_, rfl, ite2 (fun c => ?_) (fun c => ?_)⟩
  · have d1 : cutAt n x.1 j = x := of_decide_eq_true c
    have d2 : j < lb M := by
      by_cases z : j = lb M
      · subst z
        rw [cut_above t hn k3 (by omega)] at d1
        exact absurd d1.symm k2
      · omega
    have pj : 0 < 2 ^ (j + 1) := Nat.pow_pos (by decide)
    refine ⟨_, fun σ' H' h => h, _, rfl, _, _, rfl, rfl, .inr ⟨by decide, by decide⟩, ?_⟩
    have er : ((2 ^ j : Nat) : Int) * 2 = ((2 ^ (j + 1) : Nat) : Int) := by rw [Nat.pow_succ]; omega
    have fm : Int.fmod (x.1 : Int) ((2 ^ (j + 1) : Nat) : Int) = ((x.1 % 2 ^ (j + 1) : Nat) : Int) := by
      rw [Int.fmod_eq_emod_of_nonneg _ (Int.natCast_nonneg _)]
      exact (Int.natCast_emod _ _).symm
    have ef : (x.1 : Int) - ((x.1 % 2 ^ (j + 1) : Nat) : Int) = ((cutAt n x.1 (j + 1)).1 : Int) := by
      have := Nat.mod_le x.1 (2 ^ (j + 1))
      show _ = ((x.1 - x.1 % 2 ^ (j + 1) : Nat) : Int)
      omega
    have el : (if (n : Int) < ((cutAt n x.1 (j + 1)).1 : Int) + ((2 ^ (j + 1) : Nat) : Int) then (n : Int) else ((cutAt n x.1 (j + 1)).1 : Int) + ((2 ^ (j + 1) : Nat) : Int)) = ((cutAt n x.1 (j + 1)).2 : Int) := by
      show (if (n : Int) < ((x.1 - x.1 % 2 ^ (j + 1) : Nat) : Int) + ((2 ^ (j + 1) : Nat) : Int) then (n : Int) else ((x.1 - x.1 % 2 ^ (j + 1) : Nat) : Int) + ((2 ^ (j + 1) : Nat) : Int)) = ((min (x.1 - x.1 % 2 ^ (j + 1) + 2 ^ (j + 1)) n : Nat) : Int)
      split <;> omega
    refine ⟨_, rfl, _, rfl, _, rfl, _, _, rfl, rfl, ?_, _, _, rfl, rfl, ?_⟩
    · rw [er]; omega
    refine ⟨_, rfl, _, rfl, _, _, rfl, rfl, _, rfl, _, _, rfl, ?_⟩
    refine ⟨lb M - (j + 1), by omega, j + 1, ?_, sE, by omega, by omega, rfl⟩
    rw [← el, ← ef, ← fm, ← er]
    rfl
  · have d1 : ¬ cutAt n x.1 j = x := of_decide_eq_false (Bool.eq_false_iff.mpr c)
    have d2 : j = lb M := by
      by_cases z : j = lb M
      · exact z
      · exact absurd (cut_between h2 t hn hh j1 (by omega)) d1
    subst d2
    generalize upd (upd H1 t1 _) t2 _ = H3 at sE
    rw [cut_above t hn k3 (by omega)]
    refine ⟨_, rfl, _, rfl, two, fun t3 nt3 => ?_⟩
    have st3 := same_upd (o := .tup [.int (B : Int), .int ((B + M : Nat) : Int)]) nt3
    exact q _ (.ref t3) (sE.trans st3) ⟨t3, rfl, upd_same⟩
end
end LT

namespace LT
open PySem PySem.Spec PyProof.Rows L2
def ol (n e : Nat) : List (Nat × Nat) := if e = n then [] else (if (pk 101 e 0).length = 1 then [] else (pk 101 e 0).map full) ++ nw n e n
def oc (n e : Nat) : Nat := (ol n e).length
def lg (n : Nat) : Nat := if 3 < n then 3 else 1
section
variable {P : Program} {w : World} {K : PySem.W.Frag} {mg : Str → Option Value} {base : Heap}
def spCheckOlder : Sp := fun vs H Q _ => ∃ n e : Int, vs = [.int n, .int e] ∧ 1 ≤ e ∧ e ≤ n ∧ Q .non H
theorem ok_check_older {f g : Addr} {fd gd : FuncData} (F : Fun K "check_older" "check_older" sCheckOlder f fd) (GIsBetween : FnOk P w K mg base CX0 2 g gd ["value", "low", "high"] spBetween) (AIsBetween : At K mg "is_between" g gd ["value", "low", "high"]) : FnOk P w K mg base CX0 3 f fd ["size", "older"] spCheckOlder := by
  refine F.ok scCheckOlder (fun vs H Q E h => ?_) (fun cdv A outer s H vs Q E hr h => ?_)
  · obtain ⟨_, _, rfl, _⟩ := h
    rfl
  obtain ⟨n, e, rfl, h1, h2, q⟩ := h
  refine ⟨_, (pss_one (ps_if (pt_not (pt_val (pe_call GIsBetween (hr.mono (by decide)) rfl AIsBetween.m AIsBetween.kp AIsBetween.b .nil pass0 (pa_cons (pv 1) (pa_cons pe_int (pa_cons (pv 0) pa_nil))))))
    (pss_one ps_never)
    pss_nil)), ?_⟩
  refine ⟨_, rfl, _, rfl, e, 1, n, rfl, _, rfl, ?_⟩
  rw [decide_eq_true h1, decide_eq_true h2]
  exact q
def spOlderList : Sp := fun vs H Q _ => ∃ n e : Nat, vs = [.int n, .int e] ∧ 1 ≤ e ∧ e ≤ n ∧ n ≤ 10 ^ 30 ∧ ∀ (H' : Hp) (p : Addr) (xs : List V), Same H H' → H p = none → H' p = some (.lst xs) → All2 (Nd H') xs (ol n e) → Q (.ref p) H'
theorem ok_older_list {f g1 g2 g3 g4 : Addr} {fd d1 d2 d3 d4 : FuncData} (F : Fun K "older_list" "older_list" sOlderList f fd) (GCheckSize : FnOk P w K mg base CX0 3 g1 d1 ["size"] spCheckSize) (ACheckSize : At K mg "check_size" g1 d1 ["size"])
    (GCheckOlder : FnOk P w K mg base CX0 3 g2 d2 ["size", "older"] spCheckOlder) (ACheckOlder : At K mg "check_older" g2 d2 ["size", "older"])
    (GPeaks : FnOk P w K mg base CX0 4 g3 d3 ["size"] spTops) (APeaks : At K mg "peaks" g3 d3 ["size"])
    (GNodesWithin : FnOk P w K mg base CX0 4 g4 d4 ["size", "begin", "end"] spWithin) (ANodesWithin : At K mg "nodes_within" g4 d4 ["size", "begin", "end"]) (z_len : mg "len" = none) : FnOk P w K mg base CX0 5 f fd ["size", "older"] spOlderList := by
  refine F.ok scOlderList (fun vs H Q E h => ?_) (fun cdv A outer s H vs Q E hr h => ?_)
  · obtain ⟨_, _, rfl, _⟩ := h
    rfl
  obtain ⟨n, e, rfl, h1, h2, h30, q⟩ := h
  refine ⟨_, (pss_cons (ps_expr (pe_call GCheckSize (hr.mono (by decide)) rfl ACheckSize.m ACheckSize.kp ACheckSize.b .nil pass0 (pa_cons (pv 0) pa_nil)))
    (pss_cons (ps_expr (pe_call GCheckOlder (hr.mono (by decide)) rfl ACheckOlder.m ACheckOlder.kp ACheckOlder.b .nil pass0 (pa_cons (pv 0) (pa_cons (pv 1) pa_nil))))
    (pss_cons (ps_if (pt_cmpR op_eq (pv 1) (pv 0) (nomark _))
    (pss_one (ps_ret (pe_lst pa_nil)))
    pss_nil)
    (pss_cons (ps_set (i := 2) scOlderList.nd rfl (Or.inl rfl) (pe_call GPeaks (hr.mono (by decide)) rfl APeaks.m APeaks.kp APeaks.b .nil pass0 (pa_cons (pv 1) pa_nil)))
    (pss_cons (ps_if (pt_cmpR op_eq (pe_callB call_len_seq (by rfl) z_len PySem.boot_len (pa_cons (pv 2) pa_nil)) pe_int (nomark _))
    (pss_one (ps_set (i := 2) scOlderList.nd rfl (Or.inl rfl) (pe_lst pa_nil)))
    pss_nil)
    (pss_one (ps_ret (pe_op op_cat (pv 2) (pe_call GNodesWithin (hr.mono (by decide)) rfl ANodesWithin.m ANodesWithin.kp ANodesWithin.b .nil pass0 (pa_cons (pv 0) (pa_cons (pv 1) (pa_cons (pv 0) pa_nil)))))))))))), ?_⟩
  refine ⟨_, rfl, _, rfl, by omega, by omega, _, rfl, _, rfl, n, e, rfl, by omega, by omega, ?_⟩
  refine ⟨_, rfl, _, rfl, rfl, _, rfl, ite2 (fun c => ?_) (fun c => ?_)⟩
  · have c1 := V.int.inj (of_decide_eq_true c)
    have c2 : e = n := by omega
    refine ⟨Nat.zero_le _, fun p np => q _ p [] (same_upd np) np upd_same ?_⟩
    unfold ol
    rw [if_pos c2]
    exact .nil
  · have c1 : ¬ V.int (e : Int) = V.int (n : Int) := of_decide_eq_false (Bool.eq_false_iff.mpr c)
    have c2 : ¬ e = n := fun z => c1 (by rw [z])
    unfold ol at q
    rw [if_neg c2] at q
    have pl := pk_len 101 e 0
    refine ⟨_, rfl, e, rfl, h1, by omega, fun H1 t xs s1 nt ht hx => ?_⟩
    have hl := hx.len
    rw [List.length_map] at hl
    have wl := nw_len (n := n) (b := e) (e := n) (by omega)
    refine ⟨_, rfl, t, xs, rfl, .inl (SqL.of ht), rfl, _, rfl, ite2 (fun c => ?_) (fun c => ?_)⟩
    · have c3 := V.int.inj (of_decide_eq_true c)
      have c4 : (pk 101 e 0).length = 1 := by omega
      rw [if_pos c4] at q
      refine ⟨Nat.zero_le _, fun t2 nt2 => ?_⟩
      have s2 := same_upd (o := .lst []) nt2
      refine ⟨_, rfl, _, rfl, _, rfl, _, rfl, n, e, n, rfl, by omega, by omega, h2, by omega, h30, fun H3 p ys s3 np hp hy => ?_⟩
      refine ⟨t2, p, _, _, rfl, rfl, s3 _ _ upd_same, hp, szle (by rw [List.length_nil, hy.len]; omega), fun r nr => ?_⟩
      have s4 := same_upd (o := .lst ([] ++ ys)) nr
      exact q _ r ([] ++ ys) (s1.trans (s2.trans (s3.trans s4))) (s1.free (s2.free (s3.free nr))) upd_same (hy.mono fun v x k => k.same s4)
    · have c3 : ¬ V.int ((xs.length : Nat) : Int) = V.int 1 := of_decide_eq_false (Bool.eq_false_iff.mpr c)
      have c4 : ¬ (pk 101 e 0).length = 1 := fun z => c3 (by rw [hl, z]; rfl)
      rw [if_neg c4] at q
      refine ⟨_, rfl, _, rfl, _, rfl, _, rfl, n, e, n, rfl, by omega, by omega, h2, by omega, h30, fun H3 p ys s3 np hp hy => ?_⟩
      refine ⟨t, p, _, _, rfl, rfl, s3 _ _ ht, hp, szle (by rw [hl, hy.len]; omega), fun r nr => ?_⟩
      have s4 := same_upd (o := .lst (xs ++ ys)) nr
      exact q _ r (xs ++ ys) (s1.trans (s3.trans s4)) (s1.free (s3.free nr)) upd_same ((hx.mono fun v x k => (k.same s3).same s4).app (hy.mono fun v x k => k.same s4))
def spOlderCount : Sp := fun vs H Q _ => ∃ n e : Nat, vs = [.int n, .int e] ∧ 1 ≤ e ∧ e ≤ n ∧ n ≤ 10 ^ 30 ∧ ∀ (H' : Hp), Same H H' → Q (.int ((oc n e : Nat) : Int)) H'
theorem ok_older_count {f g1 : Addr} {fd d1 : FuncData} (F : Fun K "older_count" "older_count" sOlderCount f fd) (GOlderList : FnOk P w K mg base CX0 5 g1 d1 ["size", "older"] spOlderList) (AOlderList : At K mg "older_list" g1 d1 ["size", "older"]) (z_len : mg "len" = none) : FnOk P w K mg base CX0 6 f fd ["size", "older"] spOlderCount := by
  refine F.ok scOlderCount (fun vs H Q E h => ?_) (fun cdv A outer s H vs Q E hr h => ?_)
  · obtain ⟨_, _, rfl, _⟩ := h
    rfl
  obtain ⟨n, e, rfl, h1, h2, h30, q⟩ := h
  refine ⟨_, (pss_one (ps_ret (pe_callB call_len_seq (by rfl) z_len PySem.boot_len (pa_cons (pe_call GOlderList (hr.mono (by decide)) rfl AOlderList.m AOlderList.kp AOlderList.b .nil pass0 (pa_cons (pv 0) (pa_cons (pv 1) pa_nil))) pa_nil)))), ?_⟩
  refine ⟨_, rfl, _, rfl, n, e, rfl, h1, h2, h30, fun H1 t xs s1 nt ht hx => ⟨t, xs, rfl, .inl (SqL.of ht), ?_⟩⟩
  rw [hx.len]
  exact q H1 s1
end
end LT

namespace LT
open PySem PySem.Spec PyProof.Rows L2
/-- a pair moved -/
def sh (d : Nat) (x : Nat × Nat) : Nat × Nat := (x.1 + d, x.2 + d)
theorem tree_sh {k n b m : Nat} (hn : n < 2 ^ k) (hb : b + m ≤ n) : tree (2 ^ k + n) (b + 2 ^ k) m ↔ tree n b m := by
  have l : lb m ≤ k := lb_le (by omega)
  have d : 2 ^ lb m ∣ 2 ^ k := Nat.pow_dvd_pow 2 l
  unfold tree
  constructor
  · rintro ⟨h1, h2⟩
    refine ⟨(Nat.dvd_add_iff_right d).mpr (by rw [Nat.add_comm]; exact h1), ?_⟩
    omega
  · rintro ⟨h1, h2⟩
    exact ⟨Nat.dvd_add h1 d, by omega⟩
theorem isN_sh {k n : Nat} {x : Nat × Nat} (hn : n < 2 ^ k) : isN (2 ^ k + n) (sh (2 ^ k) x) ↔ isN n x := by
  obtain ⟨a, b⟩ := x
  unfold isN sh
  dsimp only
  rw [show b + 2 ^ k - (a + 2 ^ k) = b - a by omega]
  constructor
  · rintro ⟨h1, h2, h3⟩
    exact ⟨by omega, by omega, (tree_sh hn (by omega)).mp h3⟩
  · rintro ⟨h1, h2, h3⟩
    exact ⟨by omega, by omega, (tree_sh hn (by omega)).mpr h3⟩
theorem Ch.sh {k n : Nat} (hn : n < 2 ^ k) : ∀ {lo hi : Nat} {l : List (Nat × Nat)}, Ch n lo hi l → Ch (2 ^ k + n) (lo + 2 ^ k) (hi + 2 ^ k) (l.map (LT.sh (2 ^ k)))
  | lo, hi, [], h => congrArg (· + 2 ^ k) h
  | lo, hi, x :: l, ⟨h1, h2, h3, h4⟩ => ⟨congrArg (· + 2 ^ k) h1, (isN_sh hn).mpr h2, Nat.add_le_add_right h3 _, h4.sh hn⟩
/-- a pair behind is one that is moved -/
theorem sh_of {d : Nat} {p : Nat × Nat} (h1 : d ≤ p.1) (h2 : d ≤ p.2) : p = sh d (p.1 - d, p.2 - d) := by
  unfold sh
  exact Prod.ext (by show p.1 = p.1 - d + d; omega) (by show p.2 = p.2 - d + d; omega)
theorem Mx.sh {k n lo hi : Nat} (hn : n < 2 ^ k) {l : List (Nat × Nat)} (h : Mx n lo hi l) : Mx (2 ^ k + n) (lo + 2 ^ k) (hi + 2 ^ k) (l.map (LT.sh (2 ^ k))) := by
  intro x hx p hp h1 h2 h3 h4
  obtain ⟨y, hy, rfl⟩ := List.mem_map.mp hx
  have p12 := (isN_tree (n := 2 ^ k + n) (b := p.1) (e := p.2) hp).1
  have e := sh_of (d := 2 ^ k) (p := p) (by omega) (by omega)
  rw [e] at hp ⊢
  have hp' := (isN_sh hn).mp hp
  have e3 : p.1 ≤ y.1 + 2 ^ k := h3
  have e4 : y.2 + 2 ^ k ≤ p.2 := h4
  exact congrArg (LT.sh (2 ^ k)) (h y hy _ hp' (by show lo ≤ p.1 - 2 ^ k; omega) (by show p.2 - 2 ^ k ≤ hi; omega) (by show p.1 - 2 ^ k ≤ y.1; omega) (by show y.2 ≤ p.2 - 2 ^ k; omega))
theorem nw_sh {k n b e : Nat} (hn : n < 2 ^ k) (he : e ≤ n) : nw (2 ^ k + n) (b + 2 ^ k) (e + 2 ^ k) = (nw n b e).map (sh (2 ^ k)) := by
  by_cases h : b ≤ e
  · exact nw_unique (n := 2 ^ k + n) (hi := e + 2 ^ k) (lo0 := b + 2 ^ k) (by omega) _ _ (b + 2 ^ k) (Nat.le_refl _) (nw_ch (by omega) _ (by omega)) ((nw_ch he b h).sh hn) (nw_max (by omega) (by omega)) ((nw_max he h).sh hn)
  · rw [nw_nil (by omega), nw_nil (by omega)]
    rfl
/-- the first stretch has the greatest node of all ahead -/
theorem nw_first {k n e : Nat} (hn : n < 2 ^ k) (he : e < n) : nw (2 ^ k + n) 0 (e + 2 ^ k) = (0, 2 ^ k) :: (nw n 0 e).map (sh (2 ^ k)) := by
  have p0 : 0 < 2 ^ k := Nat.pow_pos (by decide)
  have hf : isN (2 ^ k + n) (0, 2 ^ k) := by
    have := full_isN (n := 2 ^ k + n) (b := 0) (k := k) (by omega) (Nat.dvd_zero _)
    rwa [Nat.zero_add] at this
  have c := (nw_ch (n := n) (e := e) (Nat.le_of_lt he) 0 (Nat.zero_le _)).sh hn
  rw [Nat.zero_add] at c
  have m := (nw_max (n := n) (b := 0) (e := e) (Nat.le_of_lt he) (Nat.zero_le _)).sh hn
  rw [Nat.zero_add] at m
  refine nw_unique (n := 2 ^ k + n) (hi := e + 2 ^ k) (lo0 := 0) (by omega) _ _ 0 (Nat.le_refl _) (nw_ch (by omega) _ (by omega)) ⟨rfl, hf, by show 2 ^ k ≤ e + 2 ^ k; omega, c⟩ (nw_max (by omega) (by omega)) ?_
  -- a node with the first one, or with one behind it
  have key : ∀ p, isN (2 ^ k + n) p → p.2 ≤ e + 2 ^ k → p.1 = 0 → 2 ^ k ≤ p.2 → p = (0, 2 ^ k) := by
    intro p hp h2 h1 h3
    obtain ⟨p1, p2⟩ := p
    dsimp only at *
    subst h1
    obtain ⟨_, _, t⟩ := isN_tree hp
    have t2 := t.2
    rw [Nat.sub_zero] at t2
    rcases t2 with t2 | t2
    · have : lb p2 ≤ k := by
        have h : ¬ k + 1 ≤ lb p2 := fun z => by
          have := Nat.pow_le_pow_right (n := 2) (by decide) z
          rw [Nat.pow_succ] at this
          omega
        omega
      have := Nat.pow_le_pow_right (n := 2) (by decide) this
      exact Prod.ext rfl (by show p2 = 2 ^ k; omega)
    · omega
  intro x hx p hp _ h2 h3 h4
  rcases List.mem_cons.mp hx with rfl | hx
  · exact key p hp h2 (Nat.le_zero.mp h3) h4
  · by_cases c1 : 2 ^ k ≤ p.1
    · exact m x hx p hp c1 h2 h3 h4
    · exfalso
      obtain ⟨y, hy, rfl⟩ := List.mem_map.mp hx
      have hyn := ((nw_ch (n := n) (e := e) (Nat.le_of_lt he) 0 (Nat.zero_le _)).mem y hy).1
      have y12 := (isN_tree (n := n) (b := y.1) (e := y.2) hyn).1
      have h4' : y.2 + 2 ^ k ≤ p.2 := h4
      have c2 : p.1 = 0 ∨ 0 < p.1 := by omega
      rcases c2 with c2 | c2
      · have := key p hp h2 c2 (by omega)
        rw [this] at h4'
        dsimp only at h4'
        omega
      · obtain ⟨p1, p2⟩ := p
        dsimp only at *
        obtain ⟨q1, q2, q3⟩ := isN_tree hp
        have := lam (n := 2 ^ k + n) (b := 0) (m := 2 ^ k) (B := p1) (M := p2 - p1) ⟨Nat.dvd_zero _, .inl (by rw [lb_pow])⟩ p0 q3 (by omega) (by omega) c2 (by omega)
        omega
/-- the greatest nodes beside stretches -/
theorem nb_sh {k n : Nat} (hn : n < 2 ^ k) : ∀ (l : List (Nat × Nat)) (lo : Nat), (∀ x ∈ l, x.1 ≤ n) → nb (2 ^ k + n) (lo + 2 ^ k) (l.map (sh (2 ^ k))) = (nb n lo l).map (sh (2 ^ k))
  | [], lo, _ => by
    show nw (2 ^ k + n) (lo + 2 ^ k) (2 ^ k + n) = (nw n lo n).map (sh (2 ^ k))
    rw [← nw_sh hn (Nat.le_refl n), Nat.add_comm n]
  | x :: l, lo, h => by
    show nw (2 ^ k + n) (lo + 2 ^ k) (x.1 + 2 ^ k) ++ nb (2 ^ k + n) (max (lo + 2 ^ k) (x.2 + 2 ^ k)) (l.map (sh (2 ^ k))) = (nw n lo x.1 ++ nb n (max lo x.2) l).map (sh (2 ^ k))
    rw [List.map_append, nw_sh hn (h x List.mem_cons_self), ← nb_sh hn l (max lo x.2) fun y hy => h y (List.mem_cons_of_mem _ hy), Nat.add_max_add_right]
theorem nb_first {k n : Nat} (hn : n < 2 ^ k) : ∀ (l : List (Nat × Nat)), l ≠ [] → (∀ x ∈ l, x.1 < n) → nb (2 ^ k + n) 0 (l.map (sh (2 ^ k))) = (0, 2 ^ k) :: (nb n 0 l).map (sh (2 ^ k))
  | [], h, _ => absurd rfl h
  | x :: l, _, h => by
    show nw (2 ^ k + n) 0 (x.1 + 2 ^ k) ++ nb (2 ^ k + n) (max 0 (x.2 + 2 ^ k)) (l.map (sh (2 ^ k))) = (0, 2 ^ k) :: (nw n 0 x.1 ++ nb n (max 0 x.2) l).map (sh (2 ^ k))
    rw [List.map_append, nw_first hn (h x List.mem_cons_self), Nat.zero_max, Nat.zero_max, nb_sh hn l x.2 fun y hy => Nat.le_of_lt (h y (List.mem_cons_of_mem _ hy))]
    rfl
theorem leN_sh (d : Nat) (x y : Nat × Nat) : leN (sh d x) (sh d y) = leN x y := by
  rw [Bool.eq_iff_iff, leN_iff, leN_iff]
  unfold sh
  dsimp only
  omega
theorem srt_sh (d : Nat) (l : List (Nat × Nat)) : srt (l.map (sh d)) = (srt l).map (sh d) := by
  have p : (l.map (sh d)).Perm ((srt l).map (sh d)) := ((srt_perm l).map (sh d)).symm
  rw [srt_eq p]
  exact srt_id (List.pairwise_map.mpr ((srt_pair l).imp fun {a b} h => by rw [leN_sh]; exact h))
theorem jgo_sh (d : Nat) : ∀ (l : List (Nat × Nat)) (c : Nat × Nat), jgo (sh d c) (l.map (sh d)) = (jgo c l).map (sh d)
  | [], c => rfl
  | x :: l, c => by
    show (if x.1 + d ≤ c.2 + d then jgo (c.1 + d, max (c.2 + d) (x.2 + d)) (l.map (sh d)) else sh d c :: jgo (sh d x) (l.map (sh d))) = (if x.1 ≤ c.2 then jgo (c.1, max c.2 x.2) l else c :: jgo x l).map (sh d)
    by_cases h : x.1 ≤ c.2
    · rw [if_pos h, if_pos (by omega), Nat.add_max_add_right]
      exact jgo_sh d l (c.1, max c.2 x.2)
    · rw [if_neg h, if_neg (by omega), jgo_sh d l x]
      rfl
theorem jn_sh (d : Nat) (l : List (Nat × Nat)) : jn (l.map (sh d)) = (jn l).map (sh d) := by
  cases l with
  | nil => rfl
  | cons x l => exact jgo_sh d l x
theorem tps_sh {k n : Nat} (hn : n < 2 ^ k) : ∀ (l : List (Nat × Nat)), (∀ x ∈ l, x.2 ≤ n) → tps (2 ^ k + n) (l.map (sh (2 ^ k))) = (tps n l).map (sh (2 ^ k))
  | [], _ => rfl
  | x :: l, h => by
    have ih := tps_sh hn l fun y hy => h y (List.mem_cons_of_mem _ hy)
    unfold tps at ih ⊢
    rw [List.map_cons, List.flatMap_cons, List.flatMap_cons, List.map_append, ← ih]
    congr 1
    exact nw_sh hn (h x List.mem_cons_self)
/-- the way up -/
theorem sib_sh (d e : Nat) : ∀ (m b : Nat), sib (b + d) m (e + d) = (sib b m e).map (sh d) := by
  intro m
  induction m using Nat.strongRecOn with
  | _ m ih =>
    intro b
    by_cases h : m ≤ 1
    · rw [sib_one h, sib_one h]
      rfl
    · by_cases c : e < b + gp m
      · rw [sib_low (by omega) c, sib_low (by omega) (by omega), ih (gp m) (gp_lt (by omega)) b, List.map_cons]
        congr 1
        exact Prod.ext (by show b + d + gp m = b + gp m + d; omega) (by show b + d + m = b + m + d; omega)
      · rw [sib_high (by omega) c, sib_high (by omega) (by omega), List.map_cons]
        have g := gp_pos m
        have := ih (m - gp m) (by omega) (b + gp m)
        rw [show b + d + gp m = b + gp m + d by omega, this]
        rfl
theorem gp_far {k n : Nat} (h1 : 1 ≤ n) (hn : n < 2 ^ k) : gp (2 ^ k + n) = 2 ^ k := by
  unfold gp
  rw [log2_is (r := 2 ^ k + n - 1) (h := k) (by omega) (by rw [Nat.pow_succ]; omega)]
theorem sib_first {k n e : Nat} (h1 : 1 ≤ n) (hn : n < 2 ^ k) : sib 0 (2 ^ k + n) (e + 2 ^ k) = (0, 2 ^ k) :: (sib 0 n e).map (sh (2 ^ k)) := by
  have p0 : 0 < 2 ^ k := Nat.pow_pos (by decide)
  rw [sib_high (by omega) (by rw [gp_far h1 hn]; omega), gp_far h1 hn, Nat.add_sub_cancel_left, Nat.zero_add]
  have := sib_sh (2 ^ k) e n 0
  rw [Nat.zero_add] at this
  rw [this]
/-- peaks -/
def shp (d : Nat) (x : Nat × Nat) : Nat × Nat := (x.1 + d, x.2)
theorem pk_shp (d n : Nat) : ∀ (i b : Nat), pk i n (b + d) = (pk i n b).map (shp d)
  | 0, b => rfl
  | i + 1, b => by
    unfold pk
    split
    · rw [List.map_cons, ← pk_shp d n i (b + 2 ^ i), show b + d + 2 ^ i = b + 2 ^ i + d by omega]
      rfl
    · exact pk_shp d n i b
theorem pk_low {k n : Nat} : ∀ (i b : Nat), i ≤ k → pk i (2 ^ k + n) b = pk i n b
  | 0, b, _ => rfl
  | i + 1, b, h => by
    unfold pk
    have t : (2 ^ k + n).testBit i = n.testBit i := Nat.testBit_two_pow_add_gt (by omega) n
    rw [t, pk_low i b (by omega), pk_low i (b + 2 ^ i) (by omega)]
theorem pk_high {k m : Nat} (hm : m < 2 ^ k) : ∀ (j b : Nat), pk (k + j) m b = pk k m b
  | 0, b => rfl
  | j + 1, b => by
    show (if m.testBit (k + j) then _ else pk (k + j) m b) = pk k m b
    rw [Nat.testBit_lt_two_pow (Nat.lt_of_lt_of_le hm (Nat.pow_le_pow_right (by decide) (by omega)))]
    exact pk_high hm j b
theorem pk_first {k n : Nat} (hk : k ≤ 100) (hn : n < 2 ^ k) : pk 101 (2 ^ k + n) 0 = (0, k) :: (pk 101 n 0).map (shp (2 ^ k)) := by
  have h1 := pk_high (k := k + 1) (m := 2 ^ k + n) (by rw [Nat.pow_succ]; omega) (100 - k) 0
  rw [show k + 1 + (100 - k) = 101 by omega] at h1
  have h2 := pk_high hn (101 - k) 0
  rw [show k + (101 - k) = 101 by omega] at h2
  rw [h1, h2]
  have t : (2 ^ k + n).testBit k = true := by
    rw [Nat.testBit_two_pow_add_eq, Nat.testBit_lt_two_pow hn]
    rfl
  show (if (2 ^ k + n).testBit k then (0, k) :: pk k (2 ^ k + n) (0 + 2 ^ k) else pk k (2 ^ k + n) 0) = _
  rw [if_pos t, pk_low k _ (Nat.le_refl k), pk_shp]
theorem full_shp (d : Nat) (x : Nat × Nat) : full (shp d x) = sh d (full x) := Prod.ext rfl (by show x.1 + d + 2 ^ x.2 = x.1 + 2 ^ x.2 + d; omega)
theorem tops_first {k n : Nat} (hk : k ≤ 100) (hn : n < 2 ^ k) : (pk 101 (2 ^ k + n) 0).map full = (0, 2 ^ k) :: ((pk 101 n 0).map full).map (sh (2 ^ k)) := by
  rw [pk_first hk hn, List.map_cons, List.map_map, List.map_map]
  congr 1
  · exact Prod.ext rfl (Nat.zero_add _)
  · exact List.map_congr_left fun x _ => full_shp _ x
/-- rows of depths -/
def shr (d : Nat) (x : Nat × Nat × Nat) : Nat × Nat × Nat := (x.1 + d, x.2.1 + d, x.2.2 + 1)
theorem lev_sh (d t : Nat) (ht : 1 ≤ t) : ∀ (l : List (Nat × Nat)) (s : Nat), lev (t + 1) (s + 1) (l.map (shp d)) = (lev t s l).map (shr d)
  | [], s => rfl
  | x :: l, s => by
    show (x.1 + d, x.1 + d + 2 ^ x.2, x.2 + min (s + 1 + 1) (t + 1 - 1)) :: lev (t + 1) (s + 1 + 1) (l.map (shp d)) = (x.1 + d, x.1 + 2 ^ x.2 + d, x.2 + min (s + 1) (t - 1) + 1) :: (lev t (s + 1) l).map (shr d)
    rw [lev_sh d t ht l (s + 1)]
    congr 1
    exact Prod.ext rfl (Prod.ext (by show x.1 + d + 2 ^ x.2 = x.1 + 2 ^ x.2 + d; omega) (by show x.2 + min (s + 1 + 1) (t + 1 - 1) = x.2 + min (s + 1) (t - 1) + 1; omega))
def rows (n : Nat) : List (Nat × Nat × Nat) := lev (pk 101 n 0).length 0 (pk 101 n 0)
theorem rows_first {k n : Nat} (h1 : 1 ≤ n) (hk : k ≤ 100) (hn : n < 2 ^ k) : ∃ y, rows (2 ^ k + n) = (0, 2 ^ k, y) :: (rows n).map (shr (2 ^ k)) := by
  have n101 : n < 2 ^ 101 := Nat.lt_of_lt_of_le hn (Nat.pow_le_pow_right (by decide) (by omega))
  have ne := pk_ne 101 n 0 (by rw [Nat.mod_eq_of_lt n101]; omega)
  have t1 : 1 ≤ (pk 101 n 0).length := Nat.pos_of_ne_zero fun z => ne (List.length_eq_zero_iff.mp z)
  unfold rows
  rw [pk_first hk hn]
  generalize pk 101 n 0 = L at ne t1 ⊢
  rw [List.length_cons, List.length_map]
  refine ⟨k + min 1 (L.length + 1 - 1), ?_⟩
  show (0, 0 + 2 ^ k, _) :: lev (L.length + 1) (0 + 1) (L.map (shp (2 ^ k))) = _
  rw [lev_sh (2 ^ k) L.length t1 L 0, Nat.zero_add]
def d1 (x : Nat × Nat) : Nat × Nat := (x.1, x.2 + 1)
theorem db_shr (d b e : Nat) (T : List (Nat × Nat × Nat)) : db (b + d) (e + d) (T.map (shr d)) = (db b e T).map d1 := by
  unfold db
  rw [List.filter_map, List.map_map, List.map_map]
  have e1 : ((fun x : Nat × Nat × Nat => decide (max (b + d) x.1 < min (e + d) x.2.1)) ∘ shr d) = (fun x => decide (max b x.1 < min e x.2.1)) := by
    funext x
    refine decide_eq_decide.mpr ?_
    show max (b + d) (x.1 + d) < min (e + d) (x.2.1 + d) ↔ _
    rw [Nat.add_max_add_right, Nat.add_min_add_right]
    omega
  rw [e1]
  refine List.map_congr_left fun x _ => ?_
  refine Prod.ext ?_ rfl
  show min (e + d) (x.2.1 + d) - max (b + d) (x.1 + d) = min e x.2.1 - max b x.1
  rw [Nat.add_max_add_right, Nat.add_min_add_right]
  omega
theorem db_first {k n b e : Nat} (h1 : 1 ≤ n) (hk : k ≤ 100) (hn : n < 2 ^ k) : db (b + 2 ^ k) (e + 2 ^ k) (rows (2 ^ k + n)) = (db b e (rows n)).map d1 := by
  obtain ⟨y, hy⟩ := rows_first h1 hk hn
  rw [hy, ← db_shr]
  unfold db
  rw [List.filter_cons, if_neg]
  rw [decide_eq_true_eq]
  show ¬ max (b + 2 ^ k) 0 < min (e + 2 ^ k) (2 ^ k)
  omega
theorem sum_d1 : ∀ l : List (Nat × Nat), ((l.map d1).map fun p => p.1 * p.2).sum = (l.map fun p => p.1 * p.2).sum + (l.map fun p => p.1).sum
  | [] => rfl
  | x :: l => by
    have ih := sum_d1 l
    simp only [List.map_cons, List.sum_cons, ih]
    show x.1 * (x.2 + 1) + _ = _
    rw [Nat.mul_add]
    omega
/-- the rows make up all entries -/
theorem pk_wid : ∀ (i n b : Nat), ((pk i n b).map fun x => 2 ^ x.2).sum = n % 2 ^ i
  | 0, n, b => by rw [Nat.pow_zero, Nat.mod_one]; rfl
  | i + 1, n, b => by
    rw [mod_succ]
    unfold pk
    split
    · rw [List.map_cons, List.sum_cons, pk_wid i n _]
    · rw [pk_wid i n b, Nat.zero_add]
theorem lev_in (t e : Nat) : ∀ (l : List (Nat × Nat)) (s : Nat), (∀ x ∈ l, x.1 + 2 ^ x.2 ≤ e) → ((db 0 e (lev t s l)).map fun p => p.1).sum = (l.map fun x => 2 ^ x.2).sum
  | [], s, _ => rfl
  | x :: l, s, h => by
    have hx := h x List.mem_cons_self
    have ih := lev_in t e l (s + 1) fun y hy => h y (List.mem_cons_of_mem _ hy)
    have p := Nat.pow_pos (a := 2) (n := x.2) (by decide)
    have e1 : db 0 e (lev t s (x :: l)) = (2 ^ x.2, x.2 + min (s + 1) (t - 1)) :: db 0 e (lev t (s + 1) l) := by
      show db 0 e ((x.1, x.1 + 2 ^ x.2, x.2 + min (s + 1) (t - 1)) :: lev t (s + 1) l) = _
      unfold db
      rw [List.filter_cons, if_pos (decide_eq_true (by show max 0 x.1 < min e (x.1 + 2 ^ x.2); omega)), List.map_cons]
      congr 1
      exact Prod.ext (by show min e (x.1 + 2 ^ x.2) - max 0 x.1 = 2 ^ x.2; omega) rfl
    rw [e1, List.map_cons, List.sum_cons, ih, List.map_cons, List.sum_cons]
theorem pk_in : ∀ (i m b : Nat) (x : Nat × Nat), x ∈ pk i m b → x.1 + 2 ^ x.2 ≤ b + m % 2 ^ i
  | 0, _, _, _, h => by cases h
  | i + 1, m, b, x, h => by
    rw [mod_succ]
    unfold pk at h
    split at h
    · rename_i t
      rw [if_pos t]
      rcases List.mem_cons.mp h with rfl | h
      · show b + 2 ^ i ≤ _
        omega
      · have := pk_in i m _ x h
        omega
    · rename_i t
      rw [if_neg t]
      have := pk_in i m _ x h
      omega
theorem rows_wid {n : Nat} (hn : n < 2 ^ 101) : ((db 0 n (rows n)).map fun p => p.1).sum = n := by
  unfold rows
  rw [lev_in _ n _ 0 fun x hx => by have := pk_in 101 n 0 x hx; rw [Nat.mod_eq_of_lt hn] at this; omega, pk_wid, Nat.mod_eq_of_lt hn]
theorem total_first {k n : Nat} (h1 : 1 ≤ n) (hk : k ≤ 100) (hn : n < 2 ^ k) : total (2 ^ k) (2 ^ k + n) (rows (2 ^ k + n)) = total 0 n (rows n) + n := by
  have e := db_first (b := 0) (e := n) h1 hk hn
  rw [Nat.zero_add, Nat.add_comm n] at e
  unfold total
  rw [e, sum_d1, rows_wid (Nat.lt_of_lt_of_le hn (Nat.pow_le_pow_right (by decide) (by omega)))]
theorem least_d1 {m : Int} {l : List (Nat × Nat)} (h : least m l) : least (m + 1) (l.map d1) := by
  obtain ⟨⟨z, hz, e⟩, k⟩ := h
  refine ⟨⟨d1 z, List.mem_map_of_mem hz, by rw [e]; rfl⟩, fun y hy => ?_⟩
  obtain ⟨u, hu, rfl⟩ := List.mem_map.mp hy
  have := k u hu
  show m + 1 ≤ ((u.2 + 1 : Nat) : Int)
  omega
theorem most_d1 {m : Int} {l : List (Nat × Nat)} (h : most m l) : most (m + 1) (l.map d1) := by
  obtain ⟨⟨z, hz, e⟩, k⟩ := h
  refine ⟨⟨d1 z, List.mem_map_of_mem hz, by rw [e]; rfl⟩, fun y hy => ?_⟩
  obtain ⟨u, hu, rfl⟩ := List.mem_map.mp hy
  have := k u hu
  show ((u.2 + 1 : Nat) : Int) ≤ m + 1
  omega
theorem least_uniq {m k : Int} {l : List (Nat × Nat)} (h1 : least m l) (h2 : least k l) : m = k := by
  obtain ⟨⟨z, hz, e⟩, a⟩ := h1
  obtain ⟨⟨y, hy, f⟩, b⟩ := h2
  have := a y hy
  have := b z hz
  omega
theorem most_uniq {m k : Int} {l : List (Nat × Nat)} (h1 : most m l) (h2 : most k l) : m = k := by
  obtain ⟨⟨z, hz, e⟩, a⟩ := h1
  obtain ⟨⟨y, hy, f⟩, b⟩ := h2
  have := a y hy
  have := b z hz
  omega
/-- older lists -/
theorem ol_first {k n e : Nat} (h1 : 1 ≤ e) (hk : k ≤ 100) (hn : n < 2 ^ k) (he : e < n) :
    ol (2 ^ k + n) (2 ^ k + e) = (0, 2 ^ k) :: ((if (pk 101 e 0).length = 1 then (pk 101 e 0).map full else []).map (sh (2 ^ k)) ++ (ol n e).map (sh (2 ^ k))) := by
  have ne := pk_ne 101 e 0 (by rw [Nat.mod_eq_of_lt (Nat.lt_of_lt_of_le (Nat.lt_trans he hn) (Nat.pow_le_pow_right (by decide) (by omega)))]; omega)
  have hpos := List.length_pos_iff.mpr ne
  have w := nw_sh (b := e) (e := n) hn (Nat.le_refl n)
  rw [Nat.add_comm e, Nat.add_comm n] at w
  unfold ol
  rw [if_neg (show ¬ 2 ^ k + e = 2 ^ k + n by omega), tops_first hk (Nat.lt_trans he hn), pk_first hk (Nat.lt_trans he hn), List.length_cons, List.length_map, if_neg (show ¬ (pk 101 e 0).length + 1 = 1 by omega), w, if_neg (show ¬ e = n by omega)]
  by_cases c : (pk 101 e 0).length = 1
  · rw [if_pos c, if_pos c]
    simp
  · rw [if_neg c, if_neg c]
    simp
theorem ol_all (n : Nat) : ol n n = [] := by unfold ol; rw [if_pos rfl]
end LT

namespace LT
open PySem PySem.Spec PyProof.Rows L2
theorem BagAt.tup {H : Hp} {b p : Addr} {xs : List V} (h : BagAt H b) (e : H p = some (.tup xs)) : p ≠ b := fun z => by
  obtain ⟨_, _, _, k⟩ := h
  rw [← z, e] at k
  cases k
theorem Nd.but {b : Addr} {H H' : Hp} {v : V} {x : Nat × Nat} (h : Nd H v x) (B : But b H H') (hb : BagAt H b) : Nd H' v x := by
  obtain ⟨p, e, hp⟩ := h
  exact ⟨p, e, B p _ (hb.tup hp) hp⟩
theorem But.at {b p : Addr} {o : HO} {H H' : Hp} (B : But b H H') (n : p ≠ b) (h : H p = some o) : H' p = some o := B p o n h
section
variable {P : Program} {w : World} {K : PySem.W.Frag} {mg : Str → Option Value} {base : Heap}
def spParted : Sp := fun vs H Q _ => ∃ (x y : Nat) (v : V), vs = [v] ∧ Nd H v (x, y) ∧ x + 2 ≤ y ∧ y ≤ 10 ^ 30 ∧
  ∀ (H' : Hp) (q : Addr) (l h : V), Same H H' → H q = none → H' q = some (.tup [l, h]) → Nd H' l (x, x + gp (y - x)) → Nd H' h (x + gp (y - x), y) → Q (.ref q) H'
theorem ok_law_parted {f : Addr} {fd : FuncData} (F : Fun K "_law_parted" "_law_parted" sLawParted f fd) : FnOk P w K mg base CX0 1 f fd ["node"] spParted := by
  refine F.ok scLawParted (fun vs H Q E h => ?_) (fun cdv A outer s H vs Q E hr h => ?_)
  · obtain ⟨_, _, _, rfl, _⟩ := h
    rfl
  obtain ⟨x, y, v, rfl, ⟨p, rfl, hp⟩, hxy, y30, q⟩ := h
  refine ⟨_, (pss_cons (ps_set (i := 1) scLawParted.nd rfl (Or.inl rfl) (pe_op op_shl pe_int (pe_op op_sub (pe_bits (pe_op op_sub (pe_op op_sub (pe_ix ix_tup (pv 0) pe_int (fun _ _ => rfl)) (pe_ix ix_tup (pv 0) pe_int (fun _ _ => rfl))) pe_int)) pe_int)))
    (pss_one (ps_ret (pe_tup (pa_cons (pe_tup (pa_cons (pe_ix ix_tup (pv 0) pe_int (fun _ _ => rfl)) (pa_cons (pe_op op_add (pe_ix ix_tup (pv 0) pe_int (fun _ _ => rfl)) (pv 1)) pa_nil))) (pa_cons (pe_tup (pa_cons (pe_op op_add (pe_ix ix_tup (pv 0) pe_int (fun _ _ => rfl)) (pv 1)) (pa_cons (pe_ix ix_tup (pv 0) pe_int (fun _ _ => rfl)) pa_nil))) pa_nil)))))), ?_⟩
  have em : (y : Int) - (x : Int) - 1 = ((y - x - 1 : Nat) : Int) := by omega
  have hb : ((Builtin.Int.intBits ((y : Int) - (x : Int) - 1) : Nat) : Int) - 1 = ((Nat.log2 (y - x - 1) : Nat) : Int) := by
    rw [em, bits_nat, if_neg (by omega)]
    omega
  have l100 : Nat.log2 (y - x - 1) < 100 := (Nat.log2_lt (by omega)).mpr (Nat.lt_of_le_of_lt (show y - x - 1 ≤ 10 ^ 30 by omega) (by decide))
  have hg : (1 : Int) * 2 ^ (((Builtin.Int.intBits ((y : Int) - (x : Int) - 1) : Nat) : Int) - 1).toNat = ((gp (y - x) : Nat) : Int) := by
    rw [hb, Int.one_mul, Int.toNat_natCast]
    exact (Int.natCast_pow 2 _).symm
  have two : 2 ≤ sizeLine := by decide
  have q0 : atI [V.int (x : Int), V.int (y : Int)] 0 = some (.int (x : Int)) := atI_nat (j := 0) rfl
  have q1 : atI [V.int (x : Int), V.int (y : Int)] 1 = some (.int (y : Int)) := atI_nat (j := 1) rfl
  refine ⟨_, rfl, p, _, _, _, rfl, rfl, SqT.of hp, q1, _, rfl, p, _, _, _, rfl, rfl, SqT.of hp, q0, _, _, rfl, rfl, _, _, rfl, rfl, _, rfl, _, _, rfl, rfl, _, _, rfl, rfl, ⟨by rw [hb]; exact Int.natCast_nonneg _, by rw [hb]; omega, by decide⟩, ?_⟩
  dsimp only
  rw [hg]
  refine ⟨_, rfl, p, _, _, _, rfl, rfl, SqT.of hp, q0, _, rfl, p, _, _, _, rfl, rfl, SqT.of hp, q0, _, rfl, _, _, rfl, rfl, two, fun t1 n1 => ?_⟩
  have s1 := same_upd (o := .tup [.int (x : Int), .int ((x : Int) + ((gp (y - x) : Nat) : Int))]) n1
  refine ⟨_, rfl, p, _, _, _, rfl, rfl, SqT.of (s1 _ _ hp), q0, _, rfl, _, _, rfl, rfl, _, rfl, p, _, _, _, rfl, rfl, SqT.of (s1 _ _ hp), q1, two, fun t2 n2 => ⟨two, fun t3 n3 => ?_⟩⟩
  have s2 := same_upd (o := .tup [.int ((x : Int) + ((gp (y - x) : Nat) : Int)), .int (y : Int)]) n2
  have s3 := same_upd (o := .tup [.ref t1, .ref t2]) n3
  exact q _ t3 (.ref t1) (.ref t2) (s1.trans (s2.trans s3)) ((s1.trans s2).free n3) upd_same ⟨t1, rfl, s3 _ _ (s2 _ _ upd_same)⟩ ⟨t2, rfl, s3 _ _ upd_same⟩
def spWalked : Sp := fun vs H Q _ => ∃ (bg : Addr) (n most : Nat), vs = [.ref bg, .int n, .int most] ∧ BagAt H bg ∧ 1 ≤ n ∧ n ≤ 10 ^ 30 ∧ most ≤ 10 ^ 6 ∧
  ∀ (H' : Hp) (v : V) (x : Nat × Nat), But bg H H' → BagAt H' bg → Nd H' v x → isN n x → Q v H'
theorem ok_law_walked {f g1 g2 : Addr} {fd d1 d2 : FuncData} (F : Fun K "_law_walked" "_law_walked" sLawWalked f fd) (GLawParted : FnOk P w K mg base CX0 1 g1 d1 ["node"] spParted) (ALawParted : At K mg "_law_parted" g1 d1 ["node"])
    (GLawPick : FnOk P w K mg base CX0 1 g2 d2 ["bag", "many"] spPick) (ALawPick : At K mg "_law_pick" g2 d2 ["bag", "many"]) (z_range : mg "range" = none) : FnOk P w K mg base CX0 2 f fd ["bag", "size", "most"] spWalked := by
  refine F.ok scLawWalked (fun vs H Q E h => ?_) (fun cdv A outer s H vs Q E hr h => ?_)
  · obtain ⟨_, _, _, rfl, _⟩ := h
    rfl
  obtain ⟨bg, n, most, rfl, hb, n1, h30, m6, q⟩ := h
  have two : 2 ≤ sizeLine := by decide
  refine ⟨_, (pss_cons (ps_set (i := 3) scLawWalked.nd rfl (Or.inl rfl) (pe_tup (pa_cons pe_int (pa_cons (pv 1) pa_nil))))
    (pss_cons (ps_for PassesOwn.never rfl (pi_range1 (by rfl) z_range (pa_cons (pe_call GLawPick (hr.mono (by decide)) rfl ALawPick.m ALawPick.kp ALawPick.b .nil pass0 (pa_cons (pv 0) (pa_cons (pe_op op_add (pv 2) pe_int) pa_nil))) pa_nil)) (pg_name (i := 4) scLawWalked.nd rfl (Or.inl rfl))
    (pss_one (ps_if (pt_cmpR op_gt (pe_op op_sub (pe_ix ix_tup (pv 3) pe_int (fun _ _ => rfl)) (pe_ix ix_tup (pv 3) pe_int (fun _ _ => rfl))) pe_int (nomark _))
    (pss_one (ps_set (i := 3) scLawWalked.nd rfl (Or.inl rfl) (pe_ix ix_tup (pe_call GLawParted (hr.mono (by decide)) rfl ALawParted.m ALawParted.kp ALawParted.b .nil pass0 (pa_cons (pv 3) pa_nil)) (pe_call GLawPick (hr.mono (by decide)) rfl ALawPick.m ALawPick.kp ALawPick.b .nil pass0 (pa_cons (pv 0) (pa_cons pe_int pa_nil))) (fun _ _ => rfl))))
    pss_nil)))
    (pss_one (ps_ret (pv 3))))), ?_⟩
  refine ⟨_, rfl, two, fun t0 nt0 => ?_⟩
  have s0 := same_upd (o := .tup [.int 0, .int (n : Int)]) nt0
  have h0 : Nd (upd H t0 (.tup [.int 0, .int (n : Int)])) (.ref t0) (0, n) := ⟨t0, rfl, upd_same⟩
  have hb0 := hb.same s0
  generalize upd H t0 (.tup [.int 0, .int (n : Int)]) = H0 at s0 h0 hb0 ⊢
  refine ⟨_, rfl, _, rfl, _, _, rfl, rfl, bg, (most : Int) + 1, rfl, by omega, Nat.lt_of_le_of_lt (show ((most : Int) + 1).natAbs ≤ 10 ^ 7 by omega) (by decide), hb0, fun r H1 r0 r1 k1 hb1 => ?_⟩
  obtain ⟨m, rfl⟩ : ∃ m : Nat, r = (m : Int) := ⟨r.toNat, by omega⟩
  have B1 : But bg H H1 := fun a o nn k => by rw [k1 a nn]; exact s0 a o k
  have h1 : Nd H1 (.ref t0) (0, n) := h0.but ((But.refl bg H0).pick k1) hb0
  refine ⟨_, rfl, by omega, by omega, for_range (lo := 0) (n := m) (fun i σ H' => ∃ (v : V) (v4 : Option V) (x : Nat × Nat), σ = [some (.ref bg), some (.int (n : Int)), some (.int (most : Int)), some v, v4] ∧ But bg H H' ∧ BagAt H' bg ∧ Nd H' v x ∧ isN n x)
    ⟨.ref t0, none, (0, n), rfl, B1, hb1, h1, ?_⟩ ?_ ?_⟩
  · have := isN_of (n := n) (b := 0) (m := n) n1 (by omega) (tree_root n)
    rwa [Nat.zero_add] at this
  · rintro i σ H2 im ⟨v, v4, x, rfl, B2, hb2, hv, hx⟩
    obtain ⟨x1, x2⟩ := x
    obtain ⟨p, rfl, hp⟩ := id hv
    obtain ⟨x12, x2n, xt⟩ := isN_tree hx
    have q0 : atI [V.int (x1 : Int), V.int (x2 : Int)] 0 = some (.int (x1 : Int)) := atI_nat (j := 0) rfl
    have q1 : atI [V.int (x1 : Int), V.int (x2 : Int)] 1 = some (.int (x2 : Int)) := atI_nat (j := 1) rfl
    refine ⟨_, rfl, p, _, _, _, rfl, rfl, SqT.of hp, q1, _, rfl, p, _, _, _, rfl, rfl, SqT.of hp, q0, _, _, rfl, rfl, _, _, rfl, rfl, _, rfl, ite2 (fun c => ?_) (fun c => ?_)⟩
    · have c1 : (1 : Int) < (x2 : Int) - (x1 : Int) := of_decide_eq_true c
      refine ⟨_, rfl, x1, x2, _, rfl, hv, by omega, by omega, fun H3 q l h s3 nq hq hl hh => ?_⟩
      have hb3 := hb2.same s3
      refine ⟨_, rfl, bg, 2, rfl, by decide, by decide, hb3, fun r H4 r0 r1 k4 hb4 => ?_⟩
      have B34 : But bg H3 H4 := (But.refl bg H3).pick k4
      have B4 : But bg H H4 := (B2.trans (But.of s3)).trans B34
      have hq4 := B34.at (hb3.tup hq) hq
      have el : isN n (x1, x1 + gp (x2 - x1)) := half_low_isN (m := x2 - x1) (by omega) xt (by omega)
      have eh : isN n (x1 + gp (x2 - x1), x2) := by
        have := half_high_isN (n := n) (b := x1) (m := x2 - x1) (by omega) xt (by omega)
        rwa [show x1 + (x2 - x1) = x2 by omega] at this
      rcases (show r = 0 ∨ r = 1 by omega) with rfl | rfl
      · exact ⟨q, _, _, _, rfl, rfl, SqT.of hq4, atI_nat (j := 0) rfl, l, _, _, rfl, B4, hb4, hl.but B34 hb3, el⟩
      · exact ⟨q, _, _, _, rfl, rfl, SqT.of hq4, atI_nat (j := 1) rfl, h, _, _, rfl, B4, hb4, hh.but B34 hb3, eh⟩
    · exact ⟨_, _, _, rfl, B2, hb2, hv, hx⟩
  · rintro σ H2 ⟨v, v4, x, rfl, B2, hb2, hv, hx⟩
    exact ⟨v, rfl, q H2 v x B2 hb2 hv hx⟩
end
end LT

namespace LT
open PySem PySem.Spec PyProof.Rows L2
theorem So.snocB {at' : Nat} {x : Nat × Nat} : ∀ {lo : Nat} {S : List (Nat × Nat)}, So at' lo S → at' ≤ x.1 → x.1 < x.2 → So x.2 lo (S ++ [x])
  | lo, [], h, h1, h2 => ⟨Nat.le_trans h h1, h2, Nat.le_refl _, Nat.le_refl _⟩
  | lo, y :: S, ⟨k1, k2, k3, k4⟩, h1, h2 => ⟨k1, k2, by omega, k4.snocB h1 h2⟩
theorem So.up {n at' : Nat} (h : at' ≤ n) : ∀ {lo : Nat} {S : List (Nat × Nat)}, So at' lo S → So n lo S
  | lo, [], k => Nat.le_trans k h
  | lo, y :: S, ⟨k1, k2, k3, k4⟩ => ⟨k1, k2, by omega, k4.up h⟩
theorem pick3 {r1 r2 c r3 : Int} (h1 : 0 ≤ r1) (h1' : r1 ≤ c) (h2 : 0 ≤ r2) (hc : 0 ≤ c) (h3 : 0 ≤ r3) (h3' : r3 < 3) : ∃ z : Nat, atI [V.int 0, V.int r1, V.int (if r2 < c then r2 else c)] r3 = some (.int (z : Int)) ∧ (z : Int) ≤ c := by
  rcases (show r3 = 0 ∨ r3 = 1 ∨ r3 = 2 by omega) with rfl | rfl | rfl
  · exact ⟨0, atI_nat (j := 0) rfl, hc⟩
  · exact ⟨r1.toNat, by rw [Int.toNat_of_nonneg h1]; exact atI_nat (j := 1) rfl, by omega⟩
  · have k : 0 ≤ (if r2 < c then r2 else c) ∧ (if r2 < c then r2 else c) ≤ c := by split <;> omega
    exact ⟨(if r2 < c then r2 else c).toNat, by rw [Int.toNat_of_nonneg k.1]; exact atI_nat (j := 2) rfl, by omega⟩
section
variable {P : Program} {w : World} {K : PySem.W.Frag} {mg : Str → Option Value} {base : Heap}
def spLawSpans : Sp := fun vs H Q _ => ∃ (bg : Addr) (n most : Nat), vs = [.ref bg, .int n, .int most] ∧ BagAt H bg ∧ 1 ≤ n ∧ n ≤ 10 ^ 30 ∧ 1 ≤ most ∧ most ≤ 12 ∧
  ∀ (H' : Hp) (p : Addr) (xs : List V) (S : List (Nat × Nat)), But bg H H' → BagAt H' bg → H p = none → H' p = some (.lst xs) → All2 (Nd H') xs S → 1 ≤ S.length → S.length ≤ 12 → So n 0 S → Q (.ref p) H'
theorem ok_law_spans {f g2 : Addr} {fd d2 : FuncData} (F : Fun K "_law_spans" "_law_spans" sLawSpans f fd)
    (GLawPick : FnOk P w K mg base CX0 1 g2 d2 ["bag", "many"] spPick) (ALawPick : At K mg "_law_pick" g2 d2 ["bag", "many"]) (z_range : mg "range" = none) (z_min : mg "min" = none) : FnOk P w K mg base CX0 2 f fd ["bag", "size", "most"] spLawSpans := by
  refine F.ok scLawSpans (fun vs H Q E h => ?_) (fun cdv A outer s H vs Q E hr h => ?_)
  · obtain ⟨_, _, _, rfl, _⟩ := h
    rfl
  obtain ⟨bg, n, most, rfl, hb, n1, h30, m1, m12, q⟩ := h
  have two : 2 ≤ sizeLine := by decide
  have three : 3 ≤ sizeLine := by decide
  have p250 : (10 : Nat) ^ 30 + 1 < 2 ^ 250 := by decide
  refine ⟨_, (pss_cons (ps_par (i := 3) (j := 4) (by rfl) scLawSpans.nd rfl rfl (by decide) rfl rfl (pa_cons (pe_lst pa_nil) (pa_cons pe_int pa_nil)) (by rfl))
    (pss_cons (ps_for PassesOwn.never rfl (pi_range1 (by rfl) z_range (pa_cons (pe_op op_add pe_int (pe_call GLawPick (hr.mono (by decide)) rfl ALawPick.m ALawPick.kp ALawPick.b .nil pass0 (pa_cons (pv 0) (pa_cons (pv 2) pa_nil)))) pa_nil)) (pg_name (i := 5) scLawSpans.nd rfl (Or.inl rfl))
    (pss_one (ps_if (pt_cmpR op_lt (pv 4) (pv 1) (nomark _))
    (pss_cons (ps_set (i := 6) scLawSpans.nd rfl (Or.inl rfl) (pe_op op_add (pv 4) (pe_ix ix_list (pe_lst (pa_cons pe_int (pa_cons (pe_call GLawPick (hr.mono (by decide)) rfl ALawPick.m ALawPick.kp ALawPick.b .nil pass0 (pa_cons (pv 0) (pa_cons (pe_op op_sub (pv 1) (pv 4)) pa_nil))) (pa_cons (pe_callB (call_min2 rfl) (by rfl) z_min (by decide +kernel) (pa_cons (pe_op op_sub (pe_op op_sub (pv 1) (pv 4)) pe_int) (pa_cons (pe_call GLawPick (hr.mono (by decide)) rfl ALawPick.m ALawPick.kp ALawPick.b .nil pass0 (pa_cons (pv 0) (pa_cons pe_int pa_nil))) pa_nil))) pa_nil)))) (pe_call GLawPick (hr.mono (by decide)) rfl ALawPick.m ALawPick.kp ALawPick.b .nil pass0 (pa_cons (pv 0) (pa_cons pe_int pa_nil))) (fun _ _ => rfl))))
    (pss_cons (ps_set (i := 7) scLawSpans.nd rfl (Or.inl rfl) (pe_ix ix_list (pe_lst (pa_cons pe_int (pa_cons (pe_call GLawPick (hr.mono (by decide)) rfl ALawPick.m ALawPick.kp ALawPick.b .nil pass0 (pa_cons (pv 0) (pa_cons (pe_op op_sub (pv 1) (pv 6)) pa_nil))) (pa_cons (pe_callB (call_min2 rfl) (by rfl) z_min (by decide +kernel) (pa_cons (pe_op op_sub (pe_op op_sub (pv 1) (pv 6)) pe_int) (pa_cons (pe_call GLawPick (hr.mono (by decide)) rfl ALawPick.m ALawPick.kp ALawPick.b .nil pass0 (pa_cons (pv 0) (pa_cons pe_int pa_nil))) pa_nil))) pa_nil)))) (pe_call GLawPick (hr.mono (by decide)) rfl ALawPick.m ALawPick.kp ALawPick.b .nil pass0 (pa_cons (pv 0) (pa_cons pe_int pa_nil))) (fun _ _ => rfl)))
    (pss_cons (ps_expr (pe_bm PySem.F.plainAttrs_list PySem.F.slot_list_append PySem.F.type_list_append mt_append (pv 3) (pa_cons (pe_tup (pa_cons (pv 6) (pa_cons (pe_op op_add (pe_op op_add (pv 6) pe_int) (pv 7)) pa_nil))) pa_nil)))
    (pss_one (ps_set (i := 4) scLawSpans.nd rfl (Or.inl rfl) (pe_op op_add (pe_op op_add (pv 6) pe_int) (pv 7)))))))
    pss_nil)))
    (pss_one (ps_ret (pv 3))))), ?_⟩
  refine ⟨Nat.zero_le _, fun fa nf => ⟨_, _, rfl, ?_⟩⟩
  have s0 := same_upd (o := .lst []) nf
  have hf : (upd H fa (.lst [])) fa = some (.lst []) := upd_same
  have hb0 := hb.same s0
  have fab := hb.ne nf
  generalize upd H fa (.lst []) = H0 at s0 hf hb0 ⊢
  refine ⟨_, rfl, _, rfl, bg, (most : Int), rfl, by omega, by omega, hb0, fun r H1 r0 r1 k1 hb1 => ?_⟩
  obtain ⟨m, rfl⟩ : ∃ m : Nat, r = (m : Int) := ⟨r.toNat, by omega⟩
  have B1 : But bg H H1 := fun a o nn k => by rw [k1 a nn]; exact s0 a o k
  have hf1 : H1 fa = some (.lst []) := by rw [k1 fa fab]; exact hf
  refine ⟨_, _, rfl, rfl, ((1 + m : Nat) : Int), congrArg (fun z => [V.int z]) (by omega), by omega, by omega, for_range (lo := 0) (n := 1 + m) (fun i σ H' => ∃ (at' : Nat) (v5 v6 v7 : Option V) (xs : List V) (S : List (Nat × Nat)), σ = [some (.ref bg), some (.int (n : Int)), some (.int (most : Int)), some (.ref fa), some (.int (at' : Int)), v5, v6, v7] ∧ But bg H H' ∧ BagAt H' bg ∧ H' fa = some (.lst xs) ∧ All2 (Nd H') xs S ∧ So at' 0 S ∧ at' ≤ n ∧ S.length ≤ i ∧ (i = 0 → at' = 0) ∧ (1 ≤ i → 1 ≤ S.length))
    ⟨0, none, none, none, [], [], rfl, B1, hb1, hf1, .nil, Nat.le_refl 0, Nat.zero_le _, Nat.le_refl _, fun _ => rfl, fun z => by omega⟩ ?_ ?_⟩
  · rintro i σ H2 im ⟨at', v5, v6, v7, xs, S, rfl, B2, hb2, hf2, hxs, hS, an, lS, z0, z1⟩
    refine ⟨_, rfl, _, rfl, _, _, rfl, rfl, _, rfl, ite2 (fun c => ?_) (fun c => ?_)⟩
    case' _ =>
      have c1 : (at' : Int) < (n : Int) := of_decide_eq_true c
      refine ⟨_, rfl, _, rfl, _, rfl, _, rfl, _, _, rfl, rfl, bg, (n : Int) - at', rfl, by omega, by omega, hb2, fun r1 H3 r10 r11 k3 hb3 => ?_⟩
      refine ⟨_, rfl, _, rfl, _, _, rfl, rfl, _, _, rfl, rfl, _, rfl, bg, 5, rfl, by decide, by decide, hb3, fun r2 H4 r20 r21 k4 hb4 => ⟨_, _, rfl, three, fun l nl => ?_⟩⟩
      have w5 := same_upd (o := .lst [.int 0, .int r1, .int (if r2 < (n : Int) - at' - 1 then r2 else (n : Int) - at' - 1)]) nl
      have hl5 : (upd H4 l (.lst [.int 0, .int r1, .int (if r2 < (n : Int) - at' - 1 then r2 else (n : Int) - at' - 1)])) l = some (.lst [.int 0, .int r1, .int (if r2 < (n : Int) - at' - 1 then r2 else (n : Int) - at' - 1)]) := upd_same
      have lb := hb4.ne nl
      have hb5 := hb4.same w5
      have B25 : But bg H2 (upd H4 l (.lst [.int 0, .int r1, .int (if r2 < (n : Int) - at' - 1 then r2 else (n : Int) - at' - 1)])) := (((But.refl bg H2).pick k3).pick k4).trans (But.of w5)
      generalize upd H4 l (.lst [.int 0, .int r1, .int (if r2 < (n : Int) - at' - 1 then r2 else (n : Int) - at' - 1)]) = H5 at hl5 hb5 B25 ⊢
      refine ⟨_, rfl, bg, 3, rfl, by decide, by decide, hb5, fun r3 H6 r30 r31 k6 hb6 => ?_⟩
      have hl6 : H6 l = some (.lst [.int 0, .int r1, .int (if r2 < (n : Int) - at' - 1 then r2 else (n : Int) - at' - 1)]) := by rw [k6 l lb]; exact hl5
      have B26 := B25.pick k6
      obtain ⟨z, hz, zc⟩ := pick3 (c := (n : Int) - at' - 1) r10 (by omega) r20 (by omega) r30 r31
      refine ⟨l, _, _, _, rfl, rfl, SqL.of hl6, hz, _, _, rfl, rfl, ?_⟩
      clear hl6 hl5 hz w5 B25 hb5 hb4 hb3 k3 k4 k6 lb nl r10 r11 r20 r21 r30 r31
      obtain ⟨fst, ef⟩ : ∃ fst : Nat, fst = at' + z := ⟨_, rfl⟩
      have ef' : (at' : Int) + (z : Int) = ((fst : Nat) : Int) := by omega
      dsimp only
      rw [ef']
      refine ⟨_, rfl, _, rfl, _, rfl, _, _, rfl, rfl, bg, (n : Int) - fst, rfl, by omega, by omega, hb6, fun r1 H3 r10 r11 k3 hb3 => ?_⟩
      refine ⟨_, rfl, _, rfl, _, _, rfl, rfl, _, _, rfl, rfl, _, rfl, bg, 9, rfl, by decide, by decide, hb3, fun r2 H4 r20 r21 k4 hb4 => ⟨_, _, rfl, three, fun l nl => ?_⟩⟩
      have w5 := same_upd (o := .lst [.int 0, .int r1, .int (if r2 < (n : Int) - fst - 1 then r2 else (n : Int) - fst - 1)]) nl
      have hl5 : (upd H4 l (.lst [.int 0, .int r1, .int (if r2 < (n : Int) - fst - 1 then r2 else (n : Int) - fst - 1)])) l = some (.lst [.int 0, .int r1, .int (if r2 < (n : Int) - fst - 1 then r2 else (n : Int) - fst - 1)]) := upd_same
      have lb := hb4.ne nl
      have hb5 := hb4.same w5
      have B65 : But bg H6 (upd H4 l (.lst [.int 0, .int r1, .int (if r2 < (n : Int) - fst - 1 then r2 else (n : Int) - fst - 1)])) := (((But.refl bg H6).pick k3).pick k4).trans (But.of w5)
      generalize upd H4 l (.lst [.int 0, .int r1, .int (if r2 < (n : Int) - fst - 1 then r2 else (n : Int) - fst - 1)]) = H5 at hl5 hb5 B65 ⊢
      refine ⟨_, rfl, bg, 3, rfl, by decide, by decide, hb5, fun r3 H7 r30 r31 k7 hb7 => ?_⟩
      have hl7 : H7 l = some (.lst [.int 0, .int r1, .int (if r2 < (n : Int) - fst - 1 then r2 else (n : Int) - fst - 1)]) := by rw [k7 l lb]; exact hl5
      have B27 := B26.trans (B65.pick k7)
      obtain ⟨z2, hz2, zc2⟩ := pick3 (c := (n : Int) - fst - 1) r10 (by omega) r20 (by omega) r30 r31
      refine ⟨l, _, _, _, rfl, rfl, SqL.of hl7, hz2, ?_⟩
      clear hl7 hl5 hz2 w5 B65 hb5 hb4 hb3 k3 k4 k7 lb nl r10 r11 r20 r21 r30 r31 B26 hb6
      have hf7 := B27.at fab hf2
      have hxs7 := hxs.mono fun v x (k : Nd H2 v x) => k.but B27 hb2
      have B7 := B2.trans B27
      have et : (fst : Int) + 1 + (z2 : Int) = ((fst + 1 + z2 : Nat) : Int) := by omega
      refine ⟨_, rfl, .inl ⟨rfl, _, SqL.of hf7⟩, _, rfl, _, rfl, _, _, rfl, rfl, _, rfl, _, _, rfl, rfl, two, fun t nt => ?_⟩
      dsimp only
      rw [et]
      have w8 := same_upd (o := .tup [.int (fst : Int), .int ((fst + 1 + z2 : Nat) : Int)]) nt
      have hf8 := w8 _ _ hf7
      have hb8 := hb7.same w8
      have hxs8 := hxs7.mono fun v x (k : Nd H7 v x) => k.same w8
      have ht8 : Nd (upd H7 t (.tup [.int (fst : Int), .int ((fst + 1 + z2 : Nat) : Int)])) (.ref t) (fst, fst + 1 + z2) := ⟨t, rfl, upd_same⟩
      have B8 := B7.trans (But.of w8)
      generalize upd H7 t (.tup [.int (fst : Int), .int ((fst + 1 + z2 : Nat) : Int)]) = H8 at hf8 hb8 hxs8 ht8 B8 ⊢
      refine ⟨fa, _, _, rfl, rfl, hf8, szlt (by rw [hxs.len]; omega), ?_⟩
      refine ⟨_, rfl, _, _, rfl, rfl, _, rfl, _, _, rfl, rfl, ?_⟩
      dsimp only
      rw [et]
      refine ⟨fst + 1 + z2, _, _, _, xs ++ [.ref t], S ++ [(fst, fst + 1 + z2)], rfl, fun a o nn k => by rw [upd_ne (ne_of_none k nf)]; exact B8 a o nn k, hb8.upd fab, upd_same, ?_, hS.snocB (x := (fst, fst + 1 + z2)) (by show at' ≤ fst; omega) (by show fst < fst + 1 + z2; omega), by omega, by rw [List.length_append, List.length_singleton]; omega, fun z => by omega, fun _ => by rw [List.length_append, List.length_singleton]; omega⟩
      exact (hxs8.mono fun v x (k : Nd H8 v x) => k.upd hf8).app (.cons (ht8.upd hf8) .nil)
    · refine ⟨at', _, v6, v7, xs, S, rfl, B2, hb2, hf2, hxs, hS, an, by omega, fun z => by omega, fun _ => ?_⟩
      have c1 : ¬ (at' : Int) < (n : Int) := of_decide_eq_false (Bool.eq_false_iff.mpr c)
      by_cases zi : i = 0
      · have := z0 zi
        omega
      · exact z1 (by omega)
  · rintro σ H2 ⟨at', v5, v6, v7, xs, S, rfl, B2, hb2, hf2, hxs, hS, an, lS, z0, z1⟩
    exact ⟨_, rfl, q H2 fa xs S B2 hb2 nf hf2 hxs (z1 (by omega)) (by omega) (hS.up an)⟩
end
end LT

namespace LT
open PySem PySem.Spec PyProof.Rows L2
section
variable {P : Program} {w : World} {K : PySem.W.Frag} {mg : Str → Option Value} {base : Heap}
def spMoved : Sp := fun vs H Q _ => ∃ (p : Addr) (xs : List V) (S : List (Nat × Nat)) (d : Nat), vs = [.ref p, .int d] ∧ H p = some (.lst xs) ∧ All2 (Nd H) xs S ∧ S.length ≤ 90000 ∧
  ∀ (H' : Hp) (r : Addr) (ys : List V), Same H H' → H r = none → H' r = some (.lst ys) → All2 (Nd H') ys (S.map (sh d)) → Q (.ref r) H'
theorem ok_law_moved {f : Addr} {fd : FuncData} (F : Fun K "_law_moved" "_law_moved" sLawMoved f fd) : FnOk P w K mg base CX0 1 f fd ["nodes", "far"] spMoved := by
  refine F.ok scLawMoved (fun vs H Q E h => ?_) (fun cdv A outer s H vs Q E hr h => ?_)
  · obtain ⟨_, _, _, _, rfl, _⟩ := h
    rfl
  obtain ⟨p, xs, S, d, rfl, hp, hxs, hl, q⟩ := h
  have two : 2 ≤ sizeLine := by decide
  have hlen := hxs.len
  refine ⟨_, (pss_one (ps_ret (pe_lc (own := [("first", 2), ("end", 3)]) rfl scLawMoved.nd (pi_list (pv 0)) (blkOk_by (N := ["nodes", "far", "first", "end"]) (sc := defScope sLawMoved) (by decide +kernel)) (fun _ _ _ _ _ => (pg_tupB (n := 2) rfl (pgs_cons (pg_name (i := 2) scLawMoved.nd rfl (Or.inl rfl)) (pgs_cons (pg_name (i := 3) scLawMoved.nd rfl (Or.inl rfl)) pgs_nil)))) (fun _ _ _ _ _ => pts_nil) (fun _ _ _ _ _ => (pe_tup (pa_cons (pe_op op_add (pv 2) (pv 1)) (pa_cons (pe_op op_add (pv 3) (pv 1)) pa_nil))))))), ?_⟩
  refine ⟨_, rfl, p, rfl, ⟨_, SqL.of hp⟩, fun D nD => ?_⟩
  refine lc_list (K := K) (a := p) (xs := xs) (fun j H' => ∃ ys : List V, Same H H' ∧ H' D = some (.lst ys) ∧ All2 (Nd H') ys ((S.take j).map (sh d))) ⟨[], same_upd nD, upd_same, .nil⟩ (fun j H' _ ⟨_, s5, _⟩ => SqL.of (s5 _ _ hp)) ?_ ?_
  · rintro j v H1 hj ⟨ys, s1, hD, hys⟩
    obtain ⟨x, hxj, pv, rfl, hpv⟩ := hxs.nth hj
    have jl := (List.getElem?_eq_some_iff.mp hxj).1
    refine ⟨pv, _, rfl, SqT.of (s1 _ _ hpv), rfl, _, _, rfl, _, _, rfl, rfl, rfl, ?_⟩
    refine ⟨_, rfl, _, rfl, _, _, rfl, rfl, _, rfl, _, rfl, _, _, rfl, rfl, two, fun t nt => ?_⟩
    have st := same_upd (o := .tup [.int ((x.1 : Int) + (d : Int)), .int ((x.2 : Int) + (d : Int))]) nt
    refine ⟨ys, st _ _ hD, szlt (by rw [hys.len, List.length_map, List.length_take]; omega), ys ++ [.ref t], ?_, upd_same, ?_⟩
    · exact fun a o k => by rw [upd_ne (ne_of_none k nD)]; exact st _ _ (s1 _ _ k)
    · rw [take_more hxj, List.map_append]
      exact (hys.mono (fun v x (k : Nd H1 v x) => (k.same st).upd (st _ _ hD))).app (.cons (Nd.upd (x := sh d x) ⟨t, rfl, upd_same⟩ (st _ _ hD)) .nil)
  · rintro H1 ⟨ys, s1, hD, hys⟩
    rw [hlen, List.take_length] at hys
    exact q H1 D ys s1 nD hD hys
def spMovedT : Sp := fun vs H Q _ => ∃ (p : Addr) (xs : List V) (S : List (Nat × Nat)) (d : Nat), vs = [.ref p, .int d] ∧ H p = some (.tup xs) ∧ All2 (Nd H) xs S ∧ S.length ≤ 90000 ∧
  ∀ (H' : Hp) (r : Addr) (ys : List V), Same H H' → H r = none → H' r = some (.lst ys) → All2 (Nd H') ys (S.map (sh d)) → Q (.ref r) H'
theorem ok_law_movedT {f : Addr} {fd : FuncData} (F : Fun K "_law_moved" "_law_moved" sLawMoved f fd) : FnOk P w K mg base CX0 1 f fd ["nodes", "far"] spMovedT := by
  refine F.ok scLawMoved (fun vs H Q E h => ?_) (fun cdv A outer s H vs Q E hr h => ?_)
  · obtain ⟨_, _, _, _, rfl, _⟩ := h
    rfl
  obtain ⟨p, xs, S, d, rfl, hp, hxs, hl, q⟩ := h
  have two : 2 ≤ sizeLine := by decide
  have hlen := hxs.len
  refine ⟨_, (pss_one (ps_ret (pe_lc (own := [("first", 2), ("end", 3)]) rfl scLawMoved.nd (pi_tup (pv 0)) (blkOk_by (N := ["nodes", "far", "first", "end"]) (sc := defScope sLawMoved) (by decide +kernel)) (fun _ _ _ _ _ => (pg_tupB (n := 2) rfl (pgs_cons (pg_name (i := 2) scLawMoved.nd rfl (Or.inl rfl)) (pgs_cons (pg_name (i := 3) scLawMoved.nd rfl (Or.inl rfl)) pgs_nil)))) (fun _ _ _ _ _ => pts_nil) (fun _ _ _ _ _ => (pe_tup (pa_cons (pe_op op_add (pv 2) (pv 1)) (pa_cons (pe_op op_add (pv 3) (pv 1)) pa_nil))))))), ?_⟩
  refine ⟨_, rfl, p, rfl, ⟨_, SqT.of hp⟩, fun D nD => ?_⟩
  refine lc_tup (K := K) (a := p) (xs := xs) (fun j H' => ∃ ys : List V, Same H H' ∧ H' D = some (.lst ys) ∧ All2 (Nd H') ys ((S.take j).map (sh d))) ⟨[], same_upd nD, upd_same, .nil⟩ (fun j H' _ ⟨_, s5, _⟩ => SqT.of (s5 _ _ hp)) ?_ ?_
  · rintro j v H1 hj ⟨ys, s1, hD, hys⟩
    obtain ⟨x, hxj, pv, rfl, hpv⟩ := hxs.nth hj
    have jl := (List.getElem?_eq_some_iff.mp hxj).1
    refine ⟨pv, _, rfl, SqT.of (s1 _ _ hpv), rfl, _, _, rfl, _, _, rfl, rfl, rfl, ?_⟩
    refine ⟨_, rfl, _, rfl, _, _, rfl, rfl, _, rfl, _, rfl, _, _, rfl, rfl, two, fun t nt => ?_⟩
    have st := same_upd (o := .tup [.int ((x.1 : Int) + (d : Int)), .int ((x.2 : Int) + (d : Int))]) nt
    refine ⟨ys, st _ _ hD, szlt (by rw [hys.len, List.length_map, List.length_take]; omega), ys ++ [.ref t], ?_, upd_same, ?_⟩
    · exact fun a o k => by rw [upd_ne (ne_of_none k nD)]; exact st _ _ (s1 _ _ k)
    · rw [take_more hxj, List.map_append]
      exact (hys.mono (fun v x (k : Nd H1 v x) => (k.same st).upd (st _ _ hD))).app (.cons (Nd.upd (x := sh d x) ⟨t, rfl, upd_same⟩ (st _ _ hD)) .nil)
  · rintro H1 ⟨ys, s1, hD, hys⟩
    rw [hlen, List.take_length] at hys
    exact q H1 D ys s1 nD hD hys
end
end LT

namespace LT
open PySem PySem.Spec PyProof.Rows L2
theorem ne_no {x y : V} (h : x = y) : V.bl (!decide (x = y)) = V.bl false := by rw [decide_eq_true h]; rfl
theorem dropLast_sh (d n : Nat) (L : List (Nat × Nat)) (h : L ≠ []) : ((0, d) :: L.map (sh d)).dropLast.map (fun x => (x.1, d + n)) = (0, d + n) :: (L.dropLast.map fun x => (x.1, n)).map (sh d) := by
  have e : ((0, d) :: L.map (sh d)).dropLast = (0, d) :: (L.dropLast).map (sh d) := by
    cases L with
    | nil => exact absurd rfl h
    | cons a t =>
      rw [List.map_cons, List.dropLast_cons₂, ← List.map_cons, List.map_dropLast]
  rw [e, List.map_cons, List.map_map, List.map_map]
  congr 1
  exact List.map_congr_left fun x _ => Prod.ext rfl (Nat.add_comm _ _)
theorem All2.drop1 {α : Type} {R : V → α → Prop} : ∀ {vs : List V} {xs : List α}, All2 R vs xs → All2 R (vs.drop 1) (xs.drop 1)
  | _, _, .nil => .nil
  | _, _, .cons _ t => t
theorem cut_one (xs : List V) : cutV xs (some 1) none = xs.drop 1 := by
  cases xs with
  | nil => rfl
  | cons a t =>
    unfold cutV
    have e : HT.sIx (a :: t).length 0 (some 1) = 1 := by
      show (if (1 : Int) < 0 then ((1 : Int) + ((a :: t).length : Int)).toNat else min (1 : Int).toNat (a :: t).length) = 1
      rw [if_neg (by decide)]
      show min 1 (t.length + 1) = 1
      omega
    rw [e, HT.sIx_none]
    exact List.take_of_length_le (by rw [List.length_drop]; exact Nat.le_refl _)
theorem pk_head (i n b : Nat) (h : n % 2 ^ i ≠ 0) : ∃ y t, (pk i n b).map full = (b, y) :: t := by
  obtain ⟨j, _, e, _⟩ := pk_step i n b h
  rw [e]
  exact ⟨_, _, rfl⟩
section
variable {P : Program} {w : World} {K : PySem.W.Frag} {mg : Str → Option Value} {base : Heap}
def spShape : Sp := fun vs H Q _ => ∃ (n k : Nat), vs = [.int n, .int ((2 ^ k : Nat) : Int)] ∧ 1 ≤ n ∧ n < 2 ^ k ∧ k ≤ 100 ∧ 2 ^ k + n ≤ 10 ^ 30 ∧ ∀ H', Same H H' → Q (.bl true) H'
theorem ok_law_shape {f g1 g2 g3 g4 : Addr} {fd d1 d2 d3 d4 : FuncData} (F : Fun K "_law_shape_right" "_law_shape_right" sLawShapeRight f fd)
    (GPeaks : FnOk P w K mg base CX0 4 g1 d1 ["size"] spTops) (APeaks : At K mg "peaks" g1 d1 ["size"])
    (GLawMoved : FnOk P w K mg base CX0 1 g2 d2 ["nodes", "far"] spMoved) (ALawMoved : At K mg "_law_moved" g2 d2 ["nodes", "far"])
    (GNodeCount : FnOk P w K mg base CX0 6 g3 d3 ["size"] spNodeCount) (ANodeCount : At K mg "node_count" g3 d3 ["size"])
    (GEdges : FnOk P w K mg base CX0 5 g4 d4 ["size"] spEdges) (AEdges : At K mg "edges" g4 d4 ["size"]) (z_len : mg "len" = none) : FnOk P w K mg base CX0 7 f fd ["size", "far"] spShape := by
  refine F.ok scLawShapeRight (fun vs H Q E h => ?_) (fun cdv A outer s H vs Q E hr h => ?_)
  · obtain ⟨_, _, rfl, _⟩ := h
    rfl
  obtain ⟨n, k, rfl, n1, hn, hk, h30, q⟩ := h
  have two : 2 ≤ sizeLine := by decide
  have one1 : 1 ≤ sizeLine := by decide
  have L101 := pk_len 101 n 0
  have ne := pk_ne 101 n 0 (by rw [Nat.mod_eq_of_lt (Nat.lt_of_lt_of_le hn (Nat.pow_le_pow_right (by decide) (by omega)))]; omega)
  have et := tops_first hk hn
  have ewh : ((2 ^ k : Nat) : Int) + (n : Int) = ((2 ^ k + n : Nat) : Int) := by omega
  generalize ht : (pk 101 n 0).map full = T at et
  have lT : T.length = (pk 101 n 0).length := by rw [← ht, List.length_map]
  have nT : T ≠ [] := fun z => by
    rw [z] at lT
    exact ne (List.length_eq_zero_iff.mp lT.symm)
  refine ⟨_, (pss_cons (ps_set (i := 2) scLawShapeRight.nd rfl (Or.inl rfl) (pe_op op_add (pv 1) (pv 0)))
    (pss_cons (ps_if (pt_cmpR (op_neD hr.units) (pe_call GPeaks (hr.mono (by decide)) rfl APeaks.m APeaks.kp APeaks.b .nil pass0 (pa_cons (pv 2) pa_nil)) (pe_op op_cat (pe_lst (pa_cons (pe_tup (pa_cons pe_int (pa_cons (pv 1) pa_nil))) pa_nil)) (pe_call GLawMoved (hr.mono (by decide)) rfl ALawMoved.m ALawMoved.kp ALawMoved.b .nil pass0 (pa_cons (pe_call GPeaks (hr.mono (by decide)) rfl APeaks.m APeaks.kp APeaks.b .nil pass0 (pa_cons (pv 0) pa_nil)) (pa_cons (pv 1) pa_nil)))) (nomark _))
    (pss_one (ps_ret pe_bl))
    pss_nil)
    (pss_cons (ps_asg (pe_call GNodeCount (hr.mono (by decide)) rfl ANodeCount.m ANodeCount.kp ANodeCount.b .nil pass0 (pa_cons (pv 0) pa_nil)) (pg_tup (by rfl) (pgs_cons (pg_name (i := 3) scLawShapeRight.nd rfl (Or.inl rfl)) (pgs_cons (pg_name (i := 4) scLawShapeRight.nd rfl (Or.inl rfl)) pgs_nil))))
    (pss_cons (ps_if (pt_cmpR (op_neD hr.units) (pe_call GNodeCount (hr.mono (by decide)) rfl ANodeCount.m ANodeCount.kp ANodeCount.b .nil pass0 (pa_cons (pv 2) pa_nil)) (pe_tup (pa_cons (pe_op op_sub (pe_op op_add (pv 3) (pe_op op_mul pe_int (pv 1))) pe_int) (pa_cons (pe_op op_add (pv 4) pe_int) pa_nil))) (nomark _))
    (pss_one (ps_ret pe_bl))
    pss_nil)
    (pss_cons (ps_set (i := 5) scLawShapeRight.nd rfl (Or.inl rfl) (pe_lst (pa_cons (pe_tup (pa_cons pe_int (pa_cons (pv 2) pa_nil))) pa_nil)))
    (pss_cons (ps_if (pt_cmpR op_gt (pe_callB call_len_seq (by rfl) z_len PySem.boot_len (pa_cons (pe_call GPeaks (hr.mono (by decide)) rfl APeaks.m APeaks.kp APeaks.b .nil pass0 (pa_cons (pv 0) pa_nil)) pa_nil)) pe_int (nomark _))
    (pss_one (ps_expr (pe_bm PySem.F.plainAttrs_list PySem.F.slot_list_append PySem.F.type_list_append mt_append (pv 5) (pa_cons (pe_tup (pa_cons (pv 1) (pa_cons (pv 2) pa_nil))) pa_nil))))
    pss_nil)
    (pss_one (ps_ret (pe_cmpR (op_eqD hr.units) (pe_call GEdges (hr.mono (by decide)) rfl AEdges.m AEdges.kp AEdges.b .nil pass0 (pa_cons (pv 2) pa_nil)) (pe_op op_cat (pv 5) (pe_call GLawMoved (hr.mono (by decide)) rfl ALawMoved.m ALawMoved.kp ALawMoved.b .nil pass0 (pa_cons (pe_slice sl_list (pe_call GEdges (hr.mono (by decide)) rfl AEdges.m AEdges.kp AEdges.b .nil pass0 (pa_cons (pv 0) pa_nil)) (po_some pe_int) po_none) (pa_cons (pv 1) pa_nil)))) (nomark _)))))))))), ?_⟩
  refine ⟨_, rfl, _, rfl, _, _, rfl, rfl, ?_⟩
  dsimp only
  rw [ewh]
  refine ⟨_, rfl, 2 ^ k + n, rfl, by omega, h30, fun H1 p1 xs1 s1 np1 hp1 hx1 => ?_⟩
  rw [et] at hx1
  refine ⟨_, rfl, two, fun t1 nt1 => ⟨one1, fun l1 nl1 => ?_⟩⟩
  have w2 := same_upd (o := .tup [.int 0, .int ((2 ^ k : Nat) : Int)]) nt1
  have w3 := same_upd (o := .lst [.ref t1]) nl1
  have hl1 : (upd (upd H1 t1 (.tup [.int 0, .int ((2 ^ k : Nat) : Int)])) l1 (.lst [.ref t1])) l1 = some (.lst [.ref t1]) := upd_same
  have ht1 : Nd (upd (upd H1 t1 (.tup [.int 0, .int ((2 ^ k : Nat) : Int)])) l1 (.lst [.ref t1])) (.ref t1) (0, 2 ^ k) := ⟨t1, rfl, w3 _ _ upd_same⟩
  have s2 := s1.trans (w2.trans w3)
  have hp2 := (w2.trans w3) _ _ hp1
  have hx2 := hx1.mono fun v x (k : Nd H1 v x) => (k.same w2).same w3
  generalize upd (upd H1 t1 (.tup [.int 0, .int ((2 ^ k : Nat) : Int)])) l1 (.lst [.ref t1]) = H2 at hl1 ht1 s2 hp2 hx2 ⊢
  refine ⟨_, rfl, n, rfl, n1, by omega, fun H3 p3 xs3 s3 np3 hp3 hx3 => ⟨_, rfl, p3, xs3, T, 2 ^ k, rfl, hp3, by rw [← ht]; exact hx3, by omega, fun H4 p4 ys4 s4 np4 hp4 hy4 => ?_⟩⟩
  have s24 := s3.trans s4
  refine ⟨l1, p4, _, _, rfl, rfl, s24 _ _ hl1, hp4, szle (by rw [hy4.len, List.length_map, List.length_singleton]; omega), fun r nr => ?_⟩
  have w5 := same_upd (o := .lst ([V.ref t1] ++ ys4)) nr
  have s25 := s24.trans w5
  refine ⟨_, _, lst_dp (s25 _ _ hp2) (hx2.mono fun v x (k : Nd H2 v x) => k.same s25), lst_dp (l := (0, 2 ^ k) :: T.map (sh (2 ^ k))) upd_same (.cons (ht1.same s25) (hy4.mono fun v x (k : Nd H4 v x) => k.same w5)), nds_shaped _, nds_shaped _, ?_⟩
  rw [nds_eqv, decide_eq_true rfl]
  refine ⟨false, rfl, ?_⟩
  have s5 := s2.trans s25
  generalize upd H4 r (.lst ([V.ref t1] ++ ys4)) = H5 at s5 ⊢
  clear s25 w5 s24 s4 s3 s2 hl1 ht1 hp2 hx2 hp3 hx3 hp4 hy4 w2 w3 hp1 hx1 s1 np1 np3 np4 nr nt1 nl1
  -- counts
  have enp : npk (2 ^ k + n) = npk n + 1 := by
    unfold npk
    rw [pk_first hk hn, List.length_cons, List.length_map]
  have enT : npk n = T.length := lT.symm
  have pT : 1 ≤ T.length := List.length_pos_iff.mpr nT
  refine ⟨_, rfl, n, rfl, n1, by omega, fun H6 c s6 hc => ⟨c, _, rfl, SqT.of hc, rfl, _, _, rfl, _, _, rfl, rfl, ?_⟩⟩
  refine ⟨_, rfl, 2 ^ k + n, rfl, by omega, h30, fun H7 c2 s7 hc2 => ?_⟩
  refine ⟨_, rfl, _, rfl, _, _, rfl, rfl, .inl ⟨by decide, by decide⟩, _, _, rfl, rfl, _, _, rfl, rfl, _, rfl, _, _, rfl, rfl, two, fun t nt => ?_⟩
  dsimp only
  have w8 := same_upd (o := .tup [.int (2 * (n : Int) - 1 - ((npk n - 1 : Nat) : Int) + 2 * ((2 ^ k : Nat) : Int) - 1), .int (((npk n - 1 : Nat) : Int) + 1)]) nt
  refine ⟨.tuple [.int _, .int _], .tuple [.int _, .int _], .tup (SqT.of (w8 _ _ hc2)) (.cons (.int _) (.cons (.int _) .nil)), .tup (SqT.of upd_same) (.cons (.int _) (.cons (.int _) .nil)), nd_shaped _ _, nd_shaped _ _, ?_⟩
  rw [nd_eqv, decide_eq_true (show 2 * ((2 ^ k + n : Nat) : Int) - 1 - ((npk (2 ^ k + n) - 1 : Nat) : Int) = 2 * (n : Int) - 1 - ((npk n - 1 : Nat) : Int) + 2 * ((2 ^ k : Nat) : Int) - 1 by omega), decide_eq_true (show ((npk (2 ^ k + n) - 1 : Nat) : Int) = ((npk n - 1 : Nat) : Int) + 1 by omega)]
  refine ⟨false, rfl, ?_⟩
  have s8 := (s5.trans s6).trans (s7.trans w8)
  generalize upd H7 t _ = H8 at s8 ⊢
  clear w8 s7 s6 s5 hc hc2 nt
  obtain ⟨y0, T', eT⟩ : ∃ y t, T = (0, y) :: t := by
    rw [← ht]
    exact pk_head 101 n 0 (by rw [Nat.mod_eq_of_lt (Nat.lt_of_lt_of_le hn (Nat.pow_le_pow_right (by decide) (by omega)))]; omega)
  refine ⟨_, rfl, two, fun t1 nt1 => ⟨one1, fun l1 nl1 => ?_⟩⟩
  have w2 := same_upd (o := .tup [.int 0, .int ((2 ^ k + n : Nat) : Int)]) nt1
  have w3 := same_upd (o := .lst [.ref t1]) nl1
  have hl1 : (upd (upd H8 t1 (.tup [.int 0, .int ((2 ^ k + n : Nat) : Int)])) l1 (.lst [.ref t1])) l1 = some (.lst [.ref t1]) := upd_same
  have ht1 : Nd (upd (upd H8 t1 (.tup [.int 0, .int ((2 ^ k + n : Nat) : Int)])) l1 (.lst [.ref t1])) (.ref t1) (0, 2 ^ k + n) := ⟨t1, rfl, w3 _ _ upd_same⟩
  have s9 := s8.trans (w2.trans w3)
  have fl1 : H l1 = none := s8.free (w2.free nl1)
  generalize upd (upd H8 t1 (.tup [.int 0, .int ((2 ^ k + n : Nat) : Int)])) l1 (.lst [.ref t1]) = H9 at hl1 ht1 s9 ⊢
  clear w2 w3 nt1 nl1 s8
  have hW : ((pk 101 (2 ^ k + n) 0).map full).dropLast.map (fun x => (x.1, 2 ^ k + n)) = (0, 2 ^ k + n) :: (T.dropLast.map fun x => (x.1, n)).map (sh (2 ^ k)) := by
    rw [et]
    exact dropLast_sh (2 ^ k) n T nT
  refine ⟨_, rfl, n, rfl, n1, by omega, fun H10 p10 x10 s10 np10 hp10 hx10 => ⟨p10, x10, rfl, .inl (SqL.of hp10), _, _, rfl, rfl, _, rfl, ite2 (fun c => ?_) (fun c => ?_)⟩⟩
  case' refine_1 =>
    have c1 : (1 : Int) < ((x10.length : Nat) : Int) := of_decide_eq_true c
    rw [hx10.len, ht] at c1
    refine ⟨_, rfl, .inl ⟨rfl, _, SqL.of (s10 _ _ hl1)⟩, _, rfl, _, rfl, two, fun t nt => ?_⟩
    have w11 := same_upd (o := .tup [.int ((2 ^ k : Nat) : Int), .int ((2 ^ k + n : Nat) : Int)]) nt
    refine ⟨l1, _, _, rfl, rfl, w11 _ _ (s10 _ _ hl1), szlt (by rw [List.length_singleton]; omega), ?_⟩
    have hl12 : (upd (upd H10 t (.tup [.int ((2 ^ k : Nat) : Int), .int ((2 ^ k + n : Nat) : Int)])) l1 (.lst ([V.ref t1] ++ [.ref t]))) l1 = some (.lst ([V.ref t1] ++ [.ref t])) := upd_same
    have hx12 : All2 (Nd (upd (upd H10 t (.tup [.int ((2 ^ k : Nat) : Int), .int ((2 ^ k + n : Nat) : Int)])) l1 (.lst ([V.ref t1] ++ [.ref t])))) ([V.ref t1] ++ [.ref t]) [(0, 2 ^ k + n), (2 ^ k, 2 ^ k + n)] :=
      .cons (((ht1.same s10).same w11).upd (w11 _ _ (s10 _ _ hl1))) (.cons (Nd.upd (x := (2 ^ k, 2 ^ k + n)) ⟨t, rfl, upd_same⟩ (w11 _ _ (s10 _ _ hl1))) .nil)
    have s12 : Same H (upd (upd H10 t (.tup [.int ((2 ^ k : Nat) : Int), .int ((2 ^ k + n : Nat) : Int)])) l1 (.lst ([V.ref t1] ++ [.ref t]))) := fun a o h => by rw [upd_ne (ne_of_none h fl1)]; exact w11 _ _ (s10 _ _ (s9 _ _ h))
    generalize upd (upd H10 t (.tup [.int ((2 ^ k : Nat) : Int), .int ((2 ^ k + n : Nat) : Int)])) l1 (.lst ([V.ref t1] ++ [.ref t])) = H12 at hl12 hx12 s12 ⊢
    have hR : [(0, 2 ^ k + n), (2 ^ k, 2 ^ k + n)] ++ ((T.dropLast.map fun x => (x.1, n)).drop 1).map (sh (2 ^ k)) = ((pk 101 (2 ^ k + n) 0).map full).dropLast.map (fun x => (x.1, 2 ^ k + n)) := by
      rw [hW, eT]
      have nT' : T' ≠ [] := fun z => by
        rw [eT, z] at c1
        rw [List.length_singleton] at c1
        omega
      obtain ⟨b, T2, e2⟩ := List.exists_cons_of_ne_nil nT'
      rw [e2, List.dropLast_cons₂, List.map_cons, List.drop_succ_cons, List.drop_zero, List.map_cons]
      show (0, 2 ^ k + n) :: (2 ^ k, 2 ^ k + n) :: _ = (0, 2 ^ k + n) :: (0 + 2 ^ k, n + 2 ^ k) :: _
      rw [Nat.zero_add, Nat.add_comm n]
      rfl
    have lR : [(0, 2 ^ k + n), (2 ^ k, 2 ^ k + n)].length ≤ 2 := Nat.le_refl 2
    generalize [(0, 2 ^ k + n), (2 ^ k, 2 ^ k + n)] = R at hx12 hR lR
    generalize [V.ref t1] ++ [.ref t] = rs at hl12 hx12
  case' refine_2 =>
    have c1 : ¬ (1 : Int) < ((x10.length : Nat) : Int) := of_decide_eq_false (Bool.eq_false_iff.mpr c)
    rw [hx10.len, ht] at c1
    have hl12 := s10 _ _ hl1
    have s12 := s9.trans s10
    have hx12 : All2 (Nd H10) [V.ref t1] [(0, 2 ^ k + n)] := .cons (ht1.same s10) .nil
    have hR : [(0, 2 ^ k + n)] ++ ((T.dropLast.map fun x => (x.1, n)).drop 1).map (sh (2 ^ k)) = ((pk 101 (2 ^ k + n) 0).map full).dropLast.map (fun x => (x.1, 2 ^ k + n)) := by
      rw [hW, eT]
      have nT' : T' = [] := List.length_eq_zero_iff.mp (by
        rw [eT, List.length_cons] at c1
        omega)
      rw [nT']
      rfl
    have lR : [(0, 2 ^ k + n)].length ≤ 2 := by show 1 ≤ 2; omega
    generalize [(0, 2 ^ k + n)] = R at hx12 hR lR
    generalize [V.ref t1] = rs at hl12 hx12
    refine ?_
    generalize H10 = H12 at hl12 hx12 s12 ⊢
  all_goals
    refine ⟨_, rfl, 2 ^ k + n, rfl, by omega, h30, fun H13 p13 x13 s13 np13 hp13 hx13 => ⟨_, rfl, _, rfl, n, rfl, n1, by omega, fun H14 p14 x14 s14 np14 hp14 hx14 => ⟨1, rfl, p14, _, rfl, SqL.of hp14, fun c nc => ?_⟩⟩⟩
    rw [cut_one]
    rw [ht] at hx14
    have w15 := same_upd (o := .lst (x14.drop 1)) nc
    have lE : ((T.dropLast.map fun x => (x.1, n)).drop 1).length ≤ 101 := by
      rw [List.length_drop, List.length_map, List.length_dropLast]
      omega
    refine ⟨_, rfl, c, x14.drop 1, (T.dropLast.map fun x => (x.1, n)).drop 1, 2 ^ k, rfl, upd_same, (hx14.mono fun v x (k : Nd H14 v x) => k.same w15).drop1, by omega, fun H16 p16 y16 s16 np16 hp16 hy16 => ?_⟩
    have s1216 := ((s13.trans s14).trans (w15.trans s16))
    have hx16 := hx12.mono fun v x (k : Nd H12 v x) => k.same s1216
    refine ⟨l1, p16, _, _, rfl, rfl, s1216 _ _ hl12, hp16, szle (by rw [hy16.len, List.length_map, hx12.len]; omega), fun r nr => ?_⟩
    have w17 := same_upd (o := .lst (rs ++ y16)) nr
    have s1317 := (s14.trans (w15.trans s16)).trans w17
    refine ⟨_, _, lst_dp (s1317 _ _ hp13) (hx13.mono fun v x (k : Nd H13 v x) => k.same s1317), lst_dp upd_same ((hx16.app hy16).mono fun v x (k : Nd H16 v x) => k.same w17), nds_shaped _, nds_shaped _, ?_⟩
    rw [nds_eqv, hR, decide_eq_true rfl]
    exact q _ (s12.trans (s1216.trans w17))
end
end LT

namespace LT
open PySem PySem.Spec PyProof.Rows L2
theorem and_nat (a b : Nat) : Builtin.bitAnd (a : Int) (b : Int) = ((a &&& b : Nat) : Int) := by
  rw [bitAnd_pp (Int.natCast_nonneg a) (Int.natCast_nonneg b), Int.toNat_natCast, Int.toNat_natCast]
theorem pk_one {e : Nat} (h1 : 1 ≤ e) (h2 : e < 2 ^ 101) : (pk 101 e 0).length = 1 ↔ e = 2 ^ e.log2 := by
  have em : e % 2 ^ 101 = e := Nat.mod_eq_of_lt h2
  obtain ⟨h, hi, hp, hm⟩ := pk_step 101 e 0 (by omega)
  have ph := Nat.pow_pos (a := 2) (n := h) (by decide)
  have ml := Nat.mod_lt e ph
  have lh : e.log2 = h := log2_is (by omega) (by rw [Nat.pow_succ]; omega)
  rw [hp, List.length_cons, lh]
  constructor
  · intro k
    by_cases c : e % 2 ^ h = 0
    · omega
    · have := pk_ne h e (0 + 2 ^ h) c
      cases hh : pk h e (0 + 2 ^ h) with
      | nil => exact absurd hh this
      | cons _ _ => rw [hh, List.length_cons] at k; omega
  · intro k
    rw [pk_nil h e _ (by omega)]
    rfl
theorem and_one {e : Nat} (h1 : 1 ≤ e) (h2 : e < 2 ^ 101) : (e &&& (e - 1)) = 0 ↔ (pk 101 e 0).length = 1 := by
  rw [pk_one h1 h2]
  obtain ⟨k, l1, l2, l3⟩ := low_is e h1
  have le := Nat.and_le_left (n := e) (m := e - 1)
  unfold low at l1
  constructor
  · intro z
    rw [z, Nat.sub_zero] at l1
    rw [l1, Nat.log2_two_pow]
  · intro z
    generalize e.log2 = j at z
    subst z
    have a := (Nat.pow_dvd_pow_iff_le_right (by decide : 1 < 2)).mp l2
    have b : ¬ k + 1 ≤ j := fun z => l3 (Nat.pow_dvd_pow 2 z)
    have : k = j := by omega
    subst this
    have := Nat.pow_pos (a := 2) (n := k) (by decide)
    omega
theorem pk_one_full {e : Nat} (h1 : 1 ≤ e) (h2 : e < 2 ^ 101) (z : (pk 101 e 0).length = 1) : (pk 101 e 0).map full = [(0, e)] := by
  have z2 := (pk_one h1 h2).mp z
  have em : e % 2 ^ 101 = e := Nat.mod_eq_of_lt h2
  obtain ⟨h, hi, hp, hm⟩ := pk_step 101 e 0 (by omega)
  have ph := Nat.pow_pos (a := 2) (n := h) (by decide)
  have ml := Nat.mod_lt e ph
  have lh : e.log2 = h := log2_is (by omega) (by rw [Nat.pow_succ]; omega)
  rw [lh] at z2
  rw [hp, List.length_cons] at z
  rw [hp, List.length_eq_zero_iff.mp (show (pk h e (0 + 2 ^ h)).length = 0 by omega)]
  show [(0, 0 + 2 ^ h)] = [(0, e)]
  rw [Nat.zero_add, ← z2]
theorem ol_len {n e : Nat} (h : n ≤ 2 ^ 100) : (ol n e).length ≤ 303 := by
  unfold ol
  split
  · exact Nat.zero_le _
  · have a := nw_len (n := n) (b := e) (e := n) h
    have b := pk_len 101 e 0
    split
    · rw [List.nil_append]; omega
    · rw [List.length_append, List.length_map]; omega
section
variable {P : Program} {w : World} {K : PySem.W.Frag} {mg : Str → Option Value} {base : Heap}
def spOlderR : Sp := fun vs H Q _ => ∃ (bg : Addr) (n k : Nat), vs = [.ref bg, .int n, .int ((2 ^ k : Nat) : Int)] ∧ BagAt H bg ∧ 1 ≤ n ∧ n < 2 ^ k ∧ k ≤ 100 ∧ 2 ^ k + n ≤ 10 ^ 30 ∧ ∀ H', But bg H H' → BagAt H' bg → Q (.bl true) H'
theorem ok_law_older {f g1 g2 g3 g4 : Addr} {fd d1 d2 d3 d4 : FuncData} (F : Fun K "_law_older_right" "_law_older_right" sLawOlderRight f fd)
    (GLawPick : FnOk P w K mg base CX0 1 g1 d1 ["bag", "many"] spPick) (ALawPick : At K mg "_law_pick" g1 d1 ["bag", "many"])
    (GLawMoved : FnOk P w K mg base CX0 1 g2 d2 ["nodes", "far"] spMoved) (ALawMoved : At K mg "_law_moved" g2 d2 ["nodes", "far"])
    (GOlderList : FnOk P w K mg base CX0 5 g3 d3 ["size", "older"] spOlderList) (AOlderList : At K mg "older_list" g3 d3 ["size", "older"])
    (GOlderCount : FnOk P w K mg base CX0 6 g4 d4 ["size", "older"] spOlderCount) (AOlderCount : At K mg "older_count" g4 d4 ["size", "older"]) (z_len : mg "len" = none) : FnOk P w K mg base CX0 7 f fd ["bag", "size", "far"] spOlderR := by
  refine F.ok scLawOlderRight (fun vs H Q E h => ?_) (fun cdv A outer s H vs Q E hr h => ?_)
  · obtain ⟨_, _, _, rfl, _⟩ := h
    rfl
  obtain ⟨bg, n, k, rfl, hb, n1, hn, hk, h30, q⟩ := h
  have two : 2 ≤ sizeLine := by decide
  have one1 : 1 ≤ sizeLine := by decide
  refine ⟨_, (pss_cons (ps_set (i := 3) scLawOlderRight.nd rfl (Or.inl rfl) (pe_op op_add pe_int (pe_call GLawPick (hr.mono (by decide)) rfl ALawPick.m ALawPick.kp ALawPick.b .nil pass0 (pa_cons (pv 0) (pa_cons (pv 1) pa_nil)))))
    (pss_cons (ps_set (i := 4) scLawOlderRight.nd rfl (Or.inl rfl) (pe_call GLawMoved (hr.mono (by decide)) rfl ALawMoved.m ALawMoved.kp ALawMoved.b .nil pass0 (pa_cons (pe_call GOlderList (hr.mono (by decide)) rfl AOlderList.m AOlderList.kp AOlderList.b .nil pass0 (pa_cons (pv 1) (pa_cons (pv 3) pa_nil))) (pa_cons (pv 2) pa_nil))))
    (pss_cons (ps_if (pt_cmpR op_lt (pv 3) (pv 1) (nomark _))
    (pss_one (ps_set (i := 4) scLawOlderRight.nd rfl (Or.inl rfl) (pe_op op_cat (pe_op op_cat (pe_lst (pa_cons (pe_tup (pa_cons pe_int (pa_cons (pv 2) pa_nil))) pa_nil)) (pe_ifExp (pt_cmpR op_eq (pe_op op_and (pv 3) (pe_op op_sub (pv 3) pe_int)) pe_int (nomark _)) (pe_lst (pa_cons (pe_tup (pa_cons (pv 2) (pa_cons (pe_op op_add (pv 2) (pv 3)) pa_nil))) pa_nil)) (pe_lst pa_nil))) (pv 4))))
    pss_nil)
    (pss_cons (ps_set (i := 5) scLawOlderRight.nd rfl (Or.inl rfl) (pe_call GOlderList (hr.mono (by decide)) rfl AOlderList.m AOlderList.kp AOlderList.b .nil pass0 (pa_cons (pe_op op_add (pv 2) (pv 1)) (pa_cons (pe_op op_add (pv 2) (pv 3)) pa_nil))))
    (pss_one (ps_ret (pe_and (pe_cmpR (op_eqD hr.units) (pv 5) (pv 4) (nomark _)) (pe_one (pe_cmpR op_eq (pe_call GOlderCount (hr.mono (by decide)) rfl AOlderCount.m AOlderCount.kp AOlderCount.b .nil pass0 (pa_cons (pe_op op_add (pv 2) (pv 1)) (pa_cons (pe_op op_add (pv 2) (pv 3)) pa_nil))) (pe_callB call_len_seq (by rfl) z_len PySem.boot_len (pa_cons (pv 4) pa_nil)) (nomark _)))))))))), ?_⟩
  refine ⟨_, rfl, _, rfl, bg, (n : Int), rfl, by omega, Nat.lt_of_le_of_lt (show ((n : Int)).natAbs ≤ 10 ^ 30 by omega) (by decide), hb, fun r H1 r0 r1 k1 hb1 => ?_⟩
  obtain ⟨e, er⟩ : ∃ e : Nat, (1 : Int) + r = (e : Int) := ⟨(1 + r).toNat, by omega⟩
  have B1 : But bg H H1 := (But.refl bg H).pick k1
  refine ⟨_, _, rfl, rfl, ?_⟩
  dsimp only
  rw [er]
  refine ⟨_, rfl, _, rfl, n, e, rfl, by omega, by omega, by omega, fun H2 p2 x2 s2 np2 hp2 hx2 => ?_⟩
  have en : e ≤ n := by omega
  have e1 : 1 ≤ e := by omega
  have k30 : (10 : Nat) ^ 30 ≤ 2 ^ 100 := by decide
  have lo := ol_len (n := n) (e := e) (by omega)
  have lo2 := ol_len (n := 2 ^ k + n) (e := 2 ^ k + e) (by omega)
  have ewh : ((2 ^ k : Nat) : Int) + (n : Int) = ((2 ^ k + n : Nat) : Int) := by omega
  have ewe : ((2 ^ k : Nat) : Int) + (e : Int) = ((2 ^ k + e : Nat) : Int) := by omega
  refine ⟨_, rfl, p2, x2, ol n e, 2 ^ k, rfl, hp2, hx2, by omega, fun H3 p3 y3 s3 np3 hp3 hy3 => ?_⟩
  have s13 := s2.trans s3
  refine ⟨_, rfl, _, rfl, _, _, rfl, rfl, _, rfl, ite2 (fun c => ?_) (fun c => ?_)⟩
  case' refine_1 =>
    have c1 : (e : Int) < (n : Int) := of_decide_eq_true c
    have e101 : e < 2 ^ 101 := by
      have : (2 : Nat) ^ 100 ≤ 2 ^ 101 := by decide
      omega
    refine ⟨_, rfl, two, fun t1 nt1 => ⟨one1, fun l1 nl1 => ?_⟩⟩
    have w4 := same_upd (o := .tup [.int 0, .int ((2 ^ k : Nat) : Int)]) nt1
    have w5 := same_upd (o := .lst [.ref t1]) nl1
    have hl5 : (upd (upd H3 t1 (.tup [.int 0, .int ((2 ^ k : Nat) : Int)])) l1 (.lst [.ref t1])) l1 = some (.lst [.ref t1]) := upd_same
    have ht5 : Nd (upd (upd H3 t1 (.tup [.int 0, .int ((2 ^ k : Nat) : Int)])) l1 (.lst [.ref t1])) (.ref t1) (0, 2 ^ k) := ⟨t1, rfl, w5 _ _ upd_same⟩
    have s35 := w4.trans w5
    generalize upd (upd H3 t1 (.tup [.int 0, .int ((2 ^ k : Nat) : Int)])) l1 (.lst [.ref t1]) = H5 at hl5 ht5 s35 ⊢
    refine ⟨_, rfl, _, rfl, _, _, rfl, rfl, _, _, rfl, rfl, rfl, decide ((pk 101 e 0).length = 1), ?_, ?_⟩
    · have ab : Builtin.bitAnd (e : Int) ((e : Int) - 1) = ((e &&& (e - 1) : Nat) : Int) := by
        rw [show (e : Int) - 1 = ((e - 1 : Nat) : Int) by omega, and_nat]
      refine congrArg V.bl (decide_eq_decide.mpr ⟨fun z => (and_one e1 e101).mp ?_, fun z => ?_⟩)
      · have z2 : V.int (Builtin.bitAnd (e : Int) ((e : Int) - 1)) = V.int 0 := z
        have z3 := V.int.inj z2
        rw [ab] at z3
        omega
      · show V.int (Builtin.bitAnd (e : Int) ((e : Int) - 1)) = V.int 0
        rw [ab, (and_one e1 e101).mpr z]
        rfl
    have ho := ol_first e1 hk hn (show e < n by omega)
    obtain ⟨M, hM⟩ : ∃ M, M = (if (pk 101 e 0).length = 1 then (pk 101 e 0).map full else []).map (sh (2 ^ k)) := ⟨_, rfl⟩
    rw [← hM] at ho
    by_cases z : (pk 101 e 0).length = 1
    case' pos =>
      rw [decide_eq_true z]
      rw [if_pos z, pk_one_full e1 e101 z] at hM
      have hM2 : M = [(2 ^ k, 2 ^ k + e)] := by
        rw [hM]
        show [(0 + 2 ^ k, e + 2 ^ k)] = _
        rw [Nat.zero_add, Nat.add_comm e]
      refine ⟨_, rfl, _, rfl, _, rfl, _, _, rfl, rfl, two, fun t2 nt2 => ?_⟩
      dsimp only
      rw [ewe]
      refine ⟨one1, fun l2 nl2 => ?_⟩
      have w6 := same_upd (o := .tup [.int ((2 ^ k : Nat) : Int), .int ((2 ^ k + e : Nat) : Int)]) nt2
      have w7 := same_upd (o := .lst [.ref t2]) nl2
      have hl7 : (upd (upd H5 t2 (.tup [.int ((2 ^ k : Nat) : Int), .int ((2 ^ k + e : Nat) : Int)])) l2 (.lst [.ref t2])) l2 = some (.lst [.ref t2]) := upd_same
      have hx7 : All2 (Nd (upd (upd H5 t2 (.tup [.int ((2 ^ k : Nat) : Int), .int ((2 ^ k + e : Nat) : Int)])) l2 (.lst [.ref t2]))) [.ref t2] M := by
        rw [hM2]
        exact .cons ⟨t2, rfl, w7 _ _ upd_same⟩ .nil
      have s57 := w6.trans w7
      generalize upd (upd H5 t2 (.tup [.int ((2 ^ k : Nat) : Int), .int ((2 ^ k + e : Nat) : Int)])) l2 (.lst [.ref t2]) = H7 at hl7 hx7 s57 ⊢
      obtain ⟨ms, hl7, hx7, lM⟩ : ∃ ms : List V, H7 l2 = some (.lst ms) ∧ All2 (Nd H7) ms M ∧ ms.length ≤ 1 := ⟨_, hl7, hx7, Nat.le_refl 1⟩
    case' neg =>
      rw [decide_eq_false z]
      rw [if_neg z] at hM
      refine ⟨Nat.zero_le _, fun l2 nl2 => ?_⟩
      have s57 := same_upd (o := .lst []) nl2
      have hl7 : (upd H5 l2 (.lst [])) l2 = some (.lst []) := upd_same
      have hx7 : All2 (Nd (upd H5 l2 (.lst []))) [] M := by
        rw [hM]
        exact .nil
      generalize upd H5 l2 (.lst []) = H7 at hl7 hx7 s57 ⊢
      obtain ⟨ms, hl7, hx7, lM⟩ : ∃ ms : List V, H7 l2 = some (.lst ms) ∧ All2 (Nd H7) ms M ∧ ms.length ≤ 1 := ⟨_, hl7, hx7, Nat.zero_le 1⟩
    all_goals
      refine ⟨l1, l2, _, _, rfl, rfl, s57 _ _ hl5, hl7, szle (by rw [List.length_singleton]; omega), fun r1 nr1 => ?_⟩
      have w8 := same_upd (o := .lst ([V.ref t1] ++ ms)) nr1
      have s38 := (s35.trans s57).trans w8
      refine ⟨_, rfl, r1, p3, _, _, rfl, rfl, upd_same, s38 _ _ hp3, szle (by rw [List.length_append, List.length_singleton, hy3.len, List.length_map]; omega), fun r2 nr2 => ?_⟩
      have w9 := same_upd (o := .lst ([V.ref t1] ++ ms ++ y3)) nr2
      have hd : (upd (upd H7 r1 (.lst ([V.ref t1] ++ ms))) r2 (.lst ([V.ref t1] ++ ms ++ y3))) r2 = some (.lst ([V.ref t1] ++ ms ++ y3)) := upd_same
      have hds : All2 (Nd (upd (upd H7 r1 (.lst ([V.ref t1] ++ ms))) r2 (.lst ([V.ref t1] ++ ms ++ y3)))) ([V.ref t1] ++ ms ++ y3) (ol (2 ^ k + n) (2 ^ k + e)) := by
        rw [ho]
        have a1 : All2 (Nd H7) [V.ref t1] [(0, 2 ^ k)] := .cons (ht5.same s57) .nil
        have a2 := (a1.app hx7).mono fun v x (k : Nd H7 v x) => (k.same w8).same w9
        exact a2.app (hy3.mono fun v x (k : Nd H3 v x) => (k.same s38).same w9)
      have sD := (s13.trans s38).trans w9
      generalize upd (upd H7 r1 (.lst ([V.ref t1] ++ ms))) r2 (.lst ([V.ref t1] ++ ms ++ y3)) = HD at hd hds sD ⊢
      generalize [V.ref t1] ++ ms ++ y3 = ds at hd hds
      generalize r2 = d at hd hds ⊢
  case' refine_2 =>
    have c1 : ¬ (e : Int) < (n : Int) := of_decide_eq_false (Bool.eq_false_iff.mpr c)
    have ene : e = n := by omega
    have hd := hp3
    have hds : All2 (Nd H3) y3 (ol (2 ^ k + n) (2 ^ k + e)) := by
      rw [ene, ol_all]
      rw [ene, ol_all] at hy3
      exact hy3
    have sD := s13
    generalize H3 = HD at hd hds sD ⊢
    generalize y3 = ds at hd hds
    generalize p3 = d at hd hds ⊢
  all_goals
    refine ⟨_, rfl, _, rfl, _, _, rfl, rfl, _, rfl, _, rfl, _, _, rfl, rfl, ?_⟩
    dsimp only
    rw [ewh, ewe]
    refine ⟨2 ^ k + n, 2 ^ k + e, rfl, by omega, by omega, h30, fun H5 p5 x5 s5 np5 hp5 hx5 => ?_⟩
    have ldd : ds.length ≤ 303 := by rw [hds.len]; omega
    refine ⟨_, rfl, _, rfl, _, _, lst_dp hp5 hx5, lst_dp (s5 _ _ hd) (hds.mono fun v x (k : Nd HD v x) => k.same s5), nds_shaped _, nds_shaped _, ?_⟩
    rw [nds_eqv, decide_eq_true rfl]
    refine ⟨true, rfl, ?_⟩
    refine ⟨_, rfl, _, rfl, _, _, rfl, rfl, _, rfl, _, rfl, _, _, rfl, rfl, ?_⟩
    dsimp only
    rw [ewh, ewe]
    refine ⟨2 ^ k + n, 2 ^ k + e, rfl, by omega, by omega, h30, fun H6 s6 => ?_⟩
    refine ⟨_, rfl, d, ds, rfl, .inl (SqL.of (s6 _ _ (s5 _ _ hd))), rfl, ?_⟩
    have el : V.int ((oc (2 ^ k + n) (2 ^ k + e) : Nat) : Int) = V.int ((ds.length : Nat) : Int) := by
      rw [hds.len]
      rfl
    rw [decide_eq_true el]
    have sE := (sD.trans s5).trans s6
    exact q _ (B1.trans (But.of sE)) (hb1.same sE)
end
end LT

namespace LT
open PySem PySem.Spec PyProof.Rows L2
/-- a node is the root or a half of one -/
theorem par_ex {n : Nat} {x : Nat × Nat} (n1 : 1 ≤ n) (hx : isN n x) (c : x ≠ (0, n)) : ∃ B M, isN n (B, B + M) ∧ 2 ≤ M ∧ tree n B M ∧ isHalf B M x := by
  obtain ⟨us, B, M, _, h1, h2, h3, h4⟩ := wayL_end hx n 0 n1 (tree_root n) (by omega) (Nat.zero_le _) (by have := hx.2.1; omega) (by rwa [Nat.zero_add])
  exact ⟨B, M, h1, h2, h3, h4⟩
theorem half_sh {d B M : Nat} {x : Nat × Nat} (h : isHalf B M x) : isHalf (B + d) M (sh d x) := by
  rcases h with rfl | rfl
  · exact .inl (Prod.ext rfl (by show B + gp M + d = B + d + gp M; omega))
  · exact .inr (Prod.ext (by show B + gp M + d = B + d + gp M; omega) (by show B + M + d = B + d + M; omega))
theorem root_half {k n : Nat} (n1 : 1 ≤ n) (hn : n < 2 ^ k) : isHalf 0 (2 ^ k + n) (sh (2 ^ k) (0, n)) := by
  refine .inr ?_
  rw [gp_far n1 hn]
  exact Prod.ext rfl (by show n + 2 ^ k = 0 + (2 ^ k + n); omega)
section
variable {P : Program} {w : World} {K : PySem.W.Frag} {mg : Str → Option Value} {base : Heap}
def spNodesR : Sp := fun vs H Q _ => ∃ (p : Addr) (xs : List V) (S : List (Nat × Nat)) (n k : Nat), vs = [.ref p, .int n, .int ((2 ^ k : Nat) : Int)] ∧ H p = some (.lst xs) ∧ All2 (Nd H) xs S ∧ (∀ x ∈ S, isN n x) ∧ 1 ≤ n ∧ n < 2 ^ k ∧ k ≤ 100 ∧ 2 ^ k + n ≤ 10 ^ 30 ∧ ∀ H', Same H H' → Q (.bl true) H'
theorem ok_law_nodes {f g1 g2 g3 : Addr} {fd d1 d2 d3 : FuncData} (F : Fun K "_law_nodes_right" "_law_nodes_right" sLawNodesRight f fd)
    (GHalves : FnOk P w K mg base CX0 5 g1 d1 ["size", "node"] spHalvesA) (AHalves : At K mg "halves" g1 d1 ["size", "node"])
    (GLawMoved : FnOk P w K mg base CX0 1 g2 d2 ["nodes", "far"] spMovedT) (ALawMoved : At K mg "_law_moved" g2 d2 ["nodes", "far"])
    (GParent : FnOk P w K mg base CX0 5 g3 d3 ["size", "node"] spParent) (AParent : At K mg "parent" g3 d3 ["size", "node"]) (z_list : mg "list" = none) : FnOk P w K mg base CX0 7 f fd ["nodes", "size", "far"] spNodesR := by
  refine F.ok scLawNodesRight (fun vs H Q E h => ?_) (fun cdv A outer s H vs Q E hr h => ?_)
  · obtain ⟨_, _, _, _, _, rfl, _⟩ := h
    rfl
  obtain ⟨p, xs, S, n, k, rfl, hp, hxs, hN, n1, hn, hk, h30, q⟩ := h
  have two : 2 ≤ sizeLine := by decide
  have ewh : ((2 ^ k : Nat) : Int) + (n : Int) = ((2 ^ k + n : Nat) : Int) := by omega
  refine ⟨_, (pss_cons (ps_set (i := 3) scLawNodesRight.nd rfl (Or.inl rfl) (pe_op op_add (pv 2) (pv 1)))
    (pss_cons (ps_for PassesOwn.never rfl (pi_list (pv 0)) (pg_name (i := 4) scLawNodesRight.nd rfl (Or.inl rfl))
    (pss_cons (ps_par (i := 5) (j := 6) (by rfl) scLawNodesRight.nd rfl rfl (by decide) rfl rfl (pa_cons (pe_call GHalves (hr.mono (by decide)) rfl AHalves.m AHalves.kp AHalves.b .nil pass0 (pa_cons (pv 1) (pa_cons (pv 4) pa_nil))) (pa_cons (pe_call GHalves (hr.mono (by decide)) rfl AHalves.m AHalves.kp AHalves.b .nil pass0 (pa_cons (pv 3) (pa_cons (pe_tup (pa_cons (pe_op op_add (pe_ix ix_tup (pv 4) pe_int (fun _ _ => rfl)) (pv 2)) (pa_cons (pe_op op_add (pe_ix ix_tup (pv 4) pe_int (fun _ _ => rfl)) (pv 2)) pa_nil))) pa_nil))) pa_nil)) (by rfl))
    (pss_cons (ps_if (PW.pt (pw_or (pt_cmpR op_ne (pe_cmpR op_isN (pv 5) pe_non (nomark _)) (pe_cmpR op_isN (pv 6) pe_non (nomark _)) (nomark _)) (pw_or1 (PW.pt (pw_and (pt_cmpR op_notN (pv 5) pe_non (nomark _)) (pw_and1 (pt_cmpR (op_neD hr.units) (pe_callTy call_list_of (by rfl) z_list (by decide +kernel) (pa_cons (pv 6) pa_nil)) (pe_call GLawMoved (hr.mono (by decide)) rfl ALawMoved.m ALawMoved.kp ALawMoved.b .nil pass0 (pa_cons (pv 5) (pa_cons (pv 2) pa_nil))) (nomark _))))))))
    (pss_one (ps_ret pe_bl))
    pss_nil)
    (pss_cons (ps_set (i := 7) scLawNodesRight.nd rfl (Or.inl rfl) (pe_call GParent (hr.mono (by decide)) rfl AParent.m AParent.kp AParent.b .nil pass0 (pa_cons (pv 1) (pa_cons (pv 4) pa_nil))))
    (pss_cons (ps_set (i := 8) scLawNodesRight.nd rfl (Or.inl rfl) (pe_ifExp (pt_cmpR op_isN (pv 7) pe_non (nomark _)) (pe_tup (pa_cons pe_int (pa_cons (pv 3) pa_nil))) (pe_tup (pa_cons (pe_op op_add (pe_ix ix_tup (pv 7) pe_int (fun _ _ => rfl)) (pv 2)) (pa_cons (pe_op op_add (pe_ix ix_tup (pv 7) pe_int (fun _ _ => rfl)) (pv 2)) pa_nil)))))
    (pss_one (ps_if (pt_cmpR (op_neD hr.units) (pe_call GParent (hr.mono (by decide)) rfl AParent.m AParent.kp AParent.b .nil pass0 (pa_cons (pv 3) (pa_cons (pe_tup (pa_cons (pe_op op_add (pe_ix ix_tup (pv 4) pe_int (fun _ _ => rfl)) (pv 2)) (pa_cons (pe_op op_add (pe_ix ix_tup (pv 4) pe_int (fun _ _ => rfl)) (pv 2)) pa_nil))) pa_nil))) (pv 8) (nomark _))
    (pss_one (ps_ret pe_bl))
    pss_nil)))))))
    (pss_one (ps_ret pe_bl)))), ?_⟩
  refine ⟨_, rfl, _, rfl, _, _, rfl, rfl, ?_⟩
  dsimp only
  rw [ewh]
  refine ⟨_, rfl, p, rfl, ⟨_, SqL.of hp⟩, for_list (K := K) (a := p) (xs := xs) (fun i σ H' => ∃ v4 v5 v6 v7 v8 : Option V, σ = [some (.ref p), some (.int (n : Int)), some (.int ((2 ^ k : Nat) : Int)), some (.int ((2 ^ k + n : Nat) : Int)), v4, v5, v6, v7, v8] ∧ Same H H')
    ⟨none, none, none, none, none, rfl, Same.refl _⟩ (fun i σ H' _ ⟨_, _, _, _, _, _, s5⟩ => SqL.of (s5 _ _ hp)) ?_ ?_⟩
  · rintro i v σ H1 hi ⟨v4, v5, v6, v7, v8, rfl, s1⟩
    obtain ⟨x, hxi, vp, rfl, hvp⟩ := hxs.nth hi
    have hx := hN x (List.mem_of_getElem? hxi)
    obtain ⟨x1, x2⟩ := x
    obtain ⟨x12, x2n, xt⟩ := isN_tree hx
    have hp1 := s1 _ _ hvp
    have q0 : atI [V.int (x1 : Int), V.int (x2 : Int)] 0 = some (.int (x1 : Int)) := atI_nat (j := 0) rfl
    have q1 : atI [V.int (x1 : Int), V.int (x2 : Int)] 1 = some (.int (x2 : Int)) := atI_nat (j := 1) rfl
    have xe : x1 + (x2 - x1) = x2 := by omega
    have hv1 : Nd H1 (.ref vp) (x1, x2) := ⟨vp, rfl, hp1⟩
    have key : ∀ (Ha : Hp), Same H1 Ha → ∀ t, Ha t = none → Nd (upd Ha t (.tup [.int ((x1 : Int) + ((2 ^ k : Nat) : Int)), .int ((x2 : Int) + ((2 ^ k : Nat) : Int))])) (.ref t) (x1 + 2 ^ k, x2 + 2 ^ k) := fun Ha _ t _ => ⟨t, rfl, upd_same⟩
    have xt2 : tree (2 ^ k + n) (x1 + 2 ^ k) (x2 - x1) := (tree_sh hn (by omega)).mpr xt
    refine ⟨_, rfl, _, rfl, n, x1, x2 - x1, .ref vp, rfl, by rw [xe]; exact hv1, by omega, by omega, by omega, xt, ?_⟩
    rcases (show x2 - x1 = 1 ∨ 2 ≤ x2 - x1 by omega) with c | c
    case' inl =>
      refine .inl ⟨c, ?_⟩
      refine ⟨_, rfl, _, rfl, vp, _, _, _, rfl, rfl, SqT.of hp1, q0, _, rfl, _, _, rfl, rfl, _, rfl, vp, _, _, _, rfl, rfl, SqT.of hp1, q1, _, rfl, _, _, rfl, rfl, two, fun t nt => ?_⟩
      have w2 := same_upd (o := .tup [.int ((x1 : Int) + ((2 ^ k : Nat) : Int)), .int ((x2 : Int) + ((2 ^ k : Nat) : Int))]) nt
      have ht := key H1 (Same.refl _) t nt
      refine ⟨2 ^ k + n, x1 + 2 ^ k, x2 - x1, .ref t, rfl, by rw [show x1 + 2 ^ k + (x2 - x1) = x2 + 2 ^ k by omega]; exact ht, by omega, by omega, h30, xt2, .inl ⟨c, ?_⟩⟩
      refine ⟨_, _, rfl, _, rfl, rfl, _, rfl, rfl, rfl, false, ne_no rfl, ?_⟩
      refine ⟨_, rfl, rfl, false, rfl, ?_⟩
      have sA := s1.trans w2
      have s1A := w2
      generalize upd H1 t (.tup [.int ((x1 : Int) + ((2 ^ k : Nat) : Int)), .int ((x2 : Int) + ((2 ^ k : Nat) : Int))]) = HA at sA s1A ⊢
    case' inr =>
      refine .inr ⟨c, fun H2 qa la ha s2 nqa hqa hla hha => ?_⟩
      have hp2 := s2 _ _ hp1
      refine ⟨_, rfl, _, rfl, vp, _, _, _, rfl, rfl, SqT.of hp2, q0, _, rfl, _, _, rfl, rfl, _, rfl, vp, _, _, _, rfl, rfl, SqT.of hp2, q1, _, rfl, _, _, rfl, rfl, two, fun t nt => ?_⟩
      have w3 := same_upd (o := .tup [.int ((x1 : Int) + ((2 ^ k : Nat) : Int)), .int ((x2 : Int) + ((2 ^ k : Nat) : Int))]) nt
      have ht := key H2 s2 t nt
      generalize upd H2 t (.tup [.int ((x1 : Int) + ((2 ^ k : Nat) : Int)), .int ((x2 : Int) + ((2 ^ k : Nat) : Int))]) = H3 at w3 ht ⊢
      refine ⟨2 ^ k + n, x1 + 2 ^ k, x2 - x1, .ref t, rfl, by rw [show x1 + 2 ^ k + (x2 - x1) = x2 + 2 ^ k by omega]; exact ht, by omega, by omega, h30, xt2, .inr ⟨c, fun H4 qb lb_ hb_ s4 nqb hqb hlb hhb => ?_⟩⟩
      have s24 := w3.trans s4
      refine ⟨_, _, rfl, _, rfl, rfl, _, rfl, rfl, rfl, false, ne_no rfl, ?_⟩
      refine ⟨_, rfl, rfl, true, rfl, ?_⟩
      refine ⟨_, rfl, qb, _, rfl, .inr (SqT.of hqb), fun l nl => ?_⟩
      have w5 := same_upd (o := .lst [lb_, hb_]) nl
      have hl5 : (upd H4 l (.lst [lb_, hb_])) l = some (.lst [lb_, hb_]) := upd_same
      have hy5 : All2 (Nd (upd H4 l (.lst [lb_, hb_]))) [lb_, hb_] [(x1 + 2 ^ k, x1 + 2 ^ k + gp (x2 - x1)), (x1 + 2 ^ k + gp (x2 - x1), x1 + 2 ^ k + (x2 - x1))] := .cons (hlb.same w5) (.cons (hhb.same w5) .nil)
      have s25 := s24.trans w5
      generalize upd H4 l (.lst [lb_, hb_]) = H5 at hl5 hy5 s25 ⊢
      refine ⟨_, rfl, _, rfl, qa, [la, ha], [(x1, x1 + gp (x2 - x1)), (x1 + gp (x2 - x1), x1 + (x2 - x1))], 2 ^ k, rfl, s25 _ _ hqa, .cons (hla.same s25) (.cons (hha.same s25) .nil), (by show 2 ≤ 90000; decide), fun H6 p6 y6 s6 np6 hp6 hy6 => ?_⟩
      refine ⟨_, _, lst_dp (s6 _ _ hl5) (hy5.mono fun v x (k : Nd H5 v x) => k.same s6), lst_dp hp6 hy6, nds_shaped _, nds_shaped _, ?_⟩
      have el : [(x1 + 2 ^ k, x1 + 2 ^ k + gp (x2 - x1)), (x1 + 2 ^ k + gp (x2 - x1), x1 + 2 ^ k + (x2 - x1))] = [(x1, x1 + gp (x2 - x1)), (x1 + gp (x2 - x1), x1 + (x2 - x1))].map (sh (2 ^ k)) := by
        show _ = [(x1 + 2 ^ k, x1 + gp (x2 - x1) + 2 ^ k), (x1 + gp (x2 - x1) + 2 ^ k, x1 + (x2 - x1) + 2 ^ k)]
        rw [show x1 + 2 ^ k + gp (x2 - x1) = x1 + gp (x2 - x1) + 2 ^ k by omega, show x1 + 2 ^ k + (x2 - x1) = x1 + (x2 - x1) + 2 ^ k by omega]
      rw [nds_eqv, decide_eq_true el]
      refine ⟨false, rfl, ?_⟩
      have s1A := s2.trans (s25.trans s6)
      have sA := s1.trans s1A
      generalize H6 = HA at sA s1A ⊢
    all_goals
      have hpA := s1A _ _ hp1
      have hvA := hv1.same s1A
      have par : (((x1, x2) = (0, n) ∧ isHalf 0 (2 ^ k + n) (sh (2 ^ k) (x1, x2))) ∨ ∃ B M, 2 ≤ M ∧ tree n B M ∧ B + M ≤ n ∧ isHalf B M (x1, x2)) := by
        by_cases z : (x1, x2) = (0, n)
        · exact .inl ⟨z, by rw [z]; exact root_half n1 hn⟩
        · obtain ⟨B, M, h1, h2, h3, h4⟩ := par_ex n1 hx z
          exact .inr ⟨B, M, h2, h3, h1.2.1, h4⟩
      rcases par with ⟨z, zh⟩ | ⟨B, M, M2, tB, BM, hB⟩
      case' inl =>
        refine ⟨_, rfl, _, rfl, n, (x1, x2), .ref vp, rfl, hvA, n1, by omega, .inl ⟨z, fun HB sB => ?_⟩⟩
        refine ⟨_, rfl, rfl, true, rfl, ?_⟩
        refine ⟨_, rfl, two, fun t nt => ?_⟩
        have w7 := same_upd (o := .tup [.int 0, .int ((2 ^ k + n : Nat) : Int)]) nt
        have hd : Nd (upd HB t (.tup [.int 0, .int ((2 ^ k + n : Nat) : Int)])) (.ref t) (0, 0 + (2 ^ k + n)) := ⟨t, rfl, by rw [Nat.zero_add]; exact upd_same⟩
        obtain ⟨B2, M2', e1, e2, e3, e4, e5⟩ : ∃ B2 M2, 2 ≤ M2 ∧ tree (2 ^ k + n) B2 M2 ∧ B2 + M2 ≤ 2 ^ k + n ∧ isHalf B2 M2 (sh (2 ^ k) (x1, x2)) ∧ (B2, B2 + M2) = (0, 0 + (2 ^ k + n)) := ⟨0, 2 ^ k + n, by omega, tree_root _, by omega, zh, rfl⟩
        rw [← e5] at hd
        have sC := sB.trans w7
        generalize upd HB t (.tup [.int 0, .int ((2 ^ k + n : Nat) : Int)]) = HC at hd sC ⊢
        generalize V.ref t = dv at hd ⊢
      case' inr =>
        refine ⟨_, rfl, _, rfl, n, (x1, x2), .ref vp, rfl, hvA, n1, by omega, .inr ⟨B, M, M2, tB, BM, hB, fun HB u sB hu => ?_⟩⟩
        obtain ⟨up, rfl, hup⟩ := hu
        refine ⟨_, rfl, rfl, false, rfl, ?_⟩
        refine ⟨_, rfl, up, _, _, _, rfl, rfl, SqT.of hup, atI_nat (j := 0) rfl, _, rfl, _, _, rfl, rfl, _, rfl, up, _, _, _, rfl, rfl, SqT.of hup, atI_nat (j := 1) rfl, _, rfl, _, _, rfl, rfl, two, fun t nt => ?_⟩
        have w7 := same_upd (o := .tup [.int ((B : Int) + ((2 ^ k : Nat) : Int)), .int (((B + M : Nat) : Int) + ((2 ^ k : Nat) : Int))]) nt
        have hd : Nd (upd HB t (.tup [.int ((B : Int) + ((2 ^ k : Nat) : Int)), .int (((B + M : Nat) : Int) + ((2 ^ k : Nat) : Int))])) (.ref t) (B + 2 ^ k, B + M + 2 ^ k) := ⟨t, rfl, upd_same⟩
        obtain ⟨B2, M2', e1, e2, e3, e4, e5⟩ : ∃ B2 M2, 2 ≤ M2 ∧ tree (2 ^ k + n) B2 M2 ∧ B2 + M2 ≤ 2 ^ k + n ∧ isHalf B2 M2 (sh (2 ^ k) (x1, x2)) ∧ (B2, B2 + M2) = (B + 2 ^ k, B + M + 2 ^ k) := ⟨B + 2 ^ k, M, M2, (tree_sh hn BM).mpr tB, by omega, half_sh hB, by rw [show B + 2 ^ k + M = B + M + 2 ^ k by omega]⟩
        rw [← e5] at hd
        have sC := sB.trans w7
        generalize upd HB t (.tup [.int ((B : Int) + ((2 ^ k : Nat) : Int)), .int (((B + M : Nat) : Int) + ((2 ^ k : Nat) : Int))]) = HC at hd sC ⊢
        generalize V.ref t = dv at hd ⊢
      all_goals
        have hpC := sC _ _ hpA
        refine ⟨_, rfl, _, rfl, vp, _, _, _, rfl, rfl, SqT.of hpC, q0, _, rfl, _, _, rfl, rfl, _, rfl, vp, _, _, _, rfl, rfl, SqT.of hpC, q1, _, rfl, _, _, rfl, rfl, two, fun t2 nt2 => ?_⟩
        have w8 := same_upd (o := .tup [.int ((x1 : Int) + ((2 ^ k : Nat) : Int)), .int ((x2 : Int) + ((2 ^ k : Nat) : Int))]) nt2
        have ht := key HC (s1A.trans sC) t2 nt2
        refine ⟨2 ^ k + n, sh (2 ^ k) (x1, x2), .ref t2, rfl, ht, by omega, h30, .inr ⟨B2, M2', e1, e2, e3, e4, fun HD u sD hu => ?_⟩⟩
        refine ⟨_, rfl, _, _, hu.dp, ((hd.same w8).same sD).dp, nd_shaped _ _, nd_shaped _ _, ?_⟩
        rw [nd_eqv, decide_eq_true rfl, decide_eq_true rfl]
        refine ⟨false, rfl, ?_⟩
        exact ⟨_, _, _, _, _, rfl, ((sA.trans sC).trans w8).trans sD⟩
  · rintro σ H1 ⟨v4, v5, v6, v7, v8, rfl, s1⟩
    exact q H1 s1
end
end LT

namespace LT
open PySem PySem.Spec PyProof.Rows L2
theorem sib_len100 {n e : Nat} (he : e < n) (h30 : n ≤ 10 ^ 30) : (sib 0 n e).length ≤ 100 := by
  have a := wayL_len (n := n) (e := e) n 0 (tree_root n) (Nat.zero_le _) (by omega) (by omega)
  have b := wayL_most (e, e + 1) n 0 (by omega)
  have c := lb100 h30
  omega
theorem So.sh {n d : Nat} : ∀ {lo : Nat} {S : List (Nat × Nat)}, So n lo S → So (d + n) (lo + d) (S.map (LT.sh d))
  | lo, [], h => by
    have h : lo ≤ n := h
    show lo + d ≤ d + n
    omega
  | lo, x :: S, ⟨k1, k2, k3, k4⟩ => ⟨by show lo + d ≤ x.1 + d; omega, by show x.1 + d < x.2 + d; omega, by show x.2 + d ≤ d + n; omega, k4.sh⟩
theorem So.low {n : Nat} : ∀ {lo lo' : Nat} {l : List (Nat × Nat)}, So n lo l → lo' ≤ lo → So n lo' l
  | lo, lo', [], h, k => Nat.le_trans k h
  | lo, lo', x :: l, ⟨k1, k2, k3, k4⟩, k => ⟨Nat.le_trans k k1, k2, k3, k4⟩
theorem nl_first {k n : Nat} (hn : n < 2 ^ k) {S : List (Nat × Nat)} (h : So n 0 S) (l1 : 1 ≤ S.length) : nl (2 ^ k + n) 0 (S.map (sh (2 ^ k))) = (0, 2 ^ k) :: (nl n 0 S).map (sh (2 ^ k)) := by
  rw [← nb_nl (h.sh.low (Nat.zero_le _)), ← nb_nl h]
  exact nb_first hn S (fun z => by rw [z] at l1; exact absurd l1 (by decide)) fun x hx => by have := h.mem x hx; omega
section
variable {P : Program} {w : World} {K : PySem.W.Frag} {mg : Str → Option Value} {base : Heap}
def spRight : Sp := fun vs H Q _ => ∃ (b : Addr) (n : Nat), vs = [.ref b, .int n] ∧ 1 ≤ n ∧ n ≤ 10 ^ 29 ∧ BagAt H b ∧ ∀ H', But b H H' → BagAt H' b → Q (.bl true) H'
theorem ok_law_right {f g1 g2 g3 g4 g5 g6 g7 g8 g9 g10 g11 g12 g13 : Addr} {fd d1 d2 d3 d4 d5 d6 d7 d8 d9 d10 d11 d12 d13 : FuncData} (F : Fun K "_law_right" "_law_right" sLawRight f fd)
    (GLawPick : FnOk P w K mg base CX0 1 g1 d1 ["bag", "many"] spPick) (ALawPick : At K mg "_law_pick" g1 d1 ["bag", "many"])
    (GLawShapeRight : FnOk P w K mg base CX0 7 g2 d2 ["size", "far"] spShape) (ALawShapeRight : At K mg "_law_shape_right" g2 d2 ["size", "far"])
    (GPath : FnOk P w K mg base CX0 6 g3 d3 ["size", "entry"] spPath) (APath : At K mg "path" g3 d3 ["size", "entry"])
    (GDepth : FnOk P w K mg base CX0 7 g4 d4 ["size", "entry"] spDepth) (ADepth : At K mg "depth" g4 d4 ["size", "entry"])
    (GDepthSum : FnOk P w K mg base CX0 7 g5 d5 ["size", "begin", "end"] spDepthSum) (ADepthSum : At K mg "depth_sum" g5 d5 ["size", "begin", "end"])
    (GDepthRange : FnOk P w K mg base CX0 7 g6 d6 ["size", "begin", "end"] spDepthRange) (ADepthRange : At K mg "depth_range" g6 d6 ["size", "begin", "end"])
    (GLawSpans : FnOk P w K mg base CX0 2 g7 d7 ["bag", "size", "most"] spLawSpans) (ALawSpans : At K mg "_law_spans" g7 d7 ["bag", "size", "most"])
    (GLawWalked : FnOk P w K mg base CX0 2 g8 d8 ["bag", "size", "most"] spWalked) (ALawWalked : At K mg "_law_walked" g8 d8 ["bag", "size", "most"])
    (GNeeded : FnOk P w K mg base CX0 6 g9 d9 ["size", "spans"] spNeeded) (ANeeded : At K mg "needed" g9 d9 ["size", "spans"])
    (GMissing : FnOk P w K mg base CX0 6 g10 d10 ["size", "nodes"] spMissing) (AMissing : At K mg "missing" g10 d10 ["size", "nodes"])
    (GKnownTops : FnOk P w K mg base CX0 6 g11 d11 ["size", "nodes"] spTopsK) (AKnownTops : At K mg "known_tops" g11 d11 ["size", "nodes"])
    (GLawNodesRight : FnOk P w K mg base CX0 7 g12 d12 ["nodes", "size", "far"] spNodesR) (ALawNodesRight : At K mg "_law_nodes_right" g12 d12 ["nodes", "size", "far"])
    (GLawOlderRight : FnOk P w K mg base CX0 7 g13 d13 ["bag", "size", "far"] spOlderR) (ALawOlderRight : At K mg "_law_older_right" g13 d13 ["bag", "size", "far"])
    {g14 : Addr} {d14 : FuncData} (GLawMoved : FnOk P w K mg base CX0 1 g14 d14 ["nodes", "far"] spMoved) (ALawMoved : At K mg "_law_moved" g14 d14 ["nodes", "far"])
    (z_range : mg "range" = none) : FnOk P w K mg base CX0 8 f fd ["bag", "size"] spRight := by
  refine F.ok scLawRight (fun vs H Q E h => ?_) (fun cdv A outer s H vs Q E hr h => ?_)
  · obtain ⟨_, _, rfl, _⟩ := h
    rfl
  obtain ⟨bg, n, rfl, n1, h29, hb, q⟩ := h
  refine' ⟨_, (pss_cons (ps_set (i := 2) scLawRight.nd rfl (Or.inl rfl) (pe_op op_shl pe_int (pe_op op_add (pe_bits (pv 1)) (pe_call GLawPick (hr.mono (by decide)) rfl ALawPick.m ALawPick.kp ALawPick.b .nil pass0 (pa_cons (pv 0) (pa_cons (pe_op op_add (pe_op op_sub pe_int (pe_bits (pv 1))) pe_int) pa_nil))))))
    (pss_cons (ps_par (i := 3) (j := 4) (by rfl) scLawRight.nd rfl rfl (by decide) rfl rfl (pa_cons (pe_op op_add (pv 2) (pv 1)) (pa_cons (pe_tup (pa_cons pe_int (pa_cons (pv 2) pa_nil))) pa_nil)) (by rfl))
    (pss_cons (ps_if (pt_cmpR op_gt (pv 3) (pe_op op_pow pe_int pe_int) (nomark _))
    (pss_one (ps_ret pe_bl))
    pss_nil)
    (pss_cons (ps_if (pt_not (pt_val (pe_call GLawShapeRight (hr.mono (by decide)) rfl ALawShapeRight.m ALawShapeRight.kp ALawShapeRight.b .nil pass0 (pa_cons (pv 1) (pa_cons (pv 2) pa_nil)))))
    (pss_one (ps_ret pe_bl))
    pss_nil)
    (pss_cons (ps_for PassesOwn.never rfl (pi_tup (pe_tup (pa_cons pe_int (pa_cons (pe_op op_sub (pv 1) pe_int) (pa_cons (pe_call GLawPick (hr.mono (by decide)) rfl ALawPick.m ALawPick.kp ALawPick.b .nil pass0 (pa_cons (pv 0) (pa_cons (pv 1) pa_nil))) pa_nil))))) (pg_name (i := 5) scLawRight.nd rfl (Or.inl rfl))
    (pss_cons (ps_if (pt_cmpR (op_neD hr.units) (pe_call GPath (hr.mono (by decide)) rfl APath.m APath.kp APath.b .nil pass0 (pa_cons (pv 3) (pa_cons (pe_op op_add (pv 2) (pv 5)) pa_nil))) (pe_op op_cat (pe_call GLawMoved (hr.mono (by decide)) rfl ALawMoved.m ALawMoved.kp ALawMoved.b .nil pass0 (pa_cons (pe_call GPath (hr.mono (by decide)) rfl APath.m APath.kp APath.b .nil pass0 (pa_cons (pv 1) (pa_cons (pv 5) pa_nil))) (pa_cons (pv 2) pa_nil))) (pe_lst (pa_cons (pv 4) pa_nil))) (nomark _))
    (pss_one (ps_ret pe_bl))
    pss_nil)
    (pss_one (ps_if (pt_cmpR op_ne (pe_call GDepth (hr.mono (by decide)) rfl ADepth.m ADepth.kp ADepth.b .nil pass0 (pa_cons (pv 3) (pa_cons (pe_op op_add (pv 2) (pv 5)) pa_nil))) (pe_op op_add (pe_call GDepth (hr.mono (by decide)) rfl ADepth.m ADepth.kp ADepth.b .nil pass0 (pa_cons (pv 1) (pa_cons (pv 5) pa_nil))) pe_int) (nomark _))
    (pss_one (ps_ret pe_bl))
    pss_nil))))
    (pss_cons (ps_if (pt_cmpR op_ne (pe_call GDepthSum (hr.mono (by decide)) rfl ADepthSum.m ADepthSum.kp ADepthSum.b .nil pass0 (pa_cons (pv 3) (pa_cons (pv 2) (pa_cons (pv 3) pa_nil)))) (pe_op op_add (pe_call GDepthSum (hr.mono (by decide)) rfl ADepthSum.m ADepthSum.kp ADepthSum.b .nil pass0 (pa_cons (pv 1) (pa_cons pe_int (pa_cons (pv 1) pa_nil)))) (pv 1)) (nomark _))
    (pss_one (ps_ret pe_bl))
    pss_nil)
    (pss_cons (ps_asg (pe_call GDepthRange (hr.mono (by decide)) rfl ADepthRange.m ADepthRange.kp ADepthRange.b .nil pass0 (pa_cons (pv 1) (pa_cons pe_int (pa_cons (pv 1) pa_nil)))) (pg_tup (by rfl) (pgs_cons (pg_name (i := 6) scLawRight.nd rfl (Or.inl rfl)) (pgs_cons (pg_name (i := 7) scLawRight.nd rfl (Or.inl rfl)) pgs_nil))))
    (pss_cons (ps_if (pt_cmpR (op_neD hr.units) (pe_call GDepthRange (hr.mono (by decide)) rfl ADepthRange.m ADepthRange.kp ADepthRange.b .nil pass0 (pa_cons (pv 3) (pa_cons (pv 2) (pa_cons (pv 3) pa_nil)))) (pe_tup (pa_cons (pe_op op_add (pv 6) pe_int) (pa_cons (pe_op op_add (pv 7) pe_int) pa_nil))) (nomark _))
    (pss_one (ps_ret pe_bl))
    pss_nil)
    (pss_cons (ps_par (i := 8) (j := 9) (by rfl) scLawRight.nd rfl rfl (by decide) rfl rfl (pa_cons (pe_call GLawSpans (hr.mono (by decide)) rfl ALawSpans.m ALawSpans.kp ALawSpans.b .nil pass0 (pa_cons (pv 0) (pa_cons (pv 1) (pa_cons pe_int pa_nil)))) (pa_cons (pe_lc (own := [("turn", 10)]) rfl scLawRight.nd (pi_range1 (by rfl) z_range (pa_cons (pe_op op_add pe_int (pe_call GLawPick (hr.mono (by decide)) rfl ALawPick.m ALawPick.kp ALawPick.b .nil pass0 (pa_cons (pv 0) (pa_cons pe_int pa_nil)))) pa_nil)) (blkOk_by (N := ["bag", "size", "far", "whole", "one", "entry", "least", "most", "spans", "nodes", "turn"]) (sc := defScope sLawRight) (by decide +kernel)) (fun _ _ _ _ _ => (pg_name (i := 10) scLawRight.nd rfl (Or.inl rfl))) (fun _ _ _ _ _ => pts_nil) (fun _ _ _ _ _ => (pe_call GLawWalked (hr.mono (by decide)) rfl ALawWalked.m ALawWalked.kp ALawWalked.b .nil pass0 (pa_cons (pv 0) (pa_cons (pv 1) (pa_cons pe_int pa_nil)))))) pa_nil)) (by rfl))
    (pss_cons (ps_if (pt_cmpR (op_neD hr.units) (pe_call GNeeded (hr.mono (by decide)) rfl ANeeded.m ANeeded.kp ANeeded.b .nil pass0 (pa_cons (pv 3) (pa_cons (pe_call GLawMoved (hr.mono (by decide)) rfl ALawMoved.m ALawMoved.kp ALawMoved.b .nil pass0 (pa_cons (pv 8) (pa_cons (pv 2) pa_nil))) pa_nil))) (pe_op op_cat (pe_lst (pa_cons (pv 4) pa_nil)) (pe_call GLawMoved (hr.mono (by decide)) rfl ALawMoved.m ALawMoved.kp ALawMoved.b .nil pass0 (pa_cons (pe_call GNeeded (hr.mono (by decide)) rfl ANeeded.m ANeeded.kp ANeeded.b .nil pass0 (pa_cons (pv 1) (pa_cons (pv 8) pa_nil))) (pa_cons (pv 2) pa_nil)))) (nomark _))
    (pss_one (ps_ret pe_bl))
    pss_nil)
    (pss_cons (ps_if (pt_cmpR (op_neD hr.units) (pe_call GMissing (hr.mono (by decide)) rfl AMissing.m AMissing.kp AMissing.b .nil pass0 (pa_cons (pv 3) (pa_cons (pe_call GLawMoved (hr.mono (by decide)) rfl ALawMoved.m ALawMoved.kp ALawMoved.b .nil pass0 (pa_cons (pv 9) (pa_cons (pv 2) pa_nil))) pa_nil))) (pe_op op_cat (pe_lst (pa_cons (pv 4) pa_nil)) (pe_call GLawMoved (hr.mono (by decide)) rfl ALawMoved.m ALawMoved.kp ALawMoved.b .nil pass0 (pa_cons (pe_call GMissing (hr.mono (by decide)) rfl AMissing.m AMissing.kp AMissing.b .nil pass0 (pa_cons (pv 1) (pa_cons (pv 9) pa_nil))) (pa_cons (pv 2) pa_nil)))) (nomark _))
    (pss_one (ps_ret pe_bl))
    pss_nil)
    (pss_cons (ps_if (pt_cmpR (op_neD hr.units) (pe_call GKnownTops (hr.mono (by decide)) rfl AKnownTops.m AKnownTops.kp AKnownTops.b .nil pass0 (pa_cons (pv 3) (pa_cons (pe_call GLawMoved (hr.mono (by decide)) rfl ALawMoved.m ALawMoved.kp ALawMoved.b .nil pass0 (pa_cons (pv 9) (pa_cons (pv 2) pa_nil))) pa_nil))) (pe_call GLawMoved (hr.mono (by decide)) rfl ALawMoved.m ALawMoved.kp ALawMoved.b .nil pass0 (pa_cons (pe_call GKnownTops (hr.mono (by decide)) rfl AKnownTops.m AKnownTops.kp AKnownTops.b .nil pass0 (pa_cons (pv 1) (pa_cons (pv 9) pa_nil))) (pa_cons (pv 2) pa_nil))) (nomark _))
    (pss_one (ps_ret pe_bl))
    pss_nil)
    (pss_one (ps_ret (pe_and (pe_call GLawNodesRight (hr.mono (by decide)) rfl ALawNodesRight.m ALawNodesRight.kp ALawNodesRight.b .nil pass0 (pa_cons (pv 9) (pa_cons (pv 1) (pa_cons (pv 2) pa_nil)))) (pe_one (pe_call GLawOlderRight (hr.mono (by decide)) rfl ALawOlderRight.m ALawOlderRight.kp ALawOlderRight.b .nil pass0 (pa_cons (pv 0) (pa_cons (pv 1) (pa_cons (pv 2) pa_nil)))))))))))))))))))), ?_⟩
  have two : 2 ≤ sizeLine := by decide
  have one1 : 1 ≤ sizeLine := by decide
  have three : 3 ≤ sizeLine := by decide
  have L : (Builtin.Int.intBits (n : Int)) = n.log2 + 1 := by rw [bits_nat, if_neg (by omega)]
  have l97 : n.log2 < 97 := (Nat.log2_lt (by omega)).mpr (Nat.lt_of_le_of_lt h29 (by decide))
  refine ⟨_, rfl, _, rfl, _, rfl, _, rfl, _, rfl, _, _, rfl, rfl, _, _, rfl, rfl, bg, 99 - ((Builtin.Int.intBits (n : Int) : Nat) : Int) + 1, rfl, by omega, Nat.lt_of_le_of_lt (show (99 - ((Builtin.Int.intBits (n : Int) : Nat) : Int) + 1).natAbs ≤ 10 ^ 3 by omega) (by decide), hb, fun r H1 r0 r1 k1 hb1 => ?_⟩
  have B1 : But bg H H1 := (But.refl bg H).pick k1
  obtain ⟨k, ek⟩ : ∃ k : Nat, ((Builtin.Int.intBits (n : Int) : Nat) : Int) + r = (k : Int) := ⟨(((Builtin.Int.intBits (n : Int) : Nat) : Int) + r).toNat, by omega⟩
  have k99 : k ≤ 99 := by omega
  have hn : n < 2 ^ k := Nat.lt_of_lt_of_le (Nat.lt_log2_self (n := n)) (Nat.pow_le_pow_right (by decide) (by omega))
  refine ⟨_, _, rfl, rfl, _, _, rfl, rfl, ?_⟩
  refine ⟨⟨by omega, by omega, by decide⟩, ?_⟩
  have efar : (1 : Int) * 2 ^ (((Builtin.Int.intBits (n : Int) : Nat) : Int) + r).toNat = ((2 ^ k : Nat) : Int) := by
    rw [ek, Int.one_mul, Int.toNat_natCast]
    exact (Int.natCast_pow 2 _).symm
  dsimp only
  rw [efar]
  have ewh : ((2 ^ k : Nat) : Int) + (n : Int) = ((2 ^ k + n : Nat) : Int) := by omega
  refine ⟨_, rfl, _, rfl, _, _, rfl, rfl, ?_⟩
  dsimp only
  rw [ewh]
  refine ⟨_, rfl, two, fun t1 nt1 => ⟨_, _, rfl, ?_⟩⟩
  have w2 := same_upd (o := .tup [.int 0, .int ((2 ^ k : Nat) : Int)]) nt1
  have h1 : Nd (upd H1 t1 (.tup [.int 0, .int ((2 ^ k : Nat) : Int)])) (.ref t1) (0, 2 ^ k) := ⟨t1, rfl, upd_same⟩
  have hb2 := hb1.same w2
  have B2 := B1.trans (But.of w2)
  generalize upd H1 t1 (.tup [.int 0, .int ((2 ^ k : Nat) : Int)]) = H2 at h1 hb2 B2 ⊢
  refine ⟨_, rfl, _, _, rfl, rfl, ⟨by decide, by decide, by decide⟩, _, _, rfl, rfl, _, rfl, ite2 (fun c => ?_) (fun c => ?_)⟩
  · exact q H2 B2 hb2
  have h30 : 2 ^ k + n ≤ 10 ^ 30 := by
    have c1 : ¬ (10 : Int) ^ Int.toNat 30 < ((2 ^ k + n : Nat) : Int) := of_decide_eq_false (Bool.eq_false_iff.mpr c)
    rw [show (10 : Int) ^ Int.toNat 30 = ((10 ^ 30 : Nat) : Int) by rfl] at c1
    omega
  clear c efar ek r0 r1 k1 hb1 B1 w2 nt1
  refine ⟨_, rfl, _, rfl, n, k, rfl, n1, hn, by omega, h30, fun H3 s3 => ⟨true, rfl, ?_⟩⟩
  have hb3 := hb2.same s3
  have B3 := B2.trans (But.of s3)
  have h3 := h1.same s3
  clear s3 hb2 B2 h1
  -- the ways
  refine ⟨_, rfl, _, _, rfl, rfl, _, rfl, _, rfl, bg, (n : Int), rfl, by omega, Nat.lt_of_le_of_lt (show ((n : Int)).natAbs ≤ 10 ^ 30 by omega) (by decide), hb3, fun r H4 r0 r1 k4 hb4 => ⟨three, fun t nt => ?_⟩⟩
  obtain ⟨e2, rfl⟩ : ∃ e2 : Nat, r = (e2 : Int) := ⟨r.toNat, by omega⟩
  have w5 := same_upd (o := .tup [.int 0, .int ((n : Int) - 1), .int (e2 : Int)]) nt
  have h5 : (upd H4 t (.tup [.int 0, .int ((n : Int) - 1), .int (e2 : Int)])) t = some (.tup ([0, n - 1, e2].map fun x : Nat => V.int (x : Int))) := by
    rw [upd_same, show (n : Int) - 1 = ((n - 1 : Nat) : Int) by omega]
    rfl
  have hb5 := hb4.same w5
  have B35 : But bg H3 (upd H4 t (.tup [.int 0, .int ((n : Int) - 1), .int (e2 : Int)])) := ((But.refl bg H3).pick k4).trans (But.of w5)
  have ho5 := h3.but B35 hb3
  have B5 := B3.trans B35
  have hE : ∀ x ∈ [0, n - 1, e2], x < n := by
    intro x hx
    simp only [List.mem_cons, List.not_mem_nil, or_false] at hx
    omega
  generalize upd H4 t (.tup [.int 0, .int ((n : Int) - 1), .int (e2 : Int)]) = H5 at h5 hb5 ho5 B5 ⊢
  generalize [0, n - 1, e2] = Es at h5 hE
  clear w5 B35 hb3 B3 h3 hb4 k4 r0 r1 nt
  refine ⟨t, rfl, ⟨_, SqT.of h5⟩, for_tup (K := K) (a := t) (xs := Es.map fun x : Nat => V.int (x : Int)) (fun j σ H' => ∃ v5 : Option V, σ = [some (.ref bg), some (.int (n : Int)), some (.int ((2 ^ k : Nat) : Int)), some (.int ((2 ^ k + n : Nat) : Int)), some (.ref t1), v5, none, none, none, none, none] ∧ Same H5 H')
    ⟨none, rfl, Same.refl _⟩ (fun i σ H' _ ⟨_, _, s5⟩ => SqT.of (s5 _ _ h5)) ?_ ?_⟩
  · rintro j x σ H6 hj ⟨v5, rfl, s6⟩
    rw [List.getElem?_map] at hj
    obtain ⟨e, he, rfl⟩ := Option.map_eq_some_iff.mp hj
    have en := hE e (List.mem_of_getElem? he)
    have ee : ((2 ^ k : Nat) : Int) + (e : Int) = ((e + 2 ^ k : Nat) : Int) := by omega
    have ls := sib_len100 en (by omega)
    refine ⟨_, rfl, _, rfl, _, rfl, _, _, rfl, rfl, ?_⟩
    dsimp only
    rw [ee]
    refine ⟨2 ^ k + n, e + 2 ^ k, rfl, by omega, h30, fun H7 p7 x7 s7 np7 hp7 hx7 => ?_⟩
    refine ⟨_, rfl, _, rfl, n, e, rfl, en, by omega, fun H8 p8 x8 s8 np8 hp8 hx8 => ⟨_, rfl, p8, x8, _, 2 ^ k, rfl, hp8, hx8, by rw [List.length_reverse]; omega, fun H9 p9 y9 s9 np9 hp9 hy9 => ⟨_, rfl, one1, fun l nl => ?_⟩⟩⟩
    have w10 := same_upd (o := .lst [.ref t1]) nl
    refine ⟨p9, l, _, _, rfl, rfl, w10 _ _ hp9, upd_same, szle (by rw [hy9.len, List.length_map, List.length_reverse, List.length_singleton]; omega), fun r nr => ?_⟩
    have w11 := same_upd (o := .lst (y9 ++ [V.ref t1])) nr
    have s79 := s8.trans s9
    have sl := w10.trans w11
    have hoA := ho5.same ((s6.trans s7).trans (s79.trans sl))
    refine ⟨_, _, lst_dp ((s79.trans sl) _ _ hp7) (hx7.mono fun v x (k : Nd H7 v x) => k.same (s79.trans sl)), lst_dp upd_same ((hy9.mono fun v x (k : Nd H9 v x) => k.same sl).app (.cons hoA .nil)), nds_shaped _, nds_shaped _, ?_⟩
    rw [nds_eqv, decide_eq_true (by rw [sib_first n1 hn, List.reverse_cons, List.map_reverse])]
    refine ⟨false, rfl, ?_⟩
    have sA := (s6.trans s7).trans (s79.trans sl)
    generalize upd (upd H9 l (.lst [.ref t1])) r (.lst (y9 ++ [V.ref t1])) = HA at sA ⊢
    refine ⟨_, rfl, _, rfl, _, rfl, _, _, rfl, rfl, ?_⟩
    dsimp only
    rw [ee]
    refine ⟨2 ^ k + n, e + 2 ^ k, rfl, by omega, h30, fun HB sB => ⟨_, rfl, _, rfl, n, e, rfl, en, by omega, fun HC sC => ⟨_, _, rfl, rfl, rfl, false, ne_no (congrArg V.int ?_), ?_⟩⟩⟩
    · rw [sib_first n1 hn, List.length_cons, List.length_map]
      omega
    · exact ⟨_, rfl, (sA.trans sB).trans sC⟩
  · rintro σ H6 ⟨v5, rfl, s6⟩
    have hb6 := hb5.same s6
    have B6 := B5.trans (But.of s6)
    have ho6 := ho5.same s6
    clear h5 hE hb5 ho5 B5 s6
    have r101 : n < 2 ^ 101 := Nat.lt_of_lt_of_le hn (Nat.pow_le_pow_right (by decide) (by omega))
    have rne : db 0 n (rows n) ≠ [] := fun z => by
      have := rows_wid r101
      rw [z] at this
      have e0 : ((([] : List (Nat × Nat)).map fun p => p.1).sum) = 0 := rfl
      omega
    have rf := db_first (b := 0) (e := n) n1 (show k ≤ 100 by omega) hn
    rw [Nat.zero_add, Nat.add_comm n] at rf
    refine ⟨_, rfl, _, rfl, _, rfl, 2 ^ k + n, 2 ^ k, 2 ^ k + n, rfl, by omega, Nat.le_refl _, h30, fun H7 s7 => ⟨_, rfl, _, rfl, n, 0, n, rfl, n1, Nat.le_refl _, by omega, fun H8 s8 => ⟨_, rfl, _, _, rfl, rfl, rfl, false, ne_no (congrArg V.int ?_), ?_⟩⟩⟩
    · have := total_first n1 (show k ≤ 100 by omega) hn
      show ((total (2 ^ k) (2 ^ k + n) (rows (2 ^ k + n)) : Nat) : Int) = ((total 0 n (rows n) : Nat) : Int) + (n : Int)
      rw [this]
      omega
    have s68 := s7.trans s8
    refine ⟨_, rfl, _, rfl, n, 0, n, rfl, n1, Nat.le_refl _, by omega, rne, fun H9 c9 lo hi s9 hc9 hlo hhi => ⟨c9, _, rfl, SqT.of hc9, rfl, _, _, rfl, _, _, rfl, rfl, ?_⟩⟩
    have rne2 : db (2 ^ k) (2 ^ k + n) (rows (2 ^ k + n)) ≠ [] := by
      rw [rf]
      exact fun z => rne (List.map_eq_nil_iff.mp z)
    refine ⟨_, rfl, _, rfl, _, rfl, 2 ^ k + n, 2 ^ k, 2 ^ k + n, rfl, by omega, Nat.le_refl _, h30, rne2, fun H10 c10 lo2 hi2 s10 hc10 hlo2 hhi2 => ?_⟩
    have elo : lo2 = lo + 1 := least_uniq (l := (db 0 n (rows n)).map LT.d1) (by rw [← rf]; exact hlo2) (least_d1 hlo)
    have ehi : hi2 = hi + 1 := most_uniq (l := (db 0 n (rows n)).map LT.d1) (by rw [← rf]; exact hhi2) (most_d1 hhi)
    refine ⟨_, rfl, _, _, rfl, rfl, _, rfl, _, _, rfl, rfl, two, fun t nt => ?_⟩
    have w11 := same_upd (o := .tup [.int (lo + 1), .int (hi + 1)]) nt
    refine ⟨.tuple [.int _, .int _], .tuple [.int _, .int _], .tup (SqT.of (w11 _ _ hc10)) (.cons (.int _) (.cons (.int _) .nil)), .tup (SqT.of upd_same) (.cons (.int _) (.cons (.int _) .nil)), nd_shaped _ _, nd_shaped _ _, ?_⟩
    rw [nd_eqv, decide_eq_true elo, decide_eq_true ehi]
    refine ⟨false, rfl, ?_⟩
    have s611 := (s68.trans s9).trans (s10.trans w11)
    generalize upd H10 t _ = H11 at s611 ⊢
    have hb11 := hb6.same s611
    have B11 := B6.trans (But.of s611)
    have ho11 := ho6.same s611
    clear s611 w11 hc10 hc9 hlo hhi hlo2 hhi2 elo ehi rne2 rne rf s9 s10 s68 s7 s8 hb6 B6 ho6 nt
    -- spans and nodes
    refine ⟨_, rfl, _, rfl, bg, n, 6, rfl, hb11, n1, by omega, by decide, by decide, fun H12 pS xS S B12 hb12 npS hpS hxS l1 l12 hS => ?_⟩
    have B11' := B11.trans B12
    have ho12 := ho11.but B12 hb11
    refine ⟨_, rfl, bg, 4, rfl, by decide, by decide, hb12, fun r H13 r0 r1 k13 hb13 => ?_⟩
    obtain ⟨m, rfl⟩ : ∃ m : Nat, r = (m : Int) := ⟨r.toNat, by omega⟩
    have B13 : But bg H12 H13 := (But.refl bg H12).pick k13
    refine ⟨_, _, rfl, rfl, ((1 + m : Nat) : Int), congrArg (fun z => [V.int z]) (by omega), by omega, by omega, fun D nD => ?_⟩
    have Db := hb13.ne nD
    refine lc_range (lo := 0) (n := 1 + m) (fun i H' => ∃ (ws : List V) (W : List (Nat × Nat)), But bg H12 H' ∧ BagAt H' bg ∧ H' D = some (.lst ws) ∧ All2 (Nd H') ws W ∧ (∀ x ∈ W, isN n x) ∧ W.length = i)
      ⟨[], [], B13.trans (But.of (same_upd nD)), hb13.upd Db, upd_same, .nil, (fun _ h => absurd h List.not_mem_nil), rfl⟩ ?_ ?_
    · rintro j H14 hj ⟨ws, W, B14, hb14, hD, hws, hW, lW⟩
      refine ⟨rfl, ?_⟩
      refine ⟨_, rfl, _, rfl, bg, n, 40, rfl, hb14, n1, by omega, by decide, fun H15 v x B15 hb15 hv hx => ?_⟩
      have hD15 := B15.at Db hD
      refine ⟨ws, hD15, szlt (by rw [hws.len, lW]; omega), ws ++ [v], W ++ [x], ?_, hb15.upd Db, upd_same, ?_, ?_, by rw [List.length_append, List.length_singleton, lW]⟩
      · exact fun a o z k => by rw [upd_ne (ne_of_none (B13 a o z k) nD)]; exact B15 a o z (B14 a o z k)
      · exact ((hws.mono fun v x (k : Nd H14 v x) => k.but B15 hb14).mono fun v x (k : Nd H15 v x) => k.upd hD15).app (.cons (hv.upd hD15) .nil)
      · intro y hy
        rcases List.mem_append.mp hy with hy | hy
        · exact hW y hy
        · rw [List.mem_singleton.mp hy]
          exact hx
    rintro H14 ⟨ws, W, B14, hb14, hD, hws, hW, lW⟩
    refine ⟨_, _, rfl, ?_⟩
    have SB := hb11.ne npS
    have hpS14 := B14.at SB hpS
    have hxS14 := hxS.mono fun v x (k : Nd H12 v x) => k.but B14 hb12
    have ho14 := ho12.but B14 hb12
    have BB := B11'.trans B14
    have k100 : (10 : Nat) ^ 30 ≤ 2 ^ 100 := by decide
    have w1 : 1 ≤ W.length := by omega
    have w4 : W.length ≤ 4 := by omega
    clear hpS hxS ho12 B11' B14 B13 k13 hb12 B12 hb11 B11 ho11 hb13 nD Db npS r0 r1 lW
    -- needed
    have nlb := nl_len (n := n) (by omega) S 0 hS
    refine ⟨_, rfl, _, rfl, _, rfl, pS, xS, S, 2 ^ k, rfl, hpS14, hxS14, by omega, fun Ha pa xa sa npa hpa hxa => ?_⟩
    refine ⟨2 ^ k + n, pa, xa, S.map (LT.sh (2 ^ k)), rfl, by omega, h30, hpa, hxa, by rw [List.length_map]; exact l1, by rw [List.length_map]; exact l12, hS.sh.low (Nat.zero_le _), fun Hb pb xb sb npb hpb hxb => ?_⟩
    rw [nl_first hn hS l1] at hxb
    refine ⟨_, rfl, one1, fun l nl => ?_⟩
    have wl := same_upd (o := .lst [V.ref t1]) nl
    have hl : (upd Hb l (.lst [V.ref t1])) l = some (.lst [V.ref t1]) := upd_same
    have sl := (sa.trans sb).trans wl
    have hpb2 := wl _ _ hpb
    have hxb2 := hxb.mono fun v x (k : Nd Hb v x) => k.same wl
    have hol := ho14.same sl
    generalize upd Hb l (.lst [V.ref t1]) = Hl at hl sl hpb2 hxb2 hol ⊢
    refine ⟨_, rfl, _, rfl, n, pS, xS, S, rfl, n1, by omega, sl _ _ hpS14, hxS14.mono (fun v x (k : Nd H14 v x) => k.same sl), l1, l12, hS, fun Hc pc xc sc npc hpc hxc => ⟨_, rfl, pc, xc, _, 2 ^ k, rfl, hpc, hxc, by omega, fun Hd pd xd sd npd hpd hxd => ?_⟩⟩
    have sld := sc.trans sd
    refine ⟨l, pd, _, _, rfl, rfl, sld _ _ hl, hpd, szle (by rw [hxd.len, List.length_map, List.length_singleton]; omega), fun r nr => ?_⟩
    have wr := same_upd (o := .lst ([V.ref t1] ++ xd)) nr
    have slr := sld.trans wr
    refine ⟨_, _, lst_dp (slr _ _ hpb2) (hxb2.mono fun v x (k : Nd Hl v x) => k.same slr), lst_dp (l := (0, 2 ^ k) :: (LT.nl n 0 S).map (LT.sh (2 ^ k))) upd_same (.cons (hol.same slr) (hxd.mono fun v x (k : Nd Hd v x) => k.same wr)), nds_shaped _, nds_shaped _, ?_⟩
    rw [nds_eqv, decide_eq_true rfl]
    refine ⟨false, rfl, ?_⟩
    have sE := sl.trans slr
    generalize upd Hd r (.lst ([V.ref t1] ++ xd)) = HE at sE ⊢
    have hDE := sE _ _ hD
    have hwsE := hws.mono fun v x (k : Nd H14 v x) => k.same sE
    have hoE := ho14.same sE
    have BE := BB.trans (But.of sE)
    have hbE := hb14.same sE
    clear slr wr sld hpb2 hxb2 hol hl sl wl nl nr hpd hxd npd hpc hxc npc hpb hxb npb hpa hxa npa sd sc sb sa hpS14 hxS14 hS l1 l12 nlb sE BB ho14 hb14 hD hws
    -- missing
    have hWs : ∀ x ∈ W.map (LT.sh (2 ^ k)), isN (2 ^ k + n) x := by
      intro x hx
      obtain ⟨y, hy, rfl⟩ := List.mem_map.mp hx
      exact (isN_sh hn).mpr (hW y hy)
    have hWn : ∀ x ∈ srt W, x.1 < x.2 ∧ x.2 ≤ n := fun x hx => by
      have := isN_tree (n := n) (b := x.1) (e := x.2) (hW x (srt_mem.mp hx))
      exact ⟨this.1, this.2.1⟩
    have sne : srt W ≠ [] := fun z => by
      have := srt_len W
      rw [z] at this
      have e0 : ([] : List (Nat × Nat)).length = 0 := rfl
      omega
    have nbl := nb_len (n := n) (by omega) (srt W) 0 fun x hx => by have := hWn x hx; omega
    rw [srt_len] at nbl
    refine ⟨_, rfl, _, rfl, _, rfl, D, ws, W, 2 ^ k, rfl, hDE, hwsE, by omega, fun Ha pa xa sa npa hpa hxa => ?_⟩
    refine ⟨2 ^ k + n, pa, xa, W.map (LT.sh (2 ^ k)), rfl, by omega, h30, hpa, hxa, by rw [List.length_map]; exact w1, by rw [List.length_map]; omega, hWs, fun Hb pb xb sb npb hpb hxb => ?_⟩
    rw [srt_sh, nb_first hn (srt W) sne fun x hx => by have := hWn x hx; omega] at hxb
    refine ⟨_, rfl, one1, fun l nl => ?_⟩
    have wl := same_upd (o := .lst [V.ref t1]) nl
    have hl : (upd Hb l (.lst [V.ref t1])) l = some (.lst [V.ref t1]) := upd_same
    have sl := (sa.trans sb).trans wl
    have hpb2 := wl _ _ hpb
    have hxb2 := hxb.mono fun v x (k : Nd Hb v x) => k.same wl
    have hol := hoE.same sl
    generalize upd Hb l (.lst [V.ref t1]) = Hl at hl sl hpb2 hxb2 hol ⊢
    refine ⟨_, rfl, _, rfl, n, D, ws, W, rfl, n1, by omega, sl _ _ hDE, hwsE.mono (fun v x (k : Nd HE v x) => k.same sl), w1, by omega, hW, fun Hc pc xc sc npc hpc hxc => ⟨_, rfl, pc, xc, _, 2 ^ k, rfl, hpc, hxc, by omega, fun Hd pd xd sd npd hpd hxd => ?_⟩⟩
    have sld := sc.trans sd
    refine ⟨l, pd, _, _, rfl, rfl, sld _ _ hl, hpd, szle (by rw [hxd.len, List.length_map, List.length_singleton]; omega), fun r nr => ?_⟩
    have wr := same_upd (o := .lst ([V.ref t1] ++ xd)) nr
    have slr := sld.trans wr
    refine ⟨_, _, lst_dp (slr _ _ hpb2) (hxb2.mono fun v x (k : Nd Hl v x) => k.same slr), lst_dp (l := (0, 2 ^ k) :: (nb n 0 (srt W)).map (LT.sh (2 ^ k))) upd_same (.cons (hol.same slr) (hxd.mono fun v x (k : Nd Hd v x) => k.same wr)), nds_shaped _, nds_shaped _, ?_⟩
    rw [nds_eqv, decide_eq_true rfl]
    refine ⟨false, rfl, ?_⟩
    have sF := sl.trans slr
    generalize upd Hd r (.lst ([V.ref t1] ++ xd)) = HF at sF ⊢
    have hDF := sF _ _ hDE
    have hwsF := hwsE.mono fun v x (k : Nd HE v x) => k.same sF
    have BF := BE.trans (But.of sF)
    have hbF := hbE.same sF
    clear slr wr sld hpb2 hxb2 hol hl sl wl nl nr hpd hxd npd hpc hxc npc hpb hxb npb hpa hxa npa sd sc sb sa sF BE hbE hDE hwsE hoE
    -- the tops
    have tl := tps_len (n := n) (jn (srt W)) fun x hx => by
      have := jn_mem hWn x hx
      omega
    have jl := jn_len (srt W)
    rw [srt_len] at jl
    refine ⟨_, rfl, _, rfl, _, rfl, D, ws, W, 2 ^ k, rfl, hDF, hwsF, by omega, fun Ha pa xa sa npa hpa hxa => ?_⟩
    refine ⟨2 ^ k + n, pa, xa, W.map (LT.sh (2 ^ k)), rfl, by omega, h30, hpa, hxa, by rw [List.length_map]; exact w1, by rw [List.length_map]; omega, hWs, fun Hb pb xb sb npb hpb hxb => ?_⟩
    rw [srt_sh, jn_sh, tps_sh hn _ fun x hx => (jn_mem hWn x hx).2] at hxb
    have sab := sa.trans sb
    refine ⟨_, rfl, _, rfl, n, D, ws, W, rfl, n1, by omega, sab _ _ hDF, hwsF.mono (fun v x (k : Nd HF v x) => k.same sab), w1, by omega, hW, fun Hc pc xc sc npc hpc hxc => ⟨_, rfl, pc, xc, _, 2 ^ k, rfl, hpc, hxc, by omega, fun Hd pd xd sd npd hpd hxd => ?_⟩⟩
    have scd := sc.trans sd
    refine ⟨_, _, lst_dp (scd _ _ hpb) (hxb.mono fun v x (k : Nd Hb v x) => k.same scd), lst_dp hpd hxd, nds_shaped _, nds_shaped _, ?_⟩
    rw [nds_eqv, decide_eq_true rfl]
    refine ⟨false, rfl, ?_⟩
    have sG := sab.trans scd
    have hbG := hbF.same sG
    have BG := BF.trans (But.of sG)
    refine ⟨_, rfl, _, rfl, _, rfl, D, ws, W, n, k, rfl, sG _ _ hDF, hwsF.mono (fun v x (k : Nd HF v x) => k.same sG), hW, n1, hn, by omega, h30, fun HH sH => ⟨true, rfl, ?_⟩⟩
    exact ⟨_, rfl, _, rfl, _, rfl, bg, n, k, rfl, hbG.same sH, n1, hn, by omega, h30, fun HI BI hbI => q HI ((BG.trans (But.of sH)).trans BI) hbI⟩
end
end LT

namespace LT
open PySem PySem.Spec PyProof.Rows L2
theorem script_at {ns : List Int} {lo hi : Option Int} {i : Nat} {x : V} (h : (cutV (ns.map V.int) lo hi ++ [.int 0])[i]? = some x) : ∃ c : Int, x = .int c := by
  have m := List.mem_of_getElem? h
  rcases List.mem_append.mp m with m | m
  · unfold cutV at m
    have m2 := List.mem_of_mem_drop (List.mem_of_mem_take m)
    obtain ⟨c, _, e⟩ := List.mem_map.mp m2
    exact ⟨c, e.symm⟩
  · exact ⟨0, List.mem_singleton.mp m⟩
theorem sqSame {K : PySem.W.Frag} {H H' : Hp} {a : Addr} {xs : List V} (h : SqL K H a xs) (e : Same H H') : SqL K H' a xs :=
  h.elim (fun h => .inl (h.elim (fun h => .inl (e _ _ h)) fun ⟨o, h⟩ => .inr ⟨o, e _ _ h⟩)) fun h => .inr h
def spLaw (K : PySem.W.Frag) : Sp := fun vs H Q _ => ∃ (a : Addr) (ns : List Int), vs = [.ref a] ∧ SqL K H a (ns.map V.int) ∧ ns.length ≤ 63 ∧ ∀ H', Q (.bl true) H'
end LT

namespace LT
open PySem PySem.Spec PyProof.Rows L2
section
variable {P : Program} {w : World} {K : PySem.W.Frag} {mg : Str → Option Value} {base : Heap}
theorem ok_law {f g1 g2 g3 : Addr} {fd d1 d2 d3 : FuncData} (F : Fun K "law" "law" sLaw f fd)
    (GLawBag : FnOk P w K mg base CX0 1 g1 d1 ["cell"] spBag) (ALawBag : At K mg "_law_bag" g1 d1 ["cell"])
    (GLawSize : FnOk P w K mg base CX0 2 g2 d2 ["bag", "most"] spSizeM) (ALawSize : At K mg "_law_size" g2 d2 ["bag", "most"])
    (GLawRight : FnOk P w K mg base CX0 8 g3 d3 ["bag", "size"] spRight) (ALawRight : At K mg "_law_right" g3 d3 ["bag", "size"]) : FnOk P w K mg base CX0 9 f fd ["script"] (spLaw K) := by
  refine F.ok scLaw (fun vs H Q E h => ?_) (fun cdv A outer s H vs Q E hr h => ?_)
  · obtain ⟨_, _, rfl, _⟩ := h
    rfl
  obtain ⟨a, ns, rfl, hs, hn, q⟩ := h
  refine ⟨_, (pss_cons (ps_for PassesOwn.never rfl (pi_list (pe_op op_cat (pe_slice sl_list (pv 0) po_none (po_some pe_int)) (pe_lst (pa_cons pe_int pa_nil)))) (pg_name (i := 1) scLaw.nd rfl (Or.inl rfl))
    (pss_cons (ps_set (i := 2) scLaw.nd rfl (Or.inl rfl) (pe_call GLawBag (hr.mono (by decide)) rfl ALawBag.m ALawBag.kp ALawBag.b .nil pass0 (pa_cons (pv 1) pa_nil)))
    (pss_one (ps_for PassesOwn.never rfl (pi_tup (pe_tup (pa_cons pe_int (pa_cons pe_int (pa_cons (pe_op op_pow pe_int pe_int) pa_nil))))) (pg_name (i := 3) scLaw.nd rfl (Or.inl rfl))
    (pss_one (ps_if (pt_not (pt_val (pe_call GLawRight (hr.mono (by decide)) rfl ALawRight.m ALawRight.kp ALawRight.b .nil pass0 (pa_cons (pv 2) (pa_cons (pe_call GLawSize (hr.mono (by decide)) rfl ALawSize.m ALawSize.kp ALawSize.b .nil pass0 (pa_cons (pv 2) (pa_cons (pv 3) pa_nil))) pa_nil)))))
    (pss_one (ps_ret pe_bl))
    pss_nil))))))
    (pss_one (ps_ret pe_bl))), ?_⟩
  have one1 : 1 ≤ sizeLine := by decide
  have two : 2 ≤ sizeLine := by decide
  refine ⟨_, rfl, 6, rfl, a, _, rfl, hs, fun c nc => ⟨one1, fun z nz => ?_⟩⟩
  have s1 := same_upd (o := .lst (cutV (ns.map V.int) none (some 6))) nc
  have s2 := same_upd (o := .lst [.int 0]) nz
  have hcl := cutV_length (ns.map V.int) none (some 6)
  rw [List.length_map] at hcl
  refine ⟨c, z, _, _, rfl, rfl, s2 _ _ upd_same, upd_same, szle (by rw [List.length_singleton]; omega), fun r nr => ?_⟩
  have hr0 : (upd (upd (upd H c (.lst (cutV (ns.map V.int) none (some 6)))) z (.lst [.int 0])) r (.lst (cutV (ns.map V.int) none (some 6) ++ [.int 0]))) r = some (.lst (cutV (ns.map V.int) none (some 6) ++ [.int 0])) := upd_same
  generalize upd (upd (upd H c (.lst (cutV (ns.map V.int) none (some 6)))) z (.lst [.int 0])) r (.lst (cutV (ns.map V.int) none (some 6) ++ [.int 0])) = H0 at hr0
  refine ⟨r, rfl, ⟨_, SqL.of hr0⟩, for_list (K := K) (a := r) (xs := cutV (ns.map V.int) none (some 6) ++ [.int 0]) (fun i σ H' => ∃ v1 v2 v3 : Option V, σ = [some (.ref a), v1, v2, v3] ∧ Same H0 H')
    ⟨none, none, none, rfl, Same.refl _⟩ (fun i σ H' _ ⟨_, _, _, _, s5⟩ => SqL.of (s5 _ _ hr0)) ?_ ?_⟩
  · rintro i x σ H1 hi ⟨v1, v2, v3, rfl, sm1⟩
    obtain ⟨cell, rfl⟩ := script_at hi
    refine ⟨_, rfl, cell, rfl, fun H2 b sm2 nb hb => ?_⟩
    have nb0 : H0 b = none := sm1.free nb
    have B2 : But b H0 H2 := But.of (sm1.trans sm2)
    refine ⟨_, _, rfl, rfl, ⟨by decide, by decide, by decide⟩, (by show 3 ≤ sizeLine; decide), fun t nt => ?_⟩
    have s4 := same_upd (o := .tup [.int 9, .int 999, .int (10 ^ Int.toNat 29)]) nt
    have tb := hb.ne nt
    have h4 : (upd H2 t (.tup [.int 9, .int 999, .int (10 ^ Int.toNat 29)])) t = some (.tup ([9, 999, 10 ^ 29].map fun x : Nat => V.int (x : Int))) := by rw [upd_same]; rfl
    have hl : ∀ x ∈ [9, 999, 10 ^ 29], 1 ≤ x ∧ x ≤ 10 ^ 29 := by decide
    have B4 := B2.trans (But.of s4)
    have b4 := hb.same s4
    generalize upd H2 t (.tup [.int 9, .int 999, .int (10 ^ Int.toNat 29)]) = H4 at h4 B4 b4
    generalize [9, 999, 10 ^ 29] = L at h4 hl
    refine ⟨t, rfl, ⟨_, SqT.of h4⟩, for_tup (K := K) (a := t) (xs := L.map fun x : Nat => V.int (x : Int)) (fun j σ H' => ∃ v3 : Option V, σ = [some (.ref a), some (.int cell), some (.ref b), v3] ∧ But b H0 H' ∧ But b H4 H' ∧ BagAt H' b)
      ⟨v3, rfl, B4, But.refl _ _, b4⟩ (fun i σ H' _ ⟨_, _, _, k, _⟩ => SqT.of (k _ _ tb h4)) ?_ ?_⟩
    · rintro j x σ H5 hj ⟨v3, rfl, B5, C5, b5⟩
      rw [List.getElem?_map] at hj
      obtain ⟨most, ht, rfl⟩ := Option.map_eq_some_iff.mp hj
      obtain ⟨t1, t30⟩ := hl most (List.mem_of_getElem? ht)
      refine ⟨_, rfl, _, rfl, _, rfl, b, most, rfl, t1, Nat.le_trans t30 (by decide), b5, fun n H6 n1 n30 B6 b6 => ?_⟩
      refine ⟨b, n, rfl, n1, by omega, b6, fun H7 B7 b7 => ⟨true, rfl, ?_⟩⟩
      exact ⟨_, rfl, (B5.trans B6).trans B7, (C5.trans B6).trans B7, b7⟩
    · rintro σ H5 ⟨v3, rfl, B5, C5, b5⟩
      exact ⟨_, _, _, rfl, fun u o k => B5 u o (ne_of_none k nb0) k⟩
  · rintro σ H1 ⟨v1, v2, v3, rfl, sm1⟩
    exact q H1
end
end LT

namespace LT
open PySem PySem.Spec PyProof.Rows L2
theorem all_mk {l : PySem.W.OpenLaw} {w : World} {K : PySem.W.Frag} {h : Heap} {mg : Str → Option Value} {fa f0 f1 f2 f3 f4 f5 f6 f7 f8 f9 f10 f11 f12 f13 f14 f15 f16 f17 f18 f19 f20 f21 f22 f23 f24 f25 f26 f27 f28 f29 f30 f31 f32 f33 f34 f35 f36 f37 f38 f39 f40 f41 f42 f43 f44 f45 : Addr} (X : K.In h) (G : h.Ns mainGlobals mg) (hfa : mg "law" = some (.ref fa))
    {od0 an0 od1 an1 od2 an2 od3 an3 od4 an4 od5 an5 od6 an6 od7 an7 od8 an8 od9 an9 od10 an10 od11 an11 od12 an12 od13 an13 od14 an14 od15 an15 od16 an16 od17 an17 od18 an18 od19 an19 od20 an20 od21 an21 od22 an22 od23 an23 od24 an24 od25 an25 od26 an26 od27 an27 od28 an28 od29 an29 od30 an30 od31 an31 od32 an32 od33 an33 od34 an34 od35 an35 od36 an36 od37 an37 od38 an38 od39 an39 od40 an40 od41 an41 od42 an42 od43 an43 od44 an44 od45 an45 : Option Addr} {sl0 sl1 sl2 sl3 sl4 sl5 sl6 sl7 sl8 sl9 sl10 sl11 sl12 sl13 sl14 sl15 sl16 sl17 sl18 sl19 sl20 sl21 sl22 sl23 sl24 sl25 sl26 sl27 sl28 sl29 sl30 sl31 sl32 sl33 sl34 sl35 sl36 sl37 sl38 sl39 sl40 sl41 sl42 sl43 sl44 sl45 : Array (Option Value)} {oc0 kV0 dc0 pm0 cd0 ct0 oc1 kV1 dc1 pm1 cd1 ct1 oc2 kV2 dc2 pm2 cd2 ct2 oc3 kV3 dc3 pm3 cd3 ct3 oc4 kV4 dc4 pm4 cd4 ct4 oc5 kV5 dc5 pm5 cd5 ct5 oc6 kV6 dc6 pm6 cd6 ct6 oc7 kV7 dc7 pm7 cd7 ct7 oc8 kV8 dc8 pm8 cd8 ct8 oc9 kV9 dc9 pm9 cd9 ct9 oc10 kV10 dc10 pm10 cd10 ct10 oc11 kV11 dc11 pm11 cd11 ct11 oc12 kV12 dc12 pm12 cd12 ct12 oc13 kV13 dc13 pm13 cd13 ct13 oc14 kV14 dc14 pm14 cd14 ct14 oc15 kV15 dc15 pm15 cd15 ct15 oc16 kV16 dc16 pm16 cd16 ct16 oc17 kV17 dc17 pm17 cd17 ct17 oc18 kV18 dc18 pm18 cd18 ct18 oc19 kV19 dc19 pm19 cd19 ct19 oc20 kV20 dc20 pm20 cd20 ct20 oc21 kV21 dc21 pm21 cd21 ct21 oc22 kV22 dc22 pm22 cd22 ct22 oc23 kV23 dc23 pm23 cd23 ct23 oc24 kV24 dc24 pm24 cd24 ct24 oc25 kV25 dc25 pm25 cd25 ct25 oc26 kV26 dc26 pm26 cd26 ct26 oc27 kV27 dc27 pm27 cd27 ct27 oc28 kV28 dc28 pm28 cd28 ct28 oc29 kV29 dc29 pm29 cd29 ct29 oc30 kV30 dc30 pm30 cd30 ct30 oc31 kV31 dc31 pm31 cd31 ct31 oc32 kV32 dc32 pm32 cd32 ct32 oc33 kV33 dc33 pm33 cd33 ct33 oc34 kV34 dc34 pm34 cd34 ct34 oc35 kV35 dc35 pm35 cd35 ct35 oc36 kV36 dc36 pm36 cd36 ct36 oc37 kV37 dc37 pm37 cd37 ct37 oc38 kV38 dc38 pm38 cd38 ct38 oc39 kV39 dc39 pm39 cd39 ct39 oc40 kV40 dc40 pm40 cd40 ct40 oc41 kV41 dc41 pm41 cd41 ct41 oc42 kV42 dc42 pm42 cd42 ct42 oc43 kV43 dc43 pm43 cd43 ct43 oc44 kV44 dc44 pm44 cd44 ct44 oc45 kV45 dc45 pm45 cd45 ct45 : Value}
    (a0 : PySem.W.nsIn K mainGlobals "is_whole" = some (some (.ref f0))) (l0 : K.lookup f0 = some ⟨oc0, od0, .func (PySem.W.fnOf "is_whole" "is_whole" (defArgs sIsWhole) (defBody sIsWhole) (defScope sIsWhole) .none kV0 dc0 pm0 an0 cd0 ct0), sl0⟩) (c0 : PySem.W.codeIn K cd0 "is_whole" = true) (k0 : PySem.W.keepIn K (.ref f0) = true)
    (a1 : PySem.W.nsIn K mainGlobals "is_between" = some (some (.ref f1))) (l1 : K.lookup f1 = some ⟨oc1, od1, .func (PySem.W.fnOf "is_between" "is_between" (defArgs sIsBetween) (defBody sIsBetween) (defScope sIsBetween) .none kV1 dc1 pm1 an1 cd1 ct1), sl1⟩) (c1 : PySem.W.codeIn K cd1 "is_between" = true) (k1 : PySem.W.keepIn K (.ref f1) = true)
    (a2 : PySem.W.nsIn K mainGlobals "check_size" = some (some (.ref f2))) (l2 : K.lookup f2 = some ⟨oc2, od2, .func (PySem.W.fnOf "check_size" "check_size" (defArgs sCheckSize) (defBody sCheckSize) (defScope sCheckSize) .none kV2 dc2 pm2 an2 cd2 ct2), sl2⟩) (c2 : PySem.W.codeIn K cd2 "check_size" = true) (k2 : PySem.W.keepIn K (.ref f2) = true)
    (a3 : PySem.W.nsIn K mainGlobals "check_entry" = some (some (.ref f3))) (l3 : K.lookup f3 = some ⟨oc3, od3, .func (PySem.W.fnOf "check_entry" "check_entry" (defArgs sCheckEntry) (defBody sCheckEntry) (defScope sCheckEntry) .none kV3 dc3 pm3 an3 cd3 ct3), sl3⟩) (c3 : PySem.W.codeIn K cd3 "check_entry" = true) (k3 : PySem.W.keepIn K (.ref f3) = true)
    (a4 : PySem.W.nsIn K mainGlobals "check_node" = some (some (.ref f4))) (l4 : K.lookup f4 = some ⟨oc4, od4, .func (PySem.W.fnOf "check_node" "check_node" (defArgs sCheckNode) (defBody sCheckNode) (defScope sCheckNode) .none kV4 dc4 pm4 an4 cd4 ct4), sl4⟩) (c4 : PySem.W.codeIn K cd4 "check_node" = true) (k4 : PySem.W.keepIn K (.ref f4) = true)
    (a5 : PySem.W.nsIn K mainGlobals "check_span" = some (some (.ref f5))) (l5 : K.lookup f5 = some ⟨oc5, od5, .func (PySem.W.fnOf "check_span" "check_span" (defArgs sCheckSpan) (defBody sCheckSpan) (defScope sCheckSpan) .none kV5 dc5 pm5 an5 cd5 ct5), sl5⟩) (c5 : PySem.W.codeIn K cd5 "check_span" = true) (k5 : PySem.W.keepIn K (.ref f5) = true)
    (a6 : PySem.W.nsIn K mainGlobals "check_spans" = some (some (.ref f6))) (l6 : K.lookup f6 = some ⟨oc6, od6, .func (PySem.W.fnOf "check_spans" "check_spans" (defArgs sCheckSpans) (defBody sCheckSpans) (defScope sCheckSpans) .none kV6 dc6 pm6 an6 cd6 ct6), sl6⟩) (c6 : PySem.W.codeIn K cd6 "check_spans" = true) (k6 : PySem.W.keepIn K (.ref f6) = true)
    {dT7 : Addr} {tc7 : Value} {td7 : Option Addr} {tits7 : Array Value} {tn7 : Nat} {tsl7 : Array (Option Value)}
    (a7 : PySem.W.nsIn K mainGlobals "check_nodes" = some (some (.ref f7))) (l7 : K.lookup f7 = some ⟨oc7, od7, .func (PySem.W.fnOf "check_nodes" "check_nodes" (defArgs sCheckNodes) (defBody sCheckNodes) (defScope sCheckNodes) (.ref dT7) kV7 dc7 pm7 an7 cd7 ct7), sl7⟩) (c7 : PySem.W.codeIn K cd7 "check_nodes" = true) (k7 : PySem.W.keepIn K (.ref f7) = true)
    (lT7 : K.lookup dT7 = some ⟨tc7, td7, .seq tits7 tn7, tsl7⟩) (vT7 : Vals [.int 1, .int 60] tits7.toList)
    (a8 : PySem.W.nsIn K mainGlobals "check_older" = some (some (.ref f8))) (l8 : K.lookup f8 = some ⟨oc8, od8, .func (PySem.W.fnOf "check_older" "check_older" (defArgs sCheckOlder) (defBody sCheckOlder) (defScope sCheckOlder) .none kV8 dc8 pm8 an8 cd8 ct8), sl8⟩) (c8 : PySem.W.codeIn K cd8 "check_older" = true) (k8 : PySem.W.keepIn K (.ref f8) = true)
    (a9 : PySem.W.nsIn K mainGlobals "is_tree_node" = some (some (.ref f9))) (l9 : K.lookup f9 = some ⟨oc9, od9, .func (PySem.W.fnOf "is_tree_node" "is_tree_node" (defArgs sIsTreeNode) (defBody sIsTreeNode) (defScope sIsTreeNode) .none kV9 dc9 pm9 an9 cd9 ct9), sl9⟩) (c9 : PySem.W.codeIn K cd9 "is_tree_node" = true) (k9 : PySem.W.keepIn K (.ref f9) = true)
    (a10 : PySem.W.nsIn K mainGlobals "is_list_of" = some (some (.ref f10))) (l10 : K.lookup f10 = some ⟨oc10, od10, .func (PySem.W.fnOf "is_list_of" "is_list_of" (defArgs sIsListOf) (defBody sIsListOf) (defScope sIsListOf) .none kV10 dc10 pm10 an10 cd10 ct10), sl10⟩) (c10 : PySem.W.codeIn K cd10 "is_list_of" = true) (k10 : PySem.W.keepIn K (.ref f10) = true)
    (a11 : PySem.W.nsIn K mainGlobals "is_span_from" = some (some (.ref f11))) (l11 : K.lookup f11 = some ⟨oc11, od11, .func (PySem.W.fnOf "is_span_from" "is_span_from" (defArgs sIsSpanFrom) (defBody sIsSpanFrom) (defScope sIsSpanFrom) .none kV11 dc11 pm11 an11 cd11 ct11), sl11⟩) (c11 : PySem.W.codeIn K cd11 "is_span_from" = true) (k11 : PySem.W.keepIn K (.ref f11) = true)
    (a12 : PySem.W.nsIn K mainGlobals "power_within" = some (some (.ref f12))) (l12 : K.lookup f12 = some ⟨oc12, od12, .func (PySem.W.fnOf "power_within" "power_within" (defArgs sPowerWithin) (defBody sPowerWithin) (defScope sPowerWithin) .none kV12 dc12 pm12 an12 cd12 ct12), sl12⟩) (c12 : PySem.W.codeIn K cd12 "power_within" = true) (k12 : PySem.W.keepIn K (.ref f12) = true)
    (a13 : PySem.W.nsIn K mainGlobals "_first_full" = some (some (.ref f13))) (l13 : K.lookup f13 = some ⟨oc13, od13, .func (PySem.W.fnOf "_first_full" "_first_full" (defArgs sFirstFull) (defBody sFirstFull) (defScope sFirstFull) .none kV13 dc13 pm13 an13 cd13 ct13), sl13⟩) (c13 : PySem.W.codeIn K cd13 "_first_full" = true) (k13 : PySem.W.keepIn K (.ref f13) = true)
    (a14 : PySem.W.nsIn K mainGlobals "nodes_within" = some (some (.ref f14))) (l14 : K.lookup f14 = some ⟨oc14, od14, .func (PySem.W.fnOf "nodes_within" "nodes_within" (defArgs sNodesWithin) (defBody sNodesWithin) (defScope sNodesWithin) .none kV14 dc14 pm14 an14 cd14 ct14), sl14⟩) (c14 : PySem.W.codeIn K cd14 "nodes_within" = true) (k14 : PySem.W.keepIn K (.ref f14) = true)
    (a15 : PySem.W.nsIn K mainGlobals "nodes_beside" = some (some (.ref f15))) (l15 : K.lookup f15 = some ⟨oc15, od15, .func (PySem.W.fnOf "nodes_beside" "nodes_beside" (defArgs sNodesBeside) (defBody sNodesBeside) (defScope sNodesBeside) .none kV15 dc15 pm15 an15 cd15 ct15), sl15⟩) (c15 : PySem.W.codeIn K cd15 "nodes_beside" = true) (k15 : PySem.W.keepIn K (.ref f15) = true)
    (a16 : PySem.W.nsIn K mainGlobals "peaks" = some (some (.ref f16))) (l16 : K.lookup f16 = some ⟨oc16, od16, .func (PySem.W.fnOf "peaks" "peaks" (defArgs sPeaks) (defBody sPeaks) (defScope sPeaks) .none kV16 dc16 pm16 an16 cd16 ct16), sl16⟩) (c16 : PySem.W.codeIn K cd16 "peaks" = true) (k16 : PySem.W.keepIn K (.ref f16) = true)
    (a17 : PySem.W.nsIn K mainGlobals "edges" = some (some (.ref f17))) (l17 : K.lookup f17 = some ⟨oc17, od17, .func (PySem.W.fnOf "edges" "edges" (defArgs sEdges) (defBody sEdges) (defScope sEdges) .none kV17 dc17 pm17 an17 cd17 ct17), sl17⟩) (c17 : PySem.W.codeIn K cd17 "edges" = true) (k17 : PySem.W.keepIn K (.ref f17) = true)
    (a18 : PySem.W.nsIn K mainGlobals "halves" = some (some (.ref f18))) (l18 : K.lookup f18 = some ⟨oc18, od18, .func (PySem.W.fnOf "halves" "halves" (defArgs sHalves) (defBody sHalves) (defScope sHalves) .none kV18 dc18 pm18 an18 cd18 ct18), sl18⟩) (c18 : PySem.W.codeIn K cd18 "halves" = true) (k18 : PySem.W.keepIn K (.ref f18) = true)
    (a19 : PySem.W.nsIn K mainGlobals "parent" = some (some (.ref f19))) (l19 : K.lookup f19 = some ⟨oc19, od19, .func (PySem.W.fnOf "parent" "parent" (defArgs sParent) (defBody sParent) (defScope sParent) .none kV19 dc19 pm19 an19 cd19 ct19), sl19⟩) (c19 : PySem.W.codeIn K cd19 "parent" = true) (k19 : PySem.W.keepIn K (.ref f19) = true)
    (a20 : PySem.W.nsIn K mainGlobals "node_count" = some (some (.ref f20))) (l20 : K.lookup f20 = some ⟨oc20, od20, .func (PySem.W.fnOf "node_count" "node_count" (defArgs sNodeCount) (defBody sNodeCount) (defScope sNodeCount) .none kV20 dc20 pm20 an20 cd20 ct20), sl20⟩) (c20 : PySem.W.codeIn K cd20 "node_count" = true) (k20 : PySem.W.keepIn K (.ref f20) = true)
    (a21 : PySem.W.nsIn K mainGlobals "joined" = some (some (.ref f21))) (l21 : K.lookup f21 = some ⟨oc21, od21, .func (PySem.W.fnOf "joined" "joined" (defArgs sJoined) (defBody sJoined) (defScope sJoined) .none kV21 dc21 pm21 an21 cd21 ct21), sl21⟩) (c21 : PySem.W.codeIn K cd21 "joined" = true) (k21 : PySem.W.keepIn K (.ref f21) = true)
    (a22 : PySem.W.nsIn K mainGlobals "_check" = some (some (.ref f22))) (l22 : K.lookup f22 = some ⟨oc22, od22, .func (PySem.W.fnOf "_check" "_check" (defArgs sCheck) (defBody sCheck) (defScope sCheck) .none kV22 dc22 pm22 an22 cd22 ct22), sl22⟩) (c22 : PySem.W.codeIn K cd22 "_check" = true) (k22 : PySem.W.keepIn K (.ref f22) = true)
    (a23 : PySem.W.nsIn K mainGlobals "known_tops" = some (some (.ref f23))) (l23 : K.lookup f23 = some ⟨oc23, od23, .func (PySem.W.fnOf "known_tops" "known_tops" (defArgs sKnownTops) (defBody sKnownTops) (defScope sKnownTops) .none kV23 dc23 pm23 an23 cd23 ct23), sl23⟩) (c23 : PySem.W.codeIn K cd23 "known_tops" = true) (k23 : PySem.W.keepIn K (.ref f23) = true)
    (a24 : PySem.W.nsIn K mainGlobals "missing" = some (some (.ref f24))) (l24 : K.lookup f24 = some ⟨oc24, od24, .func (PySem.W.fnOf "missing" "missing" (defArgs sMissing) (defBody sMissing) (defScope sMissing) .none kV24 dc24 pm24 an24 cd24 ct24), sl24⟩) (c24 : PySem.W.codeIn K cd24 "missing" = true) (k24 : PySem.W.keepIn K (.ref f24) = true)
    (a25 : PySem.W.nsIn K mainGlobals "needed" = some (some (.ref f25))) (l25 : K.lookup f25 = some ⟨oc25, od25, .func (PySem.W.fnOf "needed" "needed" (defArgs sNeeded) (defBody sNeeded) (defScope sNeeded) .none kV25 dc25 pm25 an25 cd25 ct25), sl25⟩) (c25 : PySem.W.codeIn K cd25 "needed" = true) (k25 : PySem.W.keepIn K (.ref f25) = true)
    (a26 : PySem.W.nsIn K mainGlobals "depth" = some (some (.ref f26))) (l26 : K.lookup f26 = some ⟨oc26, od26, .func (PySem.W.fnOf "depth" "depth" (defArgs sDepth) (defBody sDepth) (defScope sDepth) .none kV26 dc26 pm26 an26 cd26 ct26), sl26⟩) (c26 : PySem.W.codeIn K cd26 "depth" = true) (k26 : PySem.W.keepIn K (.ref f26) = true)
    (a27 : PySem.W.nsIn K mainGlobals "path" = some (some (.ref f27))) (l27 : K.lookup f27 = some ⟨oc27, od27, .func (PySem.W.fnOf "path" "path" (defArgs sPath) (defBody sPath) (defScope sPath) .none kV27 dc27 pm27 an27 cd27 ct27), sl27⟩) (c27 : PySem.W.codeIn K cd27 "path" = true) (k27 : PySem.W.keepIn K (.ref f27) = true)
    (a28 : PySem.W.nsIn K mainGlobals "_peak_depths" = some (some (.ref f28))) (l28 : K.lookup f28 = some ⟨oc28, od28, .func (PySem.W.fnOf "_peak_depths" "_peak_depths" (defArgs sPeakDepths) (defBody sPeakDepths) (defScope sPeakDepths) .none kV28 dc28 pm28 an28 cd28 ct28), sl28⟩) (c28 : PySem.W.codeIn K cd28 "_peak_depths" = true) (k28 : PySem.W.keepIn K (.ref f28) = true)
    (a29 : PySem.W.nsIn K mainGlobals "_depths_between" = some (some (.ref f29))) (l29 : K.lookup f29 = some ⟨oc29, od29, .func (PySem.W.fnOf "_depths_between" "_depths_between" (defArgs sDepthsBetween) (defBody sDepthsBetween) (defScope sDepthsBetween) .none kV29 dc29 pm29 an29 cd29 ct29), sl29⟩) (c29 : PySem.W.codeIn K cd29 "_depths_between" = true) (k29 : PySem.W.keepIn K (.ref f29) = true)
    (a30 : PySem.W.nsIn K mainGlobals "depth_sum" = some (some (.ref f30))) (l30 : K.lookup f30 = some ⟨oc30, od30, .func (PySem.W.fnOf "depth_sum" "depth_sum" (defArgs sDepthSum) (defBody sDepthSum) (defScope sDepthSum) .none kV30 dc30 pm30 an30 cd30 ct30), sl30⟩) (c30 : PySem.W.codeIn K cd30 "depth_sum" = true) (k30 : PySem.W.keepIn K (.ref f30) = true)
    (a31 : PySem.W.nsIn K mainGlobals "depth_range" = some (some (.ref f31))) (l31 : K.lookup f31 = some ⟨oc31, od31, .func (PySem.W.fnOf "depth_range" "depth_range" (defArgs sDepthRange) (defBody sDepthRange) (defScope sDepthRange) .none kV31 dc31 pm31 an31 cd31 ct31), sl31⟩) (c31 : PySem.W.codeIn K cd31 "depth_range" = true) (k31 : PySem.W.keepIn K (.ref f31) = true)
    (a32 : PySem.W.nsIn K mainGlobals "older_list" = some (some (.ref f32))) (l32 : K.lookup f32 = some ⟨oc32, od32, .func (PySem.W.fnOf "older_list" "older_list" (defArgs sOlderList) (defBody sOlderList) (defScope sOlderList) .none kV32 dc32 pm32 an32 cd32 ct32), sl32⟩) (c32 : PySem.W.codeIn K cd32 "older_list" = true) (k32 : PySem.W.keepIn K (.ref f32) = true)
    (a33 : PySem.W.nsIn K mainGlobals "older_count" = some (some (.ref f33))) (l33 : K.lookup f33 = some ⟨oc33, od33, .func (PySem.W.fnOf "older_count" "older_count" (defArgs sOlderCount) (defBody sOlderCount) (defScope sOlderCount) .none kV33 dc33 pm33 an33 cd33 ct33), sl33⟩) (c33 : PySem.W.codeIn K cd33 "older_count" = true) (k33 : PySem.W.keepIn K (.ref f33) = true)
    (a34 : PySem.W.nsIn K mainGlobals "_law_bag" = some (some (.ref f34))) (l34 : K.lookup f34 = some ⟨oc34, od34, .func (PySem.W.fnOf "_law_bag" "_law_bag" (defArgs sLawBag) (defBody sLawBag) (defScope sLawBag) .none kV34 dc34 pm34 an34 cd34 ct34), sl34⟩) (c34 : PySem.W.codeIn K cd34 "_law_bag" = true) (k34 : PySem.W.keepIn K (.ref f34) = true)
    (a35 : PySem.W.nsIn K mainGlobals "_law_pick" = some (some (.ref f35))) (l35 : K.lookup f35 = some ⟨oc35, od35, .func (PySem.W.fnOf "_law_pick" "_law_pick" (defArgs sLawPick) (defBody sLawPick) (defScope sLawPick) .none kV35 dc35 pm35 an35 cd35 ct35), sl35⟩) (c35 : PySem.W.codeIn K cd35 "_law_pick" = true) (k35 : PySem.W.keepIn K (.ref f35) = true)
    (a36 : PySem.W.nsIn K mainGlobals "_law_size" = some (some (.ref f36))) (l36 : K.lookup f36 = some ⟨oc36, od36, .func (PySem.W.fnOf "_law_size" "_law_size" (defArgs sLawSize) (defBody sLawSize) (defScope sLawSize) .none kV36 dc36 pm36 an36 cd36 ct36), sl36⟩) (c36 : PySem.W.codeIn K cd36 "_law_size" = true) (k36 : PySem.W.keepIn K (.ref f36) = true)
    (a37 : PySem.W.nsIn K mainGlobals "_law_parted" = some (some (.ref f37))) (l37 : K.lookup f37 = some ⟨oc37, od37, .func (PySem.W.fnOf "_law_parted" "_law_parted" (defArgs sLawParted) (defBody sLawParted) (defScope sLawParted) .none kV37 dc37 pm37 an37 cd37 ct37), sl37⟩) (c37 : PySem.W.codeIn K cd37 "_law_parted" = true) (k37 : PySem.W.keepIn K (.ref f37) = true)
    (a38 : PySem.W.nsIn K mainGlobals "_law_walked" = some (some (.ref f38))) (l38 : K.lookup f38 = some ⟨oc38, od38, .func (PySem.W.fnOf "_law_walked" "_law_walked" (defArgs sLawWalked) (defBody sLawWalked) (defScope sLawWalked) .none kV38 dc38 pm38 an38 cd38 ct38), sl38⟩) (c38 : PySem.W.codeIn K cd38 "_law_walked" = true) (k38 : PySem.W.keepIn K (.ref f38) = true)
    (a39 : PySem.W.nsIn K mainGlobals "_law_spans" = some (some (.ref f39))) (l39 : K.lookup f39 = some ⟨oc39, od39, .func (PySem.W.fnOf "_law_spans" "_law_spans" (defArgs sLawSpans) (defBody sLawSpans) (defScope sLawSpans) .none kV39 dc39 pm39 an39 cd39 ct39), sl39⟩) (c39 : PySem.W.codeIn K cd39 "_law_spans" = true) (k39 : PySem.W.keepIn K (.ref f39) = true)
    (a40 : PySem.W.nsIn K mainGlobals "_law_moved" = some (some (.ref f40))) (l40 : K.lookup f40 = some ⟨oc40, od40, .func (PySem.W.fnOf "_law_moved" "_law_moved" (defArgs sLawMoved) (defBody sLawMoved) (defScope sLawMoved) .none kV40 dc40 pm40 an40 cd40 ct40), sl40⟩) (c40 : PySem.W.codeIn K cd40 "_law_moved" = true) (k40 : PySem.W.keepIn K (.ref f40) = true)
    (a41 : PySem.W.nsIn K mainGlobals "_law_older_right" = some (some (.ref f41))) (l41 : K.lookup f41 = some ⟨oc41, od41, .func (PySem.W.fnOf "_law_older_right" "_law_older_right" (defArgs sLawOlderRight) (defBody sLawOlderRight) (defScope sLawOlderRight) .none kV41 dc41 pm41 an41 cd41 ct41), sl41⟩) (c41 : PySem.W.codeIn K cd41 "_law_older_right" = true) (k41 : PySem.W.keepIn K (.ref f41) = true)
    (a42 : PySem.W.nsIn K mainGlobals "_law_nodes_right" = some (some (.ref f42))) (l42 : K.lookup f42 = some ⟨oc42, od42, .func (PySem.W.fnOf "_law_nodes_right" "_law_nodes_right" (defArgs sLawNodesRight) (defBody sLawNodesRight) (defScope sLawNodesRight) .none kV42 dc42 pm42 an42 cd42 ct42), sl42⟩) (c42 : PySem.W.codeIn K cd42 "_law_nodes_right" = true) (k42 : PySem.W.keepIn K (.ref f42) = true)
    (a43 : PySem.W.nsIn K mainGlobals "_law_shape_right" = some (some (.ref f43))) (l43 : K.lookup f43 = some ⟨oc43, od43, .func (PySem.W.fnOf "_law_shape_right" "_law_shape_right" (defArgs sLawShapeRight) (defBody sLawShapeRight) (defScope sLawShapeRight) .none kV43 dc43 pm43 an43 cd43 ct43), sl43⟩) (c43 : PySem.W.codeIn K cd43 "_law_shape_right" = true) (k43 : PySem.W.keepIn K (.ref f43) = true)
    (a44 : PySem.W.nsIn K mainGlobals "_law_right" = some (some (.ref f44))) (l44 : K.lookup f44 = some ⟨oc44, od44, .func (PySem.W.fnOf "_law_right" "_law_right" (defArgs sLawRight) (defBody sLawRight) (defScope sLawRight) .none kV44 dc44 pm44 an44 cd44 ct44), sl44⟩) (c44 : PySem.W.codeIn K cd44 "_law_right" = true) (k44 : PySem.W.keepIn K (.ref f44) = true)
    (a45 : PySem.W.nsIn K mainGlobals "law" = some (some (.ref f45))) (l45 : K.lookup f45 = some ⟨oc45, od45, .func (PySem.W.fnOf "law" "law" (defArgs sLaw) (defBody sLaw) (defScope sLaw) .none kV45 dc45 pm45 an45 cd45 ct45), sl45⟩) (c45 : PySem.W.codeIn K cd45 "law" = true) (k45 : PySem.W.keepIn K (.ref f45) = true)
    (z_bool : PySem.W.nsIn K mainGlobals "bool" = some none)
    (z_enumerate : PySem.W.nsIn K mainGlobals "enumerate" = some none)
    (z_int : PySem.W.nsIn K mainGlobals "int" = some none)
    (z_isinstance : PySem.W.nsIn K mainGlobals "isinstance" = some none)
    (z_len : PySem.W.nsIn K mainGlobals "len" = some none)
    (z_list : PySem.W.nsIn K mainGlobals "list" = some none)
    (z_max : PySem.W.nsIn K mainGlobals "max" = some none)
    (z_min : PySem.W.nsIn K mainGlobals "min" = some none)
    (z_range : PySem.W.nsIn K mainGlobals "range" = some none)
    (z_sorted : PySem.W.nsIn K mainGlobals "sorted" = some none)
    (z_sum : PySem.W.nsIn K mainGlobals "sum" = some none)
    (z_tuple : PySem.W.nsIn K mainGlobals "tuple" = some none)
    {t_MOST_ENTRIES : Tok} (g_MOST_ENTRIES : PySem.W.nsIn K mainGlobals "MOST_ENTRIES" = some (some (.int 1000000000000000000000000000000 t_MOST_ENTRIES)))
    {t_MOST_SPANS : Tok} (g_MOST_SPANS : PySem.W.nsIn K mainGlobals "MOST_SPANS" = some (some (.int 12 t_MOST_SPANS)))
    : ∃ fd : FuncData, (∀ (s : Shared) (v : Value), BindsTo s fd ⟨[v], []⟩ [("script", v)]) ∧ ∀ base : Heap, K.In base → base.Ns mainGlobals mg → FnOk l.prog w K mg base CX0 9 fa fd ["script"] (spLaw K) := by
  have e := hfa.symm.trans (PySem.W.mg_of X G a45)
  cases e
  have FIsWhole := fun_mk (st := sIsWhole) l0 c0 k0
  have FIsBetween := fun_mk (st := sIsBetween) l1 c1 k1
  have FCheckSize := fun_mk (st := sCheckSize) l2 c2 k2
  have FCheckEntry := fun_mk (st := sCheckEntry) l3 c3 k3
  have FCheckNode := fun_mk (st := sCheckNode) l4 c4 k4
  have FCheckSpan := fun_mk (st := sCheckSpan) l5 c5 k5
  have FCheckSpans := fun_mk (st := sCheckSpans) l6 c6 k6
  have FCheckNodes := funT_mk (st := sCheckNodes) l7 c7 k7 lT7 vT7
  have FCheckOlder := fun_mk (st := sCheckOlder) l8 c8 k8
  have FIsTreeNode := fun_mk (st := sIsTreeNode) l9 c9 k9
  have FIsListOf := fun_mk (st := sIsListOf) l10 c10 k10
  have FIsSpanFrom := fun_mk (st := sIsSpanFrom) l11 c11 k11
  have FPowerWithin := fun_mk (st := sPowerWithin) l12 c12 k12
  have FFirstFull := fun_mk (st := sFirstFull) l13 c13 k13
  have FNodesWithin := fun_mk (st := sNodesWithin) l14 c14 k14
  have FNodesBeside := fun_mk (st := sNodesBeside) l15 c15 k15
  have FPeaks := fun_mk (st := sPeaks) l16 c16 k16
  have FEdges := fun_mk (st := sEdges) l17 c17 k17
  have FHalves := fun_mk (st := sHalves) l18 c18 k18
  have FParent := fun_mk (st := sParent) l19 c19 k19
  have FNodeCount := fun_mk (st := sNodeCount) l20 c20 k20
  have FJoined := fun_mk (st := sJoined) l21 c21 k21
  have FCheck := fun_mk (st := sCheck) l22 c22 k22
  have FKnownTops := fun_mk (st := sKnownTops) l23 c23 k23
  have FMissing := fun_mk (st := sMissing) l24 c24 k24
  have FNeeded := fun_mk (st := sNeeded) l25 c25 k25
  have FDepth := fun_mk (st := sDepth) l26 c26 k26
  have FPath := fun_mk (st := sPath) l27 c27 k27
  have FPeakDepths := fun_mk (st := sPeakDepths) l28 c28 k28
  have FDepthsBetween := fun_mk (st := sDepthsBetween) l29 c29 k29
  have FDepthSum := fun_mk (st := sDepthSum) l30 c30 k30
  have FDepthRange := fun_mk (st := sDepthRange) l31 c31 k31
  have FOlderList := fun_mk (st := sOlderList) l32 c32 k32
  have FOlderCount := fun_mk (st := sOlderCount) l33 c33 k33
  have FLawBag := fun_mk (st := sLawBag) l34 c34 k34
  have FLawPick := fun_mk (st := sLawPick) l35 c35 k35
  have FLawSize := fun_mk (st := sLawSize) l36 c36 k36
  have FLawParted := fun_mk (st := sLawParted) l37 c37 k37
  have FLawWalked := fun_mk (st := sLawWalked) l38 c38 k38
  have FLawSpans := fun_mk (st := sLawSpans) l39 c39 k39
  have FLawMoved := fun_mk (st := sLawMoved) l40 c40 k40
  have FLawOlderRight := fun_mk (st := sLawOlderRight) l41 c41 k41
  have FLawNodesRight := fun_mk (st := sLawNodesRight) l42 c42 k42
  have FLawShapeRight := fun_mk (st := sLawShapeRight) l43 c43 k43
  have FLawRight := fun_mk (st := sLawRight) l44 c44 k44
  have FLaw := fun_mk (st := sLaw) l45 c45 k45
  have AIsWhole : At K mg "is_whole" f0 (PySem.W.fnOf "is_whole" "is_whole" (defArgs sIsWhole) (defBody sIsWhole) (defScope sIsWhole) .none kV0 dc0 pm0 an0 cd0 ct0) ["value"] := ⟨PySem.W.mg_of X G a0, k0, FIsWhole.binds (ps := ["value"]) fun _ _ _ _ _ _ us hl => match us, hl with | [_], _ => rfl⟩
  have AIsBetween : At K mg "is_between" f1 (PySem.W.fnOf "is_between" "is_between" (defArgs sIsBetween) (defBody sIsBetween) (defScope sIsBetween) .none kV1 dc1 pm1 an1 cd1 ct1) ["value", "low", "high"] := ⟨PySem.W.mg_of X G a1, k1, FIsBetween.binds (ps := ["value", "low", "high"]) fun _ _ _ _ _ _ us hl => match us, hl with | [_, _, _], _ => rfl⟩
  have ACheckSize : At K mg "check_size" f2 (PySem.W.fnOf "check_size" "check_size" (defArgs sCheckSize) (defBody sCheckSize) (defScope sCheckSize) .none kV2 dc2 pm2 an2 cd2 ct2) ["size"] := ⟨PySem.W.mg_of X G a2, k2, FCheckSize.binds (ps := ["size"]) fun _ _ _ _ _ _ us hl => match us, hl with | [_], _ => rfl⟩
  have ACheckEntry : At K mg "check_entry" f3 (PySem.W.fnOf "check_entry" "check_entry" (defArgs sCheckEntry) (defBody sCheckEntry) (defScope sCheckEntry) .none kV3 dc3 pm3 an3 cd3 ct3) ["size", "entry"] := ⟨PySem.W.mg_of X G a3, k3, FCheckEntry.binds (ps := ["size", "entry"]) fun _ _ _ _ _ _ us hl => match us, hl with | [_, _], _ => rfl⟩
  have ACheckNode : At K mg "check_node" f4 (PySem.W.fnOf "check_node" "check_node" (defArgs sCheckNode) (defBody sCheckNode) (defScope sCheckNode) .none kV4 dc4 pm4 an4 cd4 ct4) ["size", "node"] := ⟨PySem.W.mg_of X G a4, k4, FCheckNode.binds (ps := ["size", "node"]) fun _ _ _ _ _ _ us hl => match us, hl with | [_, _], _ => rfl⟩
  have ACheckSpan : At K mg "check_span" f5 (PySem.W.fnOf "check_span" "check_span" (defArgs sCheckSpan) (defBody sCheckSpan) (defScope sCheckSpan) .none kV5 dc5 pm5 an5 cd5 ct5) ["size", "begin", "end"] := ⟨PySem.W.mg_of X G a5, k5, FCheckSpan.binds (ps := ["size", "begin", "end"]) fun _ _ _ _ _ _ us hl => match us, hl with | [_, _, _], _ => rfl⟩
  have ACheckSpans : At K mg "check_spans" f6 (PySem.W.fnOf "check_spans" "check_spans" (defArgs sCheckSpans) (defBody sCheckSpans) (defScope sCheckSpans) .none kV6 dc6 pm6 an6 cd6 ct6) ["size", "spans"] := ⟨PySem.W.mg_of X G a6, k6, FCheckSpans.binds (ps := ["size", "spans"]) fun _ _ _ _ _ _ us hl => match us, hl with | [_, _], _ => rfl⟩
  have ACheckNodes : AtT K mg "check_nodes" f7 _ ["size", "nodes", "least", "most"] tits7.toList [.int 1, .int 60] := ⟨PySem.W.mg_of X G a7, k7, FCheckNodes.binds (n := 2) (m := 2) rfl (fun _ _ _ _ _ _ _ us its hl hi => match us, hl, its, hi with | [_, _], _, [_, _], _ => ⟨_, rfl, rfl⟩) , vT7⟩
  have ACheckOlder : At K mg "check_older" f8 (PySem.W.fnOf "check_older" "check_older" (defArgs sCheckOlder) (defBody sCheckOlder) (defScope sCheckOlder) .none kV8 dc8 pm8 an8 cd8 ct8) ["size", "older"] := ⟨PySem.W.mg_of X G a8, k8, FCheckOlder.binds (ps := ["size", "older"]) fun _ _ _ _ _ _ us hl => match us, hl with | [_, _], _ => rfl⟩
  have AIsTreeNode : At K mg "is_tree_node" f9 (PySem.W.fnOf "is_tree_node" "is_tree_node" (defArgs sIsTreeNode) (defBody sIsTreeNode) (defScope sIsTreeNode) .none kV9 dc9 pm9 an9 cd9 ct9) ["size", "value"] := ⟨PySem.W.mg_of X G a9, k9, FIsTreeNode.binds (ps := ["size", "value"]) fun _ _ _ _ _ _ us hl => match us, hl with | [_, _], _ => rfl⟩
  have AIsListOf : At K mg "is_list_of" f10 (PySem.W.fnOf "is_list_of" "is_list_of" (defArgs sIsListOf) (defBody sIsListOf) (defScope sIsListOf) .none kV10 dc10 pm10 an10 cd10 ct10) ["value", "least", "most"] := ⟨PySem.W.mg_of X G a10, k10, FIsListOf.binds (ps := ["value", "least", "most"]) fun _ _ _ _ _ _ us hl => match us, hl with | [_, _, _], _ => rfl⟩
  have AIsSpanFrom : At K mg "is_span_from" f11 (PySem.W.fnOf "is_span_from" "is_span_from" (defArgs sIsSpanFrom) (defBody sIsSpanFrom) (defScope sIsSpanFrom) .none kV11 dc11 pm11 an11 cd11 ct11) ["size", "value", "least"] := ⟨PySem.W.mg_of X G a11, k11, FIsSpanFrom.binds (ps := ["size", "value", "least"]) fun _ _ _ _ _ _ us hl => match us, hl with | [_, _, _], _ => rfl⟩
  have APowerWithin : At K mg "power_within" f12 (PySem.W.fnOf "power_within" "power_within" (defArgs sPowerWithin) (defBody sPowerWithin) (defScope sPowerWithin) .none kV12 dc12 pm12 an12 cd12 ct12) ["number"] := ⟨PySem.W.mg_of X G a12, k12, FPowerWithin.binds (ps := ["number"]) fun _ _ _ _ _ _ us hl => match us, hl with | [_], _ => rfl⟩
  have AFirstFull : At K mg "_first_full" f13 (PySem.W.fnOf "_first_full" "_first_full" (defArgs sFirstFull) (defBody sFirstFull) (defScope sFirstFull) .none kV13 dc13 pm13 an13 cd13 ct13) ["begin", "end"] := ⟨PySem.W.mg_of X G a13, k13, FFirstFull.binds (ps := ["begin", "end"]) fun _ _ _ _ _ _ us hl => match us, hl with | [_, _], _ => rfl⟩
  have ANodesWithin : At K mg "nodes_within" f14 (PySem.W.fnOf "nodes_within" "nodes_within" (defArgs sNodesWithin) (defBody sNodesWithin) (defScope sNodesWithin) .none kV14 dc14 pm14 an14 cd14 ct14) ["size", "begin", "end"] := ⟨PySem.W.mg_of X G a14, k14, FNodesWithin.binds (ps := ["size", "begin", "end"]) fun _ _ _ _ _ _ us hl => match us, hl with | [_, _, _], _ => rfl⟩
  have ANodesBeside : At K mg "nodes_beside" f15 (PySem.W.fnOf "nodes_beside" "nodes_beside" (defArgs sNodesBeside) (defBody sNodesBeside) (defScope sNodesBeside) .none kV15 dc15 pm15 an15 cd15 ct15) ["size", "stretches"] := ⟨PySem.W.mg_of X G a15, k15, FNodesBeside.binds (ps := ["size", "stretches"]) fun _ _ _ _ _ _ us hl => match us, hl with | [_, _], _ => rfl⟩
  have APeaks : At K mg "peaks" f16 (PySem.W.fnOf "peaks" "peaks" (defArgs sPeaks) (defBody sPeaks) (defScope sPeaks) .none kV16 dc16 pm16 an16 cd16 ct16) ["size"] := ⟨PySem.W.mg_of X G a16, k16, FPeaks.binds (ps := ["size"]) fun _ _ _ _ _ _ us hl => match us, hl with | [_], _ => rfl⟩
  have AEdges : At K mg "edges" f17 (PySem.W.fnOf "edges" "edges" (defArgs sEdges) (defBody sEdges) (defScope sEdges) .none kV17 dc17 pm17 an17 cd17 ct17) ["size"] := ⟨PySem.W.mg_of X G a17, k17, FEdges.binds (ps := ["size"]) fun _ _ _ _ _ _ us hl => match us, hl with | [_], _ => rfl⟩
  have AHalves : At K mg "halves" f18 (PySem.W.fnOf "halves" "halves" (defArgs sHalves) (defBody sHalves) (defScope sHalves) .none kV18 dc18 pm18 an18 cd18 ct18) ["size", "node"] := ⟨PySem.W.mg_of X G a18, k18, FHalves.binds (ps := ["size", "node"]) fun _ _ _ _ _ _ us hl => match us, hl with | [_, _], _ => rfl⟩
  have AParent : At K mg "parent" f19 (PySem.W.fnOf "parent" "parent" (defArgs sParent) (defBody sParent) (defScope sParent) .none kV19 dc19 pm19 an19 cd19 ct19) ["size", "node"] := ⟨PySem.W.mg_of X G a19, k19, FParent.binds (ps := ["size", "node"]) fun _ _ _ _ _ _ us hl => match us, hl with | [_, _], _ => rfl⟩
  have ANodeCount : At K mg "node_count" f20 (PySem.W.fnOf "node_count" "node_count" (defArgs sNodeCount) (defBody sNodeCount) (defScope sNodeCount) .none kV20 dc20 pm20 an20 cd20 ct20) ["size"] := ⟨PySem.W.mg_of X G a20, k20, FNodeCount.binds (ps := ["size"]) fun _ _ _ _ _ _ us hl => match us, hl with | [_], _ => rfl⟩
  have AJoined : At K mg "joined" f21 (PySem.W.fnOf "joined" "joined" (defArgs sJoined) (defBody sJoined) (defScope sJoined) .none kV21 dc21 pm21 an21 cd21 ct21) ["stretches"] := ⟨PySem.W.mg_of X G a21, k21, FJoined.binds (ps := ["stretches"]) fun _ _ _ _ _ _ us hl => match us, hl with | [_], _ => rfl⟩
  have ACheck : At K mg "_check" f22 (PySem.W.fnOf "_check" "_check" (defArgs sCheck) (defBody sCheck) (defScope sCheck) .none kV22 dc22 pm22 an22 cd22 ct22) ["size", "nodes"] := ⟨PySem.W.mg_of X G a22, k22, FCheck.binds (ps := ["size", "nodes"]) fun _ _ _ _ _ _ us hl => match us, hl with | [_, _], _ => rfl⟩
  have AKnownTops : At K mg "known_tops" f23 (PySem.W.fnOf "known_tops" "known_tops" (defArgs sKnownTops) (defBody sKnownTops) (defScope sKnownTops) .none kV23 dc23 pm23 an23 cd23 ct23) ["size", "nodes"] := ⟨PySem.W.mg_of X G a23, k23, FKnownTops.binds (ps := ["size", "nodes"]) fun _ _ _ _ _ _ us hl => match us, hl with | [_, _], _ => rfl⟩
  have AMissing : At K mg "missing" f24 (PySem.W.fnOf "missing" "missing" (defArgs sMissing) (defBody sMissing) (defScope sMissing) .none kV24 dc24 pm24 an24 cd24 ct24) ["size", "nodes"] := ⟨PySem.W.mg_of X G a24, k24, FMissing.binds (ps := ["size", "nodes"]) fun _ _ _ _ _ _ us hl => match us, hl with | [_, _], _ => rfl⟩
  have ANeeded : At K mg "needed" f25 (PySem.W.fnOf "needed" "needed" (defArgs sNeeded) (defBody sNeeded) (defScope sNeeded) .none kV25 dc25 pm25 an25 cd25 ct25) ["size", "spans"] := ⟨PySem.W.mg_of X G a25, k25, FNeeded.binds (ps := ["size", "spans"]) fun _ _ _ _ _ _ us hl => match us, hl with | [_, _], _ => rfl⟩
  have ADepth : At K mg "depth" f26 (PySem.W.fnOf "depth" "depth" (defArgs sDepth) (defBody sDepth) (defScope sDepth) .none kV26 dc26 pm26 an26 cd26 ct26) ["size", "entry"] := ⟨PySem.W.mg_of X G a26, k26, FDepth.binds (ps := ["size", "entry"]) fun _ _ _ _ _ _ us hl => match us, hl with | [_, _], _ => rfl⟩
  have APath : At K mg "path" f27 (PySem.W.fnOf "path" "path" (defArgs sPath) (defBody sPath) (defScope sPath) .none kV27 dc27 pm27 an27 cd27 ct27) ["size", "entry"] := ⟨PySem.W.mg_of X G a27, k27, FPath.binds (ps := ["size", "entry"]) fun _ _ _ _ _ _ us hl => match us, hl with | [_, _], _ => rfl⟩
  have APeakDepths : At K mg "_peak_depths" f28 (PySem.W.fnOf "_peak_depths" "_peak_depths" (defArgs sPeakDepths) (defBody sPeakDepths) (defScope sPeakDepths) .none kV28 dc28 pm28 an28 cd28 ct28) ["size"] := ⟨PySem.W.mg_of X G a28, k28, FPeakDepths.binds (ps := ["size"]) fun _ _ _ _ _ _ us hl => match us, hl with | [_], _ => rfl⟩
  have ADepthsBetween : At K mg "_depths_between" f29 (PySem.W.fnOf "_depths_between" "_depths_between" (defArgs sDepthsBetween) (defBody sDepthsBetween) (defScope sDepthsBetween) .none kV29 dc29 pm29 an29 cd29 ct29) ["size", "begin", "end"] := ⟨PySem.W.mg_of X G a29, k29, FDepthsBetween.binds (ps := ["size", "begin", "end"]) fun _ _ _ _ _ _ us hl => match us, hl with | [_, _, _], _ => rfl⟩
  have ADepthSum : At K mg "depth_sum" f30 (PySem.W.fnOf "depth_sum" "depth_sum" (defArgs sDepthSum) (defBody sDepthSum) (defScope sDepthSum) .none kV30 dc30 pm30 an30 cd30 ct30) ["size", "begin", "end"] := ⟨PySem.W.mg_of X G a30, k30, FDepthSum.binds (ps := ["size", "begin", "end"]) fun _ _ _ _ _ _ us hl => match us, hl with | [_, _, _], _ => rfl⟩
  have ADepthRange : At K mg "depth_range" f31 (PySem.W.fnOf "depth_range" "depth_range" (defArgs sDepthRange) (defBody sDepthRange) (defScope sDepthRange) .none kV31 dc31 pm31 an31 cd31 ct31) ["size", "begin", "end"] := ⟨PySem.W.mg_of X G a31, k31, FDepthRange.binds (ps := ["size", "begin", "end"]) fun _ _ _ _ _ _ us hl => match us, hl with | [_, _, _], _ => rfl⟩
  have AOlderList : At K mg "older_list" f32 (PySem.W.fnOf "older_list" "older_list" (defArgs sOlderList) (defBody sOlderList) (defScope sOlderList) .none kV32 dc32 pm32 an32 cd32 ct32) ["size", "older"] := ⟨PySem.W.mg_of X G a32, k32, FOlderList.binds (ps := ["size", "older"]) fun _ _ _ _ _ _ us hl => match us, hl with | [_, _], _ => rfl⟩
  have AOlderCount : At K mg "older_count" f33 (PySem.W.fnOf "older_count" "older_count" (defArgs sOlderCount) (defBody sOlderCount) (defScope sOlderCount) .none kV33 dc33 pm33 an33 cd33 ct33) ["size", "older"] := ⟨PySem.W.mg_of X G a33, k33, FOlderCount.binds (ps := ["size", "older"]) fun _ _ _ _ _ _ us hl => match us, hl with | [_, _], _ => rfl⟩
  have ALawBag : At K mg "_law_bag" f34 (PySem.W.fnOf "_law_bag" "_law_bag" (defArgs sLawBag) (defBody sLawBag) (defScope sLawBag) .none kV34 dc34 pm34 an34 cd34 ct34) ["cell"] := ⟨PySem.W.mg_of X G a34, k34, FLawBag.binds (ps := ["cell"]) fun _ _ _ _ _ _ us hl => match us, hl with | [_], _ => rfl⟩
  have ALawPick : At K mg "_law_pick" f35 (PySem.W.fnOf "_law_pick" "_law_pick" (defArgs sLawPick) (defBody sLawPick) (defScope sLawPick) .none kV35 dc35 pm35 an35 cd35 ct35) ["bag", "many"] := ⟨PySem.W.mg_of X G a35, k35, FLawPick.binds (ps := ["bag", "many"]) fun _ _ _ _ _ _ us hl => match us, hl with | [_, _], _ => rfl⟩
  have ALawSize : At K mg "_law_size" f36 (PySem.W.fnOf "_law_size" "_law_size" (defArgs sLawSize) (defBody sLawSize) (defScope sLawSize) .none kV36 dc36 pm36 an36 cd36 ct36) ["bag", "most"] := ⟨PySem.W.mg_of X G a36, k36, FLawSize.binds (ps := ["bag", "most"]) fun _ _ _ _ _ _ us hl => match us, hl with | [_, _], _ => rfl⟩
  have ALawParted : At K mg "_law_parted" f37 (PySem.W.fnOf "_law_parted" "_law_parted" (defArgs sLawParted) (defBody sLawParted) (defScope sLawParted) .none kV37 dc37 pm37 an37 cd37 ct37) ["node"] := ⟨PySem.W.mg_of X G a37, k37, FLawParted.binds (ps := ["node"]) fun _ _ _ _ _ _ us hl => match us, hl with | [_], _ => rfl⟩
  have ALawWalked : At K mg "_law_walked" f38 (PySem.W.fnOf "_law_walked" "_law_walked" (defArgs sLawWalked) (defBody sLawWalked) (defScope sLawWalked) .none kV38 dc38 pm38 an38 cd38 ct38) ["bag", "size", "most"] := ⟨PySem.W.mg_of X G a38, k38, FLawWalked.binds (ps := ["bag", "size", "most"]) fun _ _ _ _ _ _ us hl => match us, hl with | [_, _, _], _ => rfl⟩
  have ALawSpans : At K mg "_law_spans" f39 (PySem.W.fnOf "_law_spans" "_law_spans" (defArgs sLawSpans) (defBody sLawSpans) (defScope sLawSpans) .none kV39 dc39 pm39 an39 cd39 ct39) ["bag", "size", "most"] := ⟨PySem.W.mg_of X G a39, k39, FLawSpans.binds (ps := ["bag", "size", "most"]) fun _ _ _ _ _ _ us hl => match us, hl with | [_, _, _], _ => rfl⟩
  have ALawMoved : At K mg "_law_moved" f40 (PySem.W.fnOf "_law_moved" "_law_moved" (defArgs sLawMoved) (defBody sLawMoved) (defScope sLawMoved) .none kV40 dc40 pm40 an40 cd40 ct40) ["nodes", "far"] := ⟨PySem.W.mg_of X G a40, k40, FLawMoved.binds (ps := ["nodes", "far"]) fun _ _ _ _ _ _ us hl => match us, hl with | [_, _], _ => rfl⟩
  have ALawOlderRight : At K mg "_law_older_right" f41 (PySem.W.fnOf "_law_older_right" "_law_older_right" (defArgs sLawOlderRight) (defBody sLawOlderRight) (defScope sLawOlderRight) .none kV41 dc41 pm41 an41 cd41 ct41) ["bag", "size", "far"] := ⟨PySem.W.mg_of X G a41, k41, FLawOlderRight.binds (ps := ["bag", "size", "far"]) fun _ _ _ _ _ _ us hl => match us, hl with | [_, _, _], _ => rfl⟩
  have ALawNodesRight : At K mg "_law_nodes_right" f42 (PySem.W.fnOf "_law_nodes_right" "_law_nodes_right" (defArgs sLawNodesRight) (defBody sLawNodesRight) (defScope sLawNodesRight) .none kV42 dc42 pm42 an42 cd42 ct42) ["nodes", "size", "far"] := ⟨PySem.W.mg_of X G a42, k42, FLawNodesRight.binds (ps := ["nodes", "size", "far"]) fun _ _ _ _ _ _ us hl => match us, hl with | [_, _, _], _ => rfl⟩
  have ALawShapeRight : At K mg "_law_shape_right" f43 (PySem.W.fnOf "_law_shape_right" "_law_shape_right" (defArgs sLawShapeRight) (defBody sLawShapeRight) (defScope sLawShapeRight) .none kV43 dc43 pm43 an43 cd43 ct43) ["size", "far"] := ⟨PySem.W.mg_of X G a43, k43, FLawShapeRight.binds (ps := ["size", "far"]) fun _ _ _ _ _ _ us hl => match us, hl with | [_, _], _ => rfl⟩
  have ALawRight : At K mg "_law_right" f44 (PySem.W.fnOf "_law_right" "_law_right" (defArgs sLawRight) (defBody sLawRight) (defScope sLawRight) .none kV44 dc44 pm44 an44 cd44 ct44) ["bag", "size"] := ⟨PySem.W.mg_of X G a44, k44, FLawRight.binds (ps := ["bag", "size"]) fun _ _ _ _ _ _ us hl => match us, hl with | [_, _], _ => rfl⟩
  have z_bool := PySem.W.mg_none_of X G z_bool
  have z_enumerate := PySem.W.mg_none_of X G z_enumerate
  have z_int := PySem.W.mg_none_of X G z_int
  have z_isinstance := PySem.W.mg_none_of X G z_isinstance
  have z_len := PySem.W.mg_none_of X G z_len
  have z_list := PySem.W.mg_none_of X G z_list
  have z_max := PySem.W.mg_none_of X G z_max
  have z_min := PySem.W.mg_none_of X G z_min
  have z_range := PySem.W.mg_none_of X G z_range
  have z_sorted := PySem.W.mg_none_of X G z_sorted
  have z_sum := PySem.W.mg_none_of X G z_sum
  have z_tuple := PySem.W.mg_none_of X G z_tuple
  have g_MOST_ENTRIES := PySem.W.mg_of X G g_MOST_ENTRIES
  have g_MOST_SPANS := PySem.W.mg_of X G g_MOST_SPANS
  refine ⟨PySem.W.fnOf "law" "law" (defArgs sLaw) (defBody sLaw) (defScope sLaw) .none kV45 dc45 pm45 an45 cd45 ct45, fun s v => .of_eq rfl, fun base _ _ => ?_⟩
  have GIsWholeV := ok_is_wholeV (P := l.prog) (w := w) (base := base) FIsWhole z_isinstance z_int z_bool
  have GIsWhole := ok_is_whole (P := l.prog) (w := w) (base := base) FIsWhole z_isinstance z_int z_bool
  have GIsBetweenV := ok_is_betweenV FIsBetween GIsWholeV AIsWhole
  have GIsBetween := ok_is_between FIsBetween GIsWhole AIsWhole
  have GTreeV := ok_is_tree_nodeV FIsTreeNode GIsBetweenV AIsBetween z_isinstance z_tuple z_len
  have GTree := ok_is_tree_node FIsTreeNode GIsBetween AIsBetween z_isinstance z_tuple z_len
  have GIsListOf := ok_is_list_of (P := l.prog) (w := w) (base := base) FIsListOf z_isinstance z_list z_len
  have GIsSpanFrom := ok_is_span_from FIsSpanFrom GIsBetween AIsBetween z_isinstance z_tuple z_len
  have GCheckSize := ok_check_size FCheckSize GIsBetween AIsBetween g_MOST_ENTRIES
  have GCheckEntry := ok_check_entry FCheckEntry GIsBetween AIsBetween
  have GCheckNode := ok_check_node FCheckNode GTree AIsTreeNode
  have GCheckSpan := ok_check_span FCheckSpan GIsBetween AIsBetween
  have GCheckSpans := ok_check_spans FCheckSpans GIsListOf AIsListOf GIsSpanFrom AIsSpanFrom g_MOST_SPANS z_enumerate
  have GCheckNodes := ok_check_nodes (P := l.prog) (w := w) (base := base) FCheckNodes GIsListOf AIsListOf GTreeV AIsTreeNode z_enumerate
  have GCheckOlder := ok_check_older FCheckOlder GIsBetween AIsBetween
  have GPowerWithin := ok_power_within (P := l.prog) (w := w) (mg := mg) (base := base) FPowerWithin
  have GFirstFull := ok_first_full FFirstFull GPowerWithin APowerWithin z_min
  have GNodesWithinX := ok_nodes_withinX FNodesWithin GTreeV AIsTreeNode GFirstFull AFirstFull
  have GNodesWithin := within_of GNodesWithinX
  have GNodesBeside := ok_nodes_beside FNodesBeside GNodesWithinX ANodesWithin z_sorted z_max
  have GPeaks := ok_peaks FPeaks GCheckSize ACheckSize GPowerWithin APowerWithin
  have GEdges := ok_edges FEdges GPeaks APeaks
  have GNodeCount := ok_node_count FNodeCount GEdges AEdges z_len
  have GHalves := ok_halves FHalves GCheckSize ACheckSize GCheckNode ACheckNode GPowerWithin APowerWithin
  have GHalvesA := ok_halvesA FHalves GCheckSize ACheckSize GCheckNode ACheckNode GPowerWithin APowerWithin
  have GParent := ok_parent FParent GCheckSize ACheckSize GCheckNode ACheckNode z_min
  have GJoined := ok_joined (P := l.prog) (w := w) (base := base) FJoined z_sorted z_max
  have GCheck := ok_check FCheck GCheckSize ACheckSize GCheckNodes ACheckNodes
  have GKnownTops := ok_known_tops FKnownTops GCheck ACheck GJoined AJoined GNodesWithinX ANodesWithin
  have GMissing := ok_missing FMissing GCheck ACheck GNodesBeside ANodesBeside
  have GNeeded := ok_needed FNeeded GCheckSize ACheckSize GCheckSpans ACheckSpans GNodesBeside ANodesBeside
  have GPath := ok_path FPath GCheckSize ACheckSize GCheckEntry ACheckEntry GHalves AHalves
  have GDepth := ok_depth FDepth GPath APath z_len
  have GPeakDepths := ok_peak_depths FPeakDepths GPeaks APeaks z_min z_enumerate z_len
  have GDepthsBetween := ok_depths_between FDepthsBetween GPeakDepths APeakDepths z_min z_max
  have GDepthSum := ok_depth_sum FDepthSum GCheckSize ACheckSize GCheckSpan ACheckSpan GDepthsBetween ADepthsBetween z_sum
  have GDepthRange := ok_depth_range FDepthRange GCheckSize ACheckSize GCheckSpan ACheckSpan GDepthsBetween ADepthsBetween z_min z_max
  have GOlderList := ok_older_list FOlderList GCheckSize ACheckSize GCheckOlder ACheckOlder GPeaks APeaks GNodesWithin ANodesWithin z_len
  have GOlderCount := ok_older_count FOlderCount GOlderList AOlderList z_len
  have GLawBag := ok_law_bag (P := l.prog) (w := w) (base := base) FLawBag z_max
  have GLawPick := ok_law_pick (P := l.prog) (w := w) (base := base) FLawPick z_int
  have GLawSize := ok_law_sizeM FLawSize GLawPick ALawPick z_max z_min z_sum z_range
  have GLawParted := ok_law_parted (P := l.prog) (w := w) (mg := mg) (base := base) FLawParted
  have GLawWalked := ok_law_walked FLawWalked GLawParted ALawParted GLawPick ALawPick z_range
  have GLawSpans := ok_law_spans FLawSpans GLawPick ALawPick z_range z_min
  have GLawMoved := ok_law_moved (P := l.prog) (w := w) (mg := mg) (base := base) FLawMoved
  have GLawMovedT := ok_law_movedT (P := l.prog) (w := w) (mg := mg) (base := base) FLawMoved
  have GLawShapeRight := ok_law_shape FLawShapeRight GPeaks APeaks GLawMoved ALawMoved GNodeCount ANodeCount GEdges AEdges z_len
  have GLawOlderRight := ok_law_older FLawOlderRight GLawPick ALawPick GLawMoved ALawMoved GOlderList AOlderList GOlderCount AOlderCount z_len
  have GLawNodesRight := ok_law_nodes FLawNodesRight GHalvesA AHalves GLawMovedT ALawMoved GParent AParent z_list
  have GLawRight := ok_law_right FLawRight GLawPick ALawPick GLawShapeRight ALawShapeRight GPath APath GDepth ADepth GDepthSum ADepthSum GDepthRange ADepthRange GLawSpans ALawSpans GLawWalked ALawWalked GNeeded ANeeded GMissing AMissing GKnownTops AKnownTops GLawNodesRight ALawNodesRight GLawOlderRight ALawOlderRight GLawMoved ALawMoved z_range
  exact ok_law FLaw GLawBag ALawBag GLawSize ALawSize GLawRight ALawRight
end LT
open PySem PySem.W PyProof.Rows
set_option maxRecDepth 100000 in
set_option maxHeartbeats 0 in
theorem PySem.Challenge.cw_logtrees_k58_whole_logs_moved_holds : PySem.Challenge.rw_logtrees_k58_whole_logs_moved.Holds := by
  w_on; o_law; k_head; (case hw => w_witness2)
  k_fill
  refine L2.walk_of (l := PySem.Challenge.rw_logtrees_k58_whole_logs_moved) (n := 63) (k := 9) (x := "script") (CX := fun _ => L2.CX0) (sp := fun w => LT.spLaw _) rfl (by decide) rfl ⟨rfl, by decide, by decide⟩ (fun w h Y => PySem.W.kIn_of Y) ?F (fun _ _ a ns hl _ hS => ⟨a, ns, rfl, hS, hl, fun _ => rfl⟩) (fun _ _ _ _ _ h => h)
  case F =>
    intro w mg fa h KX G hmg
    refine' LT.all_mk KX G hmg ?a0 ?l0 ?c0 ?k0 ?a1 ?l1 ?c1 ?k1 ?a2 ?l2 ?c2 ?k2 ?a3 ?l3 ?c3 ?k3 ?a4 ?l4 ?c4 ?k4 ?a5 ?l5 ?c5 ?k5 ?a6 ?l6 ?c6 ?k6 ?a7 ?l7 ?c7 ?k7 ?lT7 ?vT7 ?a8 ?l8 ?c8 ?k8 ?a9 ?l9 ?c9 ?k9 ?a10 ?l10 ?c10 ?k10 ?a11 ?l11 ?c11 ?k11 ?a12 ?l12 ?c12 ?k12 ?a13 ?l13 ?c13 ?k13 ?a14 ?l14 ?c14 ?k14 ?a15 ?l15 ?c15 ?k15 ?a16 ?l16 ?c16 ?k16 ?a17 ?l17 ?c17 ?k17 ?a18 ?l18 ?c18 ?k18 ?a19 ?l19 ?c19 ?k19 ?a20 ?l20 ?c20 ?k20 ?a21 ?l21 ?c21 ?k21 ?a22 ?l22 ?c22 ?k22 ?a23 ?l23 ?c23 ?k23 ?a24 ?l24 ?c24 ?k24 ?a25 ?l25 ?c25 ?k25 ?a26 ?l26 ?c26 ?k26 ?a27 ?l27 ?c27 ?k27 ?a28 ?l28 ?c28 ?k28 ?a29 ?l29 ?c29 ?k29 ?a30 ?l30 ?c30 ?k30 ?a31 ?l31 ?c31 ?k31 ?a32 ?l32 ?c32 ?k32 ?a33 ?l33 ?c33 ?k33 ?a34 ?l34 ?c34 ?k34 ?a35 ?l35 ?c35 ?k35 ?a36 ?l36 ?c36 ?k36 ?a37 ?l37 ?c37 ?k37 ?a38 ?l38 ?c38 ?k38 ?a39 ?l39 ?c39 ?k39 ?a40 ?l40 ?c40 ?k40 ?a41 ?l41 ?c41 ?k41 ?a42 ?l42 ?c42 ?k42 ?a43 ?l43 ?c43 ?k43 ?a44 ?l44 ?c44 ?k44 ?a45 ?l45 ?c45 ?k45 ?z_bool ?z_enumerate ?z_int ?z_isinstance ?z_len ?z_list ?z_max ?z_min ?z_range ?z_sorted ?z_sum ?z_tuple ?g_MOST_ENTRIES ?g_MOST_SPANS
    (case a0 => k_is)
    (case l0 => k_is)
    (case c0 => k_is)
    (case k0 => k_is)
    (case a1 => k_is)
    (case l1 => k_is)
    (case c1 => k_is)
    (case k1 => k_is)
    (case a2 => k_is)
    (case l2 => k_is)
    (case c2 => k_is)
    (case k2 => k_is)
    (case a3 => k_is)
    (case l3 => k_is)
    (case c3 => k_is)
    (case k3 => k_is)
    (case a4 => k_is)
    (case l4 => k_is)
    (case c4 => k_is)
    (case k4 => k_is)
    (case a5 => k_is)
    (case l5 => k_is)
    (case c5 => k_is)
    (case k5 => k_is)
    (case a6 => k_is)
    (case l6 => k_is)
    (case c6 => k_is)
    (case k6 => k_is)
    (case a7 => k_is)
    (case l7 => k_is)
    (case c7 => k_is)
    (case k7 => k_is)
    (case lT7 => k_is)
    (case vT7 => exact .cons ⟨_, rfl⟩ (.cons ⟨_, rfl⟩ (.nil)))
    (case a8 => k_is)
    (case l8 => k_is)
    (case c8 => k_is)
    (case k8 => k_is)
    (case a9 => k_is)
    (case l9 => k_is)
    (case c9 => k_is)
    (case k9 => k_is)
    (case a10 => k_is)
    (case l10 => k_is)
    (case c10 => k_is)
    (case k10 => k_is)
    (case a11 => k_is)
    (case l11 => k_is)
    (case c11 => k_is)
    (case k11 => k_is)
    (case a12 => k_is)
    (case l12 => k_is)
    (case c12 => k_is)
    (case k12 => k_is)
    (case a13 => k_is)
    (case l13 => k_is)
    (case c13 => k_is)
    (case k13 => k_is)
    (case a14 => k_is)
    (case l14 => k_is)
    (case c14 => k_is)
    (case k14 => k_is)
    (case a15 => k_is)
    (case l15 => k_is)
    (case c15 => k_is)
    (case k15 => k_is)
    (case a16 => k_is)
    (case l16 => k_is)
    (case c16 => k_is)
    (case k16 => k_is)
    (case a17 => k_is)
    (case l17 => k_is)
    (case c17 => k_is)
    (case k17 => k_is)
    (case a18 => k_is)
    (case l18 => k_is)
    (case c18 => k_is)
    (case k18 => k_is)
    (case a19 => k_is)
    (case l19 => k_is)
    (case c19 => k_is)
    (case k19 => k_is)
    (case a20 => k_is)
    (case l20 => k_is)
    (case c20 => k_is)
    (case k20 => k_is)
    (case a21 => k_is)
    (case l21 => k_is)
    (case c21 => k_is)
    (case k21 => k_is)
    (case a22 => k_is)
    (case l22 => k_is)
    (case c22 => k_is)
    (case k22 => k_is)
    (case a23 => k_is)
    (case l23 => k_is)
    (case c23 => k_is)
    (case k23 => k_is)
    (case a24 => k_is)
    (case l24 => k_is)
    (case c24 => k_is)
    (case k24 => k_is)
    (case a25 => k_is)
    (case l25 => k_is)
    (case c25 => k_is)
    (case k25 => k_is)
    (case a26 => k_is)
    (case l26 => k_is)
    (case c26 => k_is)
    (case k26 => k_is)
    (case a27 => k_is)
    (case l27 => k_is)
    (case c27 => k_is)
    (case k27 => k_is)
    (case a28 => k_is)
    (case l28 => k_is)
    (case c28 => k_is)
    (case k28 => k_is)
    (case a29 => k_is)
    (case l29 => k_is)
    (case c29 => k_is)
    (case k29 => k_is)
    (case a30 => k_is)
    (case l30 => k_is)
    (case c30 => k_is)
    (case k30 => k_is)
    (case a31 => k_is)
    (case l31 => k_is)
    (case c31 => k_is)
    (case k31 => k_is)
    (case a32 => k_is)
    (case l32 => k_is)
    (case c32 => k_is)
    (case k32 => k_is)
    (case a33 => k_is)
    (case l33 => k_is)
    (case c33 => k_is)
    (case k33 => k_is)
    (case a34 => k_is)
    (case l34 => k_is)
    (case c34 => k_is)
    (case k34 => k_is)
    (case a35 => k_is)
    (case l35 => k_is)
    (case c35 => k_is)
    (case k35 => k_is)
    (case a36 => k_is)
    (case l36 => k_is)
    (case c36 => k_is)
    (case k36 => k_is)
    (case a37 => k_is)
    (case l37 => k_is)
    (case c37 => k_is)
    (case k37 => k_is)
    (case a38 => k_is)
    (case l38 => k_is)
    (case c38 => k_is)
    (case k38 => k_is)
    (case a39 => k_is)
    (case l39 => k_is)
    (case c39 => k_is)
    (case k39 => k_is)
    (case a40 => k_is)
    (case l40 => k_is)
    (case c40 => k_is)
    (case k40 => k_is)
    (case a41 => k_is)
    (case l41 => k_is)
    (case c41 => k_is)
    (case k41 => k_is)
    (case a42 => k_is)
    (case l42 => k_is)
    (case c42 => k_is)
    (case k42 => k_is)
    (case a43 => k_is)
    (case l43 => k_is)
    (case c43 => k_is)
    (case k43 => k_is)
    (case a44 => k_is)
    (case l44 => k_is)
    (case c44 => k_is)
    (case k44 => k_is)
    (case a45 => k_is)
    (case l45 => k_is)
    (case c45 => k_is)
    (case k45 => k_is)
    (case z_bool => k_is)
    (case z_enumerate => k_is)
    (case z_int => k_is)
    (case z_isinstance => k_is)
    (case z_len => k_is)
    (case z_list => k_is)
    (case z_max => k_is)
    (case z_min => k_is)
    (case z_range => k_is)
    (case z_sorted => k_is)
    (case z_sum => k_is)
    (case z_tuple => k_is)
    (case g_MOST_ENTRIES => k_is)
    (case g_MOST_SPANS => k_is)
