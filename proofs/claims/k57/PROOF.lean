import PyProof.Rows.All
import Wide.All
import OpenK.AllK
import Wide.FinOn
import HandS.ForMost
import HandS.Wide
import HandS.WideBits
import HandS.IsInst
import HandS.Style
import HandS.Deep
import HandS.RaiseMore
import HandS.Conv
import HandS.Flow
import HandS.SortRule
import HandS.NoneIn
import HandS.TupLen
import HandS.Set
import HandS.SetFor
import HandS.Strs
import HandS.Defaults
import PyProof.ReprRoads
import PyProof.Rows.NestShow
import KE.DataMinMax
import KE.SortData
import PySem.Challenge.RW_logtrees_k57_whole_tops_and_compact
set_option Elab.async false
set_option linter.all false
set_option maxRecDepth 100000
set_option maxHeartbeats 4000000
namespace LT
/-- the greatest power of two less than m (m from 2) -/
def gp (m : Nat) : Nat := 2 ^ Nat.log2 (m - 1)
theorem gp_pos (m : Nat) : 0 < gp m := Nat.pow_pos (by decide)
theorem gp_lt {m : Nat} (h : 2 ≤ m) : gp m < m := by
  have := Nat.log2_self_le (n := m - 1) (by omega)
  unfold gp; omega
theorem gp_ge {m : Nat} (h : 2 ≤ m) : m ≤ 2 * gp m := by
  have := Nat.lt_log2_self (n := m - 1)
  unfold gp; rw [Nat.pow_succ] at this; omega
theorem pow_eq_of {i j : Nat} {m : Nat} (h1 : 2 ^ i < m) (h2 : m ≤ 2 * 2 ^ i) (h3 : 2 ^ j < m) (h4 : m ≤ 2 * 2 ^ j) : i = j := by
  have a : 2 ^ i < 2 ^ (j + 1) := by rw [Nat.pow_succ]; omega
  have b : 2 ^ j < 2 ^ (i + 1) := by rw [Nat.pow_succ]; omega
  have a' := (Nat.pow_lt_pow_iff_right (by decide : 1 < 2)).mp a
  have b' := (Nat.pow_lt_pow_iff_right (by decide : 1 < 2)).mp b
  omega
theorem gp_eq {i m : Nat} (h1 : 2 ^ i < m) (h2 : m ≤ 2 * 2 ^ i) : gp m = 2 ^ i := by
  have h : 2 ≤ m := by have := Nat.pow_pos (a := 2) (n := i) (by decide); omega
  have := pow_eq_of (gp_lt h) (gp_ge h) h1 h2
  unfold gp; rw [this]
theorem gp_pow (i : Nat) : gp (2 ^ (i + 1)) = 2 ^ i := gp_eq (by rw [Nat.pow_succ]; have := Nat.pow_pos (a := 2) (n := i) (by decide); omega) (by rw [Nat.pow_succ]; omega)

/-- siblings from the root's half down to the leaf's: nodes as (begin, length-end) pairs -/
def sib (b m e : Nat) : List (Nat × Nat) :=
  if h : m ≤ 1 then [] else
    if e < b + gp m then (b + gp m, b + m) :: sib b (gp m) e
    else (b, b + gp m) :: sib (b + gp m) (m - gp m) e
termination_by m
decreasing_by
  · exact gp_lt (by omega)
  · have := gp_pos m; omega
theorem sib_one {b m e : Nat} (h : m ≤ 1) : sib b m e = [] := by rw [sib]; simp [h]
theorem sib_low {b m e : Nat} (h : 2 ≤ m) (k : e < b + gp m) : sib b m e = (b + gp m, b + m) :: sib b (gp m) e := by
  rw [sib]; rw [dif_neg (by omega), if_pos k]
theorem sib_high {b m e : Nat} (h : 2 ≤ m) (k : ¬ e < b + gp m) : sib b m e = (b, b + gp m) :: sib (b + gp m) (m - gp m) e := by
  rw [sib]; rw [dif_neg (by omega), if_neg k]

/-! ### joining up again -/
def join (x y : Nat × Nat) : Nat × Nat := (min x.1 y.1, max x.2 y.2)
/-- the halves of a node -/
def halv (x : Nat × Nat) : (Nat × Nat) × (Nat × Nat) := ((x.1, x.1 + gp (x.2 - x.1)), (x.1 + gp (x.2 - x.1), x.2))
def ok1 (x y : Nat × Nat) : Prop := (join x y).1 + 2 ≤ (join x y).2 ∧ (halv (join x y) = (x, y) ∨ halv (join x y) = (y, x))
def oks : Nat × Nat → List (Nat × Nat) → Prop
  | _, [] => True
  | x, y :: r => ok1 x y ∧ oks (join x y) r
def top : Nat × Nat → List (Nat × Nat) → Nat × Nat
  | x, [] => x
  | x, y :: r => top (join x y) r
theorem oks_append : ∀ (x : Nat × Nat) (l r : List (Nat × Nat)), oks x l → oks (top x l) r → oks x (l ++ r)
  | _, [], _, _, h => h
  | x, y :: l, r, h1, h2 => ⟨h1.1, oks_append (join x y) l r h1.2 h2⟩
theorem top_append : ∀ (x : Nat × Nat) (l r : List (Nat × Nat)), top x (l ++ r) = top (top x l) r
  | _, [], _ => rfl
  | x, y :: l, r => top_append (join x y) l r
theorem sib_up : ∀ (m b e : Nat), b ≤ e → e < b + m → oks (e, e + 1) (sib b m e).reverse ∧ top (e, e + 1) (sib b m e).reverse = (b, b + m) := by
  intro m
  induction m using Nat.strongRecOn with
  | ind m ih =>
    intro b e h1 h2
    by_cases hm : m ≤ 1
    · have : m = 1 := by omega
      subst this
      rw [sib_one (by omega)]
      have : e = b := by omega
      subst this
      exact ⟨True.intro, rfl⟩
    · have g1 := gp_lt (m := m) (by omega)
      have g2 := gp_pos m
      by_cases k : e < b + gp m
      · rw [sib_low (by omega) k, List.reverse_cons]
        obtain ⟨p, q⟩ := ih (gp m) g1 b e h1 k
        have j : join (b, b + gp m) (b + gp m, b + m) = (b, b + m) := by
          unfold join; simp only []; rw [Nat.min_eq_left (by omega), Nat.max_eq_right (by omega)]
        refine ⟨oks_append _ _ _ p ?_, ?_⟩
        · rw [q]
          refine ⟨⟨?_, .inl ?_⟩, True.intro⟩
          · rw [j]; simp only []; omega
          · rw [j]; unfold halv; simp only []; rw [Nat.add_sub_cancel_left]
        · rw [top_append, q]; exact j
      · rw [sib_high (by omega) k, List.reverse_cons]
        obtain ⟨p, q⟩ := ih (m - gp m) (by omega) (b + gp m) e (by omega) (by omega)
        have e2 : b + gp m + (m - gp m) = b + m := by omega
        rw [e2] at q
        have j : join (b + gp m, b + m) (b, b + gp m) = (b, b + m) := by
          unfold join; simp only []; rw [Nat.min_eq_right (by omega), Nat.max_eq_left (by omega)]
        refine ⟨oks_append _ _ _ p ?_, ?_⟩
        · rw [q]
          refine ⟨⟨?_, .inr ?_⟩, True.intro⟩
          · rw [j]; simp only []; omega
          · rw [j]; unfold halv; simp only []; rw [Nat.add_sub_cancel_left]
        · rw [top_append, q]; exact j
theorem sib_len_pow (i : Nat) : ∀ (b e : Nat), b ≤ e → e < b + 2 ^ i → (sib b (2 ^ i) e).length = i := by
  induction i with
  | zero => intro b e h1 h2; rw [sib_one (by simp)]; rfl
  | succ i ih =>
    intro b e h1 h2
    have h3 : 2 ≤ 2 ^ (i + 1) := by rw [Nat.pow_succ]; have := Nat.pow_pos (a := 2) (n := i) (by decide); omega
    have g := gp_pow i
    have e2 : 2 ^ (i + 1) - 2 ^ i = 2 ^ i := by rw [Nat.pow_succ]; omega
    by_cases k : e < b + gp (2 ^ (i + 1))
    · rw [sib_low h3 k, List.length_cons, g, ih b e h1 (by omega)]
    · rw [sib_high h3 k, List.length_cons, g, e2, ih (b + 2 ^ i) e (by omega) (by rw [Nat.pow_succ] at h2; omega)]
/-! ### the peaks by digits: (begin, height) -/
def pk : Nat → Nat → Nat → List (Nat × Nat)
  | 0, _, _ => []
  | i + 1, n, b => if n.testBit i then (b, i) :: pk i n (b + 2 ^ i) else pk i n b
theorem mod_succ (n i : Nat) : n % 2 ^ (i + 1) = (if n.testBit i then 2 ^ i else 0) + n % 2 ^ i := by
  rw [Nat.mod_pow_succ, Nat.testBit_eq_decide_div_mod_eq, Nat.add_comm]
  have h : n / 2 ^ i % 2 = 0 ∨ n / 2 ^ i % 2 = 1 := by omega
  rcases h with h | h <;> rw [h] <;> simp
theorem pk_nil : ∀ (i n b : Nat), n % 2 ^ i = 0 → pk i n b = []
  | 0, _, _, _ => rfl
  | i + 1, n, b, h => by
    rw [mod_succ] at h
    have p := Nat.pow_pos (a := 2) (n := i) (by decide)
    unfold pk
    cases t : n.testBit i with
    | true => rw [t] at h; simp at h
    | false => rw [t] at h; simp at h; simp; exact pk_nil i n b h
theorem pk_ne : ∀ (i n b : Nat), n % 2 ^ i ≠ 0 → pk i n b ≠ []
  | 0, _, _, h => by simp [Nat.mod_one] at h
  | i + 1, n, b, h => by
    rw [mod_succ] at h
    unfold pk
    cases t : n.testBit i with
    | true => simp
    | false => rw [t] at h; simp at h; simp; exact pk_ne i n b (by omega)
theorem pk_begin : ∀ (i n b : Nat) (x : Nat × Nat), x ∈ pk i n b → b ≤ x.1 ∧ x.2 < i
  | 0, _, _, _, h => by simp [pk] at h
  | i + 1, n, b, x, h => by
    unfold pk at h
    cases t : n.testBit i with
    | true =>
      rw [t] at h; simp at h
      rcases h with h | h
      · subst h; exact ⟨Nat.le_refl _, Nat.lt_succ_self _⟩
      · have := pk_begin i n _ x h; have p := Nat.pow_pos (a := 2) (n := i) (by decide); omega
    | false =>
      rw [t] at h; simp at h
      have := pk_begin i n _ x h; omega
/-- what the law says of the levels: s the place of the first row, of t rows in all -/
def lev (t : Nat) : Nat → List (Nat × Nat) → List (Nat × Nat × Nat)
  | _, [] => []
  | s, x :: r => (x.1, x.1 + 2 ^ x.2, x.2 + min (s + 1) (t - 1)) :: lev t (s + 1) r
def due (e : Nat) (l : List (Nat × Nat × Nat)) : List Nat := (l.filter fun x => decide (x.1 ≤ e) && decide (e < x.2.1)).map fun x => x.2.2
theorem due_none (t e : Nat) : ∀ (l : List (Nat × Nat)) (s : Nat), (∀ x ∈ l, e < x.1) → due e (lev t s l) = []
  | [], _, _ => rfl
  | x :: r, s, h => by
    have h1 := h x (List.mem_cons_self)
    have ih := due_none t e r (s + 1) fun y hy => h y (List.mem_cons_of_mem _ hy)
    show List.map _ (List.filter _ ((x.1, x.1 + 2 ^ x.2, x.2 + min (s + 1) (t - 1)) :: lev t (s + 1) r)) = []
    rw [List.filter_cons, if_neg (by simp; omega)]
    exact ih
theorem due_is (n e : Nat) : ∀ (i b s : Nat), b ≤ e → e < b + n % 2 ^ i → due e (lev (s + (pk i n b).length) s (pk i n b)) = [(sib b (n % 2 ^ i) e).length + min s (s + (pk i n b).length - 1)] := by
  intro i
  induction i with
  | zero => intro b s h1 h2; simp [Nat.mod_one] at h2; omega
  | succ i ih =>
    intro b s h1 h2
    have p := Nat.pow_pos (a := 2) (n := i) (by decide)
    have ml := Nat.mod_lt n p
    cases t : n.testBit i with
    | false =>
      have e1 : n % 2 ^ (i + 1) = n % 2 ^ i := by rw [mod_succ, t]; simp
      have e2 : pk (i + 1) n b = pk i n b := by show (if n.testBit i = true then _ else _) = _; rw [t]; simp
      rw [e1] at h2
      rw [e1, e2]; exact ih b s h1 h2
    | true =>
      have e1 : n % 2 ^ (i + 1) = 2 ^ i + n % 2 ^ i := by rw [mod_succ, t]; simp
      have e2 : pk (i + 1) n b = (b, i) :: pk i n (b + 2 ^ i) := by show (if n.testBit i = true then _ else _) = _; rw [t]; simp
      rw [e1] at h2
      rw [e1, e2, List.length_cons]
      by_cases r0 : n % 2 ^ i = 0
      · rw [pk_nil i n _ r0, r0]
        rw [r0] at h2
        rw [Nat.add_zero] at h2
        rw [Nat.add_zero (2 ^ i), sib_len_pow i b e h1 h2]
        show List.map _ (List.filter _ [(b, b + 2 ^ i, i + min (s + 1) (s + (0 + 1) - 1))]) = _
        rw [List.filter_cons, if_pos (by simp; omega)]
        simp
      · have hne : 1 ≤ (pk i n (b + 2 ^ i)).length := by
          have := pk_ne i n (b + 2 ^ i) r0
          cases hh : pk i n (b + 2 ^ i) with
          | nil => exact absurd hh this
          | cons _ _ => rw [List.length_cons]; omega
        have g : gp (2 ^ i + n % 2 ^ i) = 2 ^ i := gp_eq (by omega) (by omega)
        by_cases k : e < b + 2 ^ i
        · rw [sib_low (by omega) (by rw [g]; exact k), g, List.length_cons, sib_len_pow i b e h1 k]
          have d := due_none (s + ((pk i n (b + 2 ^ i)).length + 1)) e (pk i n (b + 2 ^ i)) (s + 1) fun x hx => by have := pk_begin _ _ _ x hx; omega
          show List.map _ (List.filter _ ((b, b + 2 ^ i, i + min (s + 1) (s + ((pk i n (b + 2 ^ i)).length + 1) - 1)) :: lev (s + ((pk i n (b + 2 ^ i)).length + 1)) (s + 1) (pk i n (b + 2 ^ i)))) = _
          rw [List.filter_cons, if_pos (by simp; omega), List.map_cons]
          have d' : List.map (fun x => x.2.2) (List.filter (fun x => decide (x.1 ≤ e) && decide (e < x.2.1)) (lev (s + ((pk i n (b + 2 ^ i)).length + 1)) (s + 1) (pk i n (b + 2 ^ i)))) = [] := d
          rw [d']
          simp
          omega
        · rw [sib_high (by omega) (by rw [g]; exact k), g, List.length_cons, Nat.add_sub_cancel_left]
          have q := ih (b + 2 ^ i) (s + 1) (by omega) (by omega)
          have e3 : s + 1 + (pk i n (b + 2 ^ i)).length = s + ((pk i n (b + 2 ^ i)).length + 1) := by omega
          rw [e3] at q
          show List.map _ (List.filter _ ((b, b + 2 ^ i, i + min (s + 1) (s + ((pk i n (b + 2 ^ i)).length + 1) - 1)) :: lev (s + ((pk i n (b + 2 ^ i)).length + 1)) (s + 1) (pk i n (b + 2 ^ i)))) = _
          rw [List.filter_cons, if_neg (by simp; omega)]
          refine Eq.trans q ?_
          congr 1
          omega
/-! ### which pairs are nodes -/
/-- the bits of m - 1 -/
def lb (m : Nat) : Nat := if m ≤ 1 then 0 else Nat.log2 (m - 1) + 1
theorem lb_le {x i : Nat} (h : x ≤ 2 ^ i) : lb x ≤ i := by
  unfold lb
  by_cases k : x ≤ 1
  · rw [if_pos k]; omega
  · rw [if_neg k]
    have h1 := Nat.log2_self_le (n := x - 1) (by omega)
    have h2 : 2 ^ Nat.log2 (x - 1) < 2 ^ i := by omega
    exact (Nat.pow_lt_pow_iff_right (by decide : 1 < 2)).mp h2
theorem lb_ge (x : Nat) : x ≤ 2 ^ lb x := by
  unfold lb
  by_cases k : x ≤ 1
  · rw [if_pos k]; omega
  · rw [if_neg k]
    have := Nat.lt_log2_self (n := x - 1)
    omega
theorem lb_pow (i : Nat) : lb (2 ^ i) = i := by
  have h1 := lb_le (Nat.le_refl (2 ^ i))
  have h2 := (Nat.pow_le_pow_iff_right (by decide : 1 < 2)).mp (lb_ge (2 ^ i))
  omega
theorem lb_gp {m : Nat} (h : 2 ≤ m) : 2 ^ lb m = 2 * gp m := by
  unfold lb gp; rw [if_neg (by omega), Nat.pow_succ]; omega
def tree (n b m : Nat) : Prop := 2 ^ lb m ∣ b ∧ (m = 2 ^ lb m ∨ b + m = n)
theorem tree_root (n : Nat) : tree n 0 n := ⟨Nat.dvd_zero _, .inr (Nat.zero_add _)⟩
theorem tree_low {n b m : Nat} (h : 2 ≤ m) (t : tree n b m) : tree n b (gp m) := by
  obtain ⟨d, _⟩ := t
  rw [lb_gp h] at d
  have e : 2 ^ lb (gp m) = gp m := by unfold gp; rw [lb_pow]
  exact ⟨by rw [e]; exact Nat.dvd_trans (Nat.dvd_mul_left _ _) d, .inl e.symm⟩
theorem tree_high {n b m : Nat} (h : 2 ≤ m) (t : tree n b m) : tree n (b + gp m) (m - gp m) := by
  obtain ⟨d, k⟩ := t
  rw [lb_gp h] at d k
  have g1 := gp_lt h
  have g2 := gp_ge h
  have dg : 2 ^ lb (m - gp m) ∣ gp m := by
    have : lb (m - gp m) ≤ Nat.log2 (m - 1) := lb_le (by unfold gp at g1 g2 ⊢; omega)
    exact Nat.pow_dvd_pow 2 this
  refine ⟨Nat.dvd_add (Nat.dvd_trans dg (Nat.dvd_trans (Nat.dvd_mul_left _ _) d)) dg, ?_⟩
  rcases k with k | k
  · left
    have e : m - gp m = gp m := by omega
    rw [e]
    unfold gp; rw [lb_pow]
  · right; omega
theorem sib_len_le : ∀ (m b e : Nat), b ≤ e → e < b + m → (sib b m e).length ≤ lb m := by
  intro m
  induction m using Nat.strongRecOn with
  | ind m ih =>
    intro b e h1 h2
    by_cases hm : m ≤ 1
    · rw [sib_one hm]; exact Nat.zero_le _
    · have g1 := gp_lt (m := m) (by omega)
      have g2 := gp_ge (m := m) (by omega)
      have g3 := gp_pos m
      have e1 : lb m = Nat.log2 (m - 1) + 1 := by unfold lb; rw [if_neg hm]
      by_cases k : e < b + gp m
      · rw [sib_low (by omega) k, List.length_cons]
        have := ih (gp m) g1 b e h1 k
        have e2 : lb (gp m) = Nat.log2 (m - 1) := by unfold gp; rw [lb_pow]
        omega
      · rw [sib_high (by omega) k, List.length_cons]
        have := ih (m - gp m) (by omega) (b + gp m) e (by omega) (by omega)
        have e2 : lb (m - gp m) ≤ Nat.log2 (m - 1) := lb_le (by unfold gp at g1 g2 ⊢; omega)
        omega
end LT
namespace LT
open PySem PySem.Spec PyProof.Rows L2
def topS (i : Nat) : Stmt := PySem.Challenge.pw_logtrees_k57_whole_tops_and_compact.main.body.getD i (.Pass ⟨0, 0, 0, 0⟩)
abbrev sIsWhole : Stmt := topS 11
theorem scIsWhole : FnScope ["value"] ["value"] (defScope sIsWhole) := ⟨rfl, rfl, rfl, by decide +kernel, rfl, by decide +kernel, by decide +kernel⟩
abbrev sIsBetween : Stmt := topS 12
theorem scIsBetween : FnScope ["value", "low", "high"] ["value", "low", "high"] (defScope sIsBetween) := ⟨rfl, rfl, rfl, by decide +kernel, rfl, by decide +kernel, by decide +kernel⟩
abbrev sIsTreeNode : Stmt := topS 13
theorem scIsTreeNode : FnScope ["size", "value", "begin", "end", "room"] ["size", "value"] (defScope sIsTreeNode) := ⟨rfl, rfl, rfl, by decide +kernel, rfl, by decide +kernel, by decide +kernel⟩
abbrev sIsListOf : Stmt := topS 14
theorem scIsListOf : FnScope ["value", "least", "most"] ["value", "least", "most"] (defScope sIsListOf) := ⟨rfl, rfl, rfl, by decide +kernel, rfl, by decide +kernel, by decide +kernel⟩
abbrev sIsSpanFrom : Stmt := topS 15
theorem scIsSpanFrom : FnScope ["size", "value", "least", "first", "end"] ["size", "value", "least"] (defScope sIsSpanFrom) := ⟨rfl, rfl, rfl, by decide +kernel, rfl, by decide +kernel, by decide +kernel⟩
abbrev sCheckSize : Stmt := topS 16
theorem scCheckSize : FnScope ["size"] ["size"] (defScope sCheckSize) := ⟨rfl, rfl, rfl, by decide +kernel, rfl, by decide +kernel, by decide +kernel⟩
abbrev sCheckSpan : Stmt := topS 17
theorem scCheckSpan : FnScope ["size", "begin", "end"] ["size", "begin", "end"] (defScope sCheckSpan) := ⟨rfl, rfl, rfl, by decide +kernel, rfl, by decide +kernel, by decide +kernel⟩
abbrev sCheckSpans : Stmt := topS 18
theorem scCheckSpans : FnScope ["size", "spans", "behind", "item", "span"] ["size", "spans"] (defScope sCheckSpans) := ⟨rfl, rfl, rfl, by decide +kernel, rfl, by decide +kernel, by decide +kernel⟩
abbrev sCheckNodes : Stmt := topS 19
theorem scCheckNodes : FnScope ["size", "nodes", "least", "most", "item", "node"] ["size", "nodes", "least", "most"] (defScope sCheckNodes) := ⟨rfl, rfl, rfl, by decide +kernel, rfl, by decide +kernel, by decide +kernel⟩
abbrev sPowerWithin : Stmt := topS 21
theorem scPowerWithin : FnScope ["number"] ["number"] (defScope sPowerWithin) := ⟨rfl, rfl, rfl, by decide +kernel, rfl, by decide +kernel, by decide +kernel⟩
abbrev sFirstFull : Stmt := topS 22
theorem scFirstFull : FnScope ["begin", "end", "room"] ["begin", "end"] (defScope sFirstFull) := ⟨rfl, rfl, rfl, by decide +kernel, rfl, by decide +kernel, by decide +kernel⟩
abbrev sNodesWithin : Stmt := topS 23
theorem scNodesWithin : FnScope ["size", "begin", "end", "found", "node"] ["size", "begin", "end"] (defScope sNodesWithin) := ⟨rfl, rfl, rfl, by decide +kernel, rfl, by decide +kernel, by decide +kernel⟩
abbrev sNodesBeside : Stmt := topS 24
theorem scNodesBeside : FnScope ["size", "stretches", "found", "behind", "begin", "end"] ["size", "stretches"] (defScope sNodesBeside) := ⟨rfl, rfl, rfl, by decide +kernel, rfl, by decide +kernel, by decide +kernel⟩
abbrev sJoined : Stmt := topS 26
theorem scJoined : FnScope ["stretches", "found", "begin", "end", "first", "last"] ["stretches"] (defScope sJoined) := ⟨rfl, rfl, rfl, by decide +kernel, rfl, by decide +kernel, by decide +kernel⟩
abbrev sCheck : Stmt := topS 27
theorem scCheck : FnScope ["size", "nodes"] ["size", "nodes"] (defScope sCheck) := ⟨rfl, rfl, rfl, by decide +kernel, rfl, by decide +kernel, by decide +kernel⟩
abbrev sGivesRoot : Stmt := topS 28
theorem scGivesRoot : FnScope ["size", "nodes"] ["size", "nodes"] (defScope sGivesRoot) := ⟨rfl, rfl, rfl, by decide +kernel, rfl, by decide +kernel, by decide +kernel⟩
abbrev sKnownTops : Stmt := topS 29
theorem scKnownTops : FnScope ["size", "nodes", "begin", "end", "top"] ["size", "nodes"] (defScope sKnownTops) := ⟨rfl, rfl, rfl, by decide +kernel, rfl, by decide +kernel, by decide +kernel⟩
abbrev sMissing : Stmt := topS 30
theorem scMissing : FnScope ["size", "nodes"] ["size", "nodes"] (defScope sMissing) := ⟨rfl, rfl, rfl, by decide +kernel, rfl, by decide +kernel, by decide +kernel⟩
abbrev sCompact : Stmt := topS 34
theorem scCompact : FnScope ["begin", "end"] ["begin", "end"] (defScope sCompact) := ⟨rfl, rfl, rfl, by decide +kernel, rfl, by decide +kernel, by decide +kernel⟩
abbrev sCompactCount : Stmt := topS 35
theorem scCompactCount : FnScope ["begin", "end"] ["begin", "end"] (defScope sCompactCount) := ⟨rfl, rfl, rfl, by decide +kernel, rfl, by decide +kernel, by decide +kernel⟩
abbrev sCheckBounds : Stmt := topS 36
theorem scCheckBounds : FnScope ["bounds", "least", "item", "bound"] ["bounds"] (defScope sCheckBounds) := ⟨rfl, rfl, rfl, by decide +kernel, rfl, by decide +kernel, by decide +kernel⟩
abbrev sJoinSums : Stmt := topS 37
theorem scJoinSums : FnScope ["bounds", "apart", "begin", "end"] ["bounds"] (defScope sJoinSums) := ⟨rfl, rfl, rfl, by decide +kernel, rfl, by decide +kernel, by decide +kernel⟩
abbrev sNeeded : Stmt := topS 39
theorem scNeeded : FnScope ["size", "spans"] ["size", "spans"] (defScope sNeeded) := ⟨rfl, rfl, rfl, by decide +kernel, rfl, by decide +kernel, by decide +kernel⟩
abbrev sLawBag : Stmt := topS 41
theorem scLawBag : FnScope ["cell"] ["cell"] (defScope sLawBag) := ⟨rfl, rfl, rfl, by decide +kernel, rfl, by decide +kernel, by decide +kernel⟩
abbrev sLawPick : Stmt := topS 42
theorem scLawPick : FnScope ["bag", "many", "told", "seed", "turn", "first", "second", "drawn"] ["bag", "many"] (defScope sLawPick) := ⟨rfl, rfl, rfl, by decide +kernel, rfl, by decide +kernel, by decide +kernel⟩
abbrev sLawSize : Stmt := topS 43
theorem scLawSize : FnScope ["bag", "most", "way", "powers", "turn"] ["bag", "most"] (defScope sLawSize) := ⟨rfl, rfl, rfl, by decide +kernel, rfl, by decide +kernel, by decide +kernel⟩
abbrev sLawBounds : Stmt := topS 44
theorem scLawBounds : FnScope ["bag", "low", "high", "found", "turn"] ["bag", "low", "high"] (defScope sLawBounds) := ⟨rfl, rfl, rfl, by decide +kernel, rfl, by decide +kernel, by decide +kernel⟩
abbrev sLawRight : Stmt := topS 45
theorem scLawRight : FnScope ["bag", "size", "low", "high", "bounds", "nodes", "first", "end", "tops", "whole", "due", "rest"] ["bag", "size"] (defScope sLawRight) := ⟨rfl, rfl, rfl, by decide +kernel, rfl, by decide +kernel, by decide +kernel⟩
abbrev sLaw : Stmt := topS 46
theorem scLaw : FnScope ["script", "cell", "bag", "most"] ["script"] (defScope sLaw) := ⟨rfl, rfl, rfl, by decide +kernel, rfl, by decide +kernel, by decide +kernel⟩
/-- a def as it stands behind the top -/
structure At (K : PySem.W.Frag) (mg : Str → Option Value) (x : Str) (f : Addr) (fd : FuncData) (ps : List Str) : Prop where
  m : mg x = some (.ref f)
  kp : PySem.W.keepIn K (.ref f) = true
  b : Binds K fd ps []
theorem units1 {k : Nat} {A : Around} (r : Room k A) : A.units + 65 < cLine := by have := r.un; omega
/-- all but b as it was -/
def But (b : Addr) (H H' : Hp) : Prop := ∀ a o, a ≠ b → H a = some o → H' a = some o
theorem But.refl (b : Addr) (H : Hp) : But b H H := fun _ _ _ h => h
theorem But.trans {b : Addr} {H H1 H2 : Hp} (x : But b H H1) (y : But b H1 H2) : But b H H2 := fun a o n h => y a o n (x a o n h)
theorem But.of {b : Addr} {H H1 : Hp} (x : Same H H1) : But b H H1 := fun a o _ h => x a o h
theorem same_upd {H : Hp} {p : Addr} {o : HO} (h : H p = none) : Same H (upd H p o) := fun b x e => by
  rw [upd_ne (ne_of_none e h)]
  exact e
def BagAt (H : Hp) (b : Addr) : Prop := ∃ x y z : Int, H b = some (.lst [.int x, .int y, .int z])
theorem BagAt.same {H H' : Hp} {b : Addr} (h : BagAt H b) (s : Same H H') : BagAt H' b := by
  obtain ⟨x, y, z, e⟩ := h
  exact ⟨x, y, z, s _ _ e⟩
/-- a pair of ints -/
def Nd (H : Hp) (v : V) (x : Nat × Nat) : Prop := ∃ p, v = .ref p ∧ H p = some (.tup [.int x.1, .int x.2])
theorem Nd.same {H H' : Hp} {v : V} {x : Nat × Nat} (h : Nd H v x) (s : Same H H') : Nd H' v x := by
  obtain ⟨p, e, q⟩ := h
  exact ⟨p, e, s _ _ q⟩
theorem Nd.dp {K : PySem.W.Frag} {H : Hp} {v : V} {x : Nat × Nat} (h : Nd H v x) : Dp K H v (.tuple [.int x.1, .int x.2]) := by
  obtain ⟨p, rfl, q⟩ := h
  exact .tup (SqT.of q) (.cons (.int _) (.cons (.int _) .nil))
theorem nd_shaped (a b : Int) : SeqAt.shaped (.tuple [.int a, .int b]) = true := by
  show (PyData.canLay0 _ && decide (PyData.depth _ ≤ 64)) = true
  simp [PyData.canLay0, PyData.canLayAll0, PyData.depth, PyData.depthAll]
theorem nd_eqv (a b c d : Int) : PyData.eqv (.tuple [.int a, .int b]) (.tuple [.int c, .int d]) = (decide (a = c) && decide (b = d)) := by
  have e : PyData.eqv (.tuple [.int a, .int b]) (.tuple [.int c, .int d]) = ((a == c) && ((b == d) && true)) := by simp only [PyData.eqv, PyData.eqvAll]
  rw [e, Bool.and_true]
  by_cases h1 : a = c <;> by_cases h2 : b = d <;> simp [h1, h2]
/-- lists of values and what they stand for -/
inductive All2 {α : Type} (R : V → α → Prop) : List V → List α → Prop
  | nil : All2 R [] []
  | cons {v : V} {x : α} {vs : List V} {xs : List α} : R v x → All2 R vs xs → All2 R (v :: vs) (x :: xs)
section
variable {α : Type} {R R' : V → α → Prop}
theorem All2.mono (f : ∀ v x, R v x → R' v x) : ∀ {vs : List V} {xs : List α}, All2 R vs xs → All2 R' vs xs
  | _, _, .nil => .nil
  | _, _, .cons h t => .cons (f _ _ h) (All2.mono f t)
theorem All2.len : ∀ {vs : List V} {xs : List α}, All2 R vs xs → vs.length = xs.length
  | _, _, .nil => rfl
  | _, _, .cons _ t => by rw [List.length_cons, List.length_cons, All2.len t]
theorem All2.app : ∀ {vs : List V} {xs : List α} {us : List V} {ys : List α}, All2 R vs xs → All2 R us ys → All2 R (vs ++ us) (xs ++ ys)
  | _, _, _, _, .nil, h => h
  | _, _, _, _, .cons h t, k => .cons h (All2.app t k)
theorem All2.rev : ∀ {vs : List V} {xs : List α}, All2 R vs xs → All2 R vs.reverse xs.reverse
  | _, _, .nil => .nil
  | _, _, .cons h t => by
    rw [List.reverse_cons, List.reverse_cons]
    exact All2.app (All2.rev t) (.cons h .nil)
theorem All2.nth : ∀ {vs : List V} {xs : List α} {i : Nat} {v : V}, All2 R vs xs → vs[i]? = some v → ∃ x, xs[i]? = some x ∧ R v x
  | _, _, _, _, .nil, h => by simp at h
  | _, _, 0, _, .cons h t, e => by
    have := Option.some.inj e
    subst this
    exact ⟨_, rfl, h⟩
  | _, _, i + 1, _, .cons h t, e => by
    rw [List.getElem?_cons_succ] at e ⊢
    exact All2.nth t e
theorem All2.nth2 : ∀ {vs : List V} {xs : List α} {i : Nat} {x : α}, All2 R vs xs → xs[i]? = some x → ∃ v, vs[i]? = some v ∧ R v x
  | _, _, _, _, .nil, h => by simp at h
  | _, _, 0, _, .cons h t, e => by
    have := Option.some.inj e
    subst this
    exact ⟨_, rfl, h⟩
  | _, _, i + 1, _, .cons h t, e => by
    rw [List.getElem?_cons_succ] at e ⊢
    exact All2.nth2 t e
end

/-! ### rules within a comprehension: what they say of the written part is said of the def's -/
section
open PySem L2
variable {X : Cx} {s : Shared} {H : Hp} {sc : Scope} {ce : Env} {fp : List Addr}
theorem pg_tupB {es : List Expr} {k : Nat} {pos : Pos} {t : TGs} {n : Nat} (hc : X.calm = true) (h : PGs (X.blk s H sc ce fp) es t)
    (hn : (assignEach es (X.blk s H sc ce fp).env).length = n := by rfl) (hst : (assignEach es (X.blk s H sc ce fp).env).findIdx? (·.1) = none := by rfl) : PG (X.blk s H sc ce fp) (.Tuple es k pos) (gTup X.K n t) := pg_tup hc h hn hst
theorem ix_listB : IxR (X.blk s H sc ce fp) (rIxL X.K) := ix_list
theorem ix_tupB : IxR (X.blk s H sc ce fp) (rIxT X.K) := ix_tup
theorem call_len_seqB : CallR (X.blk s H sc ce fp) (.builtin "len") (fun xs H Q => ∃ p ys, xs = [.ref p] ∧ (SqL X.K H p ys ∨ SqT X.K H p ys) ∧ Q (.int ys.length) H) := call_len_seq
theorem op_eqDB (hu : X.A.units + 64 < cLine) : OpR (X.blk s H sc ce fp) (compareOp .Eq) (rEqD X.K) := op_eqD (X := X.blk s H sc ce fp) hu
theorem op_neDB (hu : X.A.units + 64 < cLine) : OpR (X.blk s H sc ce fp) (compareOp .NotEq) (rNeD X.K) := op_neD (X := X.blk s H sc ce fp) hu
theorem op_inDB (hu : X.A.units + 65 < cLine) : OpR (X.blk s H sc ce fp) (compareOp .In) (rInD X.K) := op_inD (X := X.blk s H sc ce fp) hu
theorem op_notInDB (hu : X.A.units + 65 < cLine) : OpR (X.blk s H sc ce fp) (compareOp .NotIn) (rNotInD X.K) := op_notInD (X := X.blk s H sc ce fp) hu
end
theorem Nd.upd {H : Hp} {v : V} {x : Nat × Nat} {s : Addr} {xs : List V} {o : HO} (h : Nd H v x) (hs : H s = some (.lst xs)) : Nd (upd H s o) v x := by
  obtain ⟨p, e, q⟩ := h
  exact ⟨p, e, by rw [upd_ne (ne_of q hs (by intro z; cases z))]; exact q⟩
def full (x : Nat × Nat) : Nat × Nat := (x.1, x.1 + 2 ^ x.2)
theorem pk_len : ∀ (i n b : Nat), (pk i n b).length ≤ i
  | 0, _, _ => Nat.le_refl _
  | i + 1, n, b => by
    show (if n.testBit i = true then (b, i) :: pk i n (b + 2 ^ i) else pk i n b).length ≤ i + 1
    by_cases t : n.testBit i = true
    · rw [if_pos t, List.length_cons]
      exact Nat.succ_le_succ (pk_len i n _)
    · rw [if_neg t]
      exact Nat.le_succ_of_le (pk_len i n b)
theorem take_more {α : Type} : ∀ {l : List α} {i : Nat} {x : α}, l[i]? = some x → l.take (i + 1) = l.take i ++ [x]
  | [], i, x, h => by simp at h
  | a :: l, 0, x, h => by
    have e : a = x := Option.some.inj h
    subst e
    rfl
  | a :: l, i + 1, x, h => by
    have ih := take_more (l := l) (i := i) (x := x) h
    show a :: l.take (i + 1) = a :: l.take i ++ [x]
    rw [ih]
    rfl
theorem szle {n : Nat} (h : n ≤ 100000) : n ≤ sizeLine := Nat.le_trans h (by decide)
theorem szlt {n : Nat} (h : n < 100000) : n < sizeLine := Nat.lt_of_lt_of_le h (by decide)
end LT

namespace LT
open PySem PySem.Spec PyProof.Rows L2
section
variable {P : Program} {w : World} {K : PySem.W.Frag} {mg : Str → Option Value} {base : Heap}
def spWhole : Sp := fun vs H Q _ => ∃ i : Int, vs = [.int i] ∧ Q (.bl true) H
theorem ok_is_whole {f : Addr} {fd : FuncData} (F : Fun K "is_whole" "is_whole" sIsWhole f fd) (z_isinstance : mg "isinstance" = none) (z_int : mg "int" = none) (z_bool : mg "bool" = none) : FnOk P w K mg base CX0 1 f fd ["value"] spWhole := by
  refine F.ok scIsWhole (fun vs H Q E h => ?_) (fun cdv A outer s H vs Q E hr h => ?_)
  · obtain ⟨i, rfl, _⟩ := h
    rfl
  obtain ⟨i, rfl, q⟩ := h
  refine ⟨_, (pss_one (ps_ret (pe_and (pe_callB call_isi (by rfl) z_isinstance (by decide +kernel) (pa_cons (pv 0) (pa_cons (pe_bltn (v := .ty "int") (u := .type "int") (by rfl) z_int (by decide +kernel) rfl) pa_nil))) (pe_one (pe_not (pe_callB call_isi (by rfl) z_isinstance (by decide +kernel) (pa_cons (pv 0) (pa_cons (pe_bltn (v := .ty "bool") (u := .type "bool") (by rfl) z_bool (by decide +kernel) rfl) pa_nil)))))))), ?_⟩
  refine ⟨_, rfl, _, _, _, _, true, rfl, .ty "int", .base (.int i), kit_ty (by decide +kernel), true, rfl, ?_⟩
  refine ⟨_, rfl, _, _, _, _, false, rfl, .ty "bool", .base (.int i), kit_ty (by decide +kernel), false, rfl, ?_⟩
  exact q
def spBetween : Sp := fun vs H Q _ => ∃ v lo hi : Int, vs = [.int v, .int lo, .int hi] ∧ Q (.bl (decide (lo ≤ v) && decide (v ≤ hi))) H
theorem ok_is_between {f g : Addr} {fd gd : FuncData} (F : Fun K "is_between" "is_between" sIsBetween f fd) (GIsWhole : FnOk P w K mg base CX0 1 g gd ["value"] spWhole) (AIsWhole : At K mg "is_whole" g gd ["value"]) : FnOk P w K mg base CX0 2 f fd ["value", "low", "high"] spBetween := by
  refine F.ok scIsBetween (fun vs H Q E h => ?_) (fun cdv A outer s H vs Q E hr h => ?_)
  · obtain ⟨i, _, _, rfl, _⟩ := h
    rfl
  obtain ⟨v, lo, hi, rfl, q⟩ := h
  refine ⟨_, (pss_one (ps_ret (pe_and (pe_call GIsWhole (hr.mono (by decide)) rfl AIsWhole.m AIsWhole.kp AIsWhole.b .nil pass0 (pa_cons (pv 0) pa_nil)) (pe_one (pe_chain op_le op_le (pv 1) (pv 0) (pv 2)))))), ?_⟩
  refine ⟨_, rfl, v, rfl, true, rfl, ?_⟩
  refine ⟨_, rfl, _, rfl, _, _, rfl, rfl, _, rfl, ?_⟩
  by_cases h1 : lo ≤ v
  · rw [decide_eq_true h1] at q ⊢
    exact ⟨_, rfl, _, _, rfl, rfl, q⟩
  · rw [decide_eq_false h1] at q ⊢
    exact q
def spCheckSize : Sp := fun vs H Q _ => ∃ n : Int, vs = [.int n] ∧ 1 ≤ n ∧ n ≤ 10 ^ 30 ∧ Q .non H
theorem ok_check_size {f g : Addr} {fd gd : FuncData} {t : Tok} (F : Fun K "check_size" "check_size" sCheckSize f fd) (GIsBetween : FnOk P w K mg base CX0 2 g gd ["value", "low", "high"] spBetween) (AIsBetween : At K mg "is_between" g gd ["value", "low", "high"]) (g_MOST_ENTRIES : mg "MOST_ENTRIES" = some (.int 1000000000000000000000000000000 t)) : FnOk P w K mg base CX0 3 f fd ["size"] spCheckSize := by
  refine F.ok scCheckSize (fun vs H Q E h => ?_) (fun cdv A outer s H vs Q E hr h => ?_)
  · obtain ⟨i, rfl, _⟩ := h
    rfl
  obtain ⟨n, rfl, h1, h2, q⟩ := h
  refine ⟨_, (pss_one (ps_if (pt_not (pt_val (pe_call GIsBetween (hr.mono (by decide)) rfl AIsBetween.m AIsBetween.kp AIsBetween.b .nil pass0 (pa_cons (pv 0) (pa_cons pe_int (pa_cons (pe_glob (v := .int 1000000000000000000000000000000) rfl g_MOST_ENTRIES ⟨_, rfl⟩) pa_nil))))))
    (pss_one ps_never)
    pss_nil)), ?_⟩
  refine ⟨_, rfl, n, 1, 1000000000000000000000000000000, rfl, _, rfl, ?_⟩
  rw [decide_eq_true h1, decide_eq_true (show n ≤ 1000000000000000000000000000000 from h2)]
  exact q
end
end LT

namespace LT
open PySem PySem.Spec PyProof.Rows L2
/-- values of the plain kinds, with their types -/
inductive Pl (K : PySem.W.Frag) (H : Hp) : V → String → Prop
  | non : Pl K H .non "NoneType"
  | bl (b : Bool) : Pl K H (.bl b) "bool"
  | int (i : Int) : Pl K H (.int i) "int"
  | str (s : Str) : Pl K H (.str s) "str"
  | lst {a : Addr} {xs : List V} : H a = some (.lst xs) → Pl K H (.ref a) "list"
  | tup {a : Addr} {xs : List V} : H a = some (.tup xs) → Pl K H (.ref a) "tuple"
  | dict {a : Addr} {kvs : List (Key × V)} : H a = some (.dK kvs) → Pl K H (.ref a) "dict"
theorem Pl.ty {K : PySem.W.Frag} {H : Hp} {v : V} {t : String} (h : Pl K H v t) : TyX K H v (.type t) := by
  cases h with
  | non => exact .base .non
  | bl b => exact .base (.bl b)
  | int i => exact .base (.int i)
  | str s => exact .base (.str s)
  | lst e => exact .base (.lst e)
  | tup e => exact .base (.tup e)
  | dict e => exact .base (.dK e)
def isInt : V → Bool
  | .int _ => true
  | _ => false
def inRange (lo hi : Int) : V → Bool
  | .int i => decide (lo ≤ i) && decide (i ≤ hi)
  | _ => false
section
variable {P : Program} {w : World} {K : PySem.W.Frag} {mg : Str → Option Value} {base : Heap}
def spWholeV (K : PySem.W.Frag) : Sp := fun vs H Q _ => ∃ (v : V) (t : String), vs = [v] ∧ Pl K H v t ∧ Q (.bl (isInt v)) H
theorem ok_is_wholeV {f : Addr} {fd : FuncData} (F : Fun K "is_whole" "is_whole" sIsWhole f fd) (z_isinstance : mg "isinstance" = none) (z_int : mg "int" = none) (z_bool : mg "bool" = none) : FnOk P w K mg base CX0 1 f fd ["value"] (spWholeV K) := by
  refine F.ok scIsWhole (fun vs H Q E h => ?_) (fun cdv A outer s H vs Q E hr h => ?_)
  · obtain ⟨_, _, rfl, _⟩ := h
    rfl
  obtain ⟨v, t, rfl, hv, q⟩ := h
  refine ⟨_, (pss_one (ps_ret (pe_and (pe_callB call_isi (by rfl) z_isinstance (by decide +kernel) (pa_cons (pv 0) (pa_cons (pe_bltn (v := .ty "int") (u := .type "int") (by rfl) z_int (by decide +kernel) rfl) pa_nil))) (pe_one (pe_not (pe_callB call_isi (by rfl) z_isinstance (by decide +kernel) (pa_cons (pv 0) (pa_cons (pe_bltn (v := .ty "bool") (u := .type "bool") (by rfl) z_bool (by decide +kernel) rfl) pa_nil)))))))), ?_⟩
  cases hv with
  | non => exact ⟨_, rfl, _, _, _, _, false, rfl, .ty "int", (Pl.non (K := K) (H := H)).ty, kit_ty (by decide +kernel), false, rfl, q⟩
  | bl b => exact ⟨_, rfl, _, _, _, _, true, rfl, .ty "int", (Pl.bl (K := K) (H := H) b).ty, kit_ty (by decide +kernel), true, rfl, _, rfl, _, _, _, _, true, rfl, .ty "bool", (Pl.bl (K := K) (H := H) b).ty, kit_ty (by decide +kernel), true, rfl, q⟩
  | int i => exact ⟨_, rfl, _, _, _, _, true, rfl, .ty "int", (Pl.int (K := K) (H := H) i).ty, kit_ty (by decide +kernel), true, rfl, _, rfl, _, _, _, _, false, rfl, .ty "bool", (Pl.int (K := K) (H := H) i).ty, kit_ty (by decide +kernel), false, rfl, q⟩
  | str s => exact ⟨_, rfl, _, _, _, _, false, rfl, .ty "int", (Pl.str (K := K) (H := H) s).ty, kit_ty (by decide +kernel), false, rfl, q⟩
  | lst e => exact ⟨_, rfl, _, _, _, _, false, rfl, .ty "int", (Pl.lst (K := K) e).ty, kit_ty (by decide +kernel), false, rfl, q⟩
  | tup e => exact ⟨_, rfl, _, _, _, _, false, rfl, .ty "int", (Pl.tup (K := K) e).ty, kit_ty (by decide +kernel), false, rfl, q⟩
  | dict e => exact ⟨_, rfl, _, _, _, _, false, rfl, .ty "int", (Pl.dict (K := K) e).ty, kit_ty (by decide +kernel), false, rfl, q⟩
def spBetweenV (K : PySem.W.Frag) : Sp := fun vs H Q _ => ∃ (v : V) (t : String) (lo hi : Int), vs = [v, .int lo, .int hi] ∧ Pl K H v t ∧ Q (.bl (inRange lo hi v)) H
theorem ok_is_betweenV {f g : Addr} {fd gd : FuncData} (F : Fun K "is_between" "is_between" sIsBetween f fd) (GIsWhole : FnOk P w K mg base CX0 1 g gd ["value"] (spWholeV K)) (AIsWhole : At K mg "is_whole" g gd ["value"]) : FnOk P w K mg base CX0 2 f fd ["value", "low", "high"] (spBetweenV K) := by
  refine F.ok scIsBetween (fun vs H Q E h => ?_) (fun cdv A outer s H vs Q E hr h => ?_)
  · obtain ⟨_, _, _, _, rfl, _⟩ := h
    rfl
  obtain ⟨v, t, lo, hi, rfl, hv, q⟩ := h
  refine ⟨_, (pss_one (ps_ret (pe_and (pe_call GIsWhole (hr.mono (by decide)) rfl AIsWhole.m AIsWhole.kp AIsWhole.b .nil pass0 (pa_cons (pv 0) pa_nil)) (pe_one (pe_chain op_le op_le (pv 1) (pv 0) (pv 2)))))), ?_⟩
  refine ⟨_, rfl, v, t, rfl, hv, isInt v, rfl, ?_⟩
  cases v with
  | int i =>
    have q' : Q (.bl (decide (lo ≤ i) && decide (i ≤ hi))) H := q
    refine ⟨_, rfl, _, rfl, _, _, rfl, rfl, _, rfl, ?_⟩
    by_cases h1 : lo ≤ i
    · rw [decide_eq_true h1] at q' ⊢
      exact ⟨_, rfl, _, _, rfl, rfl, q'⟩
    · rw [decide_eq_false h1] at q' ⊢
      exact q'
  | non => exact q
  | bl _ => exact q
  | str _ => exact q
  | byt _ => exact q
  | flt _ => exact q
  | ref _ => exact q
  | ty _ => exact q
theorem whole_of {k : Nat} {f : Addr} {fd : FuncData} (F : FnOk P w K mg base CX0 k f fd ["value"] (spWholeV K)) : FnOk P w K mg base CX0 k f fd ["value"] spWhole :=
  F.imp fun vs H Q E h => by
    obtain ⟨i, rfl, q⟩ := h
    exact ⟨_, _, rfl, .int i, q⟩
theorem between_of {k : Nat} {f : Addr} {fd : FuncData} (F : FnOk P w K mg base CX0 k f fd ["value", "low", "high"] (spBetweenV K)) : FnOk P w K mg base CX0 k f fd ["value", "low", "high"] spBetween :=
  F.imp fun vs H Q E h => by
    obtain ⟨v, lo, hi, rfl, q⟩ := h
    exact ⟨_, _, _, _, rfl, .int v, q⟩
end
end LT

namespace LT
open PySem PySem.Spec PyProof.Rows L2
theorem bits_nat (k : Nat) : Builtin.Int.intBits (k : Int) = if k = 0 then 0 else k.log2 + 1 := by
  unfold Builtin.Int.intBits
  by_cases h : k = 0
  · subst h; rfl
  · rw [if_neg h, if_neg (by simpa using h)]
    rfl
theorem bits_lb {m : Nat} (h : 1 ≤ m) : Builtin.Int.intBits ((m - 1 : Nat) : Int) = lb m := by
  rw [bits_nat]
  unfold lb
  by_cases k : m ≤ 1
  · rw [if_pos k, if_pos (by omega)]
  · rw [if_neg k, if_neg (by omega)]
theorem lb100 {m : Nat} (h : m ≤ 10 ^ 30) : lb m ≤ 100 := lb_le (Nat.le_trans h (by decide))
theorem fmod_of_dvd {a b : Nat} (h : a ∣ b) : Int.fmod (b : Int) (a : Int) = 0 := by
  rw [Int.fmod_eq_emod_of_nonneg _ (Int.natCast_nonneg _)]
  exact Int.emod_eq_zero_of_dvd (Int.natCast_dvd_natCast.mpr h)
end LT

namespace LT
open PySem PySem.Spec PyProof.Rows L2
section
variable {P : Program} {w : World} {K : PySem.W.Frag} {mg : Str → Option Value} {base : Heap}
def spPower : Sp := fun vs H Q _ => ∃ (k : Nat), vs = [.int k] ∧ 1 ≤ k ∧ k ≤ 10 ^ 30 ∧ Q (.int ((2 ^ k.log2 : Nat) : Int)) H
theorem ok_power_within {f : Addr} {fd : FuncData} (F : Fun K "power_within" "power_within" sPowerWithin f fd) : FnOk P w K mg base CX0 1 f fd ["number"] spPower := by
  refine F.ok scPowerWithin (fun vs H Q E h => ?_) (fun cdv A outer s H vs Q E hr h => ?_)
  · obtain ⟨_, rfl, _⟩ := h
    rfl
  obtain ⟨k, rfl, h1, h30, q⟩ := h
  refine ⟨_, (pss_one (ps_ret (pe_op op_shl pe_int (pe_op op_sub (pe_bits (pv 0)) pe_int)))), ?_⟩
  refine ⟨_, rfl, _, rfl, _, _, rfl, rfl, ?_⟩
  dsimp only
  have e : ((Builtin.Int.intBits (k : Int) : Nat) : Int) - 1 = ((k.log2 : Nat) : Int) := by
    rw [bits_nat, if_neg (by omega)]
    omega
  rw [e]
  have l100 : k.log2 < 100 := (Nat.log2_lt (by omega)).mpr (Nat.lt_of_le_of_lt h30 (by decide))
  refine ⟨_, _, rfl, rfl, ⟨Int.natCast_nonneg _, by omega, by decide⟩, ?_⟩
  have e2 : (1 : Int) * 2 ^ ((k.log2 : Nat) : Int).toNat = ((2 ^ k.log2 : Nat) : Int) := by rw [Int.one_mul, Int.toNat_natCast]; exact (Int.natCast_pow 2 _).symm
  show Q (.int ((1 : Int) * 2 ^ ((k.log2 : Nat) : Int).toNat)) H
  rw [e2]
  exact q
end
end LT

namespace LT
/-- the nodes from (b, b + m) down, as the law lists them -/
def nodesF : Nat → Nat → Nat → List (Nat × Nat)
  | 0, _, _ => []
  | i + 1, b, m => if m ≤ 1 then [(b, b + m)] else (b, b + m) :: (nodesF i b (gp m) ++ nodesF i (b + gp m) (m - gp m))
theorem nodesF_one {i b m : Nat} (h : m ≤ 1) : nodesF (i + 1) b m = [(b, b + m)] := if_pos h
theorem nodesF_two {i b m : Nat} (h : ¬ m ≤ 1) : nodesF (i + 1) b m = (b, b + m) :: (nodesF i b (gp m) ++ nodesF i (b + gp m) (m - gp m)) := if_neg h
theorem gp_half {i m : Nat} (h : 2 ≤ m) (k : 2 * m ≤ 2 ^ (i + 1)) : 2 * gp m ≤ 2 ^ i ∧ 2 * (m - gp m) ≤ 2 ^ i := by
  have g1 := gp_lt h
  have g2 := gp_ge h
  have p := Nat.pow_succ (n := 2) (m := i)
  have : gp m < 2 ^ i := by omega
  unfold gp at this ⊢
  have e := (Nat.pow_lt_pow_iff_right (by decide : 1 < 2)).mp this
  have e2 : 2 ^ ((m - 1).log2 + 1) ≤ 2 ^ i := Nat.pow_le_pow_right (by decide) (by omega)
  rw [Nat.pow_succ] at e2
  unfold gp at g1 g2
  omega
theorem nodesF_len : ∀ (i b m : Nat), 1 ≤ m → 2 * m ≤ 2 ^ i → (nodesF i b m).length = 2 * m - 1
  | 0, b, m, h1, h2 => by simp at h2; omega
  | i + 1, b, m, h1, h2 => by
    by_cases c : m ≤ 1
    · rw [nodesF_one c]
      simp
      omega
    · rw [nodesF_two c, List.length_cons, List.length_append]
      have g1 := gp_lt (m := m) (by omega)
      have g3 := gp_pos m
      obtain ⟨k1, k2⟩ := gp_half (by omega) h2
      rw [nodesF_len i b (gp m) g3 k1, nodesF_len i (b + gp m) (m - gp m) (by omega) k2]
      omega
/-- a node of tree(n) -/
def isN (n : Nat) (x : Nat × Nat) : Prop := x.1 < x.2 ∧ x.2 ≤ n ∧ tree n x.1 (x.2 - x.1)
theorem mul_le_of_lt {R a b : Nat} (h1 : R ∣ a) (h2 : R ∣ b) (h : a < b) : a + R ≤ b := by
  obtain ⟨x, rfl⟩ := h1
  obtain ⟨y, rfl⟩ := h2
  have : x < y := Nat.lt_of_mul_lt_mul_left h
  calc R * x + R = R * (x + 1) := by rw [Nat.mul_succ]
    _ ≤ R * y := Nat.mul_le_mul_left R this
/-- a node within another one is it, or lies within one of its halves -/
theorem node_in {n b m : Nat} (h : 2 ≤ m) (t : tree n b m) (hn : b + m ≤ n) {x : Nat × Nat} (hx : isN n x) (h1 : b ≤ x.1) (h2 : x.2 ≤ b + m) : x = (b, b + m) ∨ x.2 ≤ b + gp m ∨ b + gp m ≤ x.1 := by
  obtain ⟨x1, x2⟩ := x
  obtain ⟨k1, k2, d, k3⟩ := hx
  simp only at k1 k2 d k3 h1 h2
  by_cases c1 : x2 ≤ b + gp m
  · exact .inr (.inl c1)
  by_cases c2 : b + gp m ≤ x1
  · exact .inr (.inr c2)
  left
  obtain ⟨td, tk⟩ := t
  have e := lb_gp h
  rw [e] at td tk
  have g1 := gp_lt h
  have g2 := gp_ge h
  have gR : gp m = 2 ^ Nat.log2 (m - 1) := rfl
  generalize hr : lb (x2 - x1) = r at d k3
  have ge := lb_ge (x2 - x1)
  rw [hr] at ge
  by_cases c : r ≤ Nat.log2 (m - 1)
  · -- small: a multiple of 2 ^ r below b + gp m ends there at most
    have dg : 2 ^ r ∣ gp m := by rw [gR]; exact Nat.pow_dvd_pow 2 c
    have db : 2 ^ r ∣ b := Nat.dvd_trans dg (Nat.dvd_trans (Nat.dvd_mul_left _ _) td)
    have := mul_le_of_lt d (Nat.dvd_add db dg) (by omega : x1 < b + gp m)
    omega
  · have dd : 2 * gp m ∣ 2 ^ r := by
      rw [gR, Nat.mul_comm, ← Nat.pow_succ]
      exact Nat.pow_dvd_pow 2 (by omega)
    have dx := Nat.dvd_trans dd d
    have ex : x1 = b := by
      by_cases z : b < x1
      · have := mul_le_of_lt td dx z
        omega
      · omega
    subst ex
    have le : 2 * gp m ≤ 2 ^ r := Nat.le_of_dvd (Nat.pow_pos (by decide)) dd
    have rl : r ≤ Nat.log2 (m - 1) + 1 := by
      rw [← hr]
      refine lb_le ?_
      rw [Nat.pow_succ, ← gR]
      omega
    have e2 : 2 ^ r ≤ 2 * gp m := by
      rw [gR, Nat.mul_comm, ← Nat.pow_succ]
      exact Nat.pow_le_pow_right (by decide) rl
    have : x2 = x1 + m := by
      rcases k3 with k3 | k3 <;> omega
    rw [this]
theorem mem_nodesF (n : Nat) (x : Nat × Nat) : ∀ (i b m : Nat), 1 ≤ m → 2 * m ≤ 2 ^ i → tree n b m → b + m ≤ n → (x ∈ nodesF i b m ↔ isN n x ∧ b ≤ x.1 ∧ x.2 ≤ b + m)
  | 0, b, m, h1, h2, _, _ => by simp at h2; omega
  | i + 1, b, m, h1, h2, t, hn => by
    by_cases c : m ≤ 1
    · have em : m = 1 := by omega
      subst em
      rw [nodesF_one (by omega), List.mem_singleton]
      constructor
      · rintro rfl
        exact ⟨⟨by simp, by simpa using hn, by simpa using t⟩, by simp, by simp⟩
      · rintro ⟨⟨k1, _⟩, k2, k3⟩
        have : x.1 = b ∧ x.2 = b + 1 := by omega
        exact Prod.ext this.1 this.2
    · rw [nodesF_two c, List.mem_cons, List.mem_append]
      have g1 := gp_lt (m := m) (by omega)
      have g3 := gp_pos m
      obtain ⟨k1, k2⟩ := gp_half (by omega) h2
      have e : b + gp m + (m - gp m) = b + m := by omega
      have il := mem_nodesF n x i b (gp m) g3 k1 (tree_low (by omega) t) (by omega)
      have ih := mem_nodesF n x i (b + gp m) (m - gp m) (by omega) k2 (tree_high (by omega) t) (by omega)
      rw [il, ih, e]
      constructor
      · rintro (rfl | ⟨p, q, r⟩ | ⟨p, q, r⟩)
        · exact ⟨⟨by simp; omega, by simpa using hn, by simpa using t⟩, by simp, by simp⟩
        · exact ⟨p, q, by omega⟩
        · exact ⟨p, by omega, r⟩
      · rintro ⟨p, q, r⟩
        rcases node_in (by omega) t hn p q r with z | z | z
        · exact .inl z
        · exact .inr (.inl ⟨p, q, z⟩)
        · exact .inr (.inr ⟨p, z, r⟩)
instance (n : Nat) (x : Nat × Nat) : Decidable (tree n x.1 (x.2 - x.1)) := by unfold tree; infer_instance
instance (n : Nat) (x : Nat × Nat) : Decidable (isN n x) := by unfold isN; infer_instance
end LT

namespace LT
open PySem PySem.Spec PyProof.Rows L2
def tnV (n : Nat) : V → V → Bool
  | .int b, .int e => decide (0 ≤ b ∧ isN n (b.toNat, e.toNat))
  | _, _ => false
theorem tn_out {n : Nat} {b e : Int} (h : ¬ (0 ≤ b ∧ b < e ∧ e ≤ n)) : tnV n (.int b) (.int e) = false := by
  refine decide_eq_false (fun ⟨h0, k⟩ => h ⟨h0, ?_, ?_⟩)
  · have := k.1
    simp only at this
    omega
  · have := k.1
    have := k.2.1
    simp only at *
    omega
/-- what may be asked whether it is a node -/
inductive Ask (K : PySem.W.Frag) (H : Hp) (n : Nat) : V → Bool → Prop
  | kind {v : V} {t : String} : Pl K H v t → t ≠ "tuple" → Ask K H n v false
  | long {p : Addr} {xs : List V} : H p = some (.tup xs) → xs.length ≠ 2 → xs.length ≤ 1000 → Ask K H n (.ref p) false
  | pair {p : Addr} {v1 v2 : V} {t1 t2 : String} : H p = some (.tup [v1, v2]) → Pl K H v1 t1 → Pl K H v2 t2 → Ask K H n (.ref p) (tnV n v1 v2)
theorem kit_tup {t : String} {K : PySem.W.Frag} {H : Hp} {v : V} (h : Pl K H v t) (hn : t ≠ "tuple") : PySem.W.kitOne K (.type t) (.type "tuple") = some false := by
  cases h with
  | non => exact kit_ty (by decide +kernel)
  | bl _ => exact kit_ty (by decide +kernel)
  | int _ => exact kit_ty (by decide +kernel)
  | str _ => exact kit_ty (by decide +kernel)
  | lst _ => exact kit_ty (by decide +kernel)
  | tup _ => exact absurd rfl hn
  | dict _ => exact kit_ty (by decide +kernel)
section
variable {P : Program} {w : World} {K : PySem.W.Frag} {mg : Str → Option Value} {base : Heap}
def spTreeV (K : PySem.W.Frag) : Sp := fun vs H Q _ => ∃ (n : Nat) (v : V) (r : Bool), vs = [.int n, v] ∧ 1 ≤ n ∧ n ≤ 2 ^ 100 ∧ Ask K H n v r ∧ Q (.bl r) H
theorem ok_is_tree_nodeV {f g : Addr} {fd gd : FuncData} (F : Fun K "is_tree_node" "is_tree_node" sIsTreeNode f fd) (GIsBetween : FnOk P w K mg base CX0 2 g gd ["value", "low", "high"] (spBetweenV K)) (AIsBetween : At K mg "is_between" g gd ["value", "low", "high"])
    (z_isinstance : mg "isinstance" = none) (z_tuple : mg "tuple" = none) (z_len : mg "len" = none) : FnOk P w K mg base CX0 3 f fd ["size", "value"] (spTreeV K) := by
  refine F.ok scIsTreeNode (fun vs H Q E h => ?_) (fun cdv A outer s H vs Q E hr h => ?_)
  · obtain ⟨_, _, _, rfl, _⟩ := h
    rfl
  obtain ⟨n, v, r, rfl, n1, h30, ask, q⟩ := h
  refine ⟨_, (pss_cons (ps_if (PW.pt (pw_or (pt_not (pt_val (pe_callB call_isi (by rfl) z_isinstance (by decide +kernel) (pa_cons (pv 1) (pa_cons (pe_bltn (v := .ty "tuple") (u := .type "tuple") (by rfl) z_tuple (by decide +kernel) rfl) pa_nil))))) (pw_or1 (pt_cmpR op_ne (pe_callB call_len_seq (by rfl) z_len PySem.boot_len (pa_cons (pv 1) pa_nil)) pe_int (nomark _)))))
    (pss_one (ps_ret pe_bl))
    pss_nil)
    (pss_cons (ps_asg (pv 1) (pg_tup (by rfl) (pgs_cons (pg_name (i := 2) scIsTreeNode.nd rfl (Or.inl rfl)) (pgs_cons (pg_name (i := 3) scIsTreeNode.nd rfl (Or.inl rfl)) pgs_nil))))
    (pss_cons (ps_if (PW.pt (pw_or (pt_not (pt_val (pe_call GIsBetween (hr.mono (by decide)) rfl AIsBetween.m AIsBetween.kp AIsBetween.b .nil pass0 (pa_cons (pv 2) (pa_cons pe_int (pa_cons (pe_op op_sub (pv 0) pe_int) pa_nil)))))) (pw_or1 (pt_not (pt_val (pe_call GIsBetween (hr.mono (by decide)) rfl AIsBetween.m AIsBetween.kp AIsBetween.b .nil pass0 (pa_cons (pv 3) (pa_cons (pe_op op_add (pv 2) pe_int) (pa_cons (pv 0) pa_nil)))))))))
    (pss_one (ps_ret pe_bl))
    pss_nil)
    (pss_cons (ps_set (i := 4) scIsTreeNode.nd rfl (Or.inl rfl) (pe_op op_shl pe_int (pe_bits (pe_op op_sub (pe_op op_sub (pv 3) (pv 2)) pe_int))))
    (pss_one (ps_ret (pe_and (pe_cmpR op_eq (pe_op op_modN (pv 2) (pv 4)) pe_int (nomark _)) (pe_one (pe_or (pe_cmpR op_eq (pe_op op_sub (pv 3) (pv 2)) (pv 4) (nomark _)) (pe_one (pe_cmpR op_eq (pv 3) (pv 0) (nomark _)))))))))))), ?_⟩
  cases ask with
  | @kind _ t hv ht => exact ⟨_, rfl, _, _, _, _, false, rfl, .ty "tuple", hv.ty, kit_tup hv ht, false, rfl, q⟩
  | @long p xs hp hl h1000 =>
    refine ⟨_, rfl, _, _, _, _, true, rfl, .ty "tuple", .base (.tup hp), kit_ty (by decide +kernel), true, rfl, ?_⟩
    refine ⟨_, rfl, p, _, rfl, .inr (SqT.of hp), rfl, true, ?_, q⟩
    refine congrArg V.bl ?_
    rw [Bool.not_eq_true']
    exact decide_eq_false (fun z => hl (by have := V.int.inj z; omega))
  | @pair p v1 v2 ty1 ty2 hp p1 p2 =>
    refine ⟨_, rfl, _, _, _, _, true, rfl, .ty "tuple", .base (.tup hp), kit_ty (by decide +kernel), true, rfl, ?_⟩
    refine ⟨_, rfl, p, _, rfl, .inr (SqT.of hp), rfl, false, rfl, ?_⟩
    refine ⟨_, rfl, p, _, rfl, SqT.of hp, rfl, _, _, rfl, _, _, rfl, rfl, ?_⟩
    refine ⟨_, rfl, _, rfl, _, _, rfl, rfl, v1, ty1, _, _, rfl, p1, inRange 0 ((n : Int) - 1) v1, rfl, ?_⟩
    cases h1 : inRange 0 ((n : Int) - 1) v1 with
    | false =>
      have e : tnV n v1 v2 = false := by
        cases v1 with
        | int b =>
          cases v2 with
          | int e =>
            refine tn_out (fun k => ?_)
            have h1' : (decide (0 ≤ b) && decide (b ≤ (n : Int) - 1)) = false := h1
            rw [decide_eq_true k.1, decide_eq_true (show b ≤ (n : Int) - 1 by omega)] at h1'
            exact absurd h1' (by decide)
          | _ => rfl
        | _ => rfl
      rw [e] at q
      exact q
    | true =>
      cases p1 with
      | int b =>
        have h1' : (decide (0 ≤ b) && decide (b ≤ (n : Int) - 1)) = true := h1
        rw [Bool.and_eq_true] at h1'
        have b0 := of_decide_eq_true h1'.1
        have b1 := of_decide_eq_true h1'.2
        refine ⟨_, rfl, _, rfl, _, _, rfl, rfl, _, rfl, v2, ty2, _, _, rfl, p2, inRange (b + 1) (n : Int) v2, rfl, ?_⟩
        cases h2 : inRange (b + 1) (n : Int) v2 with
        | false =>
          have e : tnV n (.int b) v2 = false := by
            cases v2 with
            | int e =>
              refine tn_out (fun k => ?_)
              have h2' : (decide (b + 1 ≤ e) && decide (e ≤ (n : Int))) = false := h2
              rw [decide_eq_true (show b + 1 ≤ e by omega), decide_eq_true k.2.2] at h2'
              exact absurd h2' (by decide)
            | _ => rfl
          rw [e] at q
          exact q
        | true =>
          cases p2 with
          | int e =>
            have h2' : (decide (b + 1 ≤ e) && decide (e ≤ (n : Int))) = true := h2
            rw [Bool.and_eq_true] at h2'
            have e0 := of_decide_eq_true h2'.1
            have e1 := of_decide_eq_true h2'.2
            obtain ⟨bn, rfl⟩ := Int.eq_ofNat_of_zero_le b0
            obtain ⟨en, rfl⟩ := Int.eq_ofNat_of_zero_le (show 0 ≤ e by omega)
            have hlt : bn < en := by omega
            have ev : tnV n (.int (bn : Int)) (.int (en : Int)) = decide (isN n (bn, en)) := by
              show decide (0 ≤ (bn : Int) ∧ isN n ((bn : Int).toNat, (en : Int).toNat)) = decide (isN n (bn, en))
              rw [Int.toNat_natCast, Int.toNat_natCast]
              by_cases k : isN n (bn, en)
              · rw [decide_eq_true k, decide_eq_true ⟨b0, k⟩]
              · rw [decide_eq_false k, decide_eq_false (fun z => k z.2)]
            rw [ev] at q
            have em : (en : Int) - (bn : Int) - 1 = ((en - bn - 1 : Nat) : Int) := by omega
            refine ⟨_, rfl, _, rfl, _, _, rfl, rfl, _, _, rfl, rfl, _, rfl, ?_⟩
            dsimp only
            rw [em, bits_lb (show 1 ≤ en - bn by omega)]
            have l100 := lb_le (show en - bn ≤ 2 ^ 100 by omega)
            refine ⟨_, _, rfl, rfl, ⟨Int.natCast_nonneg _, by omega, by decide⟩, ?_⟩
            have e2 : (1 : Int) * 2 ^ ((lb (en - bn) : Nat) : Int).toNat = ((2 ^ lb (en - bn) : Nat) : Int) := by rw [Int.one_mul, Int.toNat_natCast]; exact (Int.natCast_pow 2 _).symm
            dsimp only
            rw [e2]
            have pz : 0 < 2 ^ lb (en - bn) := Nat.pow_pos (by decide)
            have isE : isN n (bn, en) ↔ (bn % 2 ^ lb (en - bn) = 0 ∧ (en - bn = 2 ^ lb (en - bn) ∨ en = n)) := by
              unfold isN tree
              simp only
              constructor
              · rintro ⟨_, _, k1, k2⟩
                exact ⟨Nat.mod_eq_zero_of_dvd k1, k2.elim .inl (fun z => .inr (by omega))⟩
              · rintro ⟨k1, k2⟩
                exact ⟨hlt, by omega, Nat.dvd_of_mod_eq_zero k1, k2.elim .inl (fun z => .inr (by omega))⟩
            generalize 2 ^ lb (en - bn) = R at pz isE
            have fm : Int.fmod (bn : Int) (R : Int) = ((bn % R : Nat) : Int) := by
              rw [Int.fmod_eq_emod_of_nonneg _ (Int.natCast_nonneg _)]
              exact (Int.natCast_emod _ _).symm
            refine ⟨_, rfl, _, rfl, _, _, rfl, rfl, by omega, rfl, decide (bn % R = 0), ?_, ?_⟩
            · show V.bl (decide (V.int (Int.fmod (bn : Int) (R : Int)) = V.int 0)) = V.bl (decide (bn % R = 0))
              rw [fm]
              refine congrArg V.bl ?_
              by_cases k : bn % R = 0
              · rw [decide_eq_true k, k]; rfl
              · rw [decide_eq_false k]
                exact decide_eq_false (fun z => k (by have := V.int.inj z; omega))
            by_cases k : bn % R = 0
            · rw [decide_eq_true k]
              refine iteT ?_
              refine ⟨_, rfl, _, rfl, _, _, rfl, rfl, _, rfl, rfl, _, rfl, ite2 (fun c => ?_) (fun c => ?_)⟩
              · have c1 : V.int ((en : Int) - (bn : Int)) = V.int (R : Int) := of_decide_eq_true c
                have c2 := V.int.inj c1
                rw [decide_eq_true (isE.mpr ⟨k, .inl (by omega)⟩)] at q
                exact q
              · have c1 : ¬ V.int ((en : Int) - (bn : Int)) = V.int (R : Int) := of_decide_eq_false (Bool.eq_false_iff.mpr c)
                refine ⟨_, rfl, _, rfl, rfl, ?_⟩
                have ed : decide (V.int (en : Int) = V.int (n : Int)) = decide (isN n (bn, en)) := by
                  by_cases z : en = n
                  · rw [decide_eq_true (isE.mpr ⟨k, .inr z⟩), decide_eq_true (by rw [z])]
                  · rw [decide_eq_false (fun y => z (by have := V.int.inj y; omega)), decide_eq_false (fun y => (isE.mp y).2.elim (fun u => c1 (congrArg V.int (by omega))) z)]
                show Q (.bl (decide (V.int (en : Int) = V.int (n : Int)))) H
                rw [ed]
                exact q
            · rw [decide_eq_false k]
              refine iteF ?_
              rw [decide_eq_false (fun z => k (isE.mp z).1)] at q
              exact q
          | _ => exact absurd h2 (by intro z; cases z)
      | _ => exact absurd h1 (by intro z; cases z)
end
end LT

namespace LT
/-! ### the greatest nodes within a stretch -/
theorem and_pred_odd (c : Nat) : (2 * c + 1) &&& (2 * c) = 2 * c := by
  apply Nat.eq_of_testBit_eq
  intro i
  rw [Nat.testBit_and]
  cases i with
  | zero => simp
  | succ i =>
    rw [Nat.testBit_succ, Nat.testBit_succ, show (2 * c + 1) / 2 = c by omega, show 2 * c / 2 = c by omega, Bool.and_self]
theorem and_pred_even (c : Nat) (h : 0 < c) : (2 * c) &&& (2 * c - 1) = 2 * (c &&& (c - 1)) := by
  apply Nat.eq_of_testBit_eq
  intro i
  rw [Nat.testBit_and]
  cases i with
  | zero => simp
  | succ i =>
    rw [Nat.testBit_succ, Nat.testBit_succ, Nat.testBit_succ, show 2 * c / 2 = c by omega, show (2 * c - 1) / 2 = c - 1 by omega, show 2 * (c &&& (c - 1)) / 2 = c &&& (c - 1) by omega, Nat.testBit_and]
def low (b : Nat) : Nat := b - (b &&& (b - 1))
theorem low_is : ∀ b : Nat, 0 < b → ∃ k, low b = 2 ^ k ∧ 2 ^ k ∣ b ∧ ¬ 2 ^ (k + 1) ∣ b := by
  intro b
  induction b using Nat.strongRecOn with
  | ind b ih =>
    intro hb
    rcases Nat.mod_two_eq_zero_or_one b with h | h
    · obtain ⟨c, rfl⟩ : ∃ c, b = 2 * c := ⟨b / 2, by omega⟩
      obtain ⟨k, e, d1, d2⟩ := ih c (by omega) (by omega)
      refine ⟨k + 1, ?_, ?_, ?_⟩
      · unfold low at e ⊢
        rw [and_pred_even c (by omega), Nat.pow_succ]
        omega
      · rw [Nat.pow_succ, Nat.mul_comm]
        exact Nat.mul_dvd_mul_left 2 d1
      · rw [Nat.pow_succ, Nat.mul_comm (2 ^ (k + 1)) 2]
        exact fun z => d2 (Nat.dvd_of_mul_dvd_mul_left (by decide) z)
    · obtain ⟨c, rfl⟩ : ∃ c, b = 2 * c + 1 := ⟨b / 2, by omega⟩
      refine ⟨0, ?_, Nat.one_dvd _, ?_⟩
      · unfold low
        rw [show 2 * c + 1 - 1 = 2 * c by omega, and_pred_odd]
        omega
      · intro z
        have := Nat.mod_eq_zero_of_dvd z
        omega
/-- the room of the greatest full node that begins at b, up to e -/
def rm (b e : Nat) : Nat := if b = 0 then 2 ^ (e - b).log2 else min (2 ^ (e - b).log2) (low b)
theorem rm_is {b e : Nat} (h : b < e) : ∃ k, rm b e = 2 ^ k ∧ 2 ^ k ∣ b ∧ b + 2 ^ k ≤ e ∧ (2 ^ (k + 1) ∣ b → e < b + 2 ^ (k + 1)) := by
  have l1 := Nat.log2_self_le (n := e - b) (by omega)
  have l2 := Nat.lt_log2_self (n := e - b)
  unfold rm
  by_cases c : b = 0
  · subst c
    rw [if_pos rfl]
    exact ⟨_, rfl, Nat.dvd_zero _, by omega, fun _ => by omega⟩
  · rw [if_neg c]
    obtain ⟨k, e1, d1, d2⟩ := low_is b (by omega)
    rw [e1]
    by_cases c2 : (e - b).log2 ≤ k
    · have := Nat.pow_le_pow_right (n := 2) (by decide) c2
      rw [Nat.min_eq_left this]
      exact ⟨_, rfl, Nat.dvd_trans (Nat.pow_dvd_pow 2 c2) d1, by omega, fun _ => by omega⟩
    · have := Nat.pow_le_pow_right (n := 2) (by decide) (show k ≤ (e - b).log2 by omega)
      rw [Nat.min_eq_right this]
      exact ⟨k, rfl, d1, by omega, fun z => absurd z d2⟩
def rw1 (n b e : Nat) : Nat := if isN n (b, e) then e - b else rm b e
def nwF (n : Nat) : Nat → Nat → Nat → List (Nat × Nat)
  | 0, _, _ => []
  | f + 1, b, e => if b < e then (b, b + rw1 n b e) :: nwF n f (b + rw1 n b e) e else []
def nw (n b e : Nat) : List (Nat × Nat) := nwF n (e - b) b e
theorem rw1_pos {n b e : Nat} (h : b < e) : 0 < rw1 n b e ∧ b + rw1 n b e ≤ e := by
  unfold rw1
  split
  · omega
  · obtain ⟨k, e1, _, e2, _⟩ := rm_is h
    have := Nat.pow_pos (a := 2) (n := k) (by decide)
    omega
theorem nwF_eq (n e : Nat) : ∀ (f g b : Nat), e - b ≤ f → e - b ≤ g → nwF n f b e = nwF n g b e
  | 0, 0, _, _, _ => rfl
  | 0, g + 1, b, h, _ => by
    show [] = if b < e then _ else _
    rw [if_neg (by omega)]
  | f + 1, 0, b, _, h => by
    show (if b < e then _ else _) = []
    rw [if_neg (by omega)]
  | f + 1, g + 1, b, h1, h2 => by
    show (if b < e then _ else _) = if b < e then _ else _
    by_cases c : b < e
    · have := rw1_pos (n := n) c
      rw [if_pos c, if_pos c, nwF_eq n e f g (b + rw1 n b e) (by omega) (by omega)]
    · rw [if_neg c, if_neg c]
theorem nw_nil {n b e : Nat} (h : e ≤ b) : nw n b e = [] := by
  unfold nw
  rw [show e - b = 0 by omega]
  rfl
theorem nw_step {n b e : Nat} (h : b < e) : nw n b e = (b, b + rw1 n b e) :: nw n (b + rw1 n b e) e := by
  have p := rw1_pos (n := n) h
  unfold nw
  rw [show e - b = (e - b - 1) + 1 by omega]
  show (if b < e then _ else _) = _
  rw [if_pos h, nwF_eq n e (e - b - 1) (e - (b + rw1 n b e)) (b + rw1 n b e) (by omega) (by omega)]
/-- induction over the nodes within -/
theorem nw_ind {n e : Nat} {p : Nat → Prop} (h0 : ∀ b, e ≤ b → p b) (h1 : ∀ b, b < e → p (b + rw1 n b e) → p b) (b : Nat) : p b := by
  have : ∀ (f b : Nat), e - b ≤ f → p b := by
    intro f
    induction f with
    | zero => exact fun b h => h0 b (by omega)
    | succ f ih =>
      intro b h
      by_cases c : b < e
      · have := rw1_pos (n := n) c
        exact h1 b c (ih _ (by omega))
      · exact h0 b (by omega)
  exact this _ b (Nat.le_refl _)
theorem nw_len2 {n e : Nat} : ∀ (L b : Nat), 2 ^ L ∣ b → e < b + 2 ^ L → (nw n b e).length ≤ L
  | 0, b, _, h => by rw [nw_nil (by simp at h; omega)]; exact Nat.zero_le _
  | L + 1, b, d, h => by
    have d' : 2 ^ L ∣ b := Nat.dvd_trans (Nat.pow_dvd_pow 2 (Nat.le_succ L)) d
    by_cases c : b < e
    · by_cases c2 : e < b + 2 ^ L
      · have := nw_len2 (n := n) (e := e) L b d' c2
        omega
      · rw [nw_step c, List.length_cons]
        unfold rw1
        split
        · rw [nw_nil (by omega)]
          simp
        · obtain ⟨k, e1, e2, e3, e4⟩ := rm_is c
          rw [e1]
          have kL : k = L := by
            by_cases z : k < L
            · have := e4 (Nat.dvd_trans (Nat.pow_dvd_pow 2 z) d')
              have := Nat.pow_le_pow_right (n := 2) (by decide) (show k + 1 ≤ L from z)
              omega
            · have : 2 ^ k < 2 ^ (L + 1) := by omega
              have := (Nat.pow_lt_pow_iff_right (by decide : 1 < 2)).mp this
              omega
          subst kL
          have := nw_len2 (n := n) (e := e) k (b + 2 ^ k) (Nat.dvd_add e2 (Nat.dvd_refl _)) (by rw [Nat.pow_succ] at h; omega)
          omega
    · rw [nw_nil (by omega)]
      exact Nat.zero_le _
theorem nw_len1 {n e L : Nat} : ∀ (t j b : Nat), j + t = L → 2 ^ j ∣ b → e < b + 2 ^ L → (nw n b e).length ≤ L + t
  | 0, j, b, hj, d, h => by
    have : j = L := by omega
    subst this
    exact nw_len2 j b d h
  | t + 1, j, b, hj, d, h => by
    by_cases c : b < e
    · by_cases d1 : 2 ^ (j + 1) ∣ b
      · have := nw_len1 (n := n) (e := e) (L := L) t (j + 1) b (by omega) d1 h
        omega
      · rw [nw_step c, List.length_cons]
        unfold rw1
        split
        · rw [nw_nil (by omega)]
          simp
          omega
        · obtain ⟨k, e1, e2, e3, e4⟩ := rm_is c
          rw [e1]
          by_cases z : k < j
          · have e5 := e4 (Nat.dvd_trans (Nat.pow_dvd_pow 2 z) d)
            have := nw_len2 (n := n) (e := e) k (b + 2 ^ k) (Nat.dvd_add e2 (Nat.dvd_refl _)) (by rw [Nat.pow_succ] at e5; omega)
            omega
          · have kj : k = j := by
              by_cases y : j < k
              · exact absurd (Nat.dvd_trans (Nat.pow_dvd_pow 2 y) e2) d1
              · omega
            subst kj
            have d2 : 2 ^ (k + 1) ∣ b + 2 ^ k := by
              obtain ⟨x, rfl⟩ := d
              rcases Nat.mod_two_eq_zero_or_one x with y | y
              · exact absurd (by rw [Nat.pow_succ]; exact Nat.mul_dvd_mul_left _ (Nat.dvd_of_mod_eq_zero y)) d1
              · refine ⟨x / 2 + 1, ?_⟩
                have : x = 2 * (x / 2) + 1 := by omega
                rw [Nat.pow_succ]
                generalize x / 2 = u at this
                subst this
                rw [Nat.mul_add, Nat.mul_add, Nat.mul_assoc (2 ^ k) 2 u]
                omega
            have p := Nat.pow_pos (a := 2) (n := k) (by decide)
            have := nw_len1 (n := n) (e := e) (L := L) t (k + 1) (b + 2 ^ k) (by omega) d2 (by omega)
            omega
    · rw [nw_nil (by omega)]
      exact Nat.zero_le _
theorem nw_len {n b e : Nat} (h : e ≤ 2 ^ 100) : (nw n b e).length ≤ 202 := by
  have := nw_len1 (n := n) (e := e) (L := 101) 101 0 b (by decide) (by simp) (by rw [Nat.pow_succ]; omega)
  omega
/-- nodes are nested or apart -/
theorem lam {n b m B M : Nat} (t : tree n b m) (hm : 1 ≤ m) (T : tree n B M) (hn : b + m ≤ n) (HN : B + M ≤ n) (h1 : b < B) (h2 : B < b + m) : B + M ≤ b + m := by
  obtain ⟨d, k⟩ := t
  obtain ⟨D, _⟩ := T
  have ge := lb_ge m
  have gE := lb_ge M
  by_cases c : lb m ≤ lb M
  · have := mul_le_of_lt d (Nat.dvd_trans (Nat.pow_dvd_pow 2 c) D) h1
    omega
  · have c1 : lb M ≤ lb m := by omega
    have := mul_le_of_lt D (Nat.dvd_add (Nat.dvd_trans (Nat.pow_dvd_pow 2 c1) d) (Nat.pow_dvd_pow 2 c1)) (show B < b + 2 ^ lb m by omega)
    rcases k with k | k
    · omega
    · omega
theorem isN_tree {n b e : Nat} (h : isN n (b, e)) : b < e ∧ e ≤ n ∧ tree n b (e - b) := h
theorem isN_of {n b m : Nat} (h1 : 1 ≤ m) (h2 : b + m ≤ n) (t : tree n b m) : isN n (b, b + m) := ⟨by show b < b + m; omega, h2, by show tree n b (b + m - b); rw [Nat.add_sub_cancel_left]; exact t⟩
theorem full_isN {n b k : Nat} (h2 : b + 2 ^ k ≤ n) (d : 2 ^ k ∣ b) : isN n (b, b + 2 ^ k) := isN_of (Nat.pow_pos (by decide)) h2 ⟨by rw [lb_pow]; exact d, .inl (by rw [lb_pow])⟩
theorem rw1_isN {n b e : Nat} (h : b < e) (hn : e ≤ n) : isN n (b, b + rw1 n b e) := by
  unfold rw1
  split
  · rename_i c
    rw [show b + (e - b) = e by omega]
    exact c
  · obtain ⟨k, e1, e2, e3, _⟩ := rm_is h
    rw [e1]
    exact full_isN (by omega) e2
/-- the first node is the greatest one that begins there -/
theorem rw1_max {n b e y : Nat} (hn : e ≤ n) (hy : isN n (b, y)) (h : y ≤ e) : y ≤ b + rw1 n b e := by
  have hb : b < y := hy.1
  unfold rw1
  split
  · omega
  · rename_i c
    obtain ⟨k, e1, e2, e3, e4⟩ := rm_is (show b < e by omega)
    rw [e1]
    obtain ⟨_, y1, d, t⟩ := isN_tree hy
    rcases t with t | t
    · by_cases z : k < lb (y - b)
      · have := e4 (Nat.dvd_trans (Nat.pow_dvd_pow 2 z) d)
        have := Nat.pow_le_pow_right (n := 2) (by decide) (show k + 1 ≤ lb (y - b) from z)
        omega
      · have := Nat.pow_le_pow_right (n := 2) (by decide) (show lb (y - b) ≤ k by omega)
        omega
    · have : y = e := by omega
      subst this
      exact absurd hy c
/-- a list of nodes one behind the other -/
def Ch (n : Nat) : Nat → Nat → List (Nat × Nat) → Prop
  | lo, hi, [] => lo = hi
  | lo, hi, x :: l => x.1 = lo ∧ isN n x ∧ x.2 ≤ hi ∧ Ch n x.2 hi l
theorem nw_ch {n e : Nat} (hn : e ≤ n) (b : Nat) : b ≤ e → Ch n b e (nw n b e) := by
  refine nw_ind (n := n) (e := e) (p := fun b => b ≤ e → Ch n b e (nw n b e)) (fun b h h2 => ?_) (fun b h ih _ => ?_) b
  · rw [nw_nil h]
    exact Nat.le_antisymm h2 h
  · rw [nw_step h]
    have := rw1_pos (n := n) h
    exact ⟨rfl, rw1_isN h hn, this.2, ih this.2⟩
/-- nothing greater in the stretch has one of them -/
def Mx (n lo hi : Nat) (l : List (Nat × Nat)) : Prop := ∀ x ∈ l, ∀ p, isN n p → lo ≤ p.1 → p.2 ≤ hi → p.1 ≤ x.1 → x.2 ≤ p.2 → p = x
theorem nw_mx {n lo e : Nat} (hn : e ≤ n) (b : Nat) : b ≤ e → lo ≤ b → (∀ p, isN n p → lo ≤ p.1 → p.2 ≤ e → p.1 < b → p.2 ≤ b) → Mx n lo e (nw n b e) := by
  refine nw_ind (n := n) (e := e) (p := fun b => b ≤ e → lo ≤ b → (∀ p, isN n p → lo ≤ p.1 → p.2 ≤ e → p.1 < b → p.2 ≤ b) → Mx n lo e (nw n b e)) (fun b h h2 _ _ => ?_) (fun b h ih h1 h2 h3 => ?_) b
  · rw [nw_nil h]
    exact fun x hx => by cases hx
  · have w := rw1_pos (n := n) h
    have wN := rw1_isN h hn
    have wM : ∀ p, isN n p → lo ≤ p.1 → p.2 ≤ e → p.1 = b → p.2 ≤ b + rw1 n b e := by
      rintro ⟨p1, p2⟩ k1 k2 k3 rfl
      exact rw1_max hn k1 k3
    rw [nw_step h]
    intro x hx
    rcases List.mem_cons.mp hx with rfl | hx
    · rintro ⟨p1, p2⟩ k1 k2 k3 k4 k5
      simp only at k2 k3 k4 k5
      by_cases c : p1 < b
      · have := h3 _ k1 k2 k3 c
        simp only at this
        omega
      · have : p1 = b := by omega
        subst this
        have := wM _ k1 k2 k3 rfl
        simp only at this
        exact Prod.ext rfl (by show p2 = _; omega)
    · refine ih w.2 (by omega) ?_ x hx
      rintro ⟨p1, p2⟩ k1 k2 k3 k4
      simp only at k2 k3 k4 ⊢
      by_cases c : p1 < b
      · have := h3 _ k1 k2 k3 c
        simp only at this
        omega
      · by_cases c2 : p1 = b
        · subst c2
          exact wM _ k1 k2 k3 rfl
        · obtain ⟨q1, q2, q3⟩ := isN_tree k1
          obtain ⟨u1, u2, u3⟩ := isN_tree wN
          have := lam (n := n) (b := b) (m := b + rw1 n b e - b) (B := p1) (M := p2 - p1) u3 (by omega) q3 (by omega) (by omega) (by omega) (by omega)
          omega
theorem nw_max {n b e : Nat} (hn : e ≤ n) (h : b ≤ e) : Mx n b e (nw n b e) := nw_mx hn b h (Nat.le_refl _) (fun p _ k1 _ k3 => by omega)
theorem Ch.mem {n : Nat} : ∀ {lo hi : Nat} {l : List (Nat × Nat)}, Ch n lo hi l → ∀ x ∈ l, isN n x ∧ lo ≤ x.1 ∧ x.2 ≤ hi
  | lo, hi, y :: l, ⟨h1, h2, h3, h4⟩, x, hx => by
    have k := h2.1
    rcases List.mem_cons.mp hx with rfl | hx
    · exact ⟨h2, by omega, h3⟩
    · obtain ⟨k1, k2, k3⟩ := Ch.mem h4 x hx
      exact ⟨k1, by omega, k3⟩
theorem Ch.le {n : Nat} : ∀ {lo hi : Nat} {l : List (Nat × Nat)}, Ch n lo hi l → lo ≤ hi
  | _, _, [], h => Nat.le_of_eq h
  | lo, hi, y :: l, ⟨h1, h2, h3, h4⟩ => by
    have k := h2.1
    omega
theorem Ch.app {n : Nat} : ∀ {lo mid hi : Nat} {l r : List (Nat × Nat)}, Ch n lo mid l → Ch n mid hi r → Ch n lo hi (l ++ r)
  | _, _, _, [], _, h, k => by
    have h : _ = _ := h
    subst h
    exact k
  | _, _, _, x :: l, r, ⟨h1, h2, h3, h4⟩, k => ⟨h1, h2, Nat.le_trans h3 k.le, Ch.app h4 k⟩
/-- each entry between is in one of them -/
theorem Ch.at {n : Nat} : ∀ {lo hi : Nat} {l : List (Nat × Nat)}, Ch n lo hi l → ∀ i, lo ≤ i → i < hi → ∃ x ∈ l, x.1 ≤ i ∧ i < x.2
  | lo, hi, [], h, i, h1, h2 => by
    have h : lo = hi := h
    omega
  | lo, hi, y :: l, ⟨h1, h2, h3, h4⟩, i, k1, k2 => by
    by_cases c : i < y.2
    · exact ⟨y, List.mem_cons_self, by omega, c⟩
    · obtain ⟨x, hx, r⟩ := Ch.at h4 i (by omega) k2
      exact ⟨x, List.mem_cons_of_mem _ hx, r⟩
theorem Ch.sum {n : Nat} : ∀ {lo hi : Nat} {l : List (Nat × Nat)}, Ch n lo hi l → (l.map fun x => x.2 - x.1).sum = hi - lo
  | lo, hi, [], h => by
    have h : lo = hi := h
    simp; omega
  | lo, hi, y :: l, ⟨h1, h2, h3, h4⟩ => by
    have := Ch.sum h4
    have k := h2.1
    have := h4.le
    rw [List.map_cons, List.sum_cons]
    omega
/-- any node within the stretch lies in one of them -/
theorem nw_in {n b e : Nat} (hn : e ≤ n) (h : b ≤ e) {p : Nat × Nat} (hp : isN n p) (h1 : b ≤ p.1) (h2 : p.2 ≤ e) : ∃ x ∈ nw n b e, x.1 ≤ p.1 ∧ p.2 ≤ x.2 := by
  have k := hp.1
  obtain ⟨x, hx, a1, a2⟩ := (nw_ch hn b h).at p.1 h1 (by omega)
  refine ⟨x, hx, a1, ?_⟩
  obtain ⟨x1, x2, x3⟩ := (nw_ch hn b h).mem x hx
  have kx := x1.1
  have kn := x1.2.1
  have pn := hp.2.1
  by_cases c : x.1 < p.1
  · have := lam (n := n) (b := x.1) (m := x.2 - x.1) (B := p.1) (M := p.2 - p.1) x1.2.2 (by omega) hp.2.2 (by omega) (by omega) c (by omega)
    omega
  · by_cases c2 : p.2 ≤ x.2
    · exact c2
    · have := nw_max hn h x hx p hp h1 h2 (by omega) (by omega)
      rw [this]
      exact Nat.le_refl _
/-- a list of nodes one behind the other, none within a greater one of the stretch, is that of the greatest ones -/
theorem nw_unique {n hi lo0 : Nat} (hn : hi ≤ n) : ∀ (l r : List (Nat × Nat)) (lo : Nat), lo0 ≤ lo → Ch n lo hi l → Ch n lo hi r → Mx n lo0 hi l → Mx n lo0 hi r → l = r
  | [], [], _, _, _, _, _, _ => rfl
  | [], y :: r, lo, _, h1, ⟨k1, k2, k3, k4⟩, _, _ => by
    have h1 : lo = hi := h1
    have := k2.1
    omega
  | x :: l, [], lo, _, ⟨k1, k2, k3, k4⟩, h1, _, _ => by
    have h1 : lo = hi := h1
    have := k2.1
    omega
  | x :: l, y :: r, lo, h0, ⟨k1, k2, k3, k4⟩, ⟨j1, j2, j3, j4⟩, m1, m2 => by
    have e : x = y := by
      by_cases c : x.2 ≤ y.2
      · exact (m1 x List.mem_cons_self y j2 (by omega) j3 (by omega) c).symm
      · exact m2 y List.mem_cons_self x k2 (by omega) k3 (by omega) (by omega)
    subst e
    have := k2.1
    rw [nw_unique hn l r x.2 (by omega) k4 j4 (fun z hz => m1 z (List.mem_cons_of_mem _ hz)) (fun z hz => m2 z (List.mem_cons_of_mem _ hz))]
end LT

namespace LT
open PySem PySem.Spec PyProof.Rows L2
theorem bitAnd_low (b : Nat) (h : 0 < b) : Builtin.bitAnd (b : Int) (-(b : Int)) = ((low b : Nat) : Int) := by
  rw [bitAnd_pn (Int.natCast_nonneg b) (by omega)]
  have e : (Builtin.bitNot (-(b : Int))).toNat = b - 1 := by
    show (-(-(b : Int)) - 1).toNat = b - 1
    omega
  rw [e, Int.toNat_natCast]
  have : b &&& (b - 1) ≤ b := Nat.and_le_left
  unfold low
  omega
section
variable {P : Program} {w : World} {K : PySem.W.Frag} {mg : Str → Option Value} {base : Heap}
def spFirstFull : Sp := fun vs H Q _ => ∃ (b e : Nat), vs = [.int b, .int e] ∧ b < e ∧ e ≤ 10 ^ 30 ∧ ∀ (H' : Hp) (p : Addr), Same H H' → H p = none → H' p = some (.tup [.int b, .int ((b + rm b e : Nat) : Int)]) → Q (.ref p) H'
theorem ok_first_full {f g1 : Addr} {fd d1 : FuncData} (F : Fun K "_first_full" "_first_full" sFirstFull f fd) (GPowerWithin : FnOk P w K mg base CX0 1 g1 d1 ["number"] spPower) (APowerWithin : At K mg "power_within" g1 d1 ["number"]) (z_min : mg "min" = none) :
    FnOk P w K mg base CX0 2 f fd ["begin", "end"] spFirstFull := by
  refine F.ok scFirstFull (fun vs H Q E h => ?_) (fun cdv A outer s H vs Q E hr h => ?_)
  · obtain ⟨_, _, rfl, _⟩ := h
    rfl
  obtain ⟨b, e, rfl, hb, h30, q⟩ := h
  refine ⟨_, (pss_cons (ps_set (i := 2) scFirstFull.nd rfl (Or.inl rfl) (pe_call GPowerWithin (hr.mono (by decide)) rfl APowerWithin.m APowerWithin.kp APowerWithin.b .nil pass0 (pa_cons (pe_op op_sub (pv 1) (pv 0)) pa_nil)))
    (pss_cons (ps_if (pt_cmpR op_gt (pv 0) pe_int (nomark _))
    (pss_one (ps_set (i := 2) scFirstFull.nd rfl (Or.inl rfl) (pe_callB (call_min2 rfl) (by rfl) z_min (by decide +kernel) (pa_cons (pv 2) (pa_cons (pe_op op_and (pv 0) (pe_un un_neg (pv 0))) pa_nil)))))
    pss_nil)
    (pss_one (ps_ret (pe_tup (pa_cons (pv 0) (pa_cons (pe_op op_add (pv 0) (pv 2)) pa_nil))))))), ?_⟩
  have two : 2 ≤ sizeLine := by decide
  refine ⟨_, rfl, _, rfl, _, _, rfl, rfl, e - b, congrArg (fun z => [V.int z]) (by omega), by omega, by omega, ?_⟩
  refine ⟨_, rfl, _, _, rfl, rfl, _, rfl, ite2 (fun c => ?_) (fun c => ?_)⟩
  · have c1 : (b : Int) > 0 := of_decide_eq_true c
    refine ⟨_, rfl, _, rfl, _, rfl, _, rfl, _, _, rfl, rfl, _, _, rfl, ?_⟩
    rw [bitAnd_low b (by omega)]
    have em : (if ((low b : Nat) : Int) < ((2 ^ (e - b).log2 : Nat) : Int) then ((low b : Nat) : Int) else ((2 ^ (e - b).log2 : Nat) : Int)) = ((rm b e : Nat) : Int) := by
      unfold rm
      rw [if_neg (show ¬ b = 0 by omega)]
      split <;> omega
    refine ⟨_, rfl, _, rfl, _, rfl, _, _, rfl, rfl, two, fun t nt => ?_⟩
    dsimp only
    rw [em]
    refine q _ t (same_upd nt) nt ?_
    rw [upd_same, show (b : Int) + ((rm b e : Nat) : Int) = ((b + rm b e : Nat) : Int) by omega]
  · have c1 : ¬ (b : Int) > 0 := of_decide_eq_false (Bool.eq_false_iff.mpr c)
    have b0 : b = 0 := by omega
    have em : rm b e = 2 ^ (e - b).log2 := by unfold rm; rw [if_pos b0]
    refine ⟨_, rfl, _, rfl, _, rfl, _, _, rfl, rfl, two, fun t nt => ?_⟩
    refine q _ t (same_upd nt) nt ?_
    rw [upd_same, em]
    rfl
def spWithinX : Sp := fun vs H Q _ => ∃ (n b e : Nat), vs = [.int n, .int b, .int e] ∧ 1 ≤ n ∧ n ≤ 2 ^ 100 ∧ e ≤ n ∧ e ≤ 10 ^ 30 ∧
  ∀ (H' : Hp) (p : Addr) (xs : List V), Same H H' → H p = none → H' p = some (.lst xs) → All2 (Nd H') xs (nw n b e) → Q (.ref p) H'
theorem tn_nat (n b e : Nat) : tnV n (.int (b : Int)) (.int (e : Int)) = decide (isN n (b, e)) := by
  show decide (0 ≤ (b : Int) ∧ isN n ((b : Int).toNat, (e : Int).toNat)) = decide (isN n (b, e))
  rw [Int.toNat_natCast, Int.toNat_natCast]
  by_cases k : isN n (b, e)
  · rw [decide_eq_true k, decide_eq_true ⟨Int.natCast_nonneg _, k⟩]
  · rw [decide_eq_false k, decide_eq_false (fun z => k z.2)]
theorem ok_nodes_withinX {f g1 g2 : Addr} {fd d1 d2 : FuncData} (F : Fun K "nodes_within" "nodes_within" sNodesWithin f fd) (GIsTreeNode : FnOk P w K mg base CX0 3 g1 d1 ["size", "value"] (spTreeV K)) (AIsTreeNode : At K mg "is_tree_node" g1 d1 ["size", "value"])
    (GFirstFull : FnOk P w K mg base CX0 2 g2 d2 ["begin", "end"] spFirstFull) (AFirstFull : At K mg "_first_full" g2 d2 ["begin", "end"]) : FnOk P w K mg base CX0 4 f fd ["size", "begin", "end"] spWithinX := by
  refine F.ok scNodesWithin (fun vs H Q E h => ?_) (fun cdv A outer s H vs Q E hr h => ?_)
  · obtain ⟨_, _, _, rfl, _⟩ := h
    rfl
  obtain ⟨n, b0, e, rfl, n1, n100, he, h30, q⟩ := h
  refine ⟨_, (pss_cons (ps_set (i := 3) scNodesWithin.nd rfl (Or.inl rfl) (pe_lst pa_nil))
    (pss_cons (ps_while PassesOwn.never (pt_cmpR op_lt (pv 1) (pv 2) (nomark _))
    (pss_cons (ps_if (pt_val (pe_call GIsTreeNode (hr.mono (by decide)) rfl AIsTreeNode.m AIsTreeNode.kp AIsTreeNode.b .nil pass0 (pa_cons (pv 0) (pa_cons (pe_tup (pa_cons (pv 1) (pa_cons (pv 2) pa_nil))) pa_nil))))
    (pss_one (ps_set (i := 4) scNodesWithin.nd rfl (Or.inl rfl) (pe_tup (pa_cons (pv 1) (pa_cons (pv 2) pa_nil)))))
    (pss_one (ps_set (i := 4) scNodesWithin.nd rfl (Or.inl rfl) (pe_call GFirstFull (hr.mono (by decide)) rfl AFirstFull.m AFirstFull.kp AFirstFull.b .nil pass0 (pa_cons (pv 1) (pa_cons (pv 2) pa_nil))))))
    (pss_cons (ps_expr (pe_bm PySem.F.plainAttrs_list PySem.F.slot_list_append PySem.F.type_list_append mt_append (pv 3) (pa_cons (pv 4) pa_nil)))
    (pss_one (ps_set (i := 1) scNodesWithin.nd rfl (Or.inl rfl) (pe_ix ix_tup (pv 4) pe_int (fun _ _ => rfl)))))))
    (pss_one (ps_ret (pv 3))))), ?_⟩
  have two : 2 ≤ sizeLine := by decide
  refine ⟨Nat.zero_le _, fun fa nf => ?_⟩
  refine ⟨fun mu σ H' => ∃ (b : Nat) (v4 : Option V) (xs : List V) (done : List (Nat × Nat)), σ = [some (.int n), some (.int (b : Int)), some (.int (e : Int)), some (.ref fa), v4] ∧ Same H H' ∧ H' fa = some (.lst xs) ∧ All2 (Nd H') xs done ∧ done ++ nw n b e = nw n b0 e ∧ mu = e - b,
    ⟨e - b0, b0, none, [], [], rfl, same_upd nf, upd_same, .nil, rfl, rfl⟩, ?_⟩
  rintro m σ H1 ⟨b, v4, xs, done, rfl, sm, hf, hx, hd, rfl⟩
  refine ⟨_, rfl, _, rfl, _, _, rfl, rfl, _, rfl, ite2 (fun c => ?_) (fun c => ?_)⟩
  · have c1 : (b : Int) < (e : Int) := of_decide_eq_true c
    have dl : done.length ≤ 202 := by
      have k1 := congrArg List.length hd
      rw [List.length_append] at k1
      have k2 := nw_len (n := n) (b := b0) (e := e) (by omega)
      omega
    have w1 := rw1_pos (n := n) (show b < e by omega)
    have st := nw_step (n := n) (show b < e by omega)
    refine ⟨fun σ' H' => ∃ mu, mu < e - b ∧ ∃ (b : Nat) (v4 : Option V) (xs : List V) (done : List (Nat × Nat)), σ' = [some (.int n), some (.int (b : Int)), some (.int (e : Int)), some (.ref fa), v4] ∧ Same H H' ∧ H' fa = some (.lst xs) ∧ All2 (Nd H') xs done ∧ done ++ nw n b e = nw n b0 e ∧ mu = e - b, fun σ' H' h => h, ?_⟩
    -- behind the choice
    have fin : ∀ (H2 : Hp) (p : Addr), Same H1 H2 → H2 p = some (.tup [.int (b : Int), .int ((b + rw1 n b e : Nat) : Int)]) →
        (pss_term_fin : True) → ∃ (b' : Nat) (xs' : List V) (done' : List (Nat × Nat)), b' = b + rw1 n b e ∧ xs' = xs ++ [.ref p] ∧ Same H (upd H2 fa (.lst xs')) ∧ All2 (Nd (upd H2 fa (.lst xs'))) xs' done' ∧ done' ++ nw n b' e = nw n b0 e := fun H2 p s2 hp _ => by
      have hf2 := s2 _ _ hf
      refine ⟨_, _, done ++ [(b, b + rw1 n b e)], rfl, rfl, ?_, ?_, ?_⟩
      · exact fun a o k => by rw [upd_ne (ne_of_none k nf)]; exact s2 _ _ (sm _ _ k)
      · refine (hx.mono (fun v x (k : Nd H1 v x) => (k.same s2).upd hf2)).app (.cons ?_ .nil)
        exact Nd.upd (x := (b, b + rw1 n b e)) ⟨p, rfl, hp⟩ hf2
      · rw [← hd, st, List.append_assoc]
        rfl
    refine ⟨_, rfl, _, rfl, _, rfl, two, fun t nt => ?_⟩
    have s1 := same_upd (o := .tup [.int (b : Int), .int (e : Int)]) nt
    have ht : (upd H1 t (.tup [.int (b : Int), .int (e : Int)])) t = some (.tup [.int (b : Int), .int (e : Int)]) := upd_same
    generalize upd H1 t (.tup [.int (b : Int), .int (e : Int)]) = H2 at s1 ht
    refine ⟨n, .ref t, _, rfl, n1, n100, .pair ht (.int _) (.int _), ?_⟩
    rw [tn_nat]
    by_cases c2 : isN n (b, e)
    · rw [decide_eq_true c2]
      refine ⟨true, rfl, ?_⟩
      have rw_e : rw1 n b e = e - b := by unfold rw1; rw [if_pos c2]
      refine ⟨_, rfl, _, rfl, two, fun t2 nt2 => ?_⟩
      have s2 := same_upd (o := .tup [.int (b : Int), .int (e : Int)]) nt2
      obtain ⟨b', xs', done', eb, ex, f1, f2, f3⟩ := fin _ t2 (s1.trans s2) (by rw [upd_same, rw_e, show b + (e - b) = e by omega]) trivial
      subst ex
      have hf3 := s2 _ _ (s1 _ _ hf)
      have ht3 : (upd H2 t2 (.tup [.int (b : Int), .int (e : Int)])) t2 = some (.tup [.int (b : Int), .int (e : Int)]) := upd_same
      refine ⟨_, rfl, .inl ⟨rfl, _, SqL.of hf3⟩, _, rfl, fa, _, _, rfl, rfl, hf3, szlt (by rw [hx.len]; omega), ?_⟩
      refine ⟨_, rfl, t2, _, _, _, rfl, rfl, SqT.of ((upd_ne (ne_of ht3 hf3 (by intro z; cases z))).trans ht3), atI_nat (j := 1) rfl, ?_⟩
      refine ⟨e - b', by omega, b', some (.ref t2), xs ++ [.ref t2], done', ?_, f1, ?_, f2, f3, rfl⟩
      · rw [eb, rw_e, show b + (e - b) = e by omega]
        rfl
      · exact upd_same
    · rw [decide_eq_false c2]
      refine ⟨false, rfl, ?_⟩
      have rw_e : rw1 n b e = rm b e := by unfold rw1; rw [if_neg c2]
      refine ⟨_, rfl, _, rfl, b, e, rfl, by omega, by omega, fun H3 t2 s2 nt2 ht2 => ?_⟩
      obtain ⟨b', xs', done', eb, ex, f1, f2, f3⟩ := fin _ t2 (s1.trans s2) (by rw [ht2, rw_e]) trivial
      subst ex
      have hf3 := s2 _ _ (s1 _ _ hf)
      refine ⟨_, rfl, .inl ⟨rfl, _, SqL.of hf3⟩, _, rfl, fa, _, _, rfl, rfl, hf3, szlt (by rw [hx.len]; omega), ?_⟩
      refine ⟨_, rfl, t2, _, _, _, rfl, rfl, SqT.of ((upd_ne (ne_of ht2 hf3 (by intro z; cases z))).trans ht2), atI_nat (j := 1) rfl, ?_⟩
      refine ⟨e - b', by omega, b', some (.ref t2), xs ++ [.ref t2], done', ?_, f1, ?_, f2, f3, rfl⟩
      · rw [eb, rw_e]
        rfl
      · exact upd_same
  · have c1 : ¬ (b : Int) < (e : Int) := of_decide_eq_false (Bool.eq_false_iff.mpr c)
    rw [nw_nil (show e ≤ b by omega), List.append_nil] at hd
    rw [hd] at hx
    exact ⟨_, rfl, q H1 fa xs sm nf hf hx⟩
def spWithin : Sp := fun vs H Q _ => ∃ (n b e : Nat), vs = [.int n, .int b, .int e] ∧ 1 ≤ n ∧ n ≤ 2 ^ 100 ∧ b ≤ e ∧ e ≤ n ∧ e ≤ 10 ^ 30 ∧
  ∀ (H' : Hp) (p : Addr) (xs : List V), Same H H' → H p = none → H' p = some (.lst xs) → All2 (Nd H') xs (nw n b e) → Q (.ref p) H'
theorem within_of {k : Nat} {f : Addr} {fd : FuncData} (F : FnOk P w K mg base CX0 k f fd ["size", "begin", "end"] spWithinX) : FnOk P w K mg base CX0 k f fd ["size", "begin", "end"] spWithin :=
  F.imp fun vs H Q E h => by
    obtain ⟨n, b, e, rfl, n1, n100, hb, he, h30, q⟩ := h
    exact ⟨n, b, e, rfl, n1, n100, he, h30, q⟩
end
end LT

namespace LT
/-! ### an entry's siblings, by side -/
def lft (b m e : Nat) : List (Nat × Nat) :=
  if h : m ≤ 1 then [] else
    if e < b + gp m then lft b (gp m) e
    else (b, b + gp m) :: lft (b + gp m) (m - gp m) e
termination_by m
decreasing_by
  · exact gp_lt (by omega)
  · have := gp_pos m; omega
theorem lft_one {b m e : Nat} (h : m ≤ 1) : lft b m e = [] := by rw [lft]; simp [h]
theorem lft_low {b m e : Nat} (h : 2 ≤ m) (k : e < b + gp m) : lft b m e = lft b (gp m) e := by
  rw [lft, dif_neg (by omega), if_pos k]
theorem lft_high {b m e : Nat} (h : 2 ≤ m) (k : ¬ e < b + gp m) : lft b m e = (b, b + gp m) :: lft (b + gp m) (m - gp m) e := by
  rw [lft, dif_neg (by omega), if_neg k]
def rgt (b m e : Nat) : List (Nat × Nat) :=
  if h : m ≤ 1 then [] else
    if e < b + gp m then rgt b (gp m) e ++ [(b + gp m, b + m)]
    else rgt (b + gp m) (m - gp m) e
termination_by m
decreasing_by
  · exact gp_lt (by omega)
  · have := gp_pos m; omega
theorem rgt_one {b m e : Nat} (h : m ≤ 1) : rgt b m e = [] := by rw [rgt]; simp [h]
theorem rgt_low {b m e : Nat} (h : 2 ≤ m) (k : e < b + gp m) : rgt b m e = rgt b (gp m) e ++ [(b + gp m, b + m)] := by
  rw [rgt, dif_neg (by omega), if_pos k]
theorem rgt_high {b m e : Nat} (h : 2 ≤ m) (k : ¬ e < b + gp m) : rgt b m e = rgt (b + gp m) (m - gp m) e := by
  rw [rgt, dif_neg (by omega), if_neg k]
/-- induction down the way to an entry -/
theorem way_ind {n e : Nat} {p : Nat → Nat → Prop} (h1 : ∀ b m, m ≤ 1 → b ≤ e → e < b + m → b + m ≤ n → p b m)
    (h2 : ∀ b m, 2 ≤ m → tree n b m → b ≤ e → e < b + gp m → b + m ≤ n → p b (gp m) → p b m)
    (h3 : ∀ b m, 2 ≤ m → tree n b m → b ≤ e → ¬ e < b + gp m → e < b + m → b + m ≤ n → p (b + gp m) (m - gp m) → p b m) :
    ∀ (m b : Nat), tree n b m → b ≤ e → e < b + m → b + m ≤ n → p b m := by
  intro m
  induction m using Nat.strongRecOn with
  | ind m ih =>
    intro b t k1 k2 k3
    by_cases c : m ≤ 1
    · exact h1 b m c k1 k2 k3
    · have m2 : 2 ≤ m := by omega
      have g1 := gp_lt m2
      have g3 := gp_pos m
      by_cases k : e < b + gp m
      · exact h2 b m m2 t k1 k k3 (ih _ g1 b (tree_low m2 t) k1 k (by omega))
      · exact h3 b m m2 t k1 k k2 k3 (ih _ (by omega) _ (tree_high m2 t) (by omega) (by omega) (by omega))
theorem sides_len {n e : Nat} : ∀ (m b : Nat), tree n b m → b ≤ e → e < b + m → b + m ≤ n → (lft b m e).length + (rgt b m e).length = (sib b m e).length := by
  refine way_ind (fun b m h _ _ _ => ?_) (fun b m h _ _ k _ ih => ?_) (fun b m h _ _ k _ _ ih => ?_)
  · rw [lft_one h, rgt_one h, sib_one h]; rfl
  · rw [lft_low h k, rgt_low h k, sib_low h k]; simp only [List.length_append, List.length_cons, List.length_nil]; omega
  · rw [lft_high h k, rgt_high h k, sib_high h k, List.length_cons, List.length_cons]; omega
theorem half_low_isN {n b m : Nat} (h : 2 ≤ m) (t : tree n b m) (hn : b + m ≤ n) : isN n (b, b + gp m) := isN_of (gp_pos m) (by have := gp_lt h; omega) (tree_low h t)
theorem half_high_isN {n b m : Nat} (h : 2 ≤ m) (t : tree n b m) (hn : b + m ≤ n) : isN n (b + gp m, b + m) := by
  have g := gp_lt h
  have := isN_of (n := n) (b := b + gp m) (m := m - gp m) (by omega) (by omega) (tree_high h t)
  rw [show b + gp m + (m - gp m) = b + m by omega] at this
  exact this
theorem lft_ch {n e : Nat} : ∀ (m b : Nat), tree n b m → b ≤ e → e < b + m → b + m ≤ n → Ch n b e (lft b m e) := by
  refine way_ind (fun b m h _ _ _ => ?_) (fun b m h _ _ k _ ih => ?_) (fun b m h t _ k k2 hn ih => ?_)
  · rw [lft_one h]; show b = e; omega
  · rw [lft_low h k]; exact ih
  · rw [lft_high h k]
    exact ⟨rfl, half_low_isN h t hn, by show b + gp m ≤ e; omega, ih⟩
theorem rgt_ch {n e : Nat} : ∀ (m b : Nat), tree n b m → b ≤ e → e < b + m → b + m ≤ n → Ch n (e + 1) (b + m) (rgt b m e) := by
  refine way_ind (fun b m h _ _ _ => ?_) (fun b m h t _ k hn ih => ?_) (fun b m h _ _ k _ _ ih => ?_)
  · rw [rgt_one h]; show e + 1 = b + m; omega
  · rw [rgt_low h k]
    refine ih.app ⟨rfl, half_high_isN h t hn, Nat.le_refl _, rfl⟩
  · rw [rgt_high h k]
    have := gp_lt h
    rw [show b + gp m + (m - gp m) = b + m by omega] at ih
    exact ih
theorem lft_mx {n e : Nat} (he : e < n) : ∀ (m b : Nat), tree n b m → b ≤ e → e < b + m → b + m ≤ n → Mx n 0 e (lft b m e) := by
  refine way_ind (fun b m h _ _ _ => ?_) (fun b m h _ _ k _ ih => ?_) (fun b m h t _ k k2 hn ih => ?_)
  · rw [lft_one h]; exact fun x hx => by cases hx
  · rw [lft_low h k]; exact ih
  · rw [lft_high h k]
    intro x hx
    rcases List.mem_cons.mp hx with rfl | hx
    · rintro ⟨p1, p2⟩ hp _ q2 q3 q4
      simp only at q2 q3 q4
      have g := gp_pos m
      obtain ⟨a1, a2, a3⟩ := isN_tree hp
      by_cases c : p1 < b
      · have := lam (n := n) (b := p1) (m := p2 - p1) (B := b) (M := m) a3 (by omega) t (by omega) hn c (by omega)
        omega
      · have e1 : p1 = b := by omega
        subst e1
        rcases node_in h t hn hp (Nat.le_refl _) (by show p2 ≤ p1 + m; omega) with z | z | z
        · have : p2 = p1 + m := congrArg Prod.snd z
          omega
        · simp only at z
          exact Prod.ext rfl (by show p2 = _; omega)
        · simp only at z
          omega
    · exact ih x hx
theorem rgt_mx {n e : Nat} : ∀ (m b : Nat), tree n b m → b ≤ e → e < b + m → b + m ≤ n → Mx n (e + 1) n (rgt b m e) := by
  refine way_ind (fun b m h _ _ _ => ?_) (fun b m h t hb k hn ih => ?_) (fun b m h _ _ k _ _ ih => ?_)
  · rw [rgt_one h]; exact fun x hx => by cases hx
  · rw [rgt_low h k]
    intro x hx
    rcases List.mem_append.mp hx with hx | hx
    · exact ih x hx
    · rw [List.mem_singleton] at hx
      subst hx
      rintro ⟨p1, p2⟩ hp q1 q2 q3 q4
      simp only at q1 q2 q3 q4
      have g := gp_lt h
      obtain ⟨a1, a2, a3⟩ := isN_tree hp
      have := lam (n := n) (b := b) (m := m) (B := p1) (M := p2 - p1) t (by omega) a3 hn (by omega) (by omega) (by omega)
      have e2 : p2 = b + m := by omega
      rcases node_in h t hn hp (by show b ≤ p1; omega) (by show p2 ≤ b + m; omega) with z | z | z
      · have : p1 = b := congrArg Prod.fst z
        omega
      · simp only at z
        omega
      · simp only at z
        exact Prod.ext (by show p1 = _; omega) (by show p2 = _; omega)
  · rw [rgt_high h k]; exact ih
/-- what lies ahead of an entry, and behind it -/
theorem nw_lft {n e : Nat} (h : e < n) : nw n 0 e = lft 0 n e := by
  have r := tree_root n
  exact nw_unique (n := n) (hi := e) (lo0 := 0) (by omega) _ _ 0 (Nat.le_refl _) (nw_ch (by omega) 0 (by omega)) (lft_ch n 0 r (by omega) (by omega) (by omega)) (nw_max (by omega) (by omega)) (lft_mx h n 0 r (by omega) (by omega) (by omega))
theorem nw_rgt {n e : Nat} (h : e < n) : nw n (e + 1) n = rgt 0 n e := by
  have r := tree_root n
  have c := rgt_ch (e := e) n 0 r (by omega) (by omega) (by omega)
  rw [Nat.zero_add] at c
  exact nw_unique (n := n) (hi := n) (lo0 := e + 1) (Nat.le_refl _) _ _ (e + 1) (Nat.le_refl _) (nw_ch (Nat.le_refl _) (e + 1) (by omega)) c (nw_max (Nat.le_refl _) (by omega)) (rgt_mx n 0 r (by omega) (by omega) (by omega))
theorem nw_single {n e : Nat} (h : e < n) : (nw n 0 e).length + (nw n (e + 1) n).length = (sib 0 n e).length := by
  rw [nw_lft h, nw_rgt h]
  exact sides_len n 0 (tree_root n) (by omega) (by omega) (by omega)
/-! ### peaks -/
theorem pk_ch {n e : Nat} (he : e ≤ n) : ∀ (i b : Nat), 2 ^ i ∣ b → b + e % 2 ^ i = e → Ch n b e ((pk i e b).map full)
  | 0, b, _, h => by rw [Nat.pow_zero, Nat.mod_one] at h; exact h
  | i + 1, b, d, h => by
    rw [mod_succ] at h
    have d' : 2 ^ i ∣ b := Nat.dvd_trans (Nat.pow_dvd_pow 2 (Nat.le_succ i)) d
    show Ch n b e ((if e.testBit i = true then (b, i) :: pk i e (b + 2 ^ i) else pk i e b).map full)
    by_cases t : e.testBit i = true
    · rw [if_pos t] at h ⊢
      refine ⟨rfl, (show isN n (b, b + 2 ^ i) from full_isN (by omega) d'), ?_, pk_ch he i (b + 2 ^ i) (Nat.dvd_add d' (Nat.dvd_refl _)) (by omega)⟩
      show b + 2 ^ i ≤ e
      omega
    · rw [if_neg t] at h ⊢
      exact pk_ch he i b d' (by omega)
theorem pk_mx {n e : Nat} (he : e < n) : ∀ (i b : Nat), 2 ^ i ∣ b → b + e % 2 ^ i = e → Mx n 0 e ((pk i e b).map full)
  | 0, b, _, h => fun x hx => by cases hx
  | i + 1, b, d, h => by
    have ml := Nat.mod_lt e (Nat.pow_pos (a := 2) (n := i + 1) (by decide))
    have hh := h
    rw [mod_succ] at h
    have d' : 2 ^ i ∣ b := Nat.dvd_trans (Nat.pow_dvd_pow 2 (Nat.le_succ i)) d
    show Mx n 0 e ((if e.testBit i = true then (b, i) :: pk i e (b + 2 ^ i) else pk i e b).map full)
    by_cases t : e.testBit i = true
    · rw [if_pos t] at h ⊢
      intro x hx
      rw [List.map_cons] at hx
      rcases List.mem_cons.mp hx with rfl | hx
      · rintro ⟨p1, p2⟩ hp _ q2 q3 q4
        have q3 : p1 ≤ b := q3
        have q4 : b + 2 ^ i ≤ p2 := q4
        simp only at q2
        have pz := Nat.pow_pos (a := 2) (n := i) (by decide)
        obtain ⟨a1, a2, a3, a4⟩ := isN_tree hp
        have a5 : p2 - p1 = 2 ^ lb (p2 - p1) := by
          rcases a4 with a4 | a4
          · exact a4
          · omega
        by_cases c : i < lb (p2 - p1)
        · have m1 := Nat.pow_le_pow_right (n := 2) (by decide) (show i + 1 ≤ lb (p2 - p1) from c)
          have m2 := mul_le_of_lt (R := 2 ^ (i + 1)) d (Nat.dvd_add (Nat.dvd_trans (Nat.pow_dvd_pow 2 (show i + 1 ≤ lb (p2 - p1) from c)) a3) (Nat.pow_dvd_pow 2 (show i + 1 ≤ lb (p2 - p1) from c))) (show b < p1 + 2 ^ lb (p2 - p1) by omega)
          omega
        · have m1 := Nat.pow_le_pow_right (n := 2) (by decide) (show lb (p2 - p1) ≤ i by omega)
          exact Prod.ext (by show p1 = b; omega) (by show p2 = b + 2 ^ i; omega)
      · exact pk_mx he i (b + 2 ^ i) (Nat.dvd_add d' (Nat.dvd_refl _)) (by omega) x hx
    · rw [if_neg t] at h ⊢
      exact pk_mx he i b d' (by omega)
theorem nw_pk {n e : Nat} (h : e < n) (h100 : e < 2 ^ 101) : nw n 0 e = (pk 101 e 0).map full := by
  have em : 0 + e % 2 ^ 101 = e := by rw [Nat.mod_eq_of_lt h100, Nat.zero_add]
  exact nw_unique (n := n) (hi := e) (lo0 := 0) (by omega) _ _ 0 (Nat.le_refl _) (nw_ch (by omega) 0 (by omega)) (pk_ch (by omega) 101 0 (Nat.dvd_zero _) em) (nw_max (by omega) (by omega)) (pk_mx h 101 0 (Nat.dvd_zero _) em)
theorem pk_even : ∀ (i c b b' : Nat), (pk (i + 1) (2 * c) b).length = (pk i c b').length
  | 0, c, b, b' => by
    show (if (2 * c).testBit 0 = true then _ else _ : List (Nat × Nat)).length = 0
    have : (2 * c).testBit 0 = false := by simp
    rw [this]
    rfl
  | i + 1, c, b, b' => by
    show (if (2 * c).testBit (i + 1) = true then (b, i + 1) :: pk (i + 1) (2 * c) (b + 2 ^ (i + 1)) else pk (i + 1) (2 * c) b).length = (if c.testBit i = true then (b', i) :: pk i c (b' + 2 ^ i) else pk i c b').length
    rw [Nat.testBit_succ, show 2 * c / 2 = c by omega]
    by_cases t : c.testBit i = true
    · rw [if_pos t, if_pos t, List.length_cons, List.length_cons, pk_even i c _ (b' + 2 ^ i)]
    · rw [if_neg t, if_neg t, pk_even i c b b']
theorem pk_odd : ∀ (i c b b' : Nat), (pk (i + 1) (2 * c + 1) b).length = (pk i c b').length + 1
  | 0, c, b, b' => by
    show (if (2 * c + 1).testBit 0 = true then (b, 0) :: ([] : List (Nat × Nat)) else []).length = 0 + 1
    have : (2 * c + 1).testBit 0 = true := by simp
    rw [this]
    rfl
  | i + 1, c, b, b' => by
    show (if (2 * c + 1).testBit (i + 1) = true then (b, i + 1) :: pk (i + 1) (2 * c + 1) (b + 2 ^ (i + 1)) else pk (i + 1) (2 * c + 1) b).length = (if c.testBit i = true then (b', i) :: pk i c (b' + 2 ^ i) else pk i c b').length + 1
    rw [Nat.testBit_succ, show (2 * c + 1) / 2 = c by omega]
    by_cases t : c.testBit i = true
    · rw [if_pos t, if_pos t, List.length_cons, List.length_cons, pk_odd i c _ (b' + 2 ^ i)]
    · rw [if_neg t, if_neg t, pk_odd i c b b']
theorem pow_dvd_odd {k c : Nat} (h : 2 ^ k ∣ 2 * c + 1) : k = 0 := by
  cases k with
  | zero => rfl
  | succ k =>
    have := Nat.dvd_trans (⟨2 ^ k, by rw [Nat.pow_succ, Nat.mul_comm]⟩ : 2 ∣ 2 ^ (k + 1)) h
    omega
theorem pk_pred : ∀ (i e k b b' : Nat), 0 < e → e < 2 ^ i → 2 ^ k ∣ e → ¬ 2 ^ (k + 1) ∣ e → (pk i e b).length + k = (pk i (e - 1) b').length + 1
  | 0, e, k, _, _, h, h2, _, _ => by simp at h2; omega
  | i + 1, e, k, b, b', h, h2, d1, d2 => by
    rcases Nat.mod_two_eq_zero_or_one e with z | z
    · obtain ⟨c, rfl⟩ : ∃ c, e = 2 * c := ⟨e / 2, by omega⟩
      have kp : k ≠ 0 := fun y => d2 (by rw [y]; exact ⟨c, by simp⟩)
      obtain ⟨j, rfl⟩ : ∃ j, k = j + 1 := ⟨k - 1, by omega⟩
      rw [Nat.pow_succ] at h2
      have ih := pk_pred i c j 0 0 (by omega) (by omega) (by rw [Nat.pow_succ, Nat.mul_comm] at d1; exact Nat.dvd_of_mul_dvd_mul_left (by decide) d1) (fun y => d2 (by rw [Nat.pow_succ, Nat.mul_comm]; exact Nat.mul_dvd_mul_left 2 y))
      rw [show 2 * c - 1 = 2 * (c - 1) + 1 by omega, pk_even i c b 0, pk_odd i (c - 1) b' 0]
      omega
    · obtain ⟨c, rfl⟩ : ∃ c, e = 2 * c + 1 := ⟨e / 2, by omega⟩
      have := pow_dvd_odd d1
      subst this
      rw [show 2 * c + 1 - 1 = 2 * c by omega, pk_odd i c b 0, pk_even i c b' 0]
theorem lb_big {n : Nat} (h : 2 ≤ n) : lb n = Nat.log2 (n - 1) + 1 := by unfold lb; rw [if_neg (by omega)]
end LT

namespace LT
open PySem PySem.Spec PyProof.Rows L2
/-! ### lists of ints as data -/
theorem ints_lay : ∀ ns : List Int, PyData.canLayAll0 (ns.map PyData.int) = true
  | [] => by simp [PyData.canLayAll0]
  | n :: ns => by simp [PyData.canLayAll0, PyData.canLay0, ints_lay ns]
theorem ints_depth : ∀ ns : List Int, PyData.depthAll (ns.map PyData.int) ≤ 1
  | [] => by simp [PyData.depthAll]
  | n :: ns => by
    have := ints_depth ns
    simp only [List.map_cons, PyData.depthAll, PyData.depth]
    omega
theorem ints_shaped (ns : List Int) : SeqAt.shaped (.list (ns.map PyData.int)) = true := by
  have h := ints_depth ns
  have h2 : PyData.depth (.list (ns.map PyData.int)) ≤ 64 := by
    simp only [PyData.depth]
    omega
  show (PyData.canLay0 (.list (ns.map PyData.int)) && decide (PyData.depth (.list (ns.map PyData.int)) ≤ 64)) = true
  rw [Bool.and_eq_true]
  exact ⟨by simp only [PyData.canLay0]; exact ints_lay ns, decide_eq_true h2⟩
theorem ints_dp {K : PySem.W.Frag} {H : Hp} : ∀ ns : List Int, DpAll K H (ns.map V.int) (ns.map PyData.int)
  | [] => .nil
  | n :: ns => .cons (.int n) (ints_dp ns)
theorem ints_nil : ∀ ns : List Int, PyData.eqv (.list (ns.map PyData.int)) (.list []) = ns.isEmpty
  | [] => by simp only [List.map_nil, PyData.eqv, PyData.eqvAll, List.isEmpty_nil]
  | n :: ns => by simp only [List.map_cons, PyData.eqv, PyData.eqvAll, List.isEmpty_cons]
theorem nil_shaped : SeqAt.shaped (.list []) = true := ints_shaped []
end LT

namespace LT
open PySem PySem.Spec PyProof.Rows L2
def nd (x : Nat × Nat) : PyData := .tuple [.int x.1, .int x.2]
theorem nds_lay : ∀ l : List (Nat × Nat), PyData.canLayAll0 (l.map nd) = true
  | [] => by simp [PyData.canLayAll0]
  | x :: l => by simp [PyData.canLayAll0, nd, PyData.canLay0, nds_lay l]
theorem nds_depth : ∀ l : List (Nat × Nat), PyData.depthAll (l.map nd) ≤ 2
  | [] => by simp [PyData.depthAll]
  | x :: l => by
    have := nds_depth l
    simp only [List.map_cons, PyData.depthAll, nd, PyData.depth]
    omega
theorem nds_shaped (l : List (Nat × Nat)) : SeqAt.shaped (.list (l.map nd)) = true := by
  have h := nds_depth l
  have h2 : PyData.depth (.list (l.map nd)) ≤ 64 := by
    simp only [PyData.depth]
    omega
  show (PyData.canLay0 (.list (l.map nd)) && decide (PyData.depth (.list (l.map nd)) ≤ 64)) = true
  rw [Bool.and_eq_true]
  exact ⟨by simp only [PyData.canLay0]; exact nds_lay l, decide_eq_true h2⟩
theorem nds_dp {K : PySem.W.Frag} {H : Hp} : ∀ {vs : List V} {l : List (Nat × Nat)}, All2 (Nd H) vs l → DpAll K H vs (l.map nd)
  | _, _, .nil => .nil
  | _, _, .cons h t => .cons h.dp (nds_dp t)
theorem nds_any (l : List (Nat × Nat)) (x : Nat × Nat) : (l.map nd).any (fun z => PyData.eqv z (.tuple [.int x.1, .int x.2])) = decide (x ∈ l) := by
  induction l with
  | nil => simp
  | cons y l ih =>
    rw [List.map_cons, List.any_cons, ih]
    show (PyData.eqv (.tuple [.int y.1, .int y.2]) _ || _) = _
    rw [nd_eqv]
    by_cases c : x = y
    · subst c
      simp
    · have e : (decide ((y.1 : Int) = (x.1 : Int)) && decide ((y.2 : Int) = (x.2 : Int))) = false := by
        rw [Bool.and_eq_false_iff]
        by_cases c1 : y.1 = x.1
        · right
          refine decide_eq_false (fun z => c (Prod.ext c1.symm ?_))
          omega
        · left
          exact decide_eq_false (fun z => c1 (by omega))
      rw [e, Bool.false_or]
      simp [c]
end LT

namespace LT
open PySem PySem.Spec PyProof.Rows L2
theorem ndt_shaped (l : List (Nat × Nat)) : SeqAt.shaped (.tuple (l.map nd)) = true := by
  have h := nds_depth l
  have h2 : PyData.depth (.tuple (l.map nd)) ≤ 64 := by
    simp only [PyData.depth]
    omega
  show (PyData.canLay0 (.tuple (l.map nd)) && decide (PyData.depth (.tuple (l.map nd)) ≤ 64)) = true
  rw [Bool.and_eq_true]
  exact ⟨by simp only [PyData.canLay0]; exact nds_lay l, decide_eq_true h2⟩
theorem tup_dp {K : PySem.W.Frag} {H : Hp} {p : Addr} {vs : List V} {l : List (Nat × Nat)} (h : H p = some (.tup vs)) (k : All2 (Nd H) vs l) : Dp K H (.ref p) (.tuple (l.map nd)) := .tup (SqT.of h) (nds_dp k)
theorem lst_dp {K : PySem.W.Frag} {H : Hp} {p : Addr} {vs : List V} {l : List (Nat × Nat)} (h : H p = some (.lst vs)) (k : All2 (Nd H) vs l) : Dp K H (.ref p) (.list (l.map nd)) := .lst (SqL.of h) (nds_dp k)
end LT

namespace LT
open PySem PySem.Spec PyProof.Rows L2
section
variable {P : Program} {w : World} {K : PySem.W.Frag} {mg : Str → Option Value} {base : Heap}
/-! ### walking an enumerate -/
theorem for_enum {a : Addr} {xs : List V} {g : TG} {tb : TS} {D : Ends} {σ : L2.St} {H : Hp} (Pv : Nat → L2.St → Hp → Prop) (h0 : Pv 0 σ H) (hl : ∀ i σ H, i ≤ xs.length → Pv i σ H → SqL K H a xs)
    (hs : ∀ i x σ H T, xs[i]? = some x → Pv i σ H → H T = none → g (.ref T) σ (upd H T (.tup [.int (i : Nat), x])) fun σ2 H2 => tb { D with nx := Pv (i + 1), ct := Pv (i + 1), bk := D.nx } σ2 H2) (hd : ∀ σ H, Pv xs.length σ H → D.nx σ H) :
    ∃ W : Nat → Nat → L2.St → Hp → Prop, (∃ m, W 0 m σ H) ∧ ∀ i m σ H, W i m σ H →
      ((Ite K a).stop i H ∧ D.nx σ H) ∨ ((Ite K a).go i H ∧ ∃ N : L2.St → Hp → Prop, (∀ σ' H', N σ' H' → ∃ m', m' < m ∧ W (i + 1) m' σ' H') ∧ ∀ x H', (Ite K a).yld i H x H' → g x σ H' fun σ2 H2 => tb { D with nx := N, ct := N, bk := D.nx } σ2 H2) := by
  refine ⟨fun i m σ H => m = xs.length - i ∧ i ≤ xs.length ∧ Pv i σ H, ⟨xs.length, by simp, Nat.zero_le _, h0⟩, ?_⟩
  rintro i m σ H ⟨rfl, hi, p⟩
  have q := hl i σ H hi p
  by_cases hlt : i < xs.length
  · refine .inr ⟨⟨xs, xs[i], q, by simp [hlt]⟩, Pv (i + 1), fun σ' H' p' => ⟨xs.length - (i + 1), by omega, rfl, hlt, p'⟩, fun x H' y => ?_⟩
    obtain ⟨T, x1, rfl, nT, rfl, f⟩ := y
    exact hs i x1 σ H T (f xs q) p nT
  · have e : i = xs.length := by omega
    subst e
    exact .inl ⟨⟨xs, q, Nat.le_refl _⟩, hd σ H p⟩
end
end LT

namespace LT
open PySem PySem.Spec PyProof.Rows L2
/-- spans, each one at or behind the end of the one ahead -/
def So (n : Nat) : Nat → List (Nat × Nat) → Prop
  | lo, [] => lo ≤ n
  | lo, x :: l => lo ≤ x.1 ∧ x.1 < x.2 ∧ x.2 ≤ n ∧ So n x.2 l
theorem So.le {n : Nat} : ∀ {lo : Nat} {l : List (Nat × Nat)}, So n lo l → lo ≤ n
  | _, [], h => h
  | _, _ :: _, ⟨h1, h2, h3, _⟩ => by omega
theorem So.mem {n : Nat} : ∀ {lo : Nat} {l : List (Nat × Nat)}, So n lo l → ∀ x ∈ l, lo ≤ x.1 ∧ x.1 < x.2 ∧ x.2 ≤ n
  | lo, y :: l, ⟨h1, h2, h3, h4⟩, x, hx => by
    rcases List.mem_cons.mp hx with rfl | hx
    · exact ⟨h1, h2, h3⟩
    · obtain ⟨k1, k2, k3⟩ := So.mem h4 x hx
      exact ⟨by omega, k2, k3⟩
/-- the needed nodes -/
def nl (n : Nat) : Nat → List (Nat × Nat) → List (Nat × Nat)
  | lo, [] => nw n lo n
  | lo, x :: l => nw n lo x.1 ++ nl n x.2 l
section
variable {P : Program} {w : World} {K : PySem.W.Frag} {mg : Str → Option Value} {base : Heap}
def spListOf : Sp := fun vs H Q _ => ∃ (p : Addr) (xs : List V) (lo hi : Nat), vs = [.ref p, .int lo, .int hi] ∧ H p = some (.lst xs) ∧ lo ≤ xs.length ∧ xs.length ≤ hi ∧ Q (.bl true) H
theorem ok_is_list_of {f : Addr} {fd : FuncData} (F : Fun K "is_list_of" "is_list_of" sIsListOf f fd) (z_isinstance : mg "isinstance" = none) (z_list : mg "list" = none) (z_len : mg "len" = none) : FnOk P w K mg base CX0 1 f fd ["value", "least", "most"] spListOf := by
  refine F.ok scIsListOf (fun vs H Q E h => ?_) (fun cdv A outer s H vs Q E hr h => ?_)
  · obtain ⟨_, _, _, _, rfl, _⟩ := h
    rfl
  obtain ⟨p, xs, lo, hi, rfl, hp, h1, h2, q⟩ := h
  refine ⟨_, (pss_one (ps_ret (pe_and (pe_callB call_isi (by rfl) z_isinstance (by decide +kernel) (pa_cons (pv 0) (pa_cons (pe_bltn (v := .ty "list") (u := .type "list") (by rfl) z_list (by decide +kernel) rfl) pa_nil))) (pe_one (pe_chain op_le op_le (pv 1) (pe_callB call_len_seq (by rfl) z_len PySem.boot_len (pa_cons (pv 0) pa_nil)) (pv 2)))))), ?_⟩
  refine ⟨_, rfl, _, _, _, _, true, rfl, .ty "list", .base (.lst hp), kit_ty (by decide +kernel), true, rfl, ?_⟩
  refine ⟨_, rfl, _, rfl, p, xs, rfl, .inl (SqL.of hp), _, _, rfl, rfl, true, congrArg V.bl (decide_eq_true (by omega)), _, rfl, _, _, rfl, rfl, ?_⟩
  show Q (.bl (decide (((xs.length : Nat) : Int) ≤ (hi : Int)))) H
  rw [decide_eq_true (show ((xs.length : Nat) : Int) ≤ (hi : Int) by omega)]
  exact q
def spSpanFrom : Sp := fun vs H Q _ => ∃ (n lo : Nat) (v : V) (x : Nat × Nat), vs = [.int n, v, .int lo] ∧ Nd H v x ∧ lo ≤ x.1 ∧ x.1 < x.2 ∧ x.2 ≤ n ∧ Q (.bl true) H
theorem ok_is_span_from {f g : Addr} {fd gd : FuncData} (F : Fun K "is_span_from" "is_span_from" sIsSpanFrom f fd) (GIsBetween : FnOk P w K mg base CX0 2 g gd ["value", "low", "high"] spBetween) (AIsBetween : At K mg "is_between" g gd ["value", "low", "high"])
    (z_isinstance : mg "isinstance" = none) (z_tuple : mg "tuple" = none) (z_len : mg "len" = none) : FnOk P w K mg base CX0 3 f fd ["size", "value", "least"] spSpanFrom := by
  refine F.ok scIsSpanFrom (fun vs H Q E h => ?_) (fun cdv A outer s H vs Q E hr h => ?_)
  · obtain ⟨_, _, _, _, rfl, _⟩ := h
    rfl
  obtain ⟨n, lo, v, x, rfl, ⟨p, rfl, hp⟩, h1, h2, h3, q⟩ := h
  refine ⟨_, (pss_cons (ps_if (PW.pt (pw_or (pt_not (pt_val (pe_callB call_isi (by rfl) z_isinstance (by decide +kernel) (pa_cons (pv 1) (pa_cons (pe_bltn (v := .ty "tuple") (u := .type "tuple") (by rfl) z_tuple (by decide +kernel) rfl) pa_nil))))) (pw_or1 (pt_cmpR op_ne (pe_callB call_len_seq (by rfl) z_len PySem.boot_len (pa_cons (pv 1) pa_nil)) pe_int (nomark _)))))
    (pss_one (ps_ret pe_bl))
    pss_nil)
    (pss_cons (ps_asg (pv 1) (pg_tup (by rfl) (pgs_cons (pg_name (i := 3) scIsSpanFrom.nd rfl (Or.inl rfl)) (pgs_cons (pg_name (i := 4) scIsSpanFrom.nd rfl (Or.inl rfl)) pgs_nil))))
    (pss_one (ps_ret (pe_and (pe_call GIsBetween (hr.mono (by decide)) rfl AIsBetween.m AIsBetween.kp AIsBetween.b .nil pass0 (pa_cons (pv 3) (pa_cons (pv 2) (pa_cons (pe_op op_sub (pv 0) pe_int) pa_nil)))) (pe_one (pe_call GIsBetween (hr.mono (by decide)) rfl AIsBetween.m AIsBetween.kp AIsBetween.b .nil pass0 (pa_cons (pv 4) (pa_cons (pe_op op_add (pv 3) pe_int) (pa_cons (pv 0) pa_nil)))))))))), ?_⟩
  refine ⟨_, rfl, _, _, _, _, true, rfl, .ty "tuple", .base (.tup hp), kit_ty (by decide +kernel), true, rfl, ?_⟩
  refine ⟨_, rfl, p, _, rfl, .inr (SqT.of hp), rfl, false, rfl, ?_⟩
  refine ⟨_, rfl, p, _, rfl, SqT.of hp, rfl, _, _, rfl, _, _, rfl, rfl, ?_⟩
  refine ⟨_, rfl, _, rfl, _, rfl, _, _, rfl, rfl, _, _, _, rfl, true, ?_, ?_⟩
  · exact congrArg V.bl (by rw [Bool.and_eq_true]; exact ⟨decide_eq_true (by omega), decide_eq_true (by omega)⟩)
  refine ⟨_, rfl, _, rfl, _, _, rfl, rfl, _, rfl, _, _, _, rfl, ?_⟩
  have e : (decide ((x.1 : Int) + 1 ≤ (x.2 : Int)) && decide ((x.2 : Int) ≤ (n : Int))) = true := by
    rw [Bool.and_eq_true]
    exact ⟨decide_eq_true (by omega), decide_eq_true (by omega)⟩
  show Q (.bl (decide ((x.1 : Int) + 1 ≤ (x.2 : Int)) && decide ((x.2 : Int) ≤ (n : Int)))) H
  rw [e]
  exact q
def spCheckSpans : Sp := fun vs H Q _ => ∃ (n : Nat) (p : Addr) (xs : List V) (S : List (Nat × Nat)), vs = [.int n, .ref p] ∧ H p = some (.lst xs) ∧ All2 (Nd H) xs S ∧ 1 ≤ S.length ∧ S.length ≤ 12 ∧ So n 0 S ∧ ∀ H', Same H H' → Q .non H'
theorem ok_check_spans {f g1 g2 : Addr} {fd d1 d2 : FuncData} {t : Tok} (F : Fun K "check_spans" "check_spans" sCheckSpans f fd) (GIsListOf : FnOk P w K mg base CX0 1 g1 d1 ["value", "least", "most"] spListOf) (AIsListOf : At K mg "is_list_of" g1 d1 ["value", "least", "most"])
    (GIsSpanFrom : FnOk P w K mg base CX0 3 g2 d2 ["size", "value", "least"] spSpanFrom) (AIsSpanFrom : At K mg "is_span_from" g2 d2 ["size", "value", "least"]) (g_MOST_SPANS : mg "MOST_SPANS" = some (.int 12 t)) (z_enumerate : mg "enumerate" = none) : FnOk P w K mg base CX0 4 f fd ["size", "spans"] spCheckSpans := by
  refine F.ok scCheckSpans (fun vs H Q E h => ?_) (fun cdv A outer s H vs Q E hr h => ?_)
  · obtain ⟨_, _, _, _, rfl, _⟩ := h
    rfl
  obtain ⟨n, p, xs, S, rfl, hp, hx, l1, l12, hS, q⟩ := h
  refine ⟨_, (pss_cons (ps_if (pt_not (pt_val (pe_call GIsListOf (hr.mono (by decide)) rfl AIsListOf.m AIsListOf.kp AIsListOf.b .nil pass0 (pa_cons (pv 1) (pa_cons pe_int (pa_cons (pe_glob (v := .int 12) rfl g_MOST_SPANS ⟨_, rfl⟩) pa_nil))))))
    (pss_one ps_never)
    pss_nil)
    (pss_cons (ps_set (i := 2) scCheckSpans.nd rfl (Or.inl rfl) pe_int)
    (pss_one (ps_for PassesOwn.never rfl (pi_enum (by rfl) z_enumerate (pa_cons (pv 1) pa_nil)) (pg_tup (by rfl) (pgs_cons (pg_name (i := 3) scCheckSpans.nd rfl (Or.inl rfl)) (pgs_cons (pg_name (i := 4) scCheckSpans.nd rfl (Or.inl rfl)) pgs_nil)))
    (pss_cons (ps_if (pt_not (pt_val (pe_call GIsSpanFrom (hr.mono (by decide)) rfl AIsSpanFrom.m AIsSpanFrom.kp AIsSpanFrom.b .nil pass0 (pa_cons (pv 0) (pa_cons (pv 4) (pa_cons (pv 2) pa_nil))))))
    (pss_one ps_never)
    pss_nil)
    (pss_one (ps_set (i := 2) scCheckSpans.nd rfl (Or.inl rfl) (pe_ix ix_tup (pv 4) pe_int (fun _ _ => rfl))))))))), ?_⟩
  have xl := hx.len
  refine ⟨_, rfl, p, xs, 1, 12, rfl, hp, by omega, by omega, true, rfl, ?_⟩
  refine ⟨_, rfl, p, xs, rfl, SqL.of hp, ?_⟩
  refine for_enum (a := p) (xs := xs) (fun i σ H' => ∃ (lo : Nat) (v3 v4 : Option V), σ = [some (.int (n : Int)), some (.ref p), some (.int (lo : Int)), v3, v4] ∧ Same H H' ∧ So n lo (S.drop i))
    ⟨0, none, none, rfl, Same.refl _, hS⟩ (fun i σ H' _ ⟨_, _, _, _, sm, _⟩ => SqL.of (sm _ _ hp)) ?_ ?_
  · rintro i x σ H2 T hi ⟨lo, v3, v4, rfl, sm, hs⟩ nT
    obtain ⟨y, hyi, hy⟩ := hx.nth hi
    have hdr : S.drop i = y :: S.drop (i + 1) := by
      obtain ⟨hl, hxe⟩ := List.getElem?_eq_some_iff.mp hyi
      rw [List.drop_eq_getElem_cons hl, hxe]
    rw [hdr] at hs
    obtain ⟨k1, k2, k3, k4⟩ := hs
    have sT := same_upd (o := .tup [.int ((i : Nat) : Int), x]) nT
    have hy2 := (hy.same sm).same sT
    obtain ⟨yp, rfl, hyp⟩ := id hy2
    refine ⟨T, _, rfl, SqT.of upd_same, rfl, _, _, rfl, _, _, rfl, rfl, ?_⟩
    refine ⟨_, rfl, _, rfl, _, rfl, n, lo, _, y, rfl, hy2, k1, k2, k3, true, rfl, ?_⟩
    refine ⟨_, rfl, yp, _, _, _, rfl, rfl, SqT.of hyp, atI_nat (j := 1) rfl, ?_⟩
    exact ⟨y.2, _, _, rfl, sm.trans sT, k4⟩
  · rintro σ H2 ⟨lo, v3, v4, rfl, sm, hs⟩
    exact q H2 sm
end
end LT

namespace LT
open PySem PySem.Spec PyProof.Rows L2
section
variable {P : Program} {w : World} {K : PySem.W.Frag} {mg : Str → Option Value} {base : Heap}
def spCheckSpan : Sp := fun vs H Q _ => ∃ n b e : Nat, vs = [.int n, .int b, .int e] ∧ b < e ∧ e ≤ n ∧ Q .non H
theorem ok_check_span {f g : Addr} {fd gd : FuncData} (F : Fun K "check_span" "check_span" sCheckSpan f fd) (GIsBetween : FnOk P w K mg base CX0 2 g gd ["value", "low", "high"] spBetween) (AIsBetween : At K mg "is_between" g gd ["value", "low", "high"]) : FnOk P w K mg base CX0 3 f fd ["size", "begin", "end"] spCheckSpan := by
  refine F.ok scCheckSpan (fun vs H Q E h => ?_) (fun cdv A outer s H vs Q E hr h => ?_)
  · obtain ⟨_, _, _, rfl, _⟩ := h
    rfl
  obtain ⟨n, b, e, rfl, h1, h2, q⟩ := h
  refine ⟨_, (pss_cons (ps_if (pt_not (pt_val (pe_call GIsBetween (hr.mono (by decide)) rfl AIsBetween.m AIsBetween.kp AIsBetween.b .nil pass0 (pa_cons (pv 1) (pa_cons pe_int (pa_cons (pe_op op_sub (pv 0) pe_int) pa_nil))))))
    (pss_one ps_never)
    pss_nil)
    (pss_one (ps_if (pt_not (pt_val (pe_call GIsBetween (hr.mono (by decide)) rfl AIsBetween.m AIsBetween.kp AIsBetween.b .nil pass0 (pa_cons (pv 2) (pa_cons (pe_op op_add (pv 1) pe_int) (pa_cons (pv 0) pa_nil))))))
    (pss_one ps_never)
    pss_nil))), ?_⟩
  refine ⟨_, rfl, _, rfl, _, _, rfl, rfl, _, _, _, rfl, true, ?_, ?_⟩
  · exact congrArg V.bl (by rw [Bool.and_eq_true]; exact ⟨decide_eq_true (by omega), decide_eq_true (by show (b : Int) ≤ n - 1; omega)⟩)
  refine ⟨_, rfl, _, rfl, _, _, rfl, rfl, _, rfl, _, _, _, rfl, true, ?_, ?_⟩
  · exact congrArg V.bl (by rw [Bool.and_eq_true]; exact ⟨decide_eq_true (by show (b : Int) + 1 ≤ (e : Int); omega), decide_eq_true (by show (e : Int) ≤ n; omega)⟩)
  exact q
end
end LT

namespace LT
open PySem PySem.Spec PyProof.Rows L2
def cst (x : Nat × Nat) : Int × Int := (x.1, x.2)
theorem lex_anti (x y : Int × Int) (h1 : SrtO.lexB y x = false) (h2 : SrtO.lexB x y = false) : x = y := by
  unfold SrtO.lexB at h1 h2
  by_cases c : x.1 = y.1
  · rw [if_pos c.symm] at h1
    rw [if_pos c] at h2
    have := of_decide_eq_false h1
    have := of_decide_eq_false h2
    exact Prod.ext c (by omega)
  · rw [if_neg (fun z => c z.symm)] at h1
    rw [if_neg c] at h2
    have := of_decide_eq_false h1
    have := of_decide_eq_false h2
    omega
/-- the key of a pair in the heap -/
def kOf (H : Hp) : V → Int × Int
  | .ref a => match H a with
    | some (.tup [.int i, .int j]) => (i, j)
    | _ => (0, 0)
  | _ => (0, 0)
theorem kOf_nd {H : Hp} {v : V} {x : Nat × Nat} (h : Nd H v x) : kOf H v = cst x := by
  obtain ⟨p, rfl, q⟩ := h
  unfold kOf
  simp only [q]
  rfl
theorem keys_of {H : Hp} : ∀ {vs : List V} {l : List (Nat × Nat)}, All2 (Nd H) vs l → vs.map (kOf H) = l.map cst
  | _, _, .nil => rfl
  | _, _, .cons h t => by rw [List.map_cons, List.map_cons, kOf_nd h, keys_of t]
theorem cst_inj {x y : Nat × Nat} (h : cst x = cst y) : x = y := by
  have h1 := congrArg Prod.fst h
  have h2 := congrArg Prod.snd h
  unfold cst at h1 h2
  simp only at h1 h2
  exact Prod.ext (by omega) (by omega)
theorem of_keys {H : Hp} : ∀ (vs : List V) (l : List (Nat × Nat)), vs.map (kOf H) = l.map cst → (∀ v ∈ vs, ∃ x, Nd H v x) → All2 (Nd H) vs l
  | [], [], _, _ => .nil
  | [], y :: l, h, _ => by cases h
  | v :: vs, [], h, _ => by cases h
  | v :: vs, y :: l, h, k => by
    rw [List.map_cons, List.map_cons, List.cons.injEq] at h
    obtain ⟨x, hx⟩ := k v List.mem_cons_self
    have e : x = y := cst_inj (by rw [← kOf_nd hx]; exact h.1)
    subst e
    exact .cons hx (of_keys vs l h.2 fun u hu => k u (List.mem_cons_of_mem _ hu))
theorem All2.mem {α : Type} {R : V → α → Prop} : ∀ {vs : List V} {xs : List α} {v : V}, All2 R vs xs → v ∈ vs → ∃ x, x ∈ xs ∧ R v x
  | _, _, _, .cons h t, m => by
    rcases List.mem_cons.mp m with rfl | m
    · exact ⟨_, List.mem_cons_self, h⟩
    · obtain ⟨x, k1, k2⟩ := All2.mem t m
      exact ⟨x, List.mem_cons_of_mem _ k1, k2⟩
def leN (x y : Nat × Nat) : Bool := decide (x.1 < y.1) || (decide (x.1 = y.1) && decide (x.2 ≤ y.2))
theorem leN_iff {x y : Nat × Nat} : leN x y = true ↔ x.1 < y.1 ∨ (x.1 = y.1 ∧ x.2 ≤ y.2) := by
  unfold leN
  simp only [Bool.or_eq_true, Bool.and_eq_true, decide_eq_true_eq]
theorem leN_trans (a b c : Nat × Nat) (h1 : leN a b = true) (h2 : leN b c = true) : leN a c = true := by
  rw [leN_iff] at *
  omega
theorem leN_total (a b : Nat × Nat) : (leN a b || leN b a) = true := by
  rw [Bool.or_eq_true, leN_iff, leN_iff]
  omega
/-- the pairs in their order -/
def srt (l : List (Nat × Nat)) : List (Nat × Nat) := l.mergeSort leN
theorem srt_perm (l : List (Nat × Nat)) : (srt l).Perm l := List.mergeSort_perm l leN
theorem srt_pair (l : List (Nat × Nat)) : (srt l).Pairwise (fun x y => leN x y = true) := List.pairwise_mergeSort leN_trans leN_total l
theorem srt_len (l : List (Nat × Nat)) : (srt l).length = l.length := (srt_perm l).length_eq
theorem srt_mem {l : List (Nat × Nat)} {x : Nat × Nat} : x ∈ srt l ↔ x ∈ l := (srt_perm l).mem_iff
theorem leN_anti {x y : Nat × Nat} (h1 : leN x y = true) (h2 : leN y x = true) : x = y := by
  rw [leN_iff] at *
  exact Prod.ext (by omega) (by omega)
theorem srt_id {l : List (Nat × Nat)} (h : l.Pairwise (fun x y => leN x y = true)) : srt l = l :=
  List.Perm.eq_of_pairwise (le := fun x y => leN x y = true) (fun _ _ _ _ h1 h2 => leN_anti h1 h2) (srt_pair l) h (srt_perm l)
theorem srt_eq {l k : List (Nat × Nat)} (h : l.Perm k) : srt l = srt k :=
  List.Perm.eq_of_pairwise (le := fun x y => leN x y = true) (fun _ _ _ _ h1 h2 => leN_anti h1 h2) (srt_pair l) (srt_pair k) ((srt_perm l).trans (h.trans (srt_perm k).symm))
theorem lexB_of {x y : Nat × Nat} (h : leN x y = true) : SrtO.lexB (cst y) (cst x) = false := by
  rw [leN_iff] at h
  show (if ((y.1 : Nat) : Int) = ((x.1 : Nat) : Int) then decide (((y.2 : Nat) : Int) < ((x.2 : Nat) : Int)) else decide (((y.1 : Nat) : Int) < ((x.1 : Nat) : Int))) = false
  by_cases c : y.1 = x.1
  · rw [if_pos (by omega)]; exact decide_eq_false (by omega)
  · rw [if_neg (by omega)]; exact decide_eq_false (by omega)
theorem sorted_srt {H : Hp} {xs ys : List V} {l : List (Nat × Nat)} (hx : All2 (Nd H) xs l) (h : SrtO.Srtd (ltP (kOf H)) ys) (p : ys.Perm xs) : All2 (Nd H) ys (srt l) := by
  refine of_keys ys (srt l) ?_ (fun v hv => ?_)
  · have p1 := (p.map (kOf H))
    rw [keys_of hx] at p1
    refine List.Perm.eq_of_pairwise (le := fun x y => SrtO.lexB y x = false) (fun a b _ _ h1 h2 => lex_anti a b h1 h2) ?_ ?_ (p1.trans ((srt_perm l).map cst).symm)
    · exact List.pairwise_map.mpr h
    · exact List.pairwise_map.mpr ((srt_pair l).imp fun h => lexB_of h)
  · obtain ⟨x, _, k⟩ := hx.mem (p.mem_iff.mp hv)
    exact ⟨x, k⟩
end LT

namespace LT
open PySem PySem.Spec PyProof.Rows L2
/-- the greatest nodes beside stretches that ascend by their begins -/
def nb (n : Nat) : Nat → List (Nat × Nat) → List (Nat × Nat)
  | lo, [] => nw n lo n
  | lo, x :: l => nw n lo x.1 ++ nb n (max lo x.2) l
theorem nb_len {n : Nat} (h : n ≤ 2 ^ 100) : ∀ (l : List (Nat × Nat)) (lo : Nat), (∀ x ∈ l, x.1 ≤ n) → (nb n lo l).length ≤ 202 * (l.length + 1)
  | [], lo, _ => nw_len h
  | x :: l, lo, k => by
    have k1 := k x List.mem_cons_self
    have a := nw_len (n := n) (b := lo) (e := x.1) (by omega)
    have b := nb_len h l (max lo x.2) (fun y hy => k y (List.mem_cons_of_mem _ hy))
    show (nw n lo x.1 ++ nb n (max lo x.2) l).length ≤ 202 * (l.length + 1 + 1)
    rw [List.length_append]
    omega
theorem max_castB (a c : Nat) : (if ((c : Nat) : Int) > (a : Int) then (c : Int) else (a : Int)) = ((max a c : Nat) : Int) := by split <;> omega
section
variable {P : Program} {w : World} {K : PySem.W.Frag} {mg : Str → Option Value} {base : Heap}
def spBeside : Sp := fun vs H Q _ => ∃ (n : Nat) (p : Addr) (xs : List V) (S : List (Nat × Nat)), vs = [.int n, .ref p] ∧ 1 ≤ n ∧ n ≤ 10 ^ 30 ∧ H p = some (.lst xs) ∧ All2 (Nd H) xs S ∧ S.length ≤ 400 ∧ (∀ x ∈ S, x.1 ≤ n) ∧
  ∀ (H' : Hp) (r : Addr) (ys : List V), Same H H' → H r = none → H' r = some (.lst ys) → All2 (Nd H') ys (nb n 0 (srt S)) → Q (.ref r) H'
theorem ok_nodes_beside {f g3 : Addr} {fd d3 : FuncData} (F : Fun K "nodes_beside" "nodes_beside" sNodesBeside f fd)
    (GNodesWithin : FnOk P w K mg base CX0 4 g3 d3 ["size", "begin", "end"] spWithinX) (ANodesWithin : At K mg "nodes_within" g3 d3 ["size", "begin", "end"]) (z_sorted : mg "sorted" = none) (z_max : mg "max" = none) : FnOk P w K mg base CX0 5 f fd ["size", "stretches"] spBeside := by
  refine F.ok scNodesBeside (fun vs H Q E h => ?_) (fun cdv A outer s H vs Q E hr h => ?_)
  · obtain ⟨_, _, _, _, rfl, _⟩ := h
    rfl
  obtain ⟨n, p, xs, S, rfl, n1, h30, hp, hx, l400, hS, q⟩ := h
  refine ⟨_, (pss_cons (ps_set (i := 2) scNodesBeside.nd rfl (Or.inl rfl) (pe_lst pa_nil))
    (pss_cons (ps_set (i := 3) scNodesBeside.nd rfl (Or.inl rfl) pe_int)
    (pss_cons (ps_for PassesOwn.never rfl (pi_list (pe_callB cr_sortedPO (by rfl) z_sorted (by decide +kernel) (pa_cons (pv 1) pa_nil))) (pg_tup (by rfl) (pgs_cons (pg_name (i := 4) scNodesBeside.nd rfl (Or.inl rfl)) (pgs_cons (pg_name (i := 5) scNodesBeside.nd rfl (Or.inl rfl)) pgs_nil)))
    (pss_cons (ps_expr (pe_bm PySem.F.plainAttrs_list PySem.F.slot_list_extend PySem.F.type_list_extend mt_extend (pv 2) (pa_cons (pe_call GNodesWithin (hr.mono (by decide)) rfl ANodesWithin.m ANodesWithin.kp ANodesWithin.b .nil pass0 (pa_cons (pv 0) (pa_cons (pv 3) (pa_cons (pv 4) pa_nil)))) pa_nil)))
    (pss_one (ps_set (i := 3) scNodesBeside.nd rfl (Or.inl rfl) (pe_callB (call_max2 rfl) (by rfl) z_max (by decide +kernel) (pa_cons (pv 3) (pa_cons (pv 5) pa_nil)))))))
    (pss_cons (ps_expr (pe_bm PySem.F.plainAttrs_list PySem.F.slot_list_extend PySem.F.type_list_extend mt_extend (pv 2) (pa_cons (pe_call GNodesWithin (hr.mono (by decide)) rfl ANodesWithin.m ANodesWithin.kp ANodesWithin.b .nil pass0 (pa_cons (pv 0) (pa_cons (pv 3) (pa_cons (pv 0) pa_nil)))) pa_nil)))
    (pss_one (ps_ret (pv 2))))))), ?_⟩
  refine ⟨Nat.zero_le _, fun fa nf => ?_⟩
  have s2 := same_upd (o := .lst []) nf
  have hx2 := hx.mono (fun v x (k : Nd H v x) => k.same s2)
  have hp2 := s2 _ _ hp
  have hf2 : (upd H fa (.lst [])) fa = some (.lst []) := upd_same
  generalize upd H fa (.lst []) = H2 at s2 hx2 hp2 hf2
  refine ⟨_, rfl, p, xs, kOf H2, rfl, SqL.of hp2, fun x hm => ?_, fun ys so hs1 hs2 nso => ?_⟩
  · obtain ⟨y, _, pa, rfl, hpa⟩ := hx2.mem hm
    exact ⟨pa, rfl, by rw [hpa]; simp only [kOf, hpa]⟩
  have s3 := same_upd (o := .lst ys) nso
  have hy0 := (sorted_srt hx2 hs1 hs2.perm).mono (fun v x (k : Nd H2 v x) => k.same s3)
  have hso : (upd H2 so (.lst ys)) so = some (.lst ys) := upd_same
  have hf3 := s3 _ _ hf2
  have sof : so ≠ fa := fun z => by rw [z, hf2] at nso; cases nso
  have s03 := s2.trans s3
  have tot := nb_len (n := n) (by omega) (srt S) 0 (fun x hx => hS x (srt_mem.mp hx))
  have hT : ∀ x ∈ srt S, x.1 ≤ n := fun x hx => hS x (srt_mem.mp hx)
  have tl : (srt S).length ≤ 400 := by rw [srt_len]; exact l400
  generalize srt S = T at q hy0 tot hT tl
  generalize upd H2 so (.lst ys) = H3 at s3 hso hf3 hy0 s03
  have yl := hy0.len
  refine ⟨so, rfl, ⟨_, SqL.of hso⟩, for_list (K := K) (a := so) (xs := ys) (fun i σ H' => ∃ (lo : Nat) (v4 v5 : Option V) (zs : List V) (done : List (Nat × Nat)), σ = [some (.int (n : Int)), some (.ref p), some (.ref fa), some (.int (lo : Int)), v4, v5] ∧ Same H H' ∧ But fa H3 H' ∧ H' fa = some (.lst zs) ∧ All2 (Nd H') zs done ∧ done ++ nb n lo (T.drop i) = nb n 0 T)
    ⟨0, none, none, [], [], rfl, s03, But.refl _ _, hf3, .nil, rfl⟩ (fun i σ H' _ ⟨_, _, _, _, _, _, _, k, _⟩ => SqL.of (k _ _ sof hso)) ?_ ?_⟩
  · rintro i v σ H4 hi ⟨lo, v4, v5, zs, done, rfl, sm, B4, hf, hz, hd⟩
    obtain ⟨x, hxi, pv, rfl, hpv⟩ := hy0.nth hi
    have hdr : T.drop i = x :: T.drop (i + 1) := by
      obtain ⟨hl, hxe⟩ := List.getElem?_eq_some_iff.mp hxi
      rw [List.drop_eq_getElem_cons hl, hxe]
    rw [hdr] at hd
    have xn := hT x (List.mem_of_getElem? hxi)
    have pvf : pv ≠ fa := fun z => by rw [z, hf3] at hpv; cases hpv
    have hpv4 := B4 _ _ pvf hpv
    refine ⟨pv, _, rfl, SqT.of hpv4, rfl, _, _, rfl, _, _, rfl, rfl, ?_⟩
    refine ⟨_, rfl, .inl ⟨rfl, _, SqL.of hf⟩, _, rfl, _, rfl, _, rfl, n, lo, x.1, rfl, n1, by omega, xn, by omega, fun H5 r us s5 nr hr5 hu => ?_⟩
    have hf5 := s5 _ _ hf
    have lz : zs.length + us.length ≤ 100000 := by
      have k := congrArg List.length hd
      rw [List.length_append] at k
      have k2 : (nb n lo (x :: T.drop (i + 1))).length = (nw n lo x.1).length + (nb n (max lo x.2) (T.drop (i + 1))).length := by
        show (nw n lo x.1 ++ _).length = _
        rw [List.length_append]
      rw [hz.len, hu.len]
      omega
    refine ⟨fa, r, zs, us, rfl, rfl, hf5, hr5, szle (by omega), ?_⟩
    refine ⟨_, rfl, _, rfl, _, _, rfl, ?_⟩
    rw [max_castB]
    refine ⟨max lo x.2, _, _, zs ++ us, done ++ nw n lo x.1, rfl, ?_, ?_, upd_same, ?_, ?_⟩
    · exact fun a o k => by rw [upd_ne (ne_of_none k nf)]; exact s5 _ _ (sm _ _ k)
    · exact fun a o n k => by rw [upd_ne n]; exact s5 _ _ (B4 a o n k)
    · exact (hz.mono (fun v x (k : Nd H4 v x) => (k.same s5).upd hf5)).app (hu.mono (fun v x (k : Nd H5 v x) => k.upd hf5))
    · rw [← hd, List.append_assoc]
      rfl
  · rintro σ H4 ⟨lo, v4, v5, zs, done, rfl, sm, B4, hf, hz, hd⟩
    rw [yl, List.drop_length] at hd
    refine ⟨_, rfl, .inl ⟨rfl, _, SqL.of hf⟩, _, rfl, _, rfl, _, rfl, n, lo, n, rfl, n1, by omega, by omega, by omega, fun H5 r us s5 nr hr5 hu => ?_⟩
    have hf5 := s5 _ _ hf
    have lz : zs.length + us.length ≤ 100000 := by
      have k := congrArg List.length hd
      rw [List.length_append] at k
      have k2 : (nb n lo []).length = (nw n lo n).length := rfl
      rw [hz.len, hu.len]
      omega
    refine ⟨fa, r, zs, us, rfl, rfl, hf5, hr5, szle (by omega), ?_⟩
    refine ⟨_, rfl, q _ fa (zs ++ us) ?_ nf upd_same ?_⟩
    · exact fun a o k => by rw [upd_ne (ne_of_none k nf)]; exact s5 _ _ (sm _ _ k)
    · rw [← hd]
      exact (hz.mono (fun v x (k : Nd H4 v x) => (k.same s5).upd hf5)).app (hu.mono (fun v x (k : Nd H5 v x) => k.upd hf5))
end
end LT

namespace LT
open PySem PySem.Spec PyProof.Rows L2
section
variable {P : Program} {w : World} {K : PySem.W.Frag} {mg : Str → Option Value} {base : Heap}
theorem nl_len {n : Nat} (h : n ≤ 2 ^ 100) : ∀ (l : List (Nat × Nat)) (lo : Nat), So n lo l → (nl n lo l).length ≤ 202 * (l.length + 1)
  | [], lo, _ => nw_len h
  | x :: l, lo, ⟨h1, h2, h3, h4⟩ => by
    have a := nw_len (n := n) (b := lo) (e := x.1) (by omega)
    have b := nl_len h l x.2 h4
    show (nw n lo x.1 ++ nl n x.2 l).length ≤ 202 * (l.length + 1 + 1)
    rw [List.length_append]
    omega
def spNeeded : Sp := fun vs H Q _ => ∃ (n : Nat) (p : Addr) (xs : List V) (S : List (Nat × Nat)), vs = [.int n, .ref p] ∧ 1 ≤ n ∧ n ≤ 10 ^ 30 ∧ H p = some (.lst xs) ∧ All2 (Nd H) xs S ∧ 1 ≤ S.length ∧ S.length ≤ 12 ∧ So n 0 S ∧
  ∀ (H' : Hp) (r : Addr) (ys : List V), Same H H' → H r = none → H' r = some (.lst ys) → All2 (Nd H') ys (nl n 0 S) → Q (.ref r) H'
theorem so_pair {n : Nat} : ∀ {lo : Nat} {l : List (Nat × Nat)}, So n lo l → l.Pairwise (fun x y => leN x y = true)
  | _, [], _ => .nil
  | lo, x :: l, ⟨h1, h2, h3, h4⟩ => .cons (fun y hy => by
      obtain ⟨k1, k2, k3⟩ := So.mem h4 y hy
      rw [leN_iff]
      omega) (so_pair h4)
theorem nb_nl {n : Nat} : ∀ {lo : Nat} {l : List (Nat × Nat)}, So n lo l → nb n lo l = nl n lo l
  | _, [], _ => rfl
  | lo, x :: l, ⟨h1, h2, h3, h4⟩ => by
    show nw n lo x.1 ++ nb n (max lo x.2) l = nw n lo x.1 ++ nl n x.2 l
    rw [Nat.max_eq_right (by omega), nb_nl h4]
theorem ok_needed {f g1 g2 g3 : Addr} {fd d1 d2 d3 : FuncData} (F : Fun K "needed" "needed" sNeeded f fd) (GCheckSize : FnOk P w K mg base CX0 3 g1 d1 ["size"] spCheckSize) (ACheckSize : At K mg "check_size" g1 d1 ["size"])
    (GCheckSpans : FnOk P w K mg base CX0 4 g2 d2 ["size", "spans"] spCheckSpans) (ACheckSpans : At K mg "check_spans" g2 d2 ["size", "spans"])
    (GNodesBeside : FnOk P w K mg base CX0 5 g3 d3 ["size", "stretches"] spBeside) (ANodesBeside : At K mg "nodes_beside" g3 d3 ["size", "stretches"]) : FnOk P w K mg base CX0 6 f fd ["size", "spans"] spNeeded := by
  refine F.ok scNeeded (fun vs H Q E h => ?_) (fun cdv A outer s H vs Q E hr h => ?_)
  · obtain ⟨_, _, _, _, rfl, _⟩ := h
    rfl
  obtain ⟨n, p, xs, S, rfl, n1, h30, hp, hx, l1, l12, hS, q⟩ := h
  refine ⟨_, (pss_cons (ps_expr (pe_call GCheckSize (hr.mono (by decide)) rfl ACheckSize.m ACheckSize.kp ACheckSize.b .nil pass0 (pa_cons (pv 0) pa_nil)))
    (pss_cons (ps_expr (pe_call GCheckSpans (hr.mono (by decide)) rfl ACheckSpans.m ACheckSpans.kp ACheckSpans.b .nil pass0 (pa_cons (pv 0) (pa_cons (pv 1) pa_nil))))
    (pss_one (ps_ret (pe_call GNodesBeside (hr.mono (by decide)) rfl ANodesBeside.m ANodesBeside.kp ANodesBeside.b .nil pass0 (pa_cons (pv 0) (pa_cons (pv 1) pa_nil))))))), ?_⟩
  refine ⟨_, rfl, _, rfl, by omega, by omega, _, rfl, _, rfl, n, p, xs, S, rfl, hp, hx, l1, l12, hS, fun H1 s1 => ?_⟩
  refine ⟨_, rfl, _, rfl, n, p, xs, S, rfl, n1, h30, s1 _ _ hp, hx.mono (fun v x (k : Nd H v x) => k.same s1), by omega, fun x hx => by have := (So.mem hS x hx); omega, fun H2 r ys s2 nr hr2 hy => ?_⟩
  rw [srt_id (so_pair hS), nb_nl hS] at hy
  exact q H2 r ys (s1.trans s2) (s1.free nr) hr2 hy
end
end LT

namespace LT
open PySem PySem.Spec PyProof.Rows L2
def wid (l : List (Nat × Nat)) : Nat := (l.map fun x => x.2 - x.1).sum
theorem wid_app (l r : List (Nat × Nat)) : wid (l ++ r) = wid l + wid r := by unfold wid; rw [List.map_append, List.sum_append]
theorem nl_wid {n : Nat} : ∀ (S : List (Nat × Nat)) (lo : Nat), So n lo S → wid (nl n lo S) + wid S + lo = n
  | [], lo, h => by
    have h : lo ≤ n := h
    have := (nw_ch (n := n) (Nat.le_refl n) lo h).sum
    show wid (nw n lo n) + 0 + lo = n
    unfold wid
    omega
  | y :: S, lo, ⟨k1, k2, k3, k4⟩ => by
    have a := (nw_ch (n := n) (show y.1 ≤ n by omega) lo k1).sum
    have b := nl_wid S y.2 k4
    show wid (nw n lo y.1 ++ nl n y.2 S) + wid (y :: S) + lo = n
    rw [wid_app]
    have c : wid (y :: S) = (y.2 - y.1) + wid S := rfl
    rw [c]
    unfold wid at a b ⊢
    omega
end LT

namespace LT
open PySem PySem.Spec PyProof.Rows L2
section
variable {P : Program} {w : World} {K : PySem.W.Frag} {mg : Str → Option Value} {base : Heap}
def spBag : Sp := fun vs H Q _ => ∃ c : Int, vs = [.int c] ∧ ∀ (H' : Hp) (p : Addr), Same H H' → H p = none → BagAt H' p → Q (.ref p) H'
theorem ok_law_bag {f : Addr} {fd : FuncData} (F : Fun K "_law_bag" "_law_bag" sLawBag f fd) (z_max : mg "max" = none) : FnOk P w K mg base CX0 1 f fd ["cell"] spBag := by
  refine F.ok scLawBag (fun vs H Q E h => ?_) (fun cdv A outer s H vs Q E hr h => ?_)
  · obtain ⟨_, rfl, _⟩ := h
    rfl
  obtain ⟨c, rfl, q⟩ := h
  refine ⟨_, (pss_one (ps_ret (pe_lst (pa_cons (pe_callB (call_max2 rfl) (by rfl) z_max (by decide +kernel) (pa_cons pe_int (pa_cons (pe_op op_sub (pv 0) (pe_op op_pow pe_int pe_int)) pa_nil))) (pa_cons (pv 0) (pa_cons pe_int pa_nil)))))), ?_⟩
  refine ⟨_, rfl, _, _, rfl, rfl, ⟨by decide, by decide, by decide⟩, _, _, rfl, rfl, _, _, rfl, _, rfl, (by show 3 ≤ sizeLine; decide), fun p np => ?_⟩
  exact q _ p (same_upd np) np ⟨_, _, _, upd_same⟩
theorem fm0 (x : Int) {m : Int} (h : 0 < m) : 0 ≤ x.fmod m := by
  rw [Int.fmod_eq_emod_of_nonneg _ (by omega)]
  exact Int.emod_nonneg _ (by omega)
theorem fm1 (x : Int) {m : Int} (h : 0 < m) : x.fmod m < m := by
  rw [Int.fmod_eq_emod_of_nonneg _ (by omega)]
  exact Int.emod_lt_of_pos _ h
def spPick : Sp := fun vs H Q _ => ∃ (b : Addr) (many : Int), vs = [.ref b, .int many] ∧ 0 < many ∧ many.natAbs < 2 ^ 250 ∧ BagAt H b ∧
  ∀ (r : Int) (H' : Hp), 0 ≤ r → r < many → (∀ a, a ≠ b → H' a = H a) → BagAt H' b → Q (.int r) H'
theorem ok_law_pick {f : Addr} {fd : FuncData} (F : Fun K "_law_pick" "_law_pick" sLawPick f fd) (z_int : mg "int" = none) : FnOk P w K mg base CX0 1 f fd ["bag", "many"] spPick := by
  refine F.ok scLawPick (fun vs H Q E h => ?_) (fun cdv A outer s H vs Q E hr h => ?_)
  · obtain ⟨_, _, rfl, _⟩ := h
    rfl
  obtain ⟨b, many, rfl, hm, hm2, ⟨x, y, z, h0⟩, q⟩ := h
  refine ⟨_, (pss_cons (ps_asg (pe_op op_add (pe_ix ix_list (pv 0) pe_int (fun _ _ => rfl)) pe_int) (pg_sub (pv 0) pe_int set_list))
    (pss_cons (ps_if (pt_cmpR op_gt (pe_ix ix_list (pv 0) pe_int (fun _ _ => rfl)) pe_int (nomark _))
    (pss_cons (ps_set (i := 2) scLawPick.nd rfl (Or.inl rfl) (pe_op op_modN (pe_callTy call_int1 (by rfl) z_int (by decide +kernel) (pa_cons (pe_ix ix_list (pv 0) pe_int (fun _ _ => rfl)) pa_nil)) (pv 1)))
    (pss_cons (ps_asg (pe_op op_fdivW (pe_callTy call_int1 (by rfl) z_int (by decide +kernel) (pa_cons (pe_ix ix_list (pv 0) pe_int (fun _ _ => rfl)) pa_nil)) (pv 1)) (pg_sub (pv 0) pe_int set_list))
    (pss_one (ps_ret (pv 2)))))
    pss_nil)
    (pss_cons (ps_par (i := 3) (j := 4) (by rfl) scLawPick.nd rfl rfl (by decide) rfl rfl (pa_cons (pe_callTy call_int1 (by rfl) z_int (by decide +kernel) (pa_cons (pe_ix ix_list (pv 0) pe_int (fun _ _ => rfl)) pa_nil)) (pa_cons (pe_callTy call_int1 (by rfl) z_int (by decide +kernel) (pa_cons (pe_ix ix_list (pv 0) pe_int (fun _ _ => rfl)) pa_nil)) pa_nil)) (by rfl))
    (pss_cons (ps_set (i := 5) scLawPick.nd rfl (Or.inl rfl) (pe_op op_modN (pe_callTy call_int1 (by rfl) z_int (by decide +kernel) (pa_cons (pe_op op_add (pe_op op_add (pe_op op_mul (pe_op op_modN (pv 3) pe_int) pe_int) (pe_op op_mul (pv 4) pe_int)) pe_int) pa_nil)) pe_int))
    (pss_cons (ps_set (i := 6) scLawPick.nd rfl (Or.inl rfl) (pe_op op_modN (pe_callTy call_int1 (by rfl) z_int (by decide +kernel) (pa_cons (pe_op op_add (pe_op op_mul (pv 5) (pv 5)) (pe_op op_mul (pv 4) pe_int)) pa_nil)) pe_int))
    (pss_cons (ps_set (i := 7) scLawPick.nd rfl (Or.inl rfl) (pe_op op_fdivW (pe_callTy call_int1 (by rfl) z_int (by decide +kernel) (pa_cons (pe_op op_add (pe_op op_mul (pv 5) pe_int) (pv 6)) pa_nil)) pe_int))
    (pss_cons (ps_if (pt_cmpR op_gt (pv 1) (pe_op op_pow pe_int pe_int) (nomark _))
    (pss_one (ps_set (i := 7) scLawPick.nd rfl (Or.inl rfl) (pe_op op_add (pe_op op_pow (pv 7) pe_int) (pv 6))))
    pss_nil)
    (pss_one (ps_ret (pe_op op_modN (pe_callTy call_int1 (by rfl) z_int (by decide +kernel) (pa_cons (pv 7) pa_nil)) (pv 1))))))))))), ?_⟩
  refine ⟨_, rfl, b, _, _, _, rfl, rfl, SqL.of h0, atI_nat (j := 2) rfl, _, _, rfl, rfl, _, rfl, b, _, _, 2, rfl, rfl, h0, rfl, ?_⟩
  dsimp only
  have h1 : (upd H b (.lst ([.int x, .int y, .int z].set 2 (.int (z + 1))))) b = some (.lst [.int x, .int y, .int (z + 1)]) := upd_same
  have k1 : ∀ a, a ≠ b → (upd H b (.lst ([.int x, .int y, .int z].set 2 (.int (z + 1))))) a = H a := fun a ha => upd_ne ha
  generalize upd H b (.lst ([.int x, .int y, .int z].set 2 (.int (z + 1)))) = H1 at h1 k1
  refine ⟨_, rfl, b, _, _, _, rfl, rfl, SqL.of h1, atI_nat (j := 0) rfl, _, _, rfl, rfl, _, rfl, ite2 (fun c => ?_) (fun c => ?_)⟩
  · refine ⟨_, rfl, b, _, _, _, rfl, rfl, SqL.of h1, atI_nat (j := 0) rfl, .inl ⟨_, rfl, _, rfl, _, _, rfl, rfl, by omega, ?_⟩⟩
    refine ⟨_, rfl, b, _, _, _, rfl, rfl, SqL.of h1, atI_nat (j := 0) rfl, .inl ⟨_, rfl, _, rfl, _, _, rfl, rfl, wide_div hm hm2 (by decide) (by decide), _, rfl, b, _, _, 0, rfl, rfl, h1, rfl, ?_⟩⟩
    refine ⟨_, rfl, ?_⟩
    exact q _ _ (fm0 x hm) (fm1 x hm) (fun a ha => by rw [upd_ne ha]; exact k1 a ha) ⟨_, _, _, upd_same⟩
  · refine ⟨_, rfl, b, _, _, _, rfl, rfl, SqL.of h1, atI_nat (j := 1) rfl, .inl ⟨_, rfl, _, rfl, b, _, _, _, rfl, rfl, SqL.of h1, atI_nat (j := 2) rfl, .inl ⟨_, rfl, _, _, rfl, ?_⟩⟩⟩
    refine ⟨_, rfl, _, _, rfl, rfl, (by show (2147483629 : Int) ≠ 0; decide), _, _, rfl, rfl, .inr ⟨by decide, by decide⟩, _, rfl, _, _, rfl, rfl, .inr ⟨by decide, by decide⟩, _, _, rfl, rfl, _, _, rfl, rfl, .inl ⟨_, rfl, _, _, rfl, rfl, (by show (2147483647 : Int) ≠ 0; decide), ?_⟩⟩
    dsimp only
    have a0 := fm0 (y.fmod 2147483629 * 48271 + (z + 1) * 69621 + 12345) (m := 2147483647) (by decide)
    have a1 := fm1 (y.fmod 2147483629 * 48271 + (z + 1) * 69621 + 12345) (m := 2147483647) (by decide)
    generalize (y.fmod 2147483629 * 48271 + (z + 1) * 69621 + 12345).fmod 2147483647 = fi at a0 a1
    refine ⟨_, rfl, _, rfl, _, _, rfl, rfl, .inl ⟨by omega, by omega⟩, _, rfl, _, _, rfl, rfl, .inr ⟨by decide, by decide⟩, _, _, rfl, rfl, .inl ⟨_, rfl, _, _, rfl, rfl, (by show (2147483587 : Int) ≠ 0; decide), ?_⟩⟩
    dsimp only
    have b0 := fm0 (fi * fi + (z + 1) * 40692) (m := 2147483587) (by decide)
    have b1 := fm1 (fi * fi + (z + 1) * 40692) (m := 2147483587) (by decide)
    generalize (fi * fi + (z + 1) * 40692).fmod 2147483587 = se at b0 b1
    refine ⟨_, rfl, _, _, rfl, rfl, .inl ⟨by omega, by omega⟩, _, rfl, _, _, rfl, rfl, .inl ⟨_, rfl, _, _, rfl, rfl, wide_div (b := 6) (by decide) (by decide) (by decide) (by decide), ?_⟩⟩
    dsimp only
    have c0 : 0 ≤ (fi * 2147483587 + se) / 32 := by omega
    have c1 : (fi * 2147483587 + se) / 32 < 2 ^ 62 := by omega
    generalize (fi * 2147483587 + se) / 32 = dr at c0 c1
    refine ⟨_, rfl, _, _, rfl, rfl, ⟨by decide, by decide, by decide⟩, _, _, rfl, rfl, _, rfl, ite2 (fun c => ?_) (fun c => ?_)⟩
    · refine ⟨_, rfl, _, _, rfl, rfl, ⟨by decide, by decide, by omega⟩, _, rfl, _, _, rfl, rfl, ?_⟩
      refine ⟨_, rfl, .inl ⟨_, rfl, _, rfl, _, _, rfl, rfl, by omega, ?_⟩⟩
      exact q _ _ (fm0 _ hm) (fm1 _ hm) k1 ⟨_, _, _, h1⟩
    · refine ⟨_, rfl, .inl ⟨_, rfl, _, rfl, _, _, rfl, rfl, by omega, ?_⟩⟩
      exact q _ _ (fm0 _ hm) (fm1 _ hm) k1 ⟨_, _, _, h1⟩
end
end LT

namespace LT
open PySem PySem.Spec PyProof.Rows L2
section
variable {P : Program} {w : World} {K : PySem.W.Frag} {mg : Str → Option Value} {base : Heap}
theorem But.same {b : Addr} {H H1 H2 : Hp} (x : But b H H1) (y : Same H1 H2) : But b H H2 := fun a o n h => y a o (x a o n h)
theorem But.pick {b : Addr} {H H1 H2 : Hp} (x : But b H H1) (k : ∀ a, a ≠ b → H2 a = H1 a) : But b H H2 := fun a o n h => by rw [k a n]; exact x a o n h
theorem BagAt.ne {H : Hp} {b p : Addr} (h : BagAt H b) (n : H p = none) : p ≠ b := fun z => by
  obtain ⟨_, _, _, e⟩ := h
  rw [← z, n] at e
  cases e
theorem BagAt.upd {H : Hp} {b p : Addr} {o : HO} (h : BagAt H b) (n : p ≠ b) : BagAt (upd H p o) b := by
  obtain ⟨x, y, z, e⟩ := h
  exact ⟨x, y, z, by rw [upd_ne (fun z => n z.symm)]; exact e⟩
def spSizeM : Sp := fun vs H Q _ => ∃ (b : Addr) (most : Nat), vs = [.ref b, .int most] ∧ 1 ≤ most ∧ most ≤ 10 ^ 30 ∧ BagAt H b ∧ ∀ (n : Nat) (H' : Hp), 1 ≤ n → n ≤ most → But b H H' → BagAt H' b → Q (.int n) H'
theorem ok_law_sizeM {f g1 : Addr} {fd d1 : FuncData} (F : Fun K "_law_size" "_law_size" sLawSize f fd) (GLawPick : FnOk P w K mg base CX0 1 g1 d1 ["bag", "many"] spPick) (ALawPick : At K mg "_law_pick" g1 d1 ["bag", "many"]) (z_max : mg "max" = none) (z_min : mg "min" = none) (z_sum : mg "sum" = none) (z_range : mg "range" = none) :
    FnOk P w K mg base CX0 2 f fd ["bag", "most"] spSizeM := by
  refine F.ok scLawSize (fun vs H Q E h => ?_) (fun cdv A outer s H vs Q E hr h => ?_)
  · obtain ⟨_, _, rfl, _⟩ := h
    rfl
  obtain ⟨b, most, rfl, m1, m30, hb, q⟩ := h
  refine' ⟨_, (pss_cons (ps_set (i := 2) scLawSize.nd rfl (Or.inl rfl) (pe_call GLawPick (hr.mono (by decide)) rfl ALawPick.m ALawPick.kp ALawPick.b .nil pass0 (pa_cons (pv 0) (pa_cons pe_int pa_nil))))
    (pss_cons (ps_if (pt_cmpR op_eq (pv 2) pe_int (nomark _))
    (pss_one (ps_ret (pe_op op_add pe_int (pe_call GLawPick (hr.mono (by decide)) rfl ALawPick.m ALawPick.kp ALawPick.b .nil pass0 (pa_cons (pv 0) (pa_cons (pv 1) pa_nil))))))
    pss_nil)
    (pss_cons ?cc1
    (pss_one (ps_ret (pe_callB (call_min2 rfl) (by rfl) z_min (by decide +kernel) (pa_cons (pv 1) (pa_cons (pe_callB (call_max2 rfl) (by rfl) z_max (by decide +kernel) (pa_cons pe_int (pa_cons (pe_op op_sub (pe_op op_add (pe_callB (cr_sum rfl) (by rfl) z_sum (by decide +kernel) (pa_cons (pv 3) pa_nil)) (pe_call GLawPick (hr.mono (by decide)) rfl ALawPick.m ALawPick.kp ALawPick.b .nil pass0 (pa_cons (pv 0) (pa_cons pe_int pa_nil)))) pe_int) pa_nil))) pa_nil)))))))), ?_⟩
  case cc1 => exact (ps_setLc (i := 3) (own := [("turn", 4)]) rfl scLawSize.nd rfl rfl (sw_true rfl rfl rfl (by decide +kernel)) (pi_range1 (by rfl) z_range (pa_cons (pe_ix ix_list (pe_lst (pa_cons pe_int (pa_cons pe_int (pa_cons pe_int (pa_cons pe_int pa_nil))))) (pv 2) (fun _ _ => rfl)) pa_nil)) (blkOk_by (N := ["bag", "most", "way", "powers", "turn"]) (sc := defScope sLawSize) (by decide +kernel)) (fun _ _ _ _ _ => (pg_name (i := 4) scLawSize.nd rfl (Or.inl rfl))) (fun _ _ _ _ _ => pts_nil) (fun _ _ _ _ _ => (pe_op op_shl pe_int (pe_call GLawPick (hr.mono (by decide)) rfl ALawPick.m ALawPick.kp ALawPick.b .nil pass0 (pa_cons (pv 0) (pa_cons (pe_bits (pv 1)) pa_nil))))))
  have fin : ∀ (z : Int) (H5 : Hp), But b H H5 → BagAt H5 b → Q (.int (if (if z > 1 then z else 1) < (most : Int) then (if z > 1 then z else 1) else (most : Int))) H5 := fun z H5 B5 b5 => by
    have z1 : 1 ≤ (if z > 1 then z else 1) := by split <;> omega
    generalize (if z > 1 then z else 1) = y at z1
    have y1 : 1 ≤ (if y < (most : Int) then y else (most : Int)) ∧ (if y < (most : Int) then y else (most : Int)) ≤ most := by split <;> omega
    generalize (if y < (most : Int) then y else (most : Int)) = u at y1
    obtain ⟨un, rfl⟩ := Int.eq_ofNat_of_zero_le (show 0 ≤ u by omega)
    exact q un H5 (by omega) (by omega) B5 b5
  refine ⟨_, rfl, b, 4, rfl, by decide, by decide, hb, fun r H1 r0 r1 k1 b1 => ?_⟩
  have B1 : But b H H1 := (But.refl b H).pick k1
  refine ⟨_, rfl, rfl, _, rfl, ite2 (fun c => ?_) (fun c => ?_)⟩
  · refine ⟨_, rfl, _, rfl, b, most, rfl, by omega, by omega, b1, fun r2 H2 r20 r21 k2 b2 => ⟨_, _, rfl, rfl, ?_⟩⟩
    have B2 := B1.pick k2
    obtain ⟨rn, rfl⟩ := Int.eq_ofNat_of_zero_le r20
    have e : (1 : Int) + (rn : Int) = ((1 + rn : Nat) : Int) := by omega
    have q2 := q (1 + rn) H2 (by omega) (by omega) B2 b2
    rw [← e] at q2
    exact q2
  · have rne : r ≠ 0 := fun z => by
      subst z
      exact c (decide_eq_true rfl)
    have hv : ∃ m : Nat, atI [V.int 1, V.int 1, V.int 3, V.int 6] r = some (.int (m : Int)) ∧ m ≤ 6 := by
      have : r = 1 ∨ r = 2 ∨ r = 3 := by omega
      rcases this with rfl | rfl | rfl
      · exact ⟨1, atI_nat (j := 1) rfl, by decide⟩
      · exact ⟨3, atI_nat (j := 2) rfl, by decide⟩
      · exact ⟨6, atI_nat (j := 3) rfl, by decide⟩
    obtain ⟨m, hm, m6⟩ := hv
    refine ⟨(by show 4 ≤ sizeLine; decide), fun l nl => ?_⟩
    have s2 := same_upd (o := .lst [.int 1, .int 1, .int 3, .int 6]) nl
    have h2 : (upd H1 l (.lst [.int 1, .int 1, .int 3, .int 6])) l = some (.lst [.int 1, .int 1, .int 3, .int 6]) := upd_same
    have B2 := B1.same s2
    have b2 := b1.same s2
    generalize upd H1 l (.lst [.int 1, .int 1, .int 3, .int 6]) = H2 at h2 B2 b2
    refine ⟨_, rfl, l, _, _, _, rfl, rfl, SqL.of h2, hm, ?_⟩
    have bl : ((Builtin.Int.intBits (most : Int) : Nat) : Int) = ((most.log2 + 1 : Nat) : Int) := by rw [bits_nat, if_neg (by omega)]
    have l100 : most.log2 < 100 := (Nat.log2_lt (by omega)).mpr (Nat.lt_of_le_of_lt m30 (by decide))
    refine ⟨(m : Int), rfl, by omega, by omega, fun D nD => ?_⟩
    have Db := b2.ne nD
    refine lc_range (lo := 0) (n := m) (fun i H' => ∃ L : List Int, But b H2 H' ∧ BagAt H' b ∧ H' D = some (.lst (L.map V.int)) ∧ L.length = i) ⟨[], But.of (same_upd nD), b2.upd Db, upd_same, rfl⟩ ?_ ?_
    · rintro j H3 hj ⟨L, B3, b3, hD, hl⟩
      refine ⟨rfl, ?_⟩
      refine ⟨_, rfl, _, rfl, _, rfl, b, _, congrArg (fun z => [V.ref b, V.int z]) bl, by omega, by omega, b3, fun r4 H4 r40 r41 k4 b4 => ?_⟩
      refine ⟨_, _, rfl, rfl, ⟨r40, by omega, by decide⟩, ?_⟩
      have hD4 : H4 D = some (.lst (L.map V.int)) := (k4 D Db).trans hD
      refine ⟨_, hD4, szlt (by rw [List.length_map]; omega), L ++ [(1 : Int) * 2 ^ r4.toNat], ?_, b4.upd Db, ?_, by rw [List.length_append, List.length_singleton, hl]⟩
      · exact fun a o n k => by
          by_cases z : a = D
          · subst z; rw [nD] at k; cases k
          · rw [upd_ne z, k4 a n]; exact B3 a o n k
      · rw [List.map_append]; exact upd_same
    rintro H3 ⟨L, B3, b3, hD, hl⟩
    refine ⟨_, rfl, _, rfl, D, L, rfl, SqL.of hD, _, rfl, b, 3, rfl, by decide, by decide, b3, fun r4 H4 r40 r41 k4 b4 => ?_⟩
    exact ⟨_, _, rfl, rfl, _, _, rfl, rfl, _, _, rfl, _, _, rfl, fin _ H4 ((B2.trans B3).pick k4) b4⟩
end
end LT

namespace LT
open PySem PySem.Spec PyProof.Rows L2
section
variable {P : Program} {w : World} {A : Around} {E : Value → Shared → Prop} {s : Shared}
theorem call_set_lstI {l : Addr} {items : Array Value} (ns : List Int) {Q : Value → Shared → Prop} (hh : A.handled = none) (hl : s.heap.IsList l items) (hit : IntsAre items.toList ns) (hb : ns.length + 1 < scanBound)
    (h : ∀ (h' : Heap) (tk c : Nat), SetR w h' s.heap.objs.size (fun j => decide (j ∈ ns)) c → c ≤ ns.length → (∀ b o, s.heap.get? b = some o → h'.get? b = some o) → Q (.ref s.heap.objs.size) { s with heap := h', toks := tk }) :
    wpAny (model P w) A (call (.type "set") [.ref l]) Q E s := by
  have hisz : items.size = ns.length := by
    have q := IntsAre.length hit
    rw [Array.length_toList] at q
    exact q
  obtain ⟨c, tl, hmro⟩ := F.called_set.mro
  have hmade := F.called_set.made
  have hsub := F.called_set.sub
  refine wpAny_call (codeAny_of_tree ?_)
  show wpAny _ _ (callAny (.type "set") _) _ _ _
  refine wpAny_pure ⟨Code.quiet_builtin _ (by decide +kernel), codeAny_builtin F.entry_type_call ?_⟩
  rw [Around.under_plain (weight_type_call_type "set" [.ref l] []) rfl]
  have h1 := F.called_set.notType
  have h2 := F.called_set.canCreate
  have hct := F.typeCall_set_1 (.ref l)
  repeat (any_goals (first | assumption | wp_step))

  refine codeAny_mono (code_set_led1 (.ref l) (E := E) (Q₁ := fun obj s₁ => obj = .ref s.heap.objs.size ∧ s₁ = { s with heap := s.heap.push { cls := .type "set", dict := none, data := .set #[] 0 (.fresh 0 0 (!w.params.followText "set-order")) } }) ⟨rfl, rfl⟩) fun r s₁ hr => ?_
  cases r with
  | error e => exact hr
  | ok fl =>
    cases fl with
    | ret obj =>
      obtain ⟨rfl, rfl⟩ := hr
      have hS : (s.heap.push { cls := .type "set", dict := none, data := .set #[] 0 (.fresh 0 0 (!w.params.followText "set-order")) }).get? s.heap.objs.size = some { cls := .type "set", dict := none, data := .set #[] 0 (.fresh 0 0 (!w.params.followText "set-order")) } := Heap.get?_push_size _ rfl
      have hT : Shared.TypeIs { s with heap := s.heap.push { cls := .type "set", dict := none, data := .set #[] 0 (.fresh 0 0 (!w.params.followText "set-order")) } } (.ref s.heap.objs.size) "set" := ⟨_, hS, rfl⟩
      have hli := F.called_set.init.lookup
      have hbi := F.called_set.init.bind (.ref s.heap.objs.size)
      repeat (any_goals (first | assumption | wp_step))

      refine codeAny_mono (codeAny_call_builtin (R := wants (fun r s₂ => r = .none ∧ ∃ h' tk c, s₂ = { s with heap := h', toks := tk } ∧ SetR w h' s.heap.objs.size (fun j => decide (j ∈ ns)) c ∧ c ≤ ns.length ∧
          (∀ b o, s.heap.get? b = some o → h'.get? b = some o)) E) F.called_set.init.plain F.entry_set_init (check_set_init_1 hT ?_)) fun r₂ s₂ hr₂ => ?_
      · obtain ⟨ol, hol, hcl, nl, hdl⟩ := hl
        obtain ⟨ocls, odict, odata, oslots⟩ := ol
        simp only at hcl hdl
        subst hcl; subst hdl
        have hol' : (s.heap.push { cls := .type "set", dict := none, data := .set #[] 0 (.fresh 0 0 (!w.params.followText "set-order")) }).get? l = some { cls := .type "list", dict := odict, data := .seq items nl, slots := oslots } := Heap.get?_push_of_some _ hol
        have hsls := F.sub_list_set
        have hslf := F.sub_list_frozenset
        have hne : (Value.type "list" == Value.type "dict") = false := by decide
        have hl1 : (s.heap.push { cls := .type "set", dict := none, data := .set #[] 0 (.fresh 0 0 (!w.params.followText "set-order")) }).IsList l items := ⟨_, hol', rfl, nl, rfl⟩
        unfold Builtin.«set.__init__» noKeywords Builtin.Frozenset.updateFrom
        generalize hPI : pyIter = PI
        wp_walk
        subst hPI

        refine wpAny_pyIter_list hl1 ?_
        refine wpAny_bind (wpAny_runValue ?_)
        have hlS : l < s.heap.objs.size := Heap.lt_size hol
        have hh3 : A.in1.in1.in1.handled = none := by simp [hh]
        have hz1 : (s.heap.push { cls := .type "set", dict := none, data := .set #[] 0 (.fresh 0 0 (!w.params.followText "set-order")) }).objs.size = s.heap.objs.size + 1 := Heap.size_push ..
        have hneI : l ≠ (s.heap.push { cls := .type "set", dict := none, data := .set #[] 0 (.fresh 0 0 (!w.params.followText "set-order")) }).objs.size := by
          rw [Heap.size_push]; exact Nat.ne_of_lt (Nat.lt_succ_of_lt hlS)
        have hSf : s.heap.objs.size ∉ [(s.heap.push { cls := .type "set", dict := none, data := .set #[] 0 (.fresh 0 0 (!w.params.followText "set-order")) }).objs.size, l] := by
          rw [Heap.size_push]; simp only [List.mem_cons, List.mem_singleton, List.not_mem_nil, or_false, not_or]
          exact ⟨Nat.ne_of_lt (Nat.lt_succ_self _), Nat.ne_of_gt hlS⟩
        have hval : ∀ (i : Nat) (v : Value), items[i]? = some v → ∃ k t, ns[i]? = some k ∧ v = .int k t := fun i v hv => by
          have hi : i < ns.length := by rw [← hisz]; exact (Array.getElem?_eq_some_iff.mp hv).1
          obtain ⟨t, e⟩ := PyProof.Rows.IntsAre.int_at hit i v (by rw [Array.getElem?_toList]; exact hv)
          refine ⟨ns[i], t, List.getElem?_eq_getElem hi, ?_⟩
          rw [e, List.getD_eq_getElem?_getD, List.getElem?_eq_getElem hi] <;> rfl
        refine set_update_ints ((Walks.list hh3 _ l hneI items).toS) s.heap.objs.size
          hSf ns hisz hb hval (items.size - 0) 0 _ (by omega) (Nat.zero_le _)
          ⟨⟨_, Heap.get?_push_size _ rfl, rfl, rfl⟩, (hl1.push _)⟩ ?hS0 ?hR
        case hS0 =>
          have hget : ((s.heap.push { cls := .type "set", dict := none, data := .set #[] 0 (.fresh 0 0 (!w.params.followText "set-order")) }).push { cls := .type "list_iterator", data := .fields #[.ref l, .int 0 0] }).get? s.heap.objs.size
              = some { cls := .type "set", dict := none, data := .set #[] 0 (.fresh 0 0 (!w.params.followText "set-order")) } := Heap.get?_push_of_some _ hS
          exact ⟨0, Nat.le_refl 0, setR_new_at hget⟩
        case hR =>
          intro s' c' hm hc' hS'
          obtain ⟨h', g2, d', tk', os'⟩ := s'
          have eg : g2 = s.gens := hm.gens
          have ed : d' = s.drawn := hm.drawn
          have eo : os' = s.os := hm.os
          subst eg; subst ed; subst eo
          show wpAny _ _ _ _ _ _
          refine wpAny_pure ?_
          show wpAny _ _ (ret Value.none) _ _ _
          rw [hisz] at hc'
          refine wpAny_pure ⟨rfl, h', tk', c', rfl, hS', hc', fun b o e => ?_⟩
          have hb0 : b < s.heap.objs.size := Heap.lt_size e
          have hb1 : b ≠ s.heap.objs.size := Nat.ne_of_lt hb0
          have hb2 : b ≠ (s.heap.push { cls := .type "set", dict := none, data := .set #[] 0 (.fresh 0 0 (!w.params.followText "set-order")) }).objs.size := by
            rw [Heap.size_push]; exact Nat.ne_of_lt (Nat.lt_succ_of_lt hb0)
          exact hm.heap b o (by simp only [List.mem_cons, List.mem_singleton, List.not_mem_nil, or_false, not_or]; exact ⟨hb1, hb2⟩) (Heap.get?_push_of_some _ (Heap.get?_push_of_some _ e))

      · cases r₂ with
        | error e => exact hr₂
        | ok fl₂ =>
          cases fl₂ with
          | ret r =>
            obtain ⟨rfl, h', tk, c', rfl, hS', hc', hk'⟩ := hr₂
            repeat (any_goals (first | assumption | wp_step))
            exact h _ _ _ hS' hc' hk'
          | _ => exact hr₂.elim
    | _ => exact hr.elim
end
section
variable {X : Cx}
/-- set(xs), a list of ints -/
def rSetL (K : PySem.W.Frag) (w : World) : List V → Hp → VK → Prop := fun vs H Q => ∃ (a : Addr) (ns : List Int), vs = [V.ref a] ∧ SqL K H a (ns.map V.int) ∧ ns.length + 1 < scanBound ∧
  ∀ (p : Addr) (c : Nat), H p = none → c ≤ ns.length → Q (.ref p) (upd H p (SetO w p (fun j => decide (j ∈ ns)) c))
theorem cr_setL (hc : X.calm = true) : CallR X (.type "set") (rSetL X.K X.w) := by
  intro pins s σ H vs us Q I r h
  obtain ⟨a, ns, rfl, ha, hb, q⟩ := h
  rw [Vals.ref1 r]
  obtain ⟨its, rv, p1, _⟩ := I.list ha
  refine call_set_lstI ns (I.ok.hd hc) p1.isList (ints_of_vals rv) hb fun h' tk c R hle k => ?_
  have hn : H s.heap.objs.size = none := I.hok.fresh (Nat.le_refl _)
  exact ⟨.ref s.heap.objs.size, _, I.laid (t' := tk) k (Nat.le_refl _) (setO_new R), rfl, q _ c hn hle⟩
end
end LT

namespace LT
open PySem PySem.Spec PyProof.Rows L2
/-- a def with defaults dvs, as it stands behind the top -/
structure FunT (K : PySem.W.Frag) (x qual : Str) (st : Stmt) (its : List Value) (dvs : List V) (f : Addr) (fd : FuncData) : Prop where
  ex : ∃ (oc : Value) (od : Option Addr) (T : Addr) (kV doc pm : Value) (an : Option Addr) (cdv ct : Value) (osl : Array (Option Value)) (o : Obj) (n : Nat),
    fd = PySem.W.fnOf x qual (defArgs st) (defBody st) (defScope st) (.ref T) kV doc pm an cdv ct ∧ K.lookup f = some ⟨oc, od, .func fd, osl⟩ ∧ PySem.W.codeIn K cdv qual = true ∧ K.lookup T = some o ∧ o.data = .seq its.toArray n
  kp : PySem.W.keepIn K (.ref f) = true
  v : Vals dvs its
/-- how it is called with its defaults -/
structure AtT (K : PySem.W.Frag) (mg : Str → Option Value) (x : Str) (f : Addr) (fd : FuncData) (ps : List Str) (ds : List Value) (dvs : List V) : Prop where
  m : mg x = some (.ref f)
  kp : PySem.W.keepIn K (.ref f) = true
  b : Binds K fd ps ds
  v : Vals dvs ds
section
variable {P : Program} {w : World} {K : PySem.W.Frag} {mg : Str → Option Value} {base : Heap}
theorem FunT.ok {x qual : Str} {st : Stmt} {its : List Value} {dvs : List V} {f : Addr} {fd : FuncData} {N ps : List Str} {k : Nat} {sp : Sp} (F : FunT K x qual st its dvs f fd) (S : FnScope N ps (defScope st)) (len : ∀ vs H Q E, sp vs H Q E → vs.length = ps.length)
    (hbody : ∀ (cdv : Value) (A : Around) (outer : List Env) (s : Shared) (H : Hp) (vs : List V) (Q : VK) (E : XK), Room k (A.deeper (envOfC qual (defScope st) s.heap.objs.size f cdv)) → sp vs H Q E →
      ∃ t, PSs (cxOf CX0 P w K mg base N qual (defScope st) f cdv A outer s H E).nox (defBody st) t ∧ t { nx := fun _ H' => Q .non H', rt := Q } (start N vs) H) : FnOk P w K mg base CX0 (k + 1) f fd ps sp := by
  obtain ⟨oc, od, T, kV, doc, pm, an, cdv, ct, osl, o, n, rfl, lk, hcd, lT, oT⟩ := F.ex
  refine fn_of lk hcd S len fun A outer s H vs Q E hr hsp => ?_
  obtain ⟨t, h, q⟩ := hbody cdv A outer s H vs Q E hr hsp
  exact ⟨t, h.nox, q⟩
theorem funT_mk {x qual : Str} {st : Stmt} {f T : Addr} {oc tc : Value} {od an td : Option Addr} {osl tsl : Array (Option Value)} {tits : Array Value} {tn : Nat} {dvs : List V} {kV doc pm cdv ct : Value} (l : K.lookup f = some ⟨oc, od, .func (PySem.W.fnOf x qual (defArgs st) (defBody st) (defScope st) (.ref T) kV doc pm an cdv ct), osl⟩)
    (c : PySem.W.codeIn K cdv qual = true) (k : PySem.W.keepIn K (.ref f) = true) (lT : K.lookup T = some ⟨tc, td, .seq tits tn, tsl⟩) (v : Vals dvs tits.toList) : FunT K x qual st tits.toList dvs f (PySem.W.fnOf x qual (defArgs st) (defBody st) (defScope st) (.ref T) kV doc pm an cdv ct) :=
  ⟨⟨oc, od, T, kV, doc, pm, an, cdv, ct, osl, _, tn, rfl, l, c, lT, by simp⟩, k, v⟩
theorem FunT.binds {x qual : Str} {st : Stmt} {its : List Value} {dvs : List V} {f : Addr} {fd : FuncData} {ps : List Str} {n m : Nat} (F : FunT K x qual st its dvs f fd) (hm : dvs.length = m)
    (h : ∀ (T : Addr) (kV doc pm : Value) (an : Option Addr) (cdv ct : Value) (us its : List Value), us.length = n → its.length = m →
      ∃ k, bindArgs (PySem.W.fnOf x qual (defArgs st) (defBody st) (defScope st) (.ref T) kV doc pm an cdv ct) ⟨us, []⟩ = seqItems? (.ref T) >>= k ∧ k (some its.toArray) = pure (ps.zip (us ++ its))) (hn : n + m = ps.length := by rfl) : Binds K fd ps its := by
  obtain ⟨oc, od, T, kV, doc, pm, an, cdv, ct, osl, o, nn, rfl, lk, hcd, lT, oT⟩ := F.ex
  intro s us X hl
  have e := F.v.length
  rw [List.length_append] at hl
  obtain ⟨k, e1, e2⟩ := h T kV doc pm an cdv ct us its (by omega) (by omega)
  refine BindsTo.of_looks fun M => ?_
  rw [e1]
  exact looks_items X lT oT (.of_pure e2)
end
section
variable {X : Cx} {s : Shared} {H : Hp} {sc : Scope} {ce : Env} {fp : List Addr}
theorem pi_listB {tg l : Expr} {tl : TE} (hl : PE (X.blk s H sc ce fp) l tl) : PI (X.blk s H sc ce fp) tg l (iList X.K tl) := pi_list hl
end
section
variable {K : PySem.W.Frag} {a D : Addr} {xs : List V} {g g1 : TG} {tt tt1 : TT} {te : TE} {wi1 : TI} {vs vs1 : List Nat} {σ : L2.St} {H1 : Hp} {Qd : Hp → Prop}
/-- the inner walk of a comprehension with two for -/
abbrev InT (D : Addr) (wi1 : TI) (g1 : TG) (tt1 : TT) (te : TE) (vs1 : List Nat) (Nx : Hp → Prop) (σ2 : L2.St) (H3 : Hp) : Prop := wi1 σ2 H3 fun J1 H4 => ∃ W1 : Nat → Nat → Hp → Prop, (∃ m, W1 0 m H4) ∧ ∀ j k H, W1 j k H →
  (J1.stop j H ∧ Nx H) ∨ (J1.go j H ∧ ∃ Nx1 : Hp → Prop, (∀ H', Nx1 H' → ∃ k', k' < k ∧ W1 (j + 1) k' H') ∧ ∀ x H', J1.yld j H x H' → g1 x (wipe σ2 vs1) H' fun σ3 H5 => wipe σ3 vs1 = wipe σ2 vs1 ∧ tt1 σ3 H5 fun b H6 =>
    if b = true then te σ3 H6 fun y H7 => ∃ acc, H7 D = some (.lst acc) ∧ acc.length < sizeLine ∧ Nx1 (upd H7 D (.lst (acc ++ [y]))) else Nx1 H6)
theorem lc2_list (Pv : Nat → Hp → Prop) (h0 : Pv 0 (upd H1 D (.lst []))) (hl : ∀ i H, i ≤ xs.length → Pv i H → SqL K H a xs)
    (hs : ∀ i x H, xs[i]? = some x → Pv i H → g x (wipe σ vs) H fun σ2 H2 => wipe σ2 vs = wipe σ vs ∧ tt σ2 H2 fun b H3 => if b = true then InT D wi1 g1 tt1 te vs1 (Pv (i + 1)) σ2 H3 else Pv (i + 1) H3) (hd : ∀ H, Pv xs.length H → Qd H) :
    ∃ W : Nat → Nat → Hp → Prop, (∃ m, W 0 m (upd H1 D (.lst []))) ∧ ∀ i m H, W i m H →
      ((Itl K a).stop i H ∧ Qd H) ∨ ((Itl K a).go i H ∧ ∃ Nx : Hp → Prop, (∀ H', Nx H' → ∃ m', m' < m ∧ W (i + 1) m' H') ∧ ∀ x H', (Itl K a).yld i H x H' → g x (wipe σ vs) H' fun σ2 H2 => wipe σ2 vs = wipe σ vs ∧ tt σ2 H2 fun b H3 =>
        if b = true then InT D wi1 g1 tt1 te vs1 Nx σ2 H3 else Nx H3) := by
  refine ⟨fun i m H => m + i = xs.length ∧ Pv i H, ⟨xs.length, rfl, h0⟩, ?_⟩
  rintro i m H ⟨im, p⟩
  have q := hl i H (by omega) p
  by_cases hlt : i < xs.length
  · refine .inr ⟨⟨xs, xs[i], q, by simp [hlt]⟩, Pv (i + 1), fun H' p' => ⟨m - 1, by omega, by omega, p'⟩, fun x H' y => ?_⟩
    obtain ⟨e, y⟩ := y
    subst e
    exact hs i x _ (y xs q) p
  · have e : i = xs.length := by omega
    subst e
    exact .inl ⟨⟨xs, q, Nat.le_refl _⟩, hd H p⟩
theorem lc_in {σ2 : L2.St} {H4 : Hp} {Nx : Hp → Prop} (Pv : Nat → Hp → Prop) (h0 : Pv 0 H4) (hl : ∀ i H, i ≤ xs.length → Pv i H → SqL K H a xs)
    (hs : ∀ i x H, xs[i]? = some x → Pv i H → g1 x (wipe σ2 vs1) H fun σ3 H5 => wipe σ3 vs1 = wipe σ2 vs1 ∧ tt1 σ3 H5 fun b H6 =>
      if b = true then te σ3 H6 fun y H7 => ∃ acc, H7 D = some (.lst acc) ∧ acc.length < sizeLine ∧ Pv (i + 1) (upd H7 D (.lst (acc ++ [y]))) else Pv (i + 1) H6) (hd : ∀ H, Pv xs.length H → Nx H) :
    ∃ W1 : Nat → Nat → Hp → Prop, (∃ m, W1 0 m H4) ∧ ∀ j k H, W1 j k H →
      ((Itl K a).stop j H ∧ Nx H) ∨ ((Itl K a).go j H ∧ ∃ Nx1 : Hp → Prop, (∀ H', Nx1 H' → ∃ k', k' < k ∧ W1 (j + 1) k' H') ∧ ∀ x H', (Itl K a).yld j H x H' → g1 x (wipe σ2 vs1) H' fun σ3 H5 => wipe σ3 vs1 = wipe σ2 vs1 ∧ tt1 σ3 H5 fun b H6 =>
        if b = true then te σ3 H6 fun y H7 => ∃ acc, H7 D = some (.lst acc) ∧ acc.length < sizeLine ∧ Nx1 (upd H7 D (.lst (acc ++ [y]))) else Nx1 H6) := by
  refine ⟨fun i m H => m + i = xs.length ∧ Pv i H, ⟨xs.length, rfl, h0⟩, ?_⟩
  rintro i m H ⟨im, p⟩
  have q := hl i H (by omega) p
  by_cases hlt : i < xs.length
  · refine .inr ⟨⟨xs, xs[i], q, by simp [hlt]⟩, Pv (i + 1), fun H' p' => ⟨m - 1, by omega, by omega, p'⟩, fun x H' y => ?_⟩
    obtain ⟨e, y⟩ := y
    subst e
    exact hs i x _ (y xs q) p
  · have e : i = xs.length := by omega
    subst e
    exact .inl ⟨⟨xs, q, Nat.le_refl _⟩, hd H p⟩
end
end LT

namespace LT
open PySem PySem.Spec PyProof.Rows L2
/-- the fewest stretches with the same entries as some that ascend -/
def jgo : Nat × Nat → List (Nat × Nat) → List (Nat × Nat)
  | cur, [] => [cur]
  | cur, x :: l => if x.1 ≤ cur.2 then jgo (cur.1, max cur.2 x.2) l else cur :: jgo x l
def jn : List (Nat × Nat) → List (Nat × Nat)
  | [] => []
  | x :: l => jgo x l
theorem jgo_len : ∀ (l : List (Nat × Nat)) (c : Nat × Nat), (jgo c l).length ≤ l.length + 1
  | [], c => Nat.le_refl _
  | x :: l, c => by
    unfold jgo
    split
    · have := jgo_len l (c.1, max c.2 x.2)
      show _ ≤ l.length + 1 + 1
      omega
    · have := jgo_len l x
      show (jgo x l).length + 1 ≤ l.length + 1 + 1
      omega
theorem jn_len (l : List (Nat × Nat)) : (jn l).length ≤ l.length := by
  cases l with
  | nil => exact Nat.le_refl _
  | cons x l => exact jgo_len l x
theorem jgo_mem : ∀ (l : List (Nat × Nat)) (c : Nat × Nat) (n : Nat), c.1 < c.2 → c.2 ≤ n → (∀ x ∈ l, x.1 < x.2 ∧ x.2 ≤ n) → ∀ y ∈ jgo c l, y.1 < y.2 ∧ y.2 ≤ n
  | [], c, n, h1, h2, _, y, hy => by
    rw [List.mem_singleton.mp hy]
    exact ⟨h1, h2⟩
  | x :: l, c, n, h1, h2, h, y, hy => by
    have hx := h x List.mem_cons_self
    unfold jgo at hy
    split at hy
    · exact jgo_mem l (c.1, max c.2 x.2) n (by show c.1 < max c.2 x.2; omega) (by show max c.2 x.2 ≤ n; omega) (fun z hz => h z (List.mem_cons_of_mem _ hz)) y hy
    · rcases List.mem_cons.mp hy with rfl | hy
      · exact ⟨h1, h2⟩
      · exact jgo_mem l x n hx.1 hx.2 (fun z hz => h z (List.mem_cons_of_mem _ hz)) y hy
theorem jn_mem {l : List (Nat × Nat)} {n : Nat} (h : ∀ x ∈ l, x.1 < x.2 ∧ x.2 ≤ n) : ∀ y ∈ jn l, y.1 < y.2 ∧ y.2 ≤ n := by
  cases l with
  | nil => exact fun y hy => absurd hy (by simp [jn])
  | cons x l =>
    have hx := h x List.mem_cons_self
    exact jgo_mem l x n hx.1 hx.2 fun z hz => h z (List.mem_cons_of_mem _ hz)
theorem nds_eqvAll : ∀ l k : List (Nat × Nat), PyData.eqvAll (l.map nd) (k.map nd) = decide (l = k)
  | [], [] => by simp [PyData.eqvAll]
  | [], y :: k => by simp [PyData.eqvAll]
  | x :: l, [] => by simp [PyData.eqvAll]
  | x :: l, y :: k => by
    have e : PyData.eqvAll ((x :: l).map nd) ((y :: k).map nd) = (PyData.eqv (nd x) (nd y) && PyData.eqvAll (l.map nd) (k.map nd)) := by simp only [List.map_cons, PyData.eqvAll]
    rw [e, nds_eqvAll l k]
    unfold nd
    rw [nd_eqv]
    by_cases h : x = y
    · subst h
      simp
    · have : ¬ ((x.1 : Int) = (y.1 : Int) ∧ (x.2 : Int) = (y.2 : Int)) := fun z => h (Prod.ext (by omega) (by omega))
      have e2 : (decide ((x.1 : Int) = (y.1 : Int)) && decide ((x.2 : Int) = (y.2 : Int))) = false := by
        rw [Bool.and_eq_false_iff]
        by_cases h1 : (x.1 : Int) = (y.1 : Int)
        · exact .inr (decide_eq_false fun z => this ⟨h1, z⟩)
        · exact .inl (decide_eq_false h1)
      rw [e2]
      simp [h]
theorem nds_eqv (l k : List (Nat × Nat)) : PyData.eqv (.list (l.map nd)) (.list (k.map nd)) = decide (l = k) := by
  have e : PyData.eqv (.list (l.map nd)) (.list (k.map nd)) = PyData.eqvAll (l.map nd) (k.map nd) := by simp only [PyData.eqv]
  rw [e, nds_eqvAll]
section
variable {P : Program} {w : World} {K : PySem.W.Frag} {mg : Str → Option Value} {base : Heap}
def spCheckNodes : Sp := fun vs H Q _ => ∃ (n : Nat) (p : Addr) (xs : List V) (S : List (Nat × Nat)), vs = [.int n, .ref p, .int 1, .int 60] ∧ 1 ≤ n ∧ n ≤ 10 ^ 30 ∧ H p = some (.lst xs) ∧ All2 (Nd H) xs S ∧ 1 ≤ S.length ∧ S.length ≤ 60 ∧ (∀ x ∈ S, isN n x) ∧ ∀ H', Same H H' → Q .non H'
theorem ok_check_nodes {f g1 g2 : Addr} {fd d1 d2 : FuncData} {its : List Value} {dvs : List V} (F : FunT K "check_nodes" "check_nodes" sCheckNodes its dvs f fd) (GIsListOf : FnOk P w K mg base CX0 1 g1 d1 ["value", "least", "most"] spListOf) (AIsListOf : At K mg "is_list_of" g1 d1 ["value", "least", "most"])
    (GIsTreeNode : FnOk P w K mg base CX0 3 g2 d2 ["size", "value"] (spTreeV K)) (AIsTreeNode : At K mg "is_tree_node" g2 d2 ["size", "value"]) (z_enumerate : mg "enumerate" = none) : FnOk P w K mg base CX0 4 f fd ["size", "nodes", "least", "most"] spCheckNodes := by
  refine F.ok scCheckNodes (fun vs H Q E h => ?_) (fun cdv A outer s H vs Q E hr h => ?_)
  · obtain ⟨_, _, _, _, rfl, _⟩ := h
    rfl
  obtain ⟨n, p, xs, S, rfl, n1, h30, hp, hx, l1, l60, hS, q⟩ := h
  refine ⟨_, (pss_cons (ps_if (pt_not (pt_val (pe_call GIsListOf (hr.mono (by decide)) rfl AIsListOf.m AIsListOf.kp AIsListOf.b .nil pass0 (pa_cons (pv 1) (pa_cons (pv 2) (pa_cons (pv 3) pa_nil))))))
    (pss_one ps_never)
    pss_nil)
    (pss_one (ps_for PassesOwn.never rfl (pi_enum (by rfl) z_enumerate (pa_cons (pv 1) pa_nil)) (pg_tup (by rfl) (pgs_cons (pg_name (i := 4) scCheckNodes.nd rfl (Or.inl rfl)) (pgs_cons (pg_name (i := 5) scCheckNodes.nd rfl (Or.inl rfl)) pgs_nil)))
    (pss_one (ps_if (pt_not (pt_val (pe_call GIsTreeNode (hr.mono (by decide)) rfl AIsTreeNode.m AIsTreeNode.kp AIsTreeNode.b .nil pass0 (pa_cons (pv 0) (pa_cons (pv 5) pa_nil)))))
    (pss_one ps_never)
    pss_nil))))), ?_⟩
  have xl := hx.len
  refine ⟨_, rfl, _, rfl, _, rfl, p, xs, 1, 60, rfl, hp, by omega, by omega, true, rfl, ?_⟩
  refine ⟨_, rfl, p, xs, rfl, SqL.of hp, ?_⟩
  refine for_enum (a := p) (xs := xs) (fun i σ H' => ∃ (v4 v5 : Option V), σ = [some (.int (n : Int)), some (.ref p), some (.int 1), some (.int 60), v4, v5] ∧ Same H H')
    ⟨none, none, rfl, Same.refl _⟩ (fun i σ H' _ ⟨_, _, _, sm⟩ => SqL.of (sm _ _ hp)) ?_ ?_
  · rintro i x σ H2 T hi ⟨v4, v5, rfl, sm⟩ nT
    obtain ⟨y, hyi, hy⟩ := hx.nth hi
    have sT := same_upd (o := .tup [.int ((i : Nat) : Int), x]) nT
    have hy2 := (hy.same sm).same sT
    obtain ⟨yp, rfl, hyp⟩ := id hy2
    refine ⟨T, _, rfl, SqT.of upd_same, rfl, _, _, rfl, _, _, rfl, rfl, ?_⟩
    refine ⟨_, rfl, _, rfl, n, _, true, rfl, n1, by omega, ?_, true, rfl, ?_⟩
    · have e : tnV n (.int (y.1 : Int)) (.int (y.2 : Int)) = true := by
        rw [tn_nat]
        exact decide_eq_true (hS y (List.mem_of_getElem? hyi))
      exact e ▸ Ask.pair (n := n) hyp (.int _) (.int _)
    · exact ⟨_, _, rfl, sm.trans sT⟩
  · rintro σ H2 ⟨v4, v5, rfl, sm⟩
    exact q H2 sm
def spJoined : Sp := fun vs H Q _ => ∃ (p : Addr) (xs : List V) (S : List (Nat × Nat)), vs = [.ref p] ∧ H p = some (.lst xs) ∧ All2 (Nd H) xs S ∧ S.length ≤ 400 ∧
  ∀ (H' : Hp) (r : Addr) (ys : List V), Same H H' → H r = none → H' r = some (.lst ys) → All2 (Nd H') ys (jn (srt S)) → Q (.ref r) H'
theorem ok_joined {f : Addr} {fd : FuncData} (F : Fun K "joined" "joined" sJoined f fd) (z_sorted : mg "sorted" = none) (z_max : mg "max" = none) : FnOk P w K mg base CX0 1 f fd ["stretches"] spJoined := by
  refine F.ok scJoined (fun vs H Q E h => ?_) (fun cdv A outer s H vs Q E hr h => ?_)
  · obtain ⟨_, _, _, rfl, _⟩ := h
    rfl
  obtain ⟨p, xs, S, rfl, hp, hx, l400, q⟩ := h
  refine ⟨_, (pss_cons (ps_set (i := 1) scJoined.nd rfl (Or.inl rfl) (pe_lst pa_nil))
    (pss_cons (ps_for PassesOwn.never rfl (pi_list (pe_callB cr_sortedPO (by rfl) z_sorted (by decide +kernel) (pa_cons (pv 0) pa_nil))) (pg_tup (by rfl) (pgs_cons (pg_name (i := 2) scJoined.nd rfl (Or.inl rfl)) (pgs_cons (pg_name (i := 3) scJoined.nd rfl (Or.inl rfl)) pgs_nil)))
    (pss_one (ps_if (PW.pt (pw_and (pt_truth (pv 1) (fun _ => rfl)) (pw_and1 (pt_cmpR op_le (pv 2) (pe_ix ix_tup (pe_ix ix_list (pv 1) (pe_un un_neg pe_int) (fun _ _ => rfl)) pe_int (fun _ _ => rfl)) (nomark _)))))
    (pss_cons (ps_asg (pe_bm0 PySem.F.plainAttrs_list PySem.F.slot_list_pop PySem.F.type_list_pop mt_pop (pv 1)) (pg_tup (by rfl) (pgs_cons (pg_name (i := 4) scJoined.nd rfl (Or.inl rfl)) (pgs_cons (pg_name (i := 5) scJoined.nd rfl (Or.inl rfl)) pgs_nil))))
    (pss_one (ps_expr (pe_bm PySem.F.plainAttrs_list PySem.F.slot_list_append PySem.F.type_list_append mt_append (pv 1) (pa_cons (pe_tup (pa_cons (pv 4) (pa_cons (pe_callB (call_max2 rfl) (by rfl) z_max (by decide +kernel) (pa_cons (pv 5) (pa_cons (pv 3) pa_nil))) pa_nil))) pa_nil)))))
    (pss_one (ps_expr (pe_bm PySem.F.plainAttrs_list PySem.F.slot_list_append PySem.F.type_list_append mt_append (pv 1) (pa_cons (pe_tup (pa_cons (pv 2) (pa_cons (pv 3) pa_nil))) pa_nil)))))))
    (pss_one (ps_ret (pv 1))))), ?_⟩
  refine ⟨Nat.zero_le _, fun fa nf => ?_⟩
  have s2 := same_upd (o := .lst []) nf
  have hx2 := hx.mono (fun v x (k : Nd H v x) => k.same s2)
  have hp2 := s2 _ _ hp
  have hf2 : (upd H fa (.lst [])) fa = some (.lst []) := upd_same
  generalize upd H fa (.lst []) = H2 at s2 hx2 hp2 hf2
  refine ⟨_, rfl, p, xs, kOf H2, rfl, SqL.of hp2, fun x hm => ?_, fun ys so hs1 hs2 nso => ?_⟩
  · obtain ⟨y, _, pa, rfl, hpa⟩ := hx2.mem hm
    exact ⟨pa, rfl, by rw [hpa]; simp only [kOf, hpa]⟩
  have s3 := same_upd (o := .lst ys) nso
  have hy0 := (sorted_srt hx2 hs1 hs2.perm).mono (fun v x (k : Nd H2 v x) => k.same s3)
  have hso : (upd H2 so (.lst ys)) so = some (.lst ys) := upd_same
  have hf3 := s3 _ _ hf2
  have sof : so ≠ fa := fun z => by rw [z, hf2] at nso; cases nso
  have s03 := s2.trans s3
  have tl : (srt S).length ≤ 400 := by rw [srt_len]; exact l400
  generalize srt S = T at q hy0 tl
  generalize upd H2 so (.lst ys) = H3 at s3 hso hf3 hy0 s03
  have yl := hy0.len
  refine ⟨so, rfl, ⟨_, SqL.of hso⟩, for_list (K := K) (a := so) (xs := ys) (fun i σ H' => ∃ (v2 v3 v4 v5 : Option V) (zs : List V) (D : List (Nat × Nat)), σ = [some (.ref p), some (.ref fa), v2, v3, v4, v5] ∧ Same H H' ∧ But fa H3 H' ∧ H' fa = some (.lst zs) ∧ All2 (Nd H') zs D ∧ D.length ≤ i ∧
      ((i = 0 ∧ D = []) ∨ ∃ (done : List (Nat × Nat)) (c : Nat × Nat), D = done ++ [c] ∧ jn T = done ++ jgo c (T.drop i)))
    ⟨none, none, none, none, [], [], rfl, s03, But.refl _ _, hf3, .nil, Nat.le_refl _, .inl ⟨rfl, rfl⟩⟩ (fun i σ H' _ ⟨_, _, _, _, _, _, _, _, k, _⟩ => SqL.of (k _ _ sof hso)) ?_ ?_⟩
  · rintro i v σ H4 hi ⟨v2, v3, v4, v5, zs, D, rfl, sm, B4, hf, hz, dl, hd⟩
    obtain ⟨x, hxi, pv, rfl, hpv⟩ := hy0.nth hi
    have hdr : T.drop i = x :: T.drop (i + 1) := by
      obtain ⟨hl, hxe⟩ := List.getElem?_eq_some_iff.mp hxi
      rw [List.drop_eq_getElem_cons hl, hxe]
    have il : i < 400 := by
      have := (List.getElem?_eq_some_iff.mp hxi).1
      omega
    have pvf : pv ≠ fa := fun z => by rw [z, hf3] at hpv; cases hpv
    have hpv4 := B4 _ _ pvf hpv
    refine ⟨pv, _, rfl, SqT.of hpv4, rfl, _, _, rfl, _, _, rfl, rfl, ?_⟩
    have two : 2 ≤ sizeLine := by decide
    have step : ∀ (D2 : List (Nat × Nat)) (zs2 : List V) (H5 : Hp) (y : Nat × Nat) (t : Addr), Same H H5 → But fa H3 H5 → H5 fa = some (.lst zs2) → All2 (Nd H5) zs2 D2 → H5 t = none →
        let H6 := upd (upd H5 t (.tup [.int (y.1 : Int), .int (y.2 : Int)])) fa (.lst (zs2 ++ [.ref t]))
        Same H H6 ∧ But fa H3 H6 ∧ H6 fa = some (.lst (zs2 ++ [.ref t])) ∧ All2 (Nd H6) (zs2 ++ [.ref t]) (D2 ++ [y]) := by
      intro D2 zs2 H5 y t a1 a2 a3 a4 a5
      have w1 := same_upd (o := .tup [.int (y.1 : Int), .int (y.2 : Int)]) a5
      have f1 := w1 _ _ a3
      have tf : t ≠ fa := fun z => by rw [z, a3] at a5; cases a5
      refine ⟨fun u o k => by rw [upd_ne (ne_of_none k nf)]; exact w1 _ _ (a1 _ _ k), fun u o n k => by rw [upd_ne n]; exact w1 _ _ (a2 u o n k), upd_same, ?_⟩
      exact (a4.mono (fun v x (k : Nd H5 v x) => (k.same w1).upd f1)).app (.cons ⟨t, rfl, by rw [upd_ne tf, upd_same]⟩ .nil)
    rcases hd with ⟨i0, rfl⟩ | ⟨done, c, rfl, hj⟩
    · cases hz
      refine ⟨_, rfl, false, .inl ⟨[], SqL.of hf, rfl⟩, ?_⟩
      refine ⟨_, rfl, .inl ⟨rfl, _, SqL.of hf⟩, _, rfl, _, rfl, two, fun t nt => ?_⟩
      obtain ⟨b1, b2, b3, b4⟩ := step [] [] H4 x t sm B4 hf .nil nt
      refine ⟨fa, [], _, rfl, rfl, same_upd nt _ _ hf, szlt (by decide), ?_⟩
      refine ⟨_, _, _, _, [] ++ [.ref t], [x], rfl, b1, b2, b3, b4, by show 1 ≤ i + 1; omega, .inr ⟨[], x, rfl, ?_⟩⟩
      subst i0
      rw [List.drop_zero] at hdr
      rw [hdr]
      rfl
    · obtain ⟨zs0, zc, rfl, hz0, hzc⟩ : ∃ (zs0 : List V) (zc : V), zs = zs0 ++ [zc] ∧ All2 (Nd H4) zs0 done ∧ Nd H4 zc c := by
        have := hz.rev
        rw [List.reverse_append] at this
        generalize hzr : zs.reverse = zr at this
        cases this with
        | @cons v _ vs _ h r =>
          refine ⟨vs.reverse, v, ?_, ?_, h⟩
          · rw [← List.reverse_reverse zs, hzr, List.reverse_cons]
          · have r2 : All2 (Nd H4) vs.reverse (done.reverse).reverse := r.rev
            rwa [List.reverse_reverse] at r2
      obtain ⟨cp, rfl, hcp⟩ := hzc
      rw [hdr] at hj
      have hz9 : done.length + 1 ≤ 400 := by
        rw [List.length_append] at dl
        have : ([c] : List (Nat × Nat)).length = 1 := rfl
        omega
      refine ⟨_, rfl, true, .inl ⟨_, SqL.of hf, by cases zs0 <;> rfl⟩, ?_⟩
      refine ⟨_, rfl, _, rfl, _, rfl, fa, _, _, _, rfl, rfl, SqL.of hf, atI_last _ _, cp, _, _, _, rfl, rfl, SqT.of hcp, atI_nat (j := 1) rfl, _, _, rfl, rfl, ?_⟩
      by_cases le : x.1 ≤ c.2
      · refine ⟨true, congrArg V.bl (decide_eq_true (by omega)), ?_⟩
        refine ⟨_, rfl, .inl ⟨rfl, _, SqL.of hf⟩, fa, _, .ref cp, rfl, rfl, hf, by simp, ?_⟩
        have e1 : jn T = done ++ jgo (c.1, max c.2 x.2) (T.drop (i + 1)) := by
          rw [hj]
          show done ++ jgo c (x :: T.drop (i + 1)) = _
          rw [jgo, if_pos le]
        rw [List.dropLast_concat]
        have p1 : Same H (upd H4 fa (.lst zs0)) := fun u o k => by rw [upd_ne (ne_of_none k nf)]; exact sm _ _ k
        have p2 : But fa H3 (upd H4 fa (.lst zs0)) := fun u o n k => by rw [upd_ne n]; exact B4 u o n k
        have p3 : (upd H4 fa (.lst zs0)) fa = some (.lst zs0) := upd_same
        have p4 : All2 (Nd (upd H4 fa (.lst zs0))) zs0 done := hz0.mono (fun v x (k : Nd H4 v x) => k.upd hf)
        have p5 : (upd H4 fa (.lst zs0)) cp = some (.tup [.int (c.1 : Int), .int (c.2 : Int)]) := by
          rw [upd_ne (ne_of hcp hf (by intro z; cases z))]
          exact hcp
        generalize upd H4 fa (.lst zs0) = H5 at p1 p2 p3 p4 p5 ⊢
        refine ⟨cp, _, rfl, SqT.of p5, rfl, _, _, rfl, _, _, rfl, rfl, ?_⟩
        refine ⟨_, rfl, .inl ⟨rfl, _, SqL.of p3⟩, _, rfl, _, rfl, _, rfl, _, _, rfl, two, fun t nt => ?_⟩
        rw [max_castB]
        obtain ⟨b1, b2, b3, b4⟩ := step done zs0 H5 (c.1, max c.2 x.2) t p1 p2 p3 p4 nt
        refine ⟨fa, zs0, _, rfl, rfl, same_upd nt _ _ p3, szlt (by rw [p4.len]; omega), ?_⟩
        refine ⟨_, _, _, _, zs0 ++ [.ref t], done ++ [(c.1, max c.2 x.2)], rfl, b1, b2, b3, b4, ?_, .inr ⟨done, _, rfl, e1⟩⟩
        rw [List.length_append] at dl ⊢
        exact Nat.le_succ_of_le dl
      · refine ⟨false, congrArg V.bl (decide_eq_false (by omega)), ?_⟩
        have e1 : jn T = (done ++ [c]) ++ jgo x (T.drop (i + 1)) := by
          rw [hj, List.append_assoc]
          show done ++ jgo c (x :: T.drop (i + 1)) = _
          rw [jgo, if_neg le]
          rfl
        refine ⟨_, rfl, .inl ⟨rfl, _, SqL.of hf⟩, _, rfl, _, rfl, two, fun t nt => ?_⟩
        obtain ⟨b1, b2, b3, b4⟩ := step _ _ H4 x t sm B4 hf hz nt
        refine ⟨fa, _, _, rfl, rfl, same_upd nt _ _ hf, szlt (by rw [hz.len, List.length_append]; show done.length + 1 < 100000; omega), ?_⟩
        refine ⟨_, _, _, _, _, done ++ [c] ++ [x], rfl, b1, b2, b3, b4, ?_, .inr ⟨done ++ [c], _, rfl, e1⟩⟩
        rw [List.length_append]
        exact Nat.succ_le_succ dl
  · rintro σ H4 ⟨v2, v3, v4, v5, zs, D, rfl, sm, B4, hf, hz, dl, hd⟩
    refine ⟨_, rfl, q H4 fa zs sm nf hf ?_⟩
    rw [yl, List.drop_length] at hd
    rcases hd with ⟨e, rfl⟩ | ⟨done, c, rfl, e⟩
    · have : T = [] := List.eq_nil_of_length_eq_zero (by omega)
      subst this
      exact hz
    · rw [e]
      exact hz
def spCheckK : Sp := fun vs H Q _ => ∃ (n : Nat) (p : Addr) (xs : List V) (S : List (Nat × Nat)), vs = [.int n, .ref p] ∧ 1 ≤ n ∧ n ≤ 10 ^ 30 ∧ H p = some (.lst xs) ∧ All2 (Nd H) xs S ∧ 1 ≤ S.length ∧ S.length ≤ 60 ∧ (∀ x ∈ S, isN n x) ∧ ∀ H', Same H H' → Q .non H'
theorem ok_check {f g1 g2 : Addr} {fd d1 d2 : FuncData} {ds : List Value} (F : Fun K "_check" "_check" sCheck f fd) (GCheckSize : FnOk P w K mg base CX0 3 g1 d1 ["size"] spCheckSize) (ACheckSize : At K mg "check_size" g1 d1 ["size"])
    (GCheckNodes : FnOk P w K mg base CX0 4 g2 d2 ["size", "nodes", "least", "most"] spCheckNodes) (ACheckNodes : AtT K mg "check_nodes" g2 d2 ["size", "nodes", "least", "most"] ds [.int 1, .int 60]) : FnOk P w K mg base CX0 5 f fd ["size", "nodes"] spCheckK := by
  refine F.ok scCheck (fun vs H Q E h => ?_) (fun cdv A outer s H vs Q E hr h => ?_)
  · obtain ⟨_, _, _, _, rfl, _⟩ := h
    rfl
  obtain ⟨n, p, xs, S, rfl, n1, h30, hp, hx, l1, l60, hS, q⟩ := h
  refine ⟨_, (pss_cons (ps_expr (pe_call GCheckSize (hr.mono (by decide)) rfl ACheckSize.m ACheckSize.kp ACheckSize.b .nil pass0 (pa_cons (pv 0) pa_nil)))
    (pss_one (ps_expr (pe_call GCheckNodes (hr.mono (by decide)) rfl ACheckNodes.m ACheckNodes.kp ACheckNodes.b ACheckNodes.v pass0 (pa_cons (pv 0) (pa_cons (pv 1) pa_nil)))))), ?_⟩
  refine ⟨_, rfl, _, rfl, by omega, by omega, _, rfl, _, rfl, n, p, xs, S, rfl, n1, h30, hp, hx, l1, l60, hS, q⟩
def spGives : Sp := fun vs H Q _ => ∃ (n : Nat) (p : Addr) (xs : List V) (S : List (Nat × Nat)), vs = [.int n, .ref p] ∧ 1 ≤ n ∧ n ≤ 10 ^ 30 ∧ H p = some (.lst xs) ∧ All2 (Nd H) xs S ∧ 1 ≤ S.length ∧ S.length ≤ 60 ∧ (∀ x ∈ S, isN n x) ∧ ∀ H', Same H H' → Q (.bl (decide (jn (srt S) = [(0, n)]))) H'
theorem ok_gives_root {f g1 g2 : Addr} {fd d1 d2 : FuncData} (F : Fun K "gives_root" "gives_root" sGivesRoot f fd) (GCheck : FnOk P w K mg base CX0 5 g1 d1 ["size", "nodes"] spCheckK) (ACheck : At K mg "_check" g1 d1 ["size", "nodes"])
    (GJoined : FnOk P w K mg base CX0 1 g2 d2 ["stretches"] spJoined) (AJoined : At K mg "joined" g2 d2 ["stretches"]) : FnOk P w K mg base CX0 6 f fd ["size", "nodes"] spGives := by
  refine F.ok scGivesRoot (fun vs H Q E h => ?_) (fun cdv A outer s H vs Q E hr h => ?_)
  · obtain ⟨_, _, _, _, rfl, _⟩ := h
    rfl
  obtain ⟨n, p, xs, S, rfl, n1, h30, hp, hx, l1, l60, hS, q⟩ := h
  refine ⟨_, (pss_cons (ps_expr (pe_call GCheck (hr.mono (by decide)) rfl ACheck.m ACheck.kp ACheck.b .nil pass0 (pa_cons (pv 0) (pa_cons (pv 1) pa_nil))))
    (pss_one (ps_ret (pe_cmpR (op_eqD hr.units) (pe_call GJoined (hr.mono (by decide)) rfl AJoined.m AJoined.kp AJoined.b .nil pass0 (pa_cons (pv 1) pa_nil)) (pe_lst (pa_cons (pe_tup (pa_cons pe_int (pa_cons (pv 0) pa_nil))) pa_nil)) (nomark _))))), ?_⟩
  refine ⟨_, rfl, _, rfl, n, p, xs, S, rfl, n1, h30, hp, hx, l1, l60, hS, fun H1 s1 => ?_⟩
  refine ⟨_, rfl, p, xs, S, rfl, s1 _ _ hp, hx.mono (fun v x (k : Nd H v x) => k.same s1), by omega, fun H2 r ys s2 nr hr2 hy => ?_⟩
  refine ⟨_, rfl, (by show 2 ≤ sizeLine; decide), fun t nt => ⟨(by show 1 ≤ sizeLine; decide), fun l nl => ?_⟩⟩
  have w1 := same_upd (o := .tup [.int 0, .int (n : Int)]) nt
  have w2 := same_upd (o := .lst [.ref t]) nl
  have len : (jn (srt S)).length ≤ 400 := by
    have := jn_len (srt S)
    rw [srt_len] at this
    omega
  refine ⟨.list ((jn (srt S)).map nd), .list ([(0, n)].map nd), lst_dp (w2 _ _ (w1 _ _ hr2)) (hy.mono fun v x (k : Nd H2 v x) => (k.same w1).same w2), lst_dp (l := [(0, n)]) upd_same (.cons ⟨t, rfl, w2 _ _ upd_same⟩ .nil), nds_shaped _, nds_shaped _, ?_⟩
  rw [nds_eqv]
  exact q _ ((s1.trans s2).trans (w1.trans w2))
/-- the greatest nodes within stretches -/
def tps (n : Nat) (l : List (Nat × Nat)) : List (Nat × Nat) := l.flatMap fun x => nw n x.1 x.2
theorem tps_len {n : Nat} : ∀ (l : List (Nat × Nat)), (∀ x ∈ l, x.2 ≤ 2 ^ 100) → (tps n l).length ≤ 202 * l.length
  | [], _ => Nat.le_refl _
  | x :: l, h => by
    have a := nw_len (n := n) (b := x.1) (h x List.mem_cons_self)
    have b := tps_len (n := n) l fun y hy => h y (List.mem_cons_of_mem _ hy)
    show (nw n x.1 x.2 ++ tps n l).length ≤ 202 * (l.length + 1)
    rw [List.length_append]
    omega
def spTopsK : Sp := fun vs H Q _ => ∃ (n : Nat) (p : Addr) (xs : List V) (S : List (Nat × Nat)), vs = [.int n, .ref p] ∧ 1 ≤ n ∧ n ≤ 10 ^ 30 ∧ H p = some (.lst xs) ∧ All2 (Nd H) xs S ∧ 1 ≤ S.length ∧ S.length ≤ 60 ∧ (∀ x ∈ S, isN n x) ∧
  ∀ (H' : Hp) (r : Addr) (ys : List V), Same H H' → H r = none → H' r = some (.lst ys) → All2 (Nd H') ys (tps n (jn (srt S))) → Q (.ref r) H'
theorem ok_known_tops {f g1 g2 g3 : Addr} {fd d1 d2 d3 : FuncData} (F : Fun K "known_tops" "known_tops" sKnownTops f fd) (GCheck : FnOk P w K mg base CX0 5 g1 d1 ["size", "nodes"] spCheckK) (ACheck : At K mg "_check" g1 d1 ["size", "nodes"])
    (GJoined : FnOk P w K mg base CX0 1 g2 d2 ["stretches"] spJoined) (AJoined : At K mg "joined" g2 d2 ["stretches"])
    (GNodesWithin : FnOk P w K mg base CX0 4 g3 d3 ["size", "begin", "end"] spWithinX) (ANodesWithin : At K mg "nodes_within" g3 d3 ["size", "begin", "end"]) : FnOk P w K mg base CX0 6 f fd ["size", "nodes"] spTopsK := by
  refine F.ok scKnownTops (fun vs H Q E h => ?_) (fun cdv A outer s H vs Q E hr h => ?_)
  · obtain ⟨_, _, _, _, rfl, _⟩ := h
    rfl
  obtain ⟨n, p, xs, S, rfl, n1, h30, hp, hx, l1, l60, hS, q⟩ := h
  refine' ⟨_, (pss_cons (ps_expr (pe_call GCheck (hr.mono (by decide)) rfl ACheck.m ACheck.kp ACheck.b .nil pass0 (pa_cons (pv 0) (pa_cons (pv 1) pa_nil))))
    (pss_one (ps_ret (pe_lc2 (own := [("begin", 2), ("end", 3), ("top", 4)]) (vs1 := [4]) rfl scKnownTops.nd (pi_list (pe_call GJoined (hr.mono (by decide)) rfl AJoined.m AJoined.kp AJoined.b .nil pass0 (pa_cons (pv 1) pa_nil))) (blkOk_by (N := ["size", "nodes", "begin", "end", "top"]) (sc := defScope sKnownTops) (by decide +kernel)) (by decide) (fun _ _ _ _ _ => (pg_tupB (n := 2) rfl (pgs_cons (pg_name (i := 2) scKnownTops.nd rfl (Or.inl rfl)) (pgs_cons (pg_name (i := 3) scKnownTops.nd rfl (Or.inl rfl)) pgs_nil)))) (fun _ _ _ _ _ => pts_nil) (fun _ _ _ _ _ => (pi_listB (pe_call GNodesWithin (hr.mono (by decide)) rfl ANodesWithin.m ANodesWithin.kp ANodesWithin.b .nil pass0 (pa_cons (pv 0) (pa_cons (pv 2) (pa_cons (pv 3) pa_nil)))))) (fun _ _ _ _ _ => (pg_name (i := 4) scKnownTops.nd rfl (Or.inl rfl))) (fun _ _ _ _ _ => pts_nil) (fun _ _ _ _ _ => (pv 4)))))), ?_⟩
  refine ⟨_, rfl, _, rfl, n, p, xs, S, rfl, n1, h30, hp, hx, l1, l60, hS, fun H1 s1 => ?_⟩
  refine ⟨_, rfl, p, xs, S, rfl, s1 _ _ hp, hx.mono (fun v x (k : Nd H v x) => k.same s1), by omega, fun H2 r ys s2 nr hr2 hy => ?_⟩
  have hb : ∀ x ∈ jn (srt S), x.1 < x.2 ∧ x.2 ≤ n := jn_mem fun x hx => by
    obtain ⟨a, b, _⟩ := isN_tree (hS x (srt_mem.mp hx))
    exact ⟨a, b⟩
  have len : (jn (srt S)).length ≤ 60 := by
    have := jn_len (srt S)
    rw [srt_len] at this
    omega
  have tot := tps_len (n := n) (jn (srt S)) fun x hx => by have := (hb x hx).2; omega
  generalize jn (srt S) = T at hb len tot hy q
  have s02 := s1.trans s2
  refine ⟨r, rfl, ⟨_, SqL.of hr2⟩, fun D nD => ?_⟩
  have yl := hy.len
  refine lc2_list (K := K) (a := r) (xs := ys) (fun i H' => ∃ (zs : List V), Same H2 H' ∧ H' D = some (.lst zs) ∧ All2 (Nd H') zs (tps n (T.take i))) ⟨[], same_upd nD, upd_same, .nil⟩ (fun i H' _ ⟨_, sm, _⟩ => SqL.of (sm _ _ hr2)) ?_ ?_
  · rintro i v H4 hi ⟨zs, sm, hD, hz⟩
    obtain ⟨x, hxi, pv, rfl, hpv⟩ := hy.nth hi
    have hpv4 := sm _ _ hpv
    obtain ⟨x1, x2⟩ := hb x (List.mem_of_getElem? hxi)
    refine ⟨pv, _, rfl, SqT.of hpv4, rfl, _, _, rfl, _, _, rfl, rfl, rfl, ?_⟩
    refine ⟨_, rfl, _, rfl, _, rfl, n, x.1, x.2, rfl, n1, by omega, x2, by omega, fun H5 r2 us s5 nr5 hr5 hu => ⟨r2, rfl, ⟨_, SqL.of hr5⟩, ?_⟩⟩
    have hD5 := s5 _ _ hD
    have rD : r2 ≠ D := fun z => by rw [z, hD] at nr5; cases nr5
    have etake : tps n (T.take (i + 1)) = tps n (T.take i) ++ nw n x.1 x.2 := by
      rw [take_more hxi]
      unfold tps
      rw [List.flatMap_append]
      simp
    have lenU : (tps n (T.take i)).length + (nw n x.1 x.2).length ≤ 202 * 60 := by
      have := tps_len (n := n) (T.take (i + 1)) fun x hx => by have := (hb x (List.mem_of_mem_take hx)).2; omega
      rw [etake, List.length_append, List.length_take] at this
      omega
    generalize tps n (T.take i) = A0 at hz etake lenU
    generalize nw n x.1 x.2 = L at hu etake lenU
    refine lc_in (K := K) (a := r2) (xs := us) (fun j H' => ∃ (ws : List V), Same H2 H' ∧ H' r2 = some (.lst us) ∧ All2 (Nd H') us L ∧ H' D = some (.lst ws) ∧ All2 (Nd H') ws (A0 ++ L.take j))
      ⟨zs, sm.trans s5, hr5, hu, hD5, by rw [List.take_zero, List.append_nil]; exact hz.mono fun v x (k : Nd H4 v x) => k.same s5⟩ (fun j H' _ ⟨_, _, hr, _⟩ => SqL.of hr) ?_ ?_
    · rintro j u H6 hj ⟨ws, sm6, hr6, hu6, hD6, hw6⟩
      obtain ⟨y, hyj, hy6⟩ := hu6.nth hj
      have jl : j < L.length := (List.getElem?_eq_some_iff.mp hyj).1
      refine ⟨rfl, ?_⟩
      refine ⟨_, rfl, ws, hD6, szlt (by rw [hw6.len, List.length_append, List.length_take]; omega), ws ++ [u], ?_, ?_, ?_, upd_same, ?_⟩
      · exact fun a o k => by rw [upd_ne (ne_of_none k nD)]; exact sm6 _ _ k
      · rw [upd_ne rD]
        exact hr6
      · exact hu6.mono fun v x (k : Nd H6 v x) => k.upd hD6
      · rw [take_more hyj, ← List.append_assoc]
        exact (hw6.mono fun v x (k : Nd H6 v x) => k.upd hD6).app (.cons (hy6.upd hD6) .nil)
    · rintro H6 ⟨ws, sm6, hr6, hu6, hD6, hw6⟩
      refine ⟨ws, sm6, hD6, ?_⟩
      rw [hu6.len, List.take_length] at hw6
      rw [etake]
      exact hw6
  · rintro H4 ⟨zs, sm, hD, hz⟩
    rw [yl, List.take_length] at hz
    exact q H4 D zs (s02.trans sm) (s02.free nD) hD hz
def spMissing : Sp := fun vs H Q _ => ∃ (n : Nat) (p : Addr) (xs : List V) (S : List (Nat × Nat)), vs = [.int n, .ref p] ∧ 1 ≤ n ∧ n ≤ 10 ^ 30 ∧ H p = some (.lst xs) ∧ All2 (Nd H) xs S ∧ 1 ≤ S.length ∧ S.length ≤ 60 ∧ (∀ x ∈ S, isN n x) ∧
  ∀ (H' : Hp) (r : Addr) (ys : List V), Same H H' → H r = none → H' r = some (.lst ys) → All2 (Nd H') ys (nb n 0 (srt S)) → Q (.ref r) H'
theorem ok_missing {f g1 g2 : Addr} {fd d1 d2 : FuncData} (F : Fun K "missing" "missing" sMissing f fd) (GCheck : FnOk P w K mg base CX0 5 g1 d1 ["size", "nodes"] spCheckK) (ACheck : At K mg "_check" g1 d1 ["size", "nodes"])
    (GNodesBeside : FnOk P w K mg base CX0 5 g2 d2 ["size", "stretches"] spBeside) (ANodesBeside : At K mg "nodes_beside" g2 d2 ["size", "stretches"]) : FnOk P w K mg base CX0 6 f fd ["size", "nodes"] spMissing := by
  refine F.ok scMissing (fun vs H Q E h => ?_) (fun cdv A outer s H vs Q E hr h => ?_)
  · obtain ⟨_, _, _, _, rfl, _⟩ := h
    rfl
  obtain ⟨n, p, xs, S, rfl, n1, h30, hp, hx, l1, l60, hS, q⟩ := h
  refine ⟨_, (pss_cons (ps_expr (pe_call GCheck (hr.mono (by decide)) rfl ACheck.m ACheck.kp ACheck.b .nil pass0 (pa_cons (pv 0) (pa_cons (pv 1) pa_nil))))
    (pss_one (ps_ret (pe_call GNodesBeside (hr.mono (by decide)) rfl ANodesBeside.m ANodesBeside.kp ANodesBeside.b .nil pass0 (pa_cons (pv 0) (pa_cons (pv 1) pa_nil)))))), ?_⟩
  refine ⟨_, rfl, _, rfl, n, p, xs, S, rfl, n1, h30, hp, hx, l1, l60, hS, fun H1 s1 => ?_⟩
  refine ⟨_, rfl, _, rfl, n, p, xs, S, rfl, n1, h30, s1 _ _ hp, hx.mono (fun v x (k : Nd H v x) => k.same s1), by omega, fun x hx => ?_, fun H2 r ys s2 nr hr2 hy => ?_⟩
  · obtain ⟨a, b, _⟩ := isN_tree (hS x hx)
    omega
  exact q H2 r ys (s1.trans s2) (s1.free nr) hr2 hy
end
end LT

namespace LT
open PySem PySem.Spec PyProof.Rows L2
/-- zip where the second list ends first -/
theorem for_zipS {K : PySem.W.Frag} {a b : Addr} {xs ys : List V} {g : TG} {tb : TS} {D : Ends} {σ : L2.St} {H : Hp} (hl : ys.length ≤ xs.length) (J : Nat → L2.St → Hp → Prop) (start : J 0 σ H)
    (still : ∀ i σ H, J i σ H → SqL K H a xs ∧ SqL K H b ys)
    (turn : ∀ (i : Nat) (x y : V) (t : Addr) (σ : L2.St) (H : Hp), xs[i]? = some x → ys[i]? = some y → J i σ H → H t = none → g (.ref t) σ (upd H t (.tup [x, y])) fun σ2 H2 => tb { D with nx := J (i + 1), ct := J (i + 1), bk := D.nx } σ2 H2)
    (fin : ∀ σ H, J ys.length σ H → D.nx σ H) :
    ∃ W : Nat → Nat → L2.St → Hp → Prop, (∃ m, W 0 m σ H) ∧ ∀ i m σ H, W i m σ H →
      ((Itz K a b).stop i H ∧ D.nx σ H) ∨ ((Itz K a b).go i H ∧ ∃ N : L2.St → Hp → Prop, (∀ σ' H', N σ' H' → ∃ m', m' < m ∧ W (i + 1) m' σ' H') ∧ ∀ v H', (Itz K a b).yld i H v H' → g v σ H' fun σ2 H2 => tb { D with nx := N, ct := N, bk := D.nx } σ2 H2) := by
  refine ⟨fun i m σ H => i + m = ys.length ∧ J i σ H, ⟨ys.length, Nat.zero_add _, start⟩, ?_⟩
  rintro i m σ H ⟨im, j⟩
  obtain ⟨s1, s2⟩ := still i σ H j
  by_cases z : m = 0
  · have e : i = ys.length := by omega
    subst e
    exact .inl ⟨⟨xs, ys, s1, s2, .inr (Nat.le_refl _)⟩, fin σ H j⟩
  · have h1 : i < ys.length := by omega
    have h2 : i < xs.length := by omega
    refine .inr ⟨⟨xs, ys, _, _, s1, s2, List.getElem?_eq_getElem h2, List.getElem?_eq_getElem h1⟩, J (i + 1), fun σ' H' j' => ⟨m - 1, by omega, by omega, j'⟩, ?_⟩
    rintro v H' ⟨t, x, y, rfl, ht, rfl, k1, k2⟩
    exact turn i x y t σ H (k1 xs s1) (k2 ys s2) j ht
theorem cut_first (xs : List V) (h : 1 ≤ xs.length) : cutV xs (some 1) none = xs.drop 1 := by
  unfold cutV
  have e : HT.sIx xs.length 0 (some 1) = 1 := by
    show (if (1 : Int) < 0 then ((1 : Int) + (xs.length : Int)).toNat else min (1 : Int).toNat xs.length) = 1
    rw [if_neg (by decide)]
    show min 1 xs.length = 1
    omega
  rw [e, HT.sIx_none]
  exact List.take_of_length_le (by rw [List.length_drop]; omega)
/-- the same in a comprehension -/
theorem lc_zipS {K : PySem.W.Frag} {a b : Addr} {xs ys : List V} {g : TG} {tt : TT} {te : TE} {vs : List Nat} {σ : L2.St} {H1 : Hp} {D : Addr} {Qd : Hp → Prop} (hl : ys.length ≤ xs.length) (J : Nat → Hp → Prop) (start : J 0 (upd H1 D (.lst [])))
    (still : ∀ i H, J i H → SqL K H a xs ∧ SqL K H b ys)
    (turn : ∀ (i : Nat) (x y : V) (t : Addr) (H : Hp), xs[i]? = some x → ys[i]? = some y → J i H → H t = none → g (.ref t) (wipe σ vs) (upd H t (.tup [x, y])) fun σ2 H2 => wipe σ2 vs = wipe σ vs ∧ tt σ2 H2 fun b H3 =>
      if b = true then te σ2 H3 fun y H4 => ∃ acc, H4 D = some (.lst acc) ∧ acc.length < sizeLine ∧ J (i + 1) (upd H4 D (.lst (acc ++ [y]))) else J (i + 1) H3)
    (fin : ∀ H, J ys.length H → Qd H) :
    ∃ W : Nat → Nat → Hp → Prop, (∃ m, W 0 m (upd H1 D (.lst []))) ∧ ∀ i m H, W i m H →
      ((Itz K a b).stop i H ∧ Qd H) ∨ ((Itz K a b).go i H ∧ ∃ Nx : Hp → Prop, (∀ H', Nx H' → ∃ m', m' < m ∧ W (i + 1) m' H') ∧ ∀ v H', (Itz K a b).yld i H v H' → g v (wipe σ vs) H' fun σ2 H2 => wipe σ2 vs = wipe σ vs ∧ tt σ2 H2 fun b H3 =>
        if b = true then te σ2 H3 fun y H4 => ∃ acc, H4 D = some (.lst acc) ∧ acc.length < sizeLine ∧ Nx (upd H4 D (.lst (acc ++ [y]))) else Nx H3) := by
  refine ⟨fun i m H => i + m = ys.length ∧ J i H, ⟨ys.length, Nat.zero_add _, start⟩, ?_⟩
  rintro i m H ⟨im, j⟩
  obtain ⟨s1, s2⟩ := still i H j
  by_cases z : m = 0
  · have e : i = ys.length := by omega
    subst e
    exact .inl ⟨⟨xs, ys, s1, s2, .inr (Nat.le_refl _)⟩, fin H j⟩
  · have h1 : i < ys.length := by omega
    have h2 : i < xs.length := by omega
    refine .inr ⟨⟨xs, ys, _, _, s1, s2, List.getElem?_eq_getElem h2, List.getElem?_eq_getElem h1⟩, J (i + 1), fun H' j' => ⟨m - 1, by omega, by omega, j'⟩, ?_⟩
    rintro v H' ⟨t, x, y, rfl, ht, rfl, k1, k2⟩
    exact turn i x y t H (k1 xs s1) (k2 ys s2) j ht
end LT

namespace LT
open PySem PySem.Spec PyProof.Rows L2
section
variable {P : Program} {w : World} {K : PySem.W.Frag} {mg : Str → Option Value} {base : Heap}
def spCompact : Sp := fun vs H Q _ => ∃ (b e : Nat), vs = [.int b, .int e] ∧ b < e ∧ e ≤ 10 ^ 30 ∧ ∀ (H' : Hp) (r : Addr) (ys : List V), Same H H' → H r = none → H' r = some (.lst ys) → All2 (Nd H') ys (nw (2 ^ 100) b e) → Q (.ref r) H'
theorem ok_compact {f g1 g2 : Addr} {fd d1 d2 : FuncData} {t1 t2 : Tok} (F : Fun K "compact" "compact" sCompact f fd) (GCheckSpan : FnOk P w K mg base CX0 3 g1 d1 ["size", "begin", "end"] spCheckSpan) (ACheckSpan : At K mg "check_span" g1 d1 ["size", "begin", "end"])
    (GNodesWithin : FnOk P w K mg base CX0 4 g2 d2 ["size", "begin", "end"] spWithinX) (ANodesWithin : At K mg "nodes_within" g2 d2 ["size", "begin", "end"])
    (g_MOST_ENTRIES : mg "MOST_ENTRIES" = some (.int 1000000000000000000000000000000 t1)) (g_FULL_SIZE : mg "FULL_SIZE" = some (.int 1267650600228229401496703205376 t2)) : FnOk P w K mg base CX0 5 f fd ["begin", "end"] spCompact := by
  refine F.ok scCompact (fun vs H Q E h => ?_) (fun cdv A outer s H vs Q E hr h => ?_)
  · obtain ⟨_, _, rfl, _⟩ := h
    rfl
  obtain ⟨b, e, rfl, h1, h30, q⟩ := h
  refine ⟨_, (pss_cons (ps_expr (pe_call GCheckSpan (hr.mono (by decide)) rfl ACheckSpan.m ACheckSpan.kp ACheckSpan.b .nil pass0 (pa_cons (pe_glob (v := .int 1000000000000000000000000000000) rfl g_MOST_ENTRIES ⟨_, rfl⟩) (pa_cons (pv 0) (pa_cons (pv 1) pa_nil)))))
    (pss_one (ps_ret (pe_call GNodesWithin (hr.mono (by decide)) rfl ANodesWithin.m ANodesWithin.kp ANodesWithin.b .nil pass0 (pa_cons (pe_glob (v := .int 1267650600228229401496703205376) rfl g_FULL_SIZE ⟨_, rfl⟩) (pa_cons (pv 0) (pa_cons (pv 1) pa_nil))))))), ?_⟩
  have e30 : (10 : Nat) ^ 30 = 1000000000000000000000000000000 := by decide
  have e100 : (2 : Nat) ^ 100 = 1267650600228229401496703205376 := by decide
  refine ⟨_, rfl, _, rfl, 1000000000000000000000000000000, b, e, rfl, h1, by omega, ?_⟩
  refine ⟨_, rfl, _, rfl, 1267650600228229401496703205376, b, e, rfl, by decide, by decide, by omega, by omega, fun H2 r ys s2 nr hr2 hy => ?_⟩
  rw [← e100] at hy
  exact q H2 r ys s2 nr hr2 hy
def spCompactCount : Sp := fun vs H Q _ => ∃ (b e : Nat), vs = [.int b, .int e] ∧ b < e ∧ e ≤ 10 ^ 30 ∧ ∀ (H' : Hp), Same H H' → Q (.int (((nw (2 ^ 100) b e).length : Nat) : Int)) H'
theorem ok_compact_count {f g1 : Addr} {fd d1 : FuncData} (F : Fun K "compact_count" "compact_count" sCompactCount f fd) (GCompact : FnOk P w K mg base CX0 5 g1 d1 ["begin", "end"] spCompact) (ACompact : At K mg "compact" g1 d1 ["begin", "end"]) (z_len : mg "len" = none) : FnOk P w K mg base CX0 6 f fd ["begin", "end"] spCompactCount := by
  refine F.ok scCompactCount (fun vs H Q E h => ?_) (fun cdv A outer s H vs Q E hr h => ?_)
  · obtain ⟨_, _, rfl, _⟩ := h
    rfl
  obtain ⟨b, e, rfl, h1, h30, q⟩ := h
  refine ⟨_, (pss_one (ps_ret (pe_callB call_len_seq (by rfl) z_len PySem.boot_len (pa_cons (pe_call GCompact (hr.mono (by decide)) rfl ACompact.m ACompact.kp ACompact.b .nil pass0 (pa_cons (pv 0) (pa_cons (pv 1) pa_nil))) pa_nil)))), ?_⟩
  refine ⟨_, rfl, _, rfl, b, e, rfl, h1, h30, fun H1 r ys s1 nr hr1 hy => ⟨r, ys, rfl, .inl (SqL.of hr1), ?_⟩⟩
  rw [hy.len]
  exact q H1 s1
/-- bounds that ascend -/
def Asc : Nat → List Nat → Prop
  | _, [] => True
  | lo, x :: l => lo ≤ x ∧ x ≤ 10 ^ 30 ∧ Asc (x + 1) l
def natsV (l : List Nat) : List V := l.map fun x : Nat => V.int (x : Int)
def spBounds : Sp := fun vs H Q _ => ∃ (p : Addr) (B : List Nat), vs = [.ref p] ∧ H p = some (.lst (natsV B)) ∧ 2 ≤ B.length ∧ B.length ≤ 12 ∧ Asc 0 B ∧ ∀ H', Same H H' → Q .non H'
theorem ok_check_bounds {f g1 g2 : Addr} {fd d1 d2 : FuncData} {t1 t2 : Tok} (F : Fun K "_check_bounds" "_check_bounds" sCheckBounds f fd) (GIsListOf : FnOk P w K mg base CX0 1 g1 d1 ["value", "least", "most"] spListOf) (AIsListOf : At K mg "is_list_of" g1 d1 ["value", "least", "most"])
    (GIsBetween : FnOk P w K mg base CX0 2 g2 d2 ["value", "low", "high"] spBetween) (AIsBetween : At K mg "is_between" g2 d2 ["value", "low", "high"]) (g_MOST_BOUNDS : mg "MOST_BOUNDS" = some (.int 12 t1)) (g_MOST_ENTRIES : mg "MOST_ENTRIES" = some (.int 1000000000000000000000000000000 t2))
    (z_enumerate : mg "enumerate" = none) : FnOk P w K mg base CX0 3 f fd ["bounds"] spBounds := by
  refine F.ok scCheckBounds (fun vs H Q E h => ?_) (fun cdv A outer s H vs Q E hr h => ?_)
  · obtain ⟨_, _, rfl, _⟩ := h
    rfl
  obtain ⟨p, B, rfl, hp, l2, l12, hB, q⟩ := h
  refine ⟨_, (pss_cons (ps_if (pt_not (pt_val (pe_call GIsListOf (hr.mono (by decide)) rfl AIsListOf.m AIsListOf.kp AIsListOf.b .nil pass0 (pa_cons (pv 0) (pa_cons pe_int (pa_cons (pe_glob (v := .int 12) rfl g_MOST_BOUNDS ⟨_, rfl⟩) pa_nil))))))
    (pss_one ps_never)
    pss_nil)
    (pss_cons (ps_set (i := 1) scCheckBounds.nd rfl (Or.inl rfl) pe_int)
    (pss_one (ps_for PassesOwn.never rfl (pi_enum (by rfl) z_enumerate (pa_cons (pv 0) pa_nil)) (pg_tup (by rfl) (pgs_cons (pg_name (i := 2) scCheckBounds.nd rfl (Or.inl rfl)) (pgs_cons (pg_name (i := 3) scCheckBounds.nd rfl (Or.inl rfl)) pgs_nil)))
    (pss_cons (ps_if (pt_not (pt_val (pe_call GIsBetween (hr.mono (by decide)) rfl AIsBetween.m AIsBetween.kp AIsBetween.b .nil pass0 (pa_cons (pv 3) (pa_cons (pv 1) (pa_cons (pe_glob (v := .int 1000000000000000000000000000000) rfl g_MOST_ENTRIES ⟨_, rfl⟩) pa_nil))))))
    (pss_one ps_never)
    pss_nil)
    (pss_one (ps_set (i := 1) scCheckBounds.nd rfl (Or.inl rfl) (pe_op op_add (pv 3) pe_int)))))))), ?_⟩
  have il : (natsV B).length = B.length := List.length_map _
  refine ⟨_, rfl, p, _, 2, 12, rfl, hp, by omega, by omega, true, rfl, ?_⟩
  refine ⟨_, rfl, p, _, rfl, SqL.of hp, ?_⟩
  refine for_enum (a := p) (xs := natsV B) (fun i σ H' => ∃ (lo : Nat) (v2 v3 : Option V), σ = [some (.ref p), some (.int (lo : Int)), v2, v3] ∧ Same H H' ∧ Asc lo (B.drop i))
    ⟨0, none, none, rfl, Same.refl _, hB⟩ (fun i σ H' _ ⟨_, _, _, _, sm, _⟩ => SqL.of (sm _ _ hp)) ?_ ?_
  · rintro i x σ H2 T hi ⟨lo, v2, v3, rfl, sm, hs⟩ nT
    obtain ⟨y, hyi, rfl⟩ : ∃ y, B[i]? = some y ∧ x = .int (y : Int) := by
      unfold natsV at hi
      rw [List.getElem?_map] at hi
      obtain ⟨y, h1, h2⟩ := Option.map_eq_some_iff.mp hi
      exact ⟨y, h1, h2.symm⟩
    have hdr : B.drop i = y :: B.drop (i + 1) := by
      obtain ⟨hl, hxe⟩ := List.getElem?_eq_some_iff.mp hyi
      rw [List.drop_eq_getElem_cons hl, hxe]
    rw [hdr] at hs
    obtain ⟨k1, k2, k3⟩ := hs
    have sT := same_upd (o := .tup [.int ((i : Nat) : Int), .int (y : Int)]) nT
    have e30 : (10 : Nat) ^ 30 = 1000000000000000000000000000000 := by decide
    refine ⟨T, _, rfl, SqT.of upd_same, rfl, _, _, rfl, _, _, rfl, rfl, ?_⟩
    refine ⟨_, rfl, _, rfl, _, _, _, rfl, true, ?_, ?_⟩
    · exact congrArg V.bl (by rw [Bool.and_eq_true]; exact ⟨decide_eq_true (by omega), decide_eq_true (by omega)⟩)
    refine ⟨_, rfl, _, _, rfl, rfl, ?_⟩
    exact ⟨y + 1, _, _, rfl, sm.trans sT, k3⟩
  · rintro σ H2 ⟨lo, v2, v3, rfl, sm, hs⟩
    exact q H2 sm
/-- neighbouring bounds -/
def cnt (b e : Nat) : Nat := (nw (2 ^ 100) b e).length
theorem Asc.lt {lo : Nat} : ∀ {B : List Nat} {i : Nat} {x y : Nat}, Asc lo B → B[i]? = some x → B[i + 1]? = some y → x < y ∧ y ≤ 10 ^ 30
  | [], _, _, _, _, h, _ => by simp at h
  | [_], 0, _, _, _, _, h => by simp at h
  | a :: b :: B, 0, x, y, ⟨_, _, h1, h2, _⟩, hx, hy => by
    simp at hx hy
    subst hx hy
    exact ⟨by omega, h2⟩
  | a :: B, i + 1, x, y, ⟨_, _, h⟩, hx, hy => Asc.lt h (by simpa using hx) (by simpa using hy)
def spJoinSums : Sp := fun vs H Q _ => ∃ (p : Addr) (B : List Nat) (lo hi : Nat), vs = [.ref p] ∧ H p = some (.lst (natsV B)) ∧ 2 ≤ B.length ∧ B.length ≤ 12 ∧ Asc 0 B ∧ B[0]? = some lo ∧ B[B.length - 1]? = some hi ∧ lo < hi ∧ hi ≤ 10 ^ 30 ∧
  ∀ H', Same H H' → Q (.int ((((B.zip (B.drop 1)).map fun x => cnt x.1 x.2).sum : Nat) - (cnt lo hi : Int))) H'
theorem ok_join_sums {f g1 g2 : Addr} {fd d1 d2 : FuncData} (F : Fun K "join_sums" "join_sums" sJoinSums f fd) (GCheckBounds : FnOk P w K mg base CX0 3 g1 d1 ["bounds"] spBounds) (ACheckBounds : At K mg "_check_bounds" g1 d1 ["bounds"])
    (GCompactCount : FnOk P w K mg base CX0 6 g2 d2 ["begin", "end"] spCompactCount) (ACompactCount : At K mg "compact_count" g2 d2 ["begin", "end"]) (z_sum : mg "sum" = none) (z_zip : mg "zip" = none) : FnOk P w K mg base CX0 7 f fd ["bounds"] spJoinSums := by
  refine F.ok scJoinSums (fun vs H Q E h => ?_) (fun cdv A outer s H vs Q E hr h => ?_)
  · obtain ⟨_, _, _, _, rfl, _⟩ := h
    rfl
  obtain ⟨p, B, lo, hi, rfl, hp, l2, l12, hB, b0, bl, lh, h30, q⟩ := h
  refine' ⟨_, (pss_cons (ps_expr (pe_call GCheckBounds (hr.mono (by decide)) rfl ACheckBounds.m ACheckBounds.kp ACheckBounds.b .nil pass0 (pa_cons (pv 0) pa_nil)))
    (pss_cons (ps_set (i := 1) scJoinSums.nd rfl (Or.inl rfl) (pe_callB (cr_sum rfl) (by rfl) z_sum (by decide +kernel) (pa_cons (pe_lc (own := [("begin", 2), ("end", 3)]) rfl scJoinSums.nd (pi_zip (by rfl) z_zip (pa_cons (pv 0) (pa_cons (pe_slice sl_list (pv 0) (po_some pe_int) po_none) pa_nil))) (blkOk_by (N := ["bounds", "apart", "begin", "end"]) (sc := defScope sJoinSums) (by decide +kernel)) (fun _ _ _ _ _ => (pg_tupB (n := 2) rfl (pgs_cons (pg_name (i := 2) scJoinSums.nd rfl (Or.inl rfl)) (pgs_cons (pg_name (i := 3) scJoinSums.nd rfl (Or.inl rfl)) pgs_nil)))) (fun _ _ _ _ _ => pts_nil) (fun _ _ _ _ _ => (pe_call GCompactCount (hr.mono (by decide)) rfl ACompactCount.m ACompactCount.kp ACompactCount.b .nil pass0 (pa_cons (pv 2) (pa_cons (pv 3) pa_nil))))) pa_nil)))
    (pss_one (ps_ret (pe_op op_sub (pv 1) (pe_call GCompactCount (hr.mono (by decide)) rfl ACompactCount.m ACompactCount.kp ACompactCount.b .nil pass0 (pa_cons (pe_ix ix_list (pv 0) pe_int (fun _ _ => rfl)) (pa_cons (pe_ix ix_list (pv 0) (pe_un un_neg pe_int) (fun _ _ => rfl)) pa_nil)))))))), ?_⟩
  have il : (natsV B).length = B.length := List.length_map _
  refine ⟨_, rfl, p, B, rfl, hp, l2, l12, hB, fun H1 s1 => ?_⟩
  have hp1 := s1 _ _ hp
  refine ⟨_, rfl, _, rfl, 1, rfl, p, _, rfl, SqL.of hp1, fun c nc => ?_⟩
  rw [cut_first _ (by omega)]
  have sc := same_upd (o := .lst ((natsV B).drop 1)) nc
  have hc : (upd H1 c (.lst ((natsV B).drop 1))) c = some (.lst ((natsV B).drop 1)) := upd_same
  have hp2 := sc _ _ hp1
  generalize upd H1 c (.lst ((natsV B).drop 1)) = H2 at sc hc hp2 ⊢
  have hz : ∀ {i : Nat} {x : V}, (natsV B)[i]? = some x → ∃ y, B[i]? = some y ∧ x = .int (y : Int) := by
    intro i x hi
    unfold natsV at hi
    rw [List.getElem?_map] at hi
    obtain ⟨y, h1, h2⟩ := Option.map_eq_some_iff.mp hi
    exact ⟨y, h1, h2.symm⟩
  refine ⟨p, c, _, _, rfl, SqL.of hp2, SqL.of hc, fun D nD => ?_⟩
  have dl : ((natsV B).drop 1).length = B.length - 1 := by rw [List.length_drop, il]
  have zl : (B.zip (B.drop 1)).length = B.length - 1 := by rw [List.length_zip, List.length_drop]; omega
  refine lc_zipS (K := K) (a := p) (b := c) (xs := natsV B) (ys := (natsV B).drop 1) (by omega) (fun j H' => Same H2 H' ∧ H' D = some (.lst ((((B.zip (B.drop 1)).take j).map fun x => ((cnt x.1 x.2 : Nat) : Int)).map V.int))) ⟨same_upd nD, upd_same⟩ (fun i H' ⟨s5, _⟩ => ⟨SqL.of (s5 _ _ hp2), SqL.of (s5 _ _ hc)⟩) ?_ ?_
  · rintro i xa ya T H3 hxi hyi ⟨s3, hD⟩ nT
    rw [List.getElem?_drop, Nat.add_comm] at hyi
    obtain ⟨x, hx, rfl⟩ := hz hxi
    obtain ⟨y, hy, rfl⟩ := hz hyi
    obtain ⟨xy, y30⟩ := hB.lt hx hy
    have sT := same_upd (o := .tup [.int (x : Int), .int (y : Int)]) nT
    have hD2 := sT _ _ hD
    have hT : (upd H3 T (.tup [.int (x : Int), .int (y : Int)])) T = some (.tup [.int (x : Int), .int (y : Int)]) := upd_same
    have s4 := s3.trans sT
    generalize upd H3 T (.tup [.int (x : Int), .int (y : Int)]) = H4 at hD2 hT s4 ⊢
    have hzi : (B.zip (B.drop 1))[i]? = some (x, y) := by
      rw [List.getElem?_zip_eq_some]
      exact ⟨hx, by rw [List.getElem?_drop, Nat.add_comm]; exact hy⟩
    refine ⟨T, _, rfl, SqT.of hT, rfl, _, _, rfl, _, _, rfl, rfl, rfl, ?_⟩
    refine ⟨_, rfl, _, rfl, x, y, rfl, xy, y30, fun H5 s5 => ?_⟩
    refine ⟨_, s5 _ _ hD2, szlt (by rw [List.length_map, List.length_map, List.length_take]; omega), fun u o k => by rw [upd_ne (ne_of_none k nD)]; exact s5 _ _ (s4 _ _ k), ?_⟩
    rw [take_more hzi, List.map_append, List.map_append]
    exact upd_same
  · rintro H3 ⟨s3, hD⟩
    rw [dl, ← zl, List.take_length] at hD
    refine ⟨D, _, rfl, SqL.of hD, ?_⟩
    have hp3 := s3 _ _ hp2
    have g0 : (natsV B)[0]? = some (.int (lo : Int)) := by
      unfold natsV
      rw [List.getElem?_map, b0]
      rfl
    have gl : atI (natsV B) (-1) = some (.int (hi : Int)) := by
      have hne : B ≠ [] := fun z => by rw [z] at l2; simp at l2
      have : B = B.dropLast ++ [hi] := by
        have e := List.dropLast_concat_getLast hne
        have e2 : B.getLast hne = hi := by
          rw [List.getLast_eq_getElem]
          exact Option.some.inj ((List.getElem?_eq_getElem (by omega)).symm.trans bl)
        rw [e2] at e
        exact e.symm
      rw [this]
      unfold natsV
      rw [List.map_append]
      exact atI_last _ _
    refine ⟨_, rfl, _, rfl, p, _, _, _, rfl, rfl, SqL.of hp3, atI_nat (j := 0) g0, _, rfl, _, rfl, p, _, _, _, rfl, rfl, SqL.of hp3, gl, lo, hi, rfl, lh, h30, fun H5 s5 => ?_⟩
    refine ⟨_, _, rfl, rfl, ?_⟩
    have e : ((B.zip (B.drop 1)).map fun x => ((cnt x.1 x.2 : Nat) : Int)).sum = ((((B.zip (B.drop 1)).map fun x => cnt x.1 x.2).sum : Nat) : Int) := by
      generalize B.zip (B.drop 1) = Z
      induction Z with
      | nil => rfl
      | cons a l ih => rw [List.map_cons, List.map_cons, List.sum_cons, List.sum_cons, ih]; omega
    rw [e]
    exact q _ (s1.trans (sc.trans (s3.trans s5)))
end
end LT

namespace LT
open PySem PySem.Spec PyProof.Rows L2
/-- the fewest full nodes of the stretches between neighbouring bounds -/
def prts (B : List Nat) : List (Nat × Nat) := (B.zip (B.drop 1)).flatMap fun x => nw (2 ^ 100) x.1 x.2
theorem prts_cons2 (a b : Nat) (B : List Nat) : prts (a :: b :: B) = nw (2 ^ 100) a b ++ prts (b :: B) := by
  unfold prts
  simp
theorem prts_len : ∀ B : List Nat, (prts B).length = ((B.zip (B.drop 1)).map fun x => cnt x.1 x.2).sum
  | [] => rfl
  | [a] => rfl
  | a :: b :: B => by
    rw [prts_cons2, List.length_append, prts_len (b :: B)]
    simp [cnt]
theorem prts_ch : ∀ (B : List Nat) (lo hi : Nat), B.Pairwise (· < ·) → B.head? = some lo → B.getLast? = some hi → hi ≤ 2 ^ 100 → Ch (2 ^ 100) lo hi (prts B)
  | [], _, _, _, h, _, _ => by cases h
  | [a], lo, hi, _, h1, h2, _ => by
    have e1 : a = lo := Option.some.inj h1
    have e2 : a = hi := Option.some.inj h2
    subst e1
    subst e2
    exact rfl
  | a :: b :: B, lo, hi, hp, h1, h2, h => by
    have e1 : a = lo := Option.some.inj h1
    subst e1
    obtain ⟨ha, hp2⟩ := List.pairwise_cons.mp hp
    have ab : a < b := ha b List.mem_cons_self
    have h2' : (b :: B).getLast? = some hi := by rwa [List.getLast?_cons_cons] at h2
    have c2 := prts_ch (b :: B) b hi hp2 rfl h2' h
    have := c2.le
    rw [prts_cons2]
    exact (nw_ch (n := 2 ^ 100) (by omega) a (by omega)).app c2
/-- a node of the greatest tree that ends ahead of its end is a full one -/
theorem full_of {n N : Nat} {x : Nat × Nat} (h : isN N x) (hN : x.2 < N) (hn : x.2 ≤ n) : isN n x := by
  obtain ⟨a, b, t1, t2⟩ := isN_tree h
  obtain ⟨x1, x2⟩ := x
  dsimp only at *
  rcases t2 with e | e
  · have e2 : x2 = x1 + 2 ^ lb (x2 - x1) := by omega
    have := full_isN (n := n) (b := x1) (k := lb (x2 - x1)) (by omega) t1
    rw [← e2] at this
    exact this
  · omega
theorem Ch.to {n N : Nat} : ∀ {lo hi : Nat} {l : List (Nat × Nat)}, Ch N lo hi l → hi < N → hi ≤ n → Ch n lo hi l
  | lo, hi, [], h, _, _ => h
  | lo, hi, x :: l, h, h1, h2 => by
    obtain ⟨a, b, d, c⟩ := h
    exact ⟨a, full_of b (by omega) (by omega), d, c.to h1 h2⟩
theorem nw_full {n lo hi : Nat} (h : lo ≤ hi) (h1 : hi < n) (h2 : hi < 2 ^ 100) : nw (2 ^ 100) lo hi = nw n lo hi := by
  refine nw_unique (n := n) (hi := hi) (lo0 := lo) (by omega) _ _ lo (Nat.le_refl _) ((nw_ch (n := 2 ^ 100) (by omega) lo h).to h2 (by omega)) (nw_ch (n := n) (by omega) lo h) ?_ (nw_max (by omega) h)
  intro x hx p hp k1 k2 k3 k4
  exact nw_max (n := 2 ^ 100) (by omega) h x hx p (full_of hp (by omega) (by omega)) k1 k2 k3 k4
theorem nw_root {n : Nat} (h : 0 < n) : nw n 0 n = [(0, n)] := by
  rw [nw_step h]
  have : isN n (0, n) := by
    have := isN_of (n := n) (b := 0) (m := n) h (by omega) (tree_root n)
    rwa [Nat.zero_add] at this
  have e : rw1 n 0 n = n := by unfold rw1; rw [if_pos this]; rfl
  rw [e, Nat.zero_add, nw_nil (Nat.le_refl n)]
theorem Ch.so {n m : Nat} : ∀ {lo hi : Nat} {l : List (Nat × Nat)}, Ch m lo hi l → hi ≤ n → So n lo l
  | lo, hi, [], h, k => by
    have h : lo = hi := h
    show lo ≤ n
    omega
  | lo, hi, x :: l, h, k => by
    obtain ⟨a, b, d, c⟩ := h
    have := (isN_tree b).1
    exact ⟨by omega, by omega, by omega, c.so k⟩
theorem So.down {n : Nat} : ∀ {lo lo' : Nat} {l : List (Nat × Nat)}, So n lo l → lo' ≤ lo → So n lo' l
  | _, _, [], h, k => Nat.le_trans k h
  | _, _, _ :: _, ⟨h1, h2, h3, h4⟩, k => ⟨by omega, h2, h3, h4⟩
theorem Ch.jgo {m : Nat} : ∀ {mid hi lo : Nat} {l : List (Nat × Nat)}, Ch m mid hi l → jgo (lo, mid) l = [(lo, hi)]
  | mid, hi, lo, [], h => by
    have h : mid = hi := h
    subst h
    rfl
  | mid, hi, lo, x :: l, h => by
    obtain ⟨a, b, d, c⟩ := h
    have := (isN_tree b).1
    have e : max mid x.2 = x.2 := by omega
    show (if x.1 ≤ mid then LT.jgo (lo, max mid x.2) l else _) = _
    rw [if_pos (by omega), e]
    exact c.jgo
theorem Ch.jn {m lo hi : Nat} {l : List (Nat × Nat)} (h : Ch m lo hi l) (hl : lo < hi) : jn l = [(lo, hi)] := by
  match l, h with
  | [], h =>
    have h : lo = hi := h
    omega
  | x :: l, ⟨a, b, d, c⟩ =>
    obtain ⟨x1, x2⟩ := x
    dsimp only at a c
    subst a
    exact c.jgo
/-- what the parts come to -/
theorem parts_all {n lo hi : Nat} {B : List Nat} (hB : B.Pairwise (· < ·)) (h0 : B.head? = some lo) (h1 : B.getLast? = some hi) (lh : lo < hi) (hn : hi ≤ n) (n30 : n ≤ 10 ^ 30) :
    srt (prts B) = prts B ∧ jn (prts B) = [(lo, hi)] ∧ (∀ x ∈ prts B, isN n x) ∧ wid (nb n 0 (prts B)) + (hi - lo) = n ∧ 1 ≤ (prts B).length := by
  have k100 : (10 : Nat) ^ 30 < 2 ^ 100 := by decide
  have c := prts_ch B lo hi hB h0 h1 (by omega)
  have s := c.so (n := n) hn
  refine ⟨srt_id (so_pair s), c.jn lh, fun x hx => ?_, ?_, ?_⟩
  · obtain ⟨a, _, b⟩ := c.mem x hx
    exact full_of a (by omega) (by omega)
  · have s0 := s.down (Nat.zero_le lo)
    rw [nb_nl s0]
    have a := nl_wid (n := n) (prts B) 0 s0
    have b : wid (prts B) = hi - lo := c.sum
    omega
  · generalize prts B = l at c
    cases l with
    | nil =>
      have : lo = hi := c
      omega
    | cons x l => simp
theorem nw_whole {n lo hi : Nat} (lh : lo < hi) (hn : hi ≤ n) : decide (nw n lo hi = [(0, n)]) = decide ([(lo, hi)] = [(0, n)]) := by
  by_cases h : lo = 0 ∧ hi = n
  · obtain ⟨rfl, rfl⟩ := h
    rw [nw_root lh]
  · have e1 : ¬ [(lo, hi)] = [(0, n)] := fun z => by
      simp at z
      exact h z
    have e2 : ¬ nw n lo hi = [(0, n)] := fun z => by
      have c := nw_ch (n := n) hn lo (Nat.le_of_lt lh)
      rw [z] at c
      obtain ⟨b, _, _, c2⟩ := c
      have b : 0 = lo := b
      have c2 : n = hi := c2
      exact h ⟨by omega, by omega⟩
    rw [decide_eq_false e1, decide_eq_false e2]
theorem nl_ahead {n lo : Nat} : nl n 0 [(0, lo)] = nw n lo n := by
  show nw n 0 0 ++ nw n lo n = nw n lo n
  rw [nw_nil (Nat.le_refl 0), List.nil_append]
end LT

namespace LT
open PySem PySem.Spec PyProof.Rows L2
theorem asc_of : ∀ (B : List Nat) (l0 : Nat), B.Pairwise (· < ·) → (∀ x ∈ B, l0 ≤ x ∧ x ≤ 10 ^ 30) → Asc l0 B
  | [], _, _, _ => trivial
  | a :: B, l0, h, k => by
    obtain ⟨ha, h2⟩ := List.pairwise_cons.mp h
    have ka := k a List.mem_cons_self
    exact ⟨ka.1, ka.2, asc_of B (a + 1) h2 fun x hx => ⟨ha x hx, (k x (List.mem_cons_of_mem _ hx)).2⟩⟩
theorem first_is : ∀ {B : List Nat} {lo : Nat}, B.Pairwise (· < ·) → lo ∈ B → (∀ x ∈ B, lo ≤ x) → B.head? = some lo
  | [], _, _, h, _ => by cases h
  | a :: B, lo, h, m, k => by
    rcases List.mem_cons.mp m with rfl | m
    · rfl
    · have := (List.pairwise_cons.mp h).1 lo m
      have := k a List.mem_cons_self
      omega
theorem last_is : ∀ {B : List Nat} {hi : Nat}, B.Pairwise (· < ·) → hi ∈ B → (∀ x ∈ B, x ≤ hi) → B.getLast? = some hi
  | [], _, _, h, _ => by cases h
  | [a], hi, _, m, _ => by rw [List.mem_singleton.mp m]; rfl
  | a :: b :: B, hi, h, m, k => by
    obtain ⟨ha, h2⟩ := List.pairwise_cons.mp h
    rw [List.getLast?_cons_cons]
    refine last_is h2 ?_ fun x hx => k x (List.mem_cons_of_mem _ hx)
    rcases List.mem_cons.mp m with rfl | m
    · have := ha b List.mem_cons_self
      have := k b (List.mem_cons_of_mem _ List.mem_cons_self)
      omega
    · exact m
/-- ascending ints that are none below nothing -/
theorem nats_of : ∀ (ns : List Int), (∀ x ∈ ns, 0 ≤ x) → ns.map V.int = natsV (ns.map Int.toNat)
  | [], _ => rfl
  | x :: ns, h => by
    have := h x List.mem_cons_self
    show V.int x :: ns.map V.int = V.int ((x.toNat : Nat) : Int) :: natsV (ns.map Int.toNat)
    rw [nats_of ns fun y hy => h y (List.mem_cons_of_mem _ hy), Int.toNat_of_nonneg this]
section
variable {P : Program} {w : World} {K : PySem.W.Frag} {mg : Str → Option Value} {base : Heap}
def spLawBounds : Sp := fun vs H Q _ => ∃ (b : Addr) (lo hi : Nat), vs = [.ref b, .int lo, .int hi] ∧ lo < hi ∧ hi ≤ 10 ^ 30 ∧ BagAt H b ∧
  ∀ (H' : Hp) (p : Addr) (B : List Nat), But b H H' → BagAt H' b → H p = none → H' p = some (.lst (natsV B)) → B.Pairwise (· < ·) → B.head? = some lo → B.getLast? = some hi → 2 ≤ B.length → B.length ≤ 12 → Asc 0 B → Q (.ref p) H'
theorem ok_law_bounds {f g1 : Addr} {fd d1 : FuncData} (F : Fun K "_law_bounds" "_law_bounds" sLawBounds f fd) (GLawPick : FnOk P w K mg base CX0 1 g1 d1 ["bag", "many"] spPick) (ALawPick : At K mg "_law_pick" g1 d1 ["bag", "many"])
    (z_range : mg "range" = none) (z_min : mg "min" = none) (z_set : mg "set" = none) (z_sorted : mg "sorted" = none) : FnOk P w K mg base CX0 2 f fd ["bag", "low", "high"] spLawBounds := by
  refine F.ok scLawBounds (fun vs H Q E h => ?_) (fun cdv A outer s H vs Q E hr h => ?_)
  · obtain ⟨_, _, _, rfl, _⟩ := h
    rfl
  obtain ⟨b, lo, hi, rfl, lh, h30, hb, q⟩ := h
  refine' ⟨_, (pss_cons (ps_set (i := 3) scLawBounds.nd rfl (Or.inl rfl) (pe_lst (pa_cons (pv 1) (pa_cons (pv 2) pa_nil))))
    (pss_cons (ps_for PassesOwn.never rfl (pi_range1 (by rfl) z_range (pa_cons (pe_call GLawPick (hr.mono (by decide)) rfl ALawPick.m ALawPick.kp ALawPick.b .nil pass0 (pa_cons (pv 0) (pa_cons pe_int pa_nil))) pa_nil)) (pg_name (i := 4) scLawBounds.nd rfl (Or.inl rfl))
    (pss_one (ps_expr (pe_bm PySem.F.plainAttrs_list PySem.F.slot_list_append PySem.F.type_list_append mt_append (pv 3) (pa_cons (pe_op op_add (pv 1) (pe_ix ix_list (pe_lst (pa_cons (pe_call GLawPick (hr.mono (by decide)) rfl ALawPick.m ALawPick.kp ALawPick.b .nil pass0 (pa_cons (pv 0) (pa_cons (pe_op op_add (pe_op op_sub (pv 2) (pv 1)) pe_int) pa_nil))) (pa_cons (pe_callB (call_min2 rfl) (by rfl) z_min (by decide +kernel) (pa_cons (pe_op op_sub (pv 2) (pv 1)) (pa_cons (pe_call GLawPick (hr.mono (by decide)) rfl ALawPick.m ALawPick.kp ALawPick.b .nil pass0 (pa_cons (pv 0) (pa_cons pe_int pa_nil))) pa_nil))) pa_nil))) (pe_call GLawPick (hr.mono (by decide)) rfl ALawPick.m ALawPick.kp ALawPick.b .nil pass0 (pa_cons (pv 0) (pa_cons pe_int pa_nil))) (fun _ _ => rfl))) pa_nil)))))
    (pss_one (ps_ret (pe_callB (cr_sortedSet rfl) (by rfl) z_sorted (by decide +kernel) (pa_cons (pe_callTy (cr_setL rfl) (by rfl) z_set (by decide +kernel) (pa_cons (pv 3) pa_nil)) pa_nil)))))), ?_⟩
  have two : 2 ≤ sizeLine := by decide
  refine ⟨_, rfl, _, rfl, two, fun fa nf => ?_⟩
  have s1 := same_upd (o := .lst [.int (lo : Int), .int (hi : Int)]) nf
  have hf : (upd H fa (.lst [.int (lo : Int), .int (hi : Int)])) fa = some (.lst ([(lo : Int), (hi : Int)].map V.int)) := upd_same
  have hb1 := hb.same s1
  have fab := hb.ne nf
  generalize upd H fa (.lst [.int (lo : Int), .int (hi : Int)]) = H1 at s1 hf hb1 ⊢
  refine ⟨_, rfl, b, 6, rfl, by decide, by decide, hb1, fun r H2 r0 r6 k2 hb2 => ?_⟩
  have B2 : But b H H2 := fun a o n k => by rw [k2 a n]; exact s1 a o k
  have hf2 : H2 fa = some (.lst ([(lo : Int), (hi : Int)].map V.int)) := by rw [k2 fa fab]; exact hf
  obtain ⟨m, rfl⟩ : ∃ m : Nat, r = (m : Int) := ⟨r.toNat, by omega⟩
  refine ⟨_, rfl, by omega, by omega, for_range (lo := 0) (n := m) (fun i σ H' => ∃ (v4 : Option V) (ns : List Int), σ = [some (.ref b), some (.int (lo : Int)), some (.int (hi : Int)), some (.ref fa), v4] ∧ But b H H' ∧ BagAt H' b ∧ H' fa = some (.lst (ns.map V.int)) ∧ ns.length = 2 + i ∧ (∀ x ∈ ns, (lo : Int) ≤ x ∧ x ≤ hi) ∧ (lo : Int) ∈ ns ∧ (hi : Int) ∈ ns)
    ⟨none, [(lo : Int), (hi : Int)], rfl, B2, hb2, hf2, rfl, ?_, by simp, by simp⟩ ?_ ?_⟩
  · intro x hx
    simp at hx
    omega
  · rintro i σ H3 im ⟨v4, ns, rfl, B3, hb3, hf3, ln, hns, mlo, mhi⟩
    have b30 : ((hi : Int) - lo + 1).natAbs < 2 ^ 250 := Nat.lt_of_le_of_lt (show ((hi : Int) - lo + 1).natAbs ≤ 10 ^ 30 + 1 by omega) (by decide)
    refine ⟨_, rfl, .inl ⟨rfl, _, SqL.of hf3⟩, _, rfl, _, rfl, _, rfl, _, rfl, _, _, rfl, rfl, _, _, rfl, rfl, b, (hi : Int) - lo + 1, rfl, by omega, b30, hb3, fun r1 H4 r10 r11 k4 hb4 => ?_⟩
    refine ⟨_, rfl, _, rfl, _, _, rfl, rfl, _, rfl, b, 5, rfl, by decide, by decide, hb4, fun r2 H5 r20 r21 k5 hb5 => ⟨_, _, rfl, two, fun l nl => ?_⟩⟩
    have hf5 : H5 fa = some (.lst (ns.map V.int)) := by rw [k5 fa fab, k4 fa fab]; exact hf3
    have w6 := same_upd (o := .lst [.int r1, .int (if r2 < (hi : Int) - lo then r2 else (hi : Int) - lo)]) nl
    have hl : (upd H5 l (.lst [.int r1, .int (if r2 < (hi : Int) - lo then r2 else (hi : Int) - lo)])) l = some (.lst [.int r1, .int (if r2 < (hi : Int) - lo then r2 else (hi : Int) - lo)]) := upd_same
    have hf6 := w6 _ _ hf5
    have hb6 := hb5.same w6
    have lb := hb5.ne nl
    have B6 : But b H (upd H5 l (.lst [.int r1, .int (if r2 < (hi : Int) - lo then r2 else (hi : Int) - lo)])) := fun a o n k => w6 _ _ (by rw [k5 a n, k4 a n]; exact B3 a o n k)
    generalize upd H5 l (.lst [.int r1, .int (if r2 < (hi : Int) - lo then r2 else (hi : Int) - lo)]) = H6 at hl hf6 hb6 B6 ⊢
    refine ⟨_, rfl, b, 2, rfl, by decide, by decide, hb6, fun r3 H7 r30 r31 k7 hb7 => ?_⟩
    have hf7 : H7 fa = some (.lst (ns.map V.int)) := by rw [k7 fa fab]; exact hf6
    have hl7 : H7 l = some (.lst [.int r1, .int (if r2 < (hi : Int) - lo then r2 else (hi : Int) - lo)]) := by rw [k7 l lb]; exact hl
    have B7 : But b H H7 := fun a o n k => by rw [k7 a n]; exact B6 a o n k
    obtain ⟨c, hc, c0, c1⟩ : ∃ c : Int, atI [V.int r1, V.int (if r2 < (hi : Int) - lo then r2 else (hi : Int) - lo)] r3 = some (.int c) ∧ 0 ≤ c ∧ c ≤ (hi : Int) - lo := by
      have : r3 = 0 ∨ r3 = 1 := by omega
      rcases this with rfl | rfl
      · exact ⟨r1, atI_nat (j := 0) rfl, r10, by omega⟩
      · exact ⟨_, atI_nat (j := 1) rfl, by split <;> omega, by split <;> omega⟩
    refine ⟨l, _, _, _, rfl, rfl, SqL.of hl7, hc, _, _, rfl, rfl, fa, _, _, rfl, rfl, hf7, szlt (by rw [List.length_map]; omega), ?_⟩
    refine ⟨_, ns ++ [(lo : Int) + c], rfl, fun a o n k => by rw [upd_ne (ne_of_none k nf)]; exact B7 a o n k, ?_, ?_, ?_, ?_, ?_, ?_⟩
    · obtain ⟨x, y, z, e⟩ := hb7
      exact ⟨x, y, z, by rw [upd_ne (Ne.symm fab)]; exact e⟩
    · rw [List.map_append]
      exact upd_same
    · rw [List.length_append, ln]
      rfl
    · intro x hx
      rcases List.mem_append.mp hx with hx | hx
      · exact hns x hx
      · rw [List.mem_singleton.mp hx]
        omega
    · exact List.mem_append_left _ mlo
    · exact List.mem_append_left _ mhi
  · rintro σ H3 ⟨v4, ns, rfl, B3, hb3, hf3, ln, hns, mlo, mhi⟩
    have sb : ns.length + 1 < scanBound := Nat.lt_of_le_of_lt (show ns.length + 1 ≤ 20 by omega) (by decide)
    refine ⟨_, rfl, fa, ns, rfl, SqL.of hf3, sb, fun p c np hc => ?_⟩
    refine ⟨p, _, c, rfl, upd_same, by omega, fun ms p2 hp hm hl np2 => ?_⟩
    have s4 := same_upd (o := SetO w p (fun j => decide (j ∈ ns)) c) np
    have s5 := same_upd (o := .lst (ms.map V.int)) np2
    have hmem : ∀ x, x ∈ ms → x ∈ ns := fun x hx => of_decide_eq_true ((hm x).mp hx)
    have hnn : ∀ x ∈ ms, 0 ≤ x := fun x hx => by have := hns x (hmem x hx); omega
    have en := nats_of ms hnn
    have bm : ∀ x ∈ ms.map Int.toNat, lo ≤ x ∧ x ≤ hi := fun x hx => by
      obtain ⟨y, hy, rfl⟩ := List.mem_map.mp hx
      have := hns y (hmem y hy)
      omega
    have pw : (ms.map Int.toNat).Pairwise (· < ·) := by
      rw [List.pairwise_map]
      refine hp.imp_of_mem fun {x y} hx hy h => ?_
      have := hnn x hx
      omega
    have ml : lo ∈ ms.map Int.toNat := List.mem_map.mpr ⟨(lo : Int), (hm _).mpr (decide_eq_true mlo), by omega⟩
    have mh : hi ∈ ms.map Int.toNat := List.mem_map.mpr ⟨(hi : Int), (hm _).mpr (decide_eq_true mhi), by omega⟩
    have l2 : 2 ≤ (ms.map Int.toNat).length := by
      generalize ms.map Int.toNat = B at ml mh
      match B, ml, mh with
      | [], h, _ => cases h
      | [a], h1, h2 =>
        have := List.mem_singleton.mp h1
        have := List.mem_singleton.mp h2
        omega
      | _ :: _ :: _, _, _ => simp
    rw [en]
    refine q _ p2 (ms.map Int.toNat) (B3.trans (But.of (s4.trans (by rw [← en]; exact s5)))) ((hb3.same s4).same (by rw [← en]; exact s5)) ?_ upd_same pw (first_is pw ml fun x hx => (bm x hx).1) (last_is pw mh fun x hx => (bm x hx).2) l2 ?_ (asc_of _ 0 pw fun x hx => ⟨Nat.zero_le _, by have := (bm x hx).2; omega⟩)
    · cases e : H p2 with
      | none => rfl
      | some o =>
        have n3 := s4.free np2
        by_cases hpb : p2 = b
        · rw [hpb] at n3
          obtain ⟨x, y, z, e3⟩ := hb3
          rw [e3] at n3
          cases n3
        · rw [B3 p2 o hpb e] at n3
          cases n3
    · rw [List.length_map, hl]
      omega
end
end LT

namespace LT
open PySem PySem.Spec PyProof.Rows L2
theorem nl_lt {n : Nat} : ∀ (S : List (Nat × Nat)) (lo : Nat), So n lo S → ∀ x ∈ nl n lo S, x.1 < x.2
  | [], lo, h, x, hx => (isN_tree ((nw_ch (n := n) (Nat.le_refl n) lo h).mem x hx).1).1
  | y :: S, lo, ⟨k1, k2, k3, k4⟩, x, hx => by
    rcases List.mem_append.mp (show x ∈ nw n lo y.1 ++ nl n y.2 S from hx) with hx | hx
    · exact (isN_tree ((nw_ch (n := n) (show y.1 ≤ n by omega) lo k1).mem x hx).1).1
    · exact nl_lt S y.2 k4 x hx
theorem wid_int : ∀ (l : List (Nat × Nat)), (∀ x ∈ l, x.1 < x.2) → (l.map fun x => ((x.2 : Int) - (x.1 : Int))).sum = ((wid l : Nat) : Int)
  | [], _ => rfl
  | x :: l, h => by
    have a := h x List.mem_cons_self
    have b := wid_int l fun y hy => h y (List.mem_cons_of_mem _ hy)
    have c : wid (x :: l) = (x.2 - x.1) + wid l := rfl
    rw [List.map_cons, List.sum_cons, b, c]
    omega
theorem ne_no {x y : V} (h : x = y) : V.bl (!decide (x = y)) = V.bl false := by rw [decide_eq_true h]; rfl
section
variable {P : Program} {w : World} {K : PySem.W.Frag} {mg : Str → Option Value} {base : Heap}
def spRight : Sp := fun vs H Q _ => ∃ (b : Addr) (n : Nat), vs = [.ref b, .int n] ∧ 1 ≤ n ∧ n ≤ 10 ^ 30 ∧ BagAt H b ∧ ∀ H', But b H H' → BagAt H' b → Q (.bl true) H'
theorem ok_law_right {f g1 g2 g3 g4 g5 g6 g7 g8 g9 : Addr} {fd d1 d2 d3 d4 d5 d6 d7 d8 d9 : FuncData} (F : Fun K "_law_right" "_law_right" sLawRight f fd)
    (GLawPick : FnOk P w K mg base CX0 1 g1 d1 ["bag", "many"] spPick) (ALawPick : At K mg "_law_pick" g1 d1 ["bag", "many"])
    (GLawBounds : FnOk P w K mg base CX0 2 g2 d2 ["bag", "low", "high"] spLawBounds) (ALawBounds : At K mg "_law_bounds" g2 d2 ["bag", "low", "high"])
    (GCompact : FnOk P w K mg base CX0 5 g3 d3 ["begin", "end"] spCompact) (ACompact : At K mg "compact" g3 d3 ["begin", "end"])
    (GCompactCount : FnOk P w K mg base CX0 6 g4 d4 ["begin", "end"] spCompactCount) (ACompactCount : At K mg "compact_count" g4 d4 ["begin", "end"])
    (GJoinSums : FnOk P w K mg base CX0 7 g5 d5 ["bounds"] spJoinSums) (AJoinSums : At K mg "join_sums" g5 d5 ["bounds"])
    (GKnownTops : FnOk P w K mg base CX0 6 g6 d6 ["size", "nodes"] spTopsK) (AKnownTops : At K mg "known_tops" g6 d6 ["size", "nodes"])
    (GGivesRoot : FnOk P w K mg base CX0 6 g7 d7 ["size", "nodes"] spGives) (AGivesRoot : At K mg "gives_root" g7 d7 ["size", "nodes"])
    (GMissing : FnOk P w K mg base CX0 6 g8 d8 ["size", "nodes"] spMissing) (AMissing : At K mg "missing" g8 d8 ["size", "nodes"])
    (GNeeded : FnOk P w K mg base CX0 6 g9 d9 ["size", "spans"] spNeeded) (ANeeded : At K mg "needed" g9 d9 ["size", "spans"])
    (z_max : mg "max" = none) (z_min : mg "min" = none) (z_len : mg "len" = none) (z_sum : mg "sum" = none) (z_zip : mg "zip" = none) : FnOk P w K mg base CX0 8 f fd ["bag", "size"] spRight := by
  refine F.ok scLawRight (fun vs H Q E h => ?_) (fun cdv A outer s H vs Q E hr h => ?_)
  · obtain ⟨_, _, rfl, _⟩ := h
    rfl
  obtain ⟨b, n, rfl, n1, h30, hb, q⟩ := h
  refine' ⟨_, (pss_cons (ps_set (i := 2) scLawRight.nd rfl (Or.inl rfl) (pe_ix ix_list (pe_lst (pa_cons pe_int (pa_cons (pe_call GLawPick (hr.mono (by decide)) rfl ALawPick.m ALawPick.kp ALawPick.b .nil pass0 (pa_cons (pv 0) (pa_cons (pv 1) pa_nil))) (pa_cons (pe_callB (call_max2 rfl) (by rfl) z_max (by decide +kernel) (pa_cons pe_int (pa_cons (pe_op op_sub (pe_op op_sub (pv 1) pe_int) (pe_call GLawPick (hr.mono (by decide)) rfl ALawPick.m ALawPick.kp ALawPick.b .nil pass0 (pa_cons (pv 0) (pa_cons pe_int pa_nil)))) pa_nil))) pa_nil)))) (pe_call GLawPick (hr.mono (by decide)) rfl ALawPick.m ALawPick.kp ALawPick.b .nil pass0 (pa_cons (pv 0) (pa_cons pe_int pa_nil))) (fun _ _ => rfl)))
    (pss_cons (ps_set (i := 3) scLawRight.nd rfl (Or.inl rfl) (pe_ix ix_list (pe_lst (pa_cons (pv 1) (pa_cons (pe_op op_add (pe_op op_add (pv 2) pe_int) (pe_call GLawPick (hr.mono (by decide)) rfl ALawPick.m ALawPick.kp ALawPick.b .nil pass0 (pa_cons (pv 0) (pa_cons (pe_op op_sub (pv 1) (pv 2)) pa_nil)))) (pa_cons (pe_callB (call_min2 rfl) (by rfl) z_min (by decide +kernel) (pa_cons (pv 1) (pa_cons (pe_op op_add (pe_op op_add (pv 2) pe_int) (pe_call GLawPick (hr.mono (by decide)) rfl ALawPick.m ALawPick.kp ALawPick.b .nil pass0 (pa_cons (pv 0) (pa_cons pe_int pa_nil)))) pa_nil))) pa_nil)))) (pe_call GLawPick (hr.mono (by decide)) rfl ALawPick.m ALawPick.kp ALawPick.b .nil pass0 (pa_cons (pv 0) (pa_cons pe_int pa_nil))) (fun _ _ => rfl)))
    (pss_cons (ps_par (i := 4) (j := 5) (by rfl) scLawRight.nd rfl rfl (by decide) rfl rfl (pa_cons (pe_call GLawBounds (hr.mono (by decide)) rfl ALawBounds.m ALawBounds.kp ALawBounds.b .nil pass0 (pa_cons (pv 0) (pa_cons (pv 2) (pa_cons (pv 3) pa_nil)))) (pa_cons (pe_lst pa_nil) pa_nil)) (by rfl))
    (pss_cons (ps_for PassesOwn.never rfl (pi_zip (by rfl) z_zip (pa_cons (pv 4) (pa_cons (pe_slice sl_list (pv 4) (po_some pe_int) po_none) pa_nil))) (pg_tup (by rfl) (pgs_cons (pg_name (i := 6) scLawRight.nd rfl (Or.inl rfl)) (pgs_cons (pg_name (i := 7) scLawRight.nd rfl (Or.inl rfl)) pgs_nil)))
    (pss_one (ps_set (i := 5) scLawRight.nd rfl (Or.inl rfl) (pe_op op_cat (pv 5) (pe_call GCompact (hr.mono (by decide)) rfl ACompact.m ACompact.kp ACompact.b .nil pass0 (pa_cons (pv 6) (pa_cons (pv 7) pa_nil)))))))
    (pss_cons (ps_if (pt_cmpR op_ne (pe_call GJoinSums (hr.mono (by decide)) rfl AJoinSums.m AJoinSums.kp AJoinSums.b .nil pass0 (pa_cons (pv 4) pa_nil)) (pe_op op_sub (pe_callB call_len_seq (by rfl) z_len PySem.boot_len (pa_cons (pv 5) pa_nil)) (pe_call GCompactCount (hr.mono (by decide)) rfl ACompactCount.m ACompactCount.kp ACompactCount.b .nil pass0 (pa_cons (pv 2) (pa_cons (pv 3) pa_nil)))) (nomark _))
    (pss_one (ps_ret pe_bl))
    pss_nil)
    (pss_cons (ps_if (pt_cmpR op_gt (pe_callB call_len_seq (by rfl) z_len PySem.boot_len (pa_cons (pv 5) pa_nil)) pe_int (nomark _))
    (pss_one (ps_ret pe_bl))
    pss_nil)
    (pss_cons (ps_par (i := 8) (j := 9) (by rfl) scLawRight.nd rfl rfl (by decide) rfl rfl (pa_cons (pe_call GKnownTops (hr.mono (by decide)) rfl AKnownTops.m AKnownTops.kp AKnownTops.b .nil pass0 (pa_cons (pv 1) (pa_cons (pe_revL (pv 5)) pa_nil))) (pa_cons (pe_tup (pa_cons pe_int (pa_cons (pv 1) pa_nil))) pa_nil)) (by rfl))
    (pss_cons (ps_if (pt_cmpR op_lt (pv 3) (pv 1) (nomark _))
    (pss_one (ps_set (i := 10) scLawRight.nd rfl (Or.inl rfl) (pe_call GCompact (hr.mono (by decide)) rfl ACompact.m ACompact.kp ACompact.b .nil pass0 (pa_cons (pv 2) (pa_cons (pv 3) pa_nil)))))
    (pss_one (ps_if (pt_cmpR op_eq (pv 2) pe_int (nomark _))
    (pss_one (ps_set (i := 10) scLawRight.nd rfl (Or.inl rfl) (pe_lst (pa_cons (pv 9) pa_nil))))
    (pss_one (ps_set (i := 10) scLawRight.nd rfl (Or.inl rfl) (pe_call GNeeded (hr.mono (by decide)) rfl ANeeded.m ANeeded.kp ANeeded.b .nil pass0 (pa_cons (pv 1) (pa_cons (pe_lst (pa_cons (pe_tup (pa_cons pe_int (pa_cons (pv 2) pa_nil))) pa_nil)) pa_nil))))))))
    (pss_cons (ps_if (PW.pt (pw_or (pt_cmpR (op_neD hr.units) (pv 8) (pv 10) (nomark _)) (pw_or (pt_cmpR (op_neD hr.units) (pe_call GKnownTops (hr.mono (by decide)) rfl AKnownTops.m AKnownTops.kp AKnownTops.b .nil pass0 (pa_cons (pv 1) (pa_cons (pv 5) pa_nil))) (pv 10) (nomark _)) (pw_or1 (pt_cmpR op_ne (pe_call GGivesRoot (hr.mono (by decide)) rfl AGivesRoot.m AGivesRoot.kp AGivesRoot.b .nil pass0 (pa_cons (pv 1) (pa_cons (pv 5) pa_nil))) (pe_cmpR (op_eqD hr.units) (pv 10) (pe_lst (pa_cons (pv 9) pa_nil)) (nomark _)) (nomark _))))))
    (pss_one (ps_ret pe_bl))
    pss_nil)
    (pss_cons (ps_set (i := 11) scLawRight.nd rfl (Or.inl rfl) (pe_call GMissing (hr.mono (by decide)) rfl AMissing.m AMissing.kp AMissing.b .nil pass0 (pa_cons (pv 1) (pa_cons (pv 5) pa_nil))))
    (pss_one (ps_ret (pe_cmpR op_eq (pe_callB (cr_sum rfl) (by rfl) z_sum (by decide +kernel) (pa_cons (pe_lc (own := [("first", 6), ("end", 7)]) rfl scLawRight.nd (pi_list (pv 11)) (blkOk_by (N := ["bag", "size", "low", "high", "bounds", "nodes", "first", "end", "tops", "whole", "due", "rest"]) (sc := defScope sLawRight) (by decide +kernel)) (fun _ _ _ _ _ => (pg_tupB (n := 2) rfl (pgs_cons (pg_name (i := 6) scLawRight.nd rfl (Or.inl rfl)) (pgs_cons (pg_name (i := 7) scLawRight.nd rfl (Or.inl rfl)) pgs_nil)))) (fun _ _ _ _ _ => pts_nil) (fun _ _ _ _ _ => (pe_op op_sub (pv 7) (pv 6)))) pa_nil)) (pe_op op_sub (pv 1) (pe_op op_sub (pv 3) (pv 2))) (nomark _)))))))))))))), ?_⟩
  have three : 3 ≤ sizeLine := by decide
  have p250 : (10 : Nat) ^ 30 + 1 < 2 ^ 250 := by decide
  refine ⟨_, rfl, _, rfl, b, n, rfl, by omega, by omega, hb, fun r1 H1 r10 r11 k1 hb1 => ?_⟩
  refine ⟨_, rfl, _, _, rfl, rfl, _, rfl, b, 99, rfl, by decide, by decide, hb1, fun r2 H2 r20 r21 k2 hb2 => ?_⟩
  refine ⟨_, _, rfl, rfl, _, _, rfl, three, fun l nl => ?_⟩
  have hx3 : ∃ x3 : Int, x3 = (if ((n : Int) - 1 - r2) > 0 then ((n : Int) - 1 - r2) else 0) ∧ 0 ≤ x3 ∧ x3 < n := ⟨_, rfl, by split <;> omega, by split <;> omega⟩
  obtain ⟨x3, ex3, x30, x3n⟩ := hx3
  rw [← ex3]
  have w3 := same_upd (o := .lst [.int 0, .int r1, .int x3]) nl
  have hl : (upd H2 l (.lst [.int 0, .int r1, .int x3])) l = some (.lst [.int 0, .int r1, .int x3]) := upd_same
  have hb3 := hb2.same w3
  have lb := hb2.ne nl
  have B3 : But b H (upd H2 l (.lst [.int 0, .int r1, .int x3])) := fun a o nn k => w3 _ _ (by rw [k2 a nn, k1 a nn]; exact k)
  generalize upd H2 l (.lst [.int 0, .int r1, .int x3]) = H3 at hl hb3 B3 ⊢
  refine ⟨_, rfl, b, 3, rfl, by decide, by decide, hb3, fun r3 H4 r30 r31 k4 hb4 => ?_⟩
  have hl4 : H4 l = some (.lst [.int 0, .int r1, .int x3]) := by rw [k4 l lb]; exact hl
  have B4 : But b H H4 := fun a o nn k => by rw [k4 a nn]; exact B3 a o nn k
  obtain ⟨lo, hlo, lon⟩ : ∃ lo : Nat, atI [V.int 0, V.int r1, V.int x3] r3 = some (.int (lo : Int)) ∧ lo < n := by
    have : r3 = 0 ∨ r3 = 1 ∨ r3 = 2 := by omega
    rcases this with rfl | rfl | rfl
    · exact ⟨0, atI_nat (j := 0) rfl, by omega⟩
    · exact ⟨r1.toNat, by rw [Int.toNat_of_nonneg r10]; exact atI_nat (j := 1) rfl, by omega⟩
    · exact ⟨x3.toNat, by rw [Int.toNat_of_nonneg x30]; exact atI_nat (j := 2) rfl, by omega⟩
  refine ⟨l, _, _, _, rfl, rfl, SqL.of hl4, hlo, ?_⟩
  clear hl4 hl hlo ex3 x30 x3n w3 hb3 B3 k4 k1 k2 hb1 hb2 r10 r11 r20 r21 r30 r31
  -- high
  refine ⟨_, rfl, _, rfl, _, _, rfl, rfl, _, rfl, _, rfl, _, rfl, _, _, rfl, rfl, b, (n : Int) - lo, rfl, by omega, by omega, hb4, fun r1 H1 r10 r11 k1 hb1 => ?_⟩
  refine ⟨_, _, rfl, rfl, _, rfl, _, rfl, _, _, rfl, rfl, _, rfl, b, 99, rfl, by decide, by decide, hb1, fun r2 H2 r20 r21 k2 hb2 => ?_⟩
  refine ⟨_, _, rfl, rfl, _, _, rfl, three, fun l2 nl2 => ?_⟩
  obtain ⟨x3, ex3, x30, x3n⟩ : ∃ x3 : Int, x3 = (if ((lo : Int) + 1 + r2) < (n : Int) then ((lo : Int) + 1 + r2) else (n : Int)) ∧ (lo : Int) < x3 ∧ x3 ≤ n := ⟨_, rfl, by split <;> omega, by split <;> omega⟩
  rw [← ex3]
  have w3 := same_upd (o := .lst [.int (n : Int), .int ((lo : Int) + 1 + r1), .int x3]) nl2
  have hl : (upd H2 l2 (.lst [.int (n : Int), .int ((lo : Int) + 1 + r1), .int x3])) l2 = some (.lst [.int (n : Int), .int ((lo : Int) + 1 + r1), .int x3]) := upd_same
  have hb3 := hb2.same w3
  have lb2 := hb2.ne nl2
  have B3 : But b H (upd H2 l2 (.lst [.int (n : Int), .int ((lo : Int) + 1 + r1), .int x3])) := fun a o nn k => w3 _ _ (by rw [k2 a nn, k1 a nn]; exact B4 a o nn k)
  generalize upd H2 l2 (.lst [.int (n : Int), .int ((lo : Int) + 1 + r1), .int x3]) = H3 at hl hb3 B3 ⊢
  refine ⟨_, rfl, b, 3, rfl, by decide, by decide, hb3, fun r3 H5 r30 r31 k5 hb5 => ?_⟩
  have hl5 : H5 l2 = some (.lst [.int (n : Int), .int ((lo : Int) + 1 + r1), .int x3]) := by rw [k5 l2 lb2]; exact hl
  have B5 : But b H H5 := fun a o nn k => by rw [k5 a nn]; exact B3 a o nn k
  obtain ⟨hi, hhi, lh, hin⟩ : ∃ hi : Nat, atI [V.int (n : Int), V.int ((lo : Int) + 1 + r1), V.int x3] r3 = some (.int (hi : Int)) ∧ lo < hi ∧ hi ≤ n := by
    have : r3 = 0 ∨ r3 = 1 ∨ r3 = 2 := by omega
    rcases this with rfl | rfl | rfl
    · exact ⟨n, atI_nat (j := 0) rfl, by omega, by omega⟩
    · exact ⟨((lo : Int) + 1 + r1).toNat, by rw [Int.toNat_of_nonneg (by omega)]; exact atI_nat (j := 1) rfl, by omega, by omega⟩
    · exact ⟨x3.toNat, by rw [Int.toNat_of_nonneg (by omega)]; exact atI_nat (j := 2) rfl, by omega, by omega⟩
  refine ⟨l2, _, _, _, rfl, rfl, SqL.of hl5, hhi, ?_⟩
  clear hl5 hl hhi ex3 x30 x3n w3 hb3 B3 k5 k1 k2 hb1 hb2 r10 r11 r20 r21 r30 r31 B4 hb4
  -- bounds and no nodes yet
  refine ⟨_, rfl, _, rfl, _, rfl, b, lo, hi, rfl, lh, by omega, hb5, fun H6 pB B B6 hb6 npB hpB pw h0 h1 l2' l12 asc => ⟨Nat.zero_le _, fun fn nfn => ⟨_, _, rfl, ?_⟩⟩⟩
  have w7 := same_upd (o := .lst []) nfn
  have hfn : (upd H6 fn (.lst [])) fn = some (.lst []) := upd_same
  have hpB7 := w7 _ _ hpB
  have hb7 := hb6.same w7
  have B7 : But b H (upd H6 fn (.lst [])) := fun a o nn k => w7 _ _ (B6 a o nn (B5 a o nn k))
  generalize upd H6 fn (.lst []) = H7 at hfn hpB7 hb7 B7 ⊢
  clear w7 npB hpB hb5 B5 hb6 B6 nfn
  have il : (natsV B).length = B.length := List.length_map _
  refine ⟨_, rfl, _, rfl, 1, rfl, pB, _, rfl, SqL.of hpB7, fun c nc => ?_⟩
  rw [cut_first _ (by omega)]
  have w8 := same_upd (o := .lst ((natsV B).drop 1)) nc
  have hc : (upd H7 c (.lst ((natsV B).drop 1))) c = some (.lst ((natsV B).drop 1)) := upd_same
  have hpB8 := w8 _ _ hpB7
  have hfn8 := w8 _ _ hfn
  have hb8 := hb7.same w8
  have B8 : But b H (upd H7 c (.lst ((natsV B).drop 1))) := fun a o nn k => w8 _ _ (B7 a o nn k)
  generalize upd H7 c (.lst ((natsV B).drop 1)) = H8 at hc hpB8 hfn8 hb8 B8 ⊢
  clear w8 hpB7 hfn hb7 B7 nc
  have hz : ∀ {i : Nat} {x : V}, (natsV B)[i]? = some x → ∃ y, B[i]? = some y ∧ x = .int (y : Int) := by
    intro i x hi
    unfold natsV at hi
    rw [List.getElem?_map] at hi
    obtain ⟨y, h1, h2⟩ := Option.map_eq_some_iff.mp hi
    exact ⟨y, h1, h2.symm⟩
  have dl : ((natsV B).drop 1).length = B.length - 1 := by rw [List.length_drop, il]
  have zl : (B.zip (B.drop 1)).length = B.length - 1 := by rw [List.length_zip, List.length_drop]; omega
  have hZ : ∀ x ∈ B.zip (B.drop 1), x.2 ≤ 2 ^ 100 := by
    intro x hx
    obtain ⟨i, hi⟩ := List.getElem?_of_mem hx
    rw [List.getElem?_zip_eq_some] at hi
    obtain ⟨i1, i2⟩ := hi
    rw [List.getElem?_drop, Nat.add_comm] at i2
    have := (asc.lt i1 i2).2
    have : (10 : Nat) ^ 30 < 2 ^ 100 := by decide
    omega
  refine ⟨pB, c, _, _, rfl, SqL.of hpB8, SqL.of hc, for_zipS (K := K) (a := pB) (b := c) (xs := natsV B) (ys := (natsV B).drop 1) (by omega)
    (fun j σ H' => ∃ (pn : Addr) (v6 v7 : Option V) (zs : List V), σ = [some (.ref b), some (.int (n : Int)), some (.int (lo : Int)), some (.int (hi : Int)), some (.ref pB), some (.ref pn), v6, v7, none, none, none, none] ∧ Same H8 H' ∧ H' pn = some (.lst zs) ∧ All2 (Nd H') zs (tps (2 ^ 100) ((B.zip (B.drop 1)).take j)))
    ⟨fn, none, none, [], rfl, Same.refl _, hfn8, .nil⟩ (fun i σ H' ⟨_, _, _, _, _, s5, _⟩ => ⟨SqL.of (s5 _ _ hpB8), SqL.of (s5 _ _ hc)⟩) ?_ ?_⟩
  · rintro i xa ya T σ H3 hxi hyi ⟨pn, v6, v7, zs, rfl, s3, hpn, hzs⟩ nT
    rw [List.getElem?_drop, Nat.add_comm] at hyi
    obtain ⟨x, hx, rfl⟩ := hz hxi
    obtain ⟨y, hy, rfl⟩ := hz hyi
    obtain ⟨xy, y30⟩ := asc.lt hx hy
    have sT := same_upd (o := .tup [.int (x : Int), .int (y : Int)]) nT
    have hT : (upd H3 T (.tup [.int (x : Int), .int (y : Int)])) T = some (.tup [.int (x : Int), .int (y : Int)]) := upd_same
    have hpn4 := sT _ _ hpn
    have hzs4 := hzs.mono fun v x (k : Nd H3 v x) => k.same sT
    have s4 := s3.trans sT
    generalize upd H3 T (.tup [.int (x : Int), .int (y : Int)]) = H4 at hT hpn4 hzs4 s4 ⊢
    have hzi : (B.zip (B.drop 1))[i]? = some (x, y) := by
      rw [List.getElem?_zip_eq_some]
      exact ⟨hx, by rw [List.getElem?_drop, Nat.add_comm]; exact hy⟩
    have ilt : i < (B.zip (B.drop 1)).length := (List.getElem?_eq_some_iff.mp hzi).1
    refine ⟨T, _, rfl, SqT.of hT, rfl, _, _, rfl, _, _, rfl, rfl, ?_⟩
    have hlen : (tps (2 ^ 100) ((B.zip (B.drop 1)).take i)).length ≤ 202 * 12 := by
      have := tps_len (n := 2 ^ 100) ((B.zip (B.drop 1)).take i) fun x hx => hZ x (List.mem_of_mem_take hx)
      rw [List.length_take] at this
      omega
    have k30 : (10 : Nat) ^ 30 < 2 ^ 100 := by decide
    have hny : (nw (2 ^ 100) x y).length ≤ 202 := nw_len (by omega)
    refine ⟨_, rfl, _, rfl, _, rfl, x, y, rfl, xy, y30, fun H5 r ys s5 nr hr5 hy5 => ?_⟩
    refine ⟨pn, r, zs, ys, rfl, rfl, s5 _ _ hpn4, hr5, szle (by rw [hzs4.len, hy5.len]; omega), fun p np => ?_⟩
    have s6 := same_upd (o := .lst (zs ++ ys)) np
    refine ⟨p, _, _, zs ++ ys, rfl, (s4.trans s5).trans s6, upd_same, ?_⟩
    have e : tps (2 ^ 100) ((B.zip (B.drop 1)).take (i + 1)) = tps (2 ^ 100) ((B.zip (B.drop 1)).take i) ++ nw (2 ^ 100) x y := by
      rw [take_more hzi]
      unfold tps
      rw [List.flatMap_append]
      simp
    rw [e]
    exact (hzs4.mono fun v x (k : Nd H4 v x) => (k.same s5).same s6).app (hy5.mono fun v x (k : Nd H5 v x) => k.same s6)
  rintro σ H3 ⟨pn, v6, v7, zs, rfl, s3, hpn, hzs⟩
  rw [dl, ← zl, List.take_length] at hzs
  have ep : tps (2 ^ 100) (B.zip (B.drop 1)) = prts B := rfl
  rw [ep] at hzs
  have hpB3 := s3 _ _ hpB8
  have hb9 := hb8.same s3
  have B9 : But b H H3 := fun a o nn k => s3 _ _ (B8 a o nn k)
  clear s3 hc hpB8 hfn8 hb8 B8 dl hz ep hZ
  have b0 : B[0]? = some lo := by rw [← List.head?_eq_getElem?]; exact h0
  have bl : B[B.length - 1]? = some hi := by rw [← List.getLast?_eq_getElem?]; exact h1
  obtain ⟨es, ej, eN, ew, e1⟩ := parts_all (n := n) pw h0 h1 lh hin h30
  have el := prts_len B
  have two : 2 ≤ sizeLine := by decide
  have one1 : 1 ≤ sizeLine := by decide
  -- the sums that are spared
  refine ⟨_, rfl, pB, B, lo, hi, rfl, hpB3, l2', l12, asc, b0, bl, lh, by omega, fun H7 s7 => ?_⟩
  refine ⟨_, rfl, pn, zs, rfl, .inl (SqL.of (s7 _ _ hpn)), _, rfl, _, rfl, lo, hi, rfl, lh, by omega, fun H8' s8 => ?_⟩
  refine ⟨_, _, rfl, rfl, rfl, false, ne_no (congrArg V.int ?_), ?_⟩
  · rw [hzs.len, el]
    rfl
  have hpn9 := s8 _ _ (s7 _ _ hpn)
  have hzs9 := hzs.mono fun v x (k : Nd H3 v x) => (k.same s7).same s8
  have hb10 := (hb9.same s7).same s8
  have B10 : But b H H8' := fun a o nn k => s8 _ _ (s7 _ _ (B9 a o nn k))
  clear hpn hzs hb9 B9 hpB3 s7 s8 el asc l12 l2'
  refine ⟨_, rfl, pn, zs, rfl, .inl (SqL.of hpn9), _, _, rfl, rfl, _, rfl, ite2 (fun c => ?_) (fun c => ?_)⟩
  · exact q _ B10 hb10
  have l60 : (prts B).length ≤ 60 := by
    have := of_decide_eq_false (Bool.eq_false_iff.mpr c)
    rw [hzs9.len] at this
    omega
  -- the tops of the parts, back to front
  refine ⟨_, rfl, _, rfl, pn, zs, rfl, SqL.of hpn9, fun rv nrv => ?_⟩
  have w1 := same_upd (o := .lst zs.reverse) nrv
  refine ⟨n, rv, zs.reverse, (prts B).reverse, rfl, n1, h30, upd_same, ?_, by rw [List.length_reverse]; exact e1, by rw [List.length_reverse]; exact l60, fun x hx => eN x (List.mem_reverse.mp hx), fun H11 tp ys s11 ntp htp hys => ?_⟩
  · exact (hzs9.mono fun v x (k : Nd H8' v x) => k.same w1).rev
  have s12 := w1.trans s11
  have erev : srt (prts B).reverse = prts B := by rw [srt_eq (List.reverse_perm (prts B)), es]
  rw [erev, ej] at hys
  have etp : tps n [(lo, hi)] = nw n lo hi := by unfold tps; simp
  rw [etp] at hys
  refine ⟨_, rfl, two, fun tw ntw => ⟨_, _, rfl, ?_⟩⟩
  have w13 := same_upd (o := .tup [.int 0, .int (n : Int)]) ntw
  have htw : (upd H11 tw (.tup [.int 0, .int (n : Int)])) tw = some (.tup [.int 0, .int (n : Int)]) := upd_same
  have htp13 := w13 _ _ htp
  have hys13 := hys.mono fun v x (k : Nd H11 v x) => k.same w13
  have s13 := s12.trans w13
  generalize upd H11 tw (.tup [.int 0, .int (n : Int)]) = H13 at htw htp13 hys13 s13 ⊢
  clear w13 hys htp ntp s12 s11 w1 nrv ntw erev etp
  have hpn13 := s13 _ _ hpn9
  have hzs13 := hzs9.mono fun v x (k : Nd H8' v x) => k.same s13
  have hb13 := hb10.same s13
  have B13 : But b H H13 := fun a o nn k => s13 _ _ (B10 a o nn k)
  clear hpn9 hzs9 hb10 B10 s13
  rcases (show hi < n ∨ (¬ hi < n ∧ lo = 0) ∨ (¬ hi < n ∧ lo ≠ 0) by omega) with c1 | ⟨c1, c2⟩ | ⟨c1, c2⟩
  case' inl =>
    refine ⟨_, rfl, _, rfl, _, _, rfl, rfl, true, congrArg V.bl (decide_eq_true (by omega)), ?_⟩
    refine ⟨_, rfl, _, rfl, lo, hi, rfl, lh, by omega, fun H14 pd ds sA npd hpd hds => ?_⟩
    rw [nw_full (Nat.le_of_lt lh) c1 (Nat.lt_of_le_of_lt (Nat.le_trans hin h30) (by decide))] at hds
  case' inr.inl =>
    refine ⟨_, rfl, _, rfl, _, _, rfl, rfl, false, congrArg V.bl (decide_eq_false (by omega)), ?_⟩
    refine ⟨_, rfl, rfl, true, congrArg V.bl (decide_eq_true (congrArg V.int (by omega))), ?_⟩
    refine ⟨_, rfl, one1, fun pd npd => ?_⟩
    have sA := same_upd (o := .lst [V.ref tw]) npd
    have hpd : (upd H13 pd (.lst [.ref tw])) pd = some (.lst [.ref tw]) := upd_same
    have hds : All2 (Nd (upd H13 pd (.lst [.ref tw]))) [V.ref tw] (nw n lo hi) := by
      have : hi = n := by omega
      subst this
      subst c2
      rw [nw_root lh]
      exact .cons ⟨tw, rfl, sA _ _ htw⟩ .nil
    generalize upd H13 pd (.lst [V.ref tw]) = H14 at sA hpd hds ⊢
    generalize [V.ref tw] = ds at hpd hds
  case' inr.inr =>
    refine ⟨_, rfl, _, rfl, _, _, rfl, rfl, false, congrArg V.bl (decide_eq_false (by omega)), ?_⟩
    refine ⟨_, rfl, rfl, false, congrArg V.bl (decide_eq_false (fun z => c2 (by have := V.int.inj z; omega))), ?_⟩
    refine ⟨_, rfl, _, rfl, two, fun t nt => ⟨one1, fun l nl => ?_⟩⟩
    have s1 := same_upd (o := .tup [.int 0, .int (lo : Int)]) nt
    have s2 := same_upd (o := .lst [.ref t]) nl
    refine ⟨n, l, _, [(0, lo)], rfl, n1, h30, upd_same, .cons ⟨t, rfl, s2 _ _ upd_same⟩ .nil, Nat.le_refl 1, (by show 1 ≤ 12; decide), ⟨Nat.le_refl 0, by show 0 < lo; omega, by show lo ≤ n; omega, by show lo ≤ n; omega⟩, fun H14 pd ds s14 npd hpd hds => ?_⟩
    have sA := (s1.trans s2).trans s14
    rw [nl_ahead] at hds
    have : hi = n := by omega
    rw [← this] at hds
    rw [this] at hds
    have hds : All2 (Nd H14) ds (nw n lo hi) := by rw [this]; exact hds
    clear s1 s2 s14
  all_goals
    have htw14 := sA _ _ htw
    have htp14 := sA _ _ htp13
    have hys14 := hys13.mono fun v x (k : Nd H13 v x) => k.same sA
    have hpn14 := sA _ _ hpn13
    have hzs14 := hzs13.mono fun v x (k : Nd H13 v x) => k.same sA
    have hb14 := hb13.same sA
    have B14 : But b H H14 := fun a o nn k => sA _ _ (B13 a o nn k)
    refine ⟨_, rfl, _, rfl, _, _, lst_dp htp14 hys14, lst_dp hpd hds, nds_shaped _, nds_shaped _, ?_⟩
    rw [nds_eqv, decide_eq_true rfl]
    refine ⟨false, rfl, ?_⟩
    refine ⟨_, rfl, _, rfl, n, pn, zs, prts B, rfl, n1, h30, hpn14, hzs14, e1, l60, eN, fun H15 tp2 ys2 s15 ntp2 htp2 hys2 => ?_⟩
    rw [es, ej, show tps n [(lo, hi)] = nw n lo hi by unfold tps; simp] at hys2
    refine ⟨_, rfl, _, _, lst_dp htp2 hys2, lst_dp (s15 _ _ hpd) (hds.mono fun v x (k : Nd H14 v x) => k.same s15), nds_shaped _, nds_shaped _, ?_⟩
    rw [nds_eqv, decide_eq_true rfl]
    refine ⟨false, rfl, ?_⟩
    refine ⟨_, rfl, _, rfl, n, pn, zs, prts B, rfl, n1, h30, s15 _ _ hpn14, hzs14.mono (fun v x (k : Nd H14 v x) => k.same s15), e1, l60, eN, fun H16 s16 => ?_⟩
    rw [es, ej]
    refine ⟨_, rfl, _, rfl, one1, fun lw nlw => ?_⟩
    have w17 := same_upd (o := .lst [V.ref tw]) nlw
    have hds16 := hds.mono fun v x (k : Nd H14 v x) => ((k.same s15).same s16).same w17
    refine ⟨_, _, lst_dp (w17 _ _ (s16 _ _ (s15 _ _ hpd))) hds16, lst_dp (l := [(0, n)]) upd_same (.cons ⟨tw, rfl, w17 _ _ (s16 _ _ (s15 _ _ htw14))⟩ .nil), nds_shaped _, nds_shaped _, ?_⟩
    rw [nds_eqv]
    refine ⟨rfl, false, ne_no (congrArg V.bl (nw_whole lh hin).symm), ?_⟩
    have s17 := (s15.trans s16).trans w17
    generalize upd H16 lw (.lst [V.ref tw]) = H17 at s17 ⊢
    refine ⟨_, rfl, _, rfl, n, pn, zs, prts B, rfl, n1, h30, s17 _ _ hpn14, hzs14.mono (fun v x (k : Nd H14 v x) => k.same s17), e1, l60, eN, fun H18 rp rs s18 nrp hrp hrs => ?_⟩
    rw [es] at hrs
    have soN : So n 0 (prts B) := ((prts_ch B lo hi pw h0 h1 (Nat.le_trans hin (Nat.le_trans h30 (by decide)))).so hin).down (Nat.zero_le lo)
    have rlen := nb_len (n := n) (Nat.le_trans h30 (by decide)) (prts B) 0 fun x hx => by have := (isN_tree (eN x hx)); omega
    have rlt : ∀ x ∈ nb n 0 (prts B), x.1 < x.2 := by rw [nb_nl soN]; exact nl_lt _ _ soN
    have rsum := wid_int _ rlt
    generalize nb n 0 (prts B) = R at hrs rlen rlt rsum ew
    refine ⟨_, rfl, rp, rfl, ⟨_, SqL.of hrp⟩, fun D nD => ?_⟩
    have rl := hrs.len
    refine lc_list (K := K) (a := rp) (xs := rs) (fun j H' => Same H18 H' ∧ H' D = some (.lst (((R.take j).map fun x => ((x.2 : Int) - (x.1 : Int))).map V.int))) ⟨same_upd nD, upd_same⟩ (fun j H' _ ⟨s5, _⟩ => SqL.of (s5 _ _ hrp)) ?_ ?_
    · rintro j v H19 hj ⟨s19, hD⟩
      obtain ⟨x, hxj, pv, rfl, hpv⟩ := hrs.nth hj
      have jl := (List.getElem?_eq_some_iff.mp hxj).1
      refine ⟨pv, _, rfl, SqT.of (s19 _ _ hpv), rfl, _, _, rfl, _, _, rfl, rfl, rfl, ?_⟩
      refine ⟨_, rfl, _, rfl, _, _, rfl, rfl, _, hD, szlt (by rw [List.length_map, List.length_map, List.length_take]; omega), fun u o k => by rw [upd_ne (ne_of_none k nD)]; exact s19 _ _ k, ?_⟩
      rw [take_more hxj, List.map_append, List.map_append]
      exact upd_same
    · rintro H19 ⟨s19, hD⟩
      rw [rl, List.take_length] at hD
      refine ⟨D, _, rfl, SqL.of hD, ?_⟩
      refine ⟨_, rfl, _, rfl, _, rfl, _, _, rfl, rfl, _, _, rfl, rfl, rfl, ?_⟩
      rw [rsum]
      have e : ((wid R : Nat) : Int) = (n : Int) - ((hi : Int) - (lo : Int)) := by omega
      rw [e, decide_eq_true rfl]
      have s9 := (s17.trans s18).trans s19
      exact q _ (fun a o nn k => s9 _ _ (B14 a o nn k)) (hb14.same s9)
end
end LT

namespace LT
open PySem PySem.Spec PyProof.Rows L2
theorem script_at {ns : List Int} {lo hi : Option Int} {i : Nat} {x : V} (h : (cutV (ns.map V.int) lo hi ++ [.int 0])[i]? = some x) : ∃ c : Int, x = .int c := by
  have m := List.mem_of_getElem? h
  rcases List.mem_append.mp m with m | m
  · unfold cutV at m
    have m2 := List.mem_of_mem_drop (List.mem_of_mem_take m)
    obtain ⟨c, _, e⟩ := List.mem_map.mp m2
    exact ⟨c, e.symm⟩
  · exact ⟨0, List.mem_singleton.mp m⟩
theorem sqSame {K : PySem.W.Frag} {H H' : Hp} {a : Addr} {xs : List V} (h : SqL K H a xs) (e : Same H H') : SqL K H' a xs :=
  h.elim (fun h => .inl (h.elim (fun h => .inl (e _ _ h)) fun ⟨o, h⟩ => .inr ⟨o, e _ _ h⟩)) fun h => .inr h
def spLaw (K : PySem.W.Frag) : Sp := fun vs H Q _ => ∃ (a : Addr) (ns : List Int), vs = [.ref a] ∧ SqL K H a (ns.map V.int) ∧ ns.length ≤ 63 ∧ ∀ H', Q (.bl true) H'
end LT

namespace LT
open PySem PySem.Spec PyProof.Rows L2
section
variable {P : Program} {w : World} {K : PySem.W.Frag} {mg : Str → Option Value} {base : Heap}
theorem ok_law {f g1 g2 g3 g4 g5 : Addr} {fd d1 d2 d3 d4 d5 : FuncData} (F : Fun K "law" "law" sLaw f fd)
    (GLawBag : FnOk P w K mg base CX0 1 g1 d1 ["cell"] spBag) (ALawBag : At K mg "_law_bag" g1 d1 ["cell"])
    (GLawSize : FnOk P w K mg base CX0 2 g2 d2 ["bag", "most"] spSizeM) (ALawSize : At K mg "_law_size" g2 d2 ["bag", "most"])
    (GLawRight : FnOk P w K mg base CX0 8 g3 d3 ["bag", "size"] spRight) (ALawRight : At K mg "_law_right" g3 d3 ["bag", "size"])
    (GKnownTops : FnOk P w K mg base CX0 6 g4 d4 ["size", "nodes"] spTopsK) (AKnownTops : At K mg "known_tops" g4 d4 ["size", "nodes"])
    (GCompact : FnOk P w K mg base CX0 5 g5 d5 ["begin", "end"] spCompact) (ACompact : At K mg "compact" g5 d5 ["begin", "end"]) : FnOk P w K mg base CX0 9 f fd ["script"] (spLaw K) := by
  refine F.ok scLaw (fun vs H Q E h => ?_) (fun cdv A outer s H vs Q E hr h => ?_)
  · obtain ⟨_, _, rfl, _⟩ := h
    rfl
  obtain ⟨a, ns, rfl, hs, hn, q⟩ := h
  refine ⟨_, (pss_cons (ps_for PassesOwn.never rfl (pi_list (pe_op op_cat (pe_slice sl_list (pv 0) po_none (po_some pe_int)) (pe_lst (pa_cons pe_int pa_nil)))) (pg_name (i := 1) scLaw.nd rfl (Or.inl rfl))
    (pss_cons (ps_set (i := 2) scLaw.nd rfl (Or.inl rfl) (pe_call GLawBag (hr.mono (by decide)) rfl ALawBag.m ALawBag.kp ALawBag.b .nil pass0 (pa_cons (pv 1) pa_nil)))
    (pss_one (ps_for PassesOwn.never rfl (pi_tup (pe_tup (pa_cons pe_int (pa_cons (pe_op op_pow pe_int pe_int) (pa_cons (pe_op op_pow pe_int pe_int) (pa_cons (pe_op op_pow pe_int pe_int) pa_nil)))))) (pg_name (i := 3) scLaw.nd rfl (Or.inl rfl))
    (pss_one (ps_if (pt_not (pt_val (pe_call GLawRight (hr.mono (by decide)) rfl ALawRight.m ALawRight.kp ALawRight.b .nil pass0 (pa_cons (pv 2) (pa_cons (pe_call GLawSize (hr.mono (by decide)) rfl ALawSize.m ALawSize.kp ALawSize.b .nil pass0 (pa_cons (pv 2) (pa_cons (pv 3) pa_nil))) pa_nil)))))
    (pss_one (ps_ret pe_bl))
    pss_nil))))))
    (pss_one (ps_ret (pe_cmpR (op_eqD hr.units) (pe_call GKnownTops (hr.mono (by decide)) rfl AKnownTops.m AKnownTops.kp AKnownTops.b .nil pass0 (pa_cons pe_int (pa_cons (pe_op op_cat (pe_call GCompact (hr.mono (by decide)) rfl ACompact.m ACompact.kp ACompact.b .nil pass0 (pa_cons pe_int (pa_cons pe_int pa_nil))) (pe_call GCompact (hr.mono (by decide)) rfl ACompact.m ACompact.kp ACompact.b .nil pass0 (pa_cons pe_int (pa_cons pe_int pa_nil)))) pa_nil))) (pe_lst (pa_cons (pe_tup (pa_cons pe_int (pa_cons pe_int pa_nil))) (pa_cons (pe_tup (pa_cons pe_int (pa_cons pe_int pa_nil))) (pa_cons (pe_tup (pa_cons pe_int (pa_cons pe_int pa_nil))) (pa_cons (pe_tup (pa_cons pe_int (pa_cons pe_int pa_nil))) pa_nil))))) (nomark _))))), ?_⟩
  have one1 : 1 ≤ sizeLine := by decide
  have two : 2 ≤ sizeLine := by decide
  refine ⟨_, rfl, 6, rfl, a, _, rfl, hs, fun c nc => ⟨one1, fun z nz => ?_⟩⟩
  have s1 := same_upd (o := .lst (cutV (ns.map V.int) none (some 6))) nc
  have s2 := same_upd (o := .lst [.int 0]) nz
  have hcl := cutV_length (ns.map V.int) none (some 6)
  rw [List.length_map] at hcl
  refine ⟨c, z, _, _, rfl, rfl, s2 _ _ upd_same, upd_same, szle (by rw [List.length_singleton]; omega), fun r nr => ?_⟩
  have hr0 : (upd (upd (upd H c (.lst (cutV (ns.map V.int) none (some 6)))) z (.lst [.int 0])) r (.lst (cutV (ns.map V.int) none (some 6) ++ [.int 0]))) r = some (.lst (cutV (ns.map V.int) none (some 6) ++ [.int 0])) := upd_same
  generalize upd (upd (upd H c (.lst (cutV (ns.map V.int) none (some 6)))) z (.lst [.int 0])) r (.lst (cutV (ns.map V.int) none (some 6) ++ [.int 0])) = H0 at hr0
  refine ⟨r, rfl, ⟨_, SqL.of hr0⟩, for_list (K := K) (a := r) (xs := cutV (ns.map V.int) none (some 6) ++ [.int 0]) (fun i σ H' => ∃ v1 v2 v3 : Option V, σ = [some (.ref a), v1, v2, v3] ∧ Same H0 H')
    ⟨none, none, none, rfl, Same.refl _⟩ (fun i σ H' _ ⟨_, _, _, _, s5⟩ => SqL.of (s5 _ _ hr0)) ?_ ?_⟩
  · rintro i x σ H1 hi ⟨v1, v2, v3, rfl, sm1⟩
    obtain ⟨cell, rfl⟩ := script_at hi
    refine ⟨_, rfl, cell, rfl, fun H2 b sm2 nb hb => ?_⟩
    have nb0 : H0 b = none := sm1.free nb
    have B2 : But b H0 H2 := But.of (sm1.trans sm2)
    refine ⟨_, _, rfl, rfl, ⟨by decide, by decide, by decide⟩, _, _, rfl, rfl, ⟨by decide, by decide, by decide⟩, _, _, rfl, rfl, ⟨by decide, by decide, by decide⟩, (by show 4 ≤ sizeLine; decide), fun t nt => ?_⟩
    have s4 := same_upd (o := .tup [.int 99, .int (10 ^ Int.toNat 6), .int (10 ^ Int.toNat 12), .int (10 ^ Int.toNat 30)]) nt
    have tb := hb.ne nt
    have h4 : (upd H2 t (.tup [.int 99, .int (10 ^ Int.toNat 6), .int (10 ^ Int.toNat 12), .int (10 ^ Int.toNat 30)])) t = some (.tup ([99, 10 ^ 6, 10 ^ 12, 10 ^ 30].map fun x : Nat => V.int (x : Int))) := by rw [upd_same]; rfl
    have hl : ∀ x ∈ [99, 10 ^ 6, 10 ^ 12, 10 ^ 30], 1 ≤ x ∧ x ≤ 10 ^ 30 := by decide
    have B4 := B2.trans (But.of s4)
    have b4 := hb.same s4
    generalize upd H2 t (.tup [.int 99, .int (10 ^ Int.toNat 6), .int (10 ^ Int.toNat 12), .int (10 ^ Int.toNat 30)]) = H4 at h4 B4 b4
    generalize [99, 10 ^ 6, 10 ^ 12, 10 ^ 30] = L at h4 hl
    refine ⟨t, rfl, ⟨_, SqT.of h4⟩, for_tup (K := K) (a := t) (xs := L.map fun x : Nat => V.int (x : Int)) (fun j σ H' => ∃ v3 : Option V, σ = [some (.ref a), some (.int cell), some (.ref b), v3] ∧ But b H0 H' ∧ But b H4 H' ∧ BagAt H' b)
      ⟨v3, rfl, B4, But.refl _ _, b4⟩ (fun i σ H' _ ⟨_, _, _, k, _⟩ => SqT.of (k _ _ tb h4)) ?_ ?_⟩
    · rintro j x σ H5 hj ⟨v3, rfl, B5, C5, b5⟩
      rw [List.getElem?_map] at hj
      obtain ⟨most, ht, rfl⟩ := Option.map_eq_some_iff.mp hj
      obtain ⟨t1, t30⟩ := hl most (List.mem_of_getElem? ht)
      refine ⟨_, rfl, _, rfl, _, rfl, b, most, rfl, t1, t30, b5, fun n H6 n1 n30 B6 b6 => ?_⟩
      refine ⟨b, n, rfl, n1, by omega, b6, fun H7 B7 b7 => ⟨true, rfl, ?_⟩⟩
      exact ⟨_, rfl, (B5.trans B6).trans B7, (C5.trans B6).trans B7, b7⟩
    · rintro σ H5 ⟨v3, rfl, B5, C5, b5⟩
      exact ⟨_, _, _, rfl, fun u o k => B5 u o (ne_of_none k nb0) k⟩
  · rintro σ H1 ⟨v1, v2, v3, rfl, sm1⟩
    refine ⟨3, 7, rfl, by decide, by decide, fun H2 r1 ys1 t1 nr1 hr1 hy1 => ?_⟩
    refine ⟨7, 11, rfl, by decide, by decide, fun H3 r2 ys2 t2 nr2 hr2 hy2 => ?_⟩
    have e1 : nw (2 ^ 100) 3 7 = [(3, 4), (4, 6), (6, 7)] := by decide +kernel
    have e2 : nw (2 ^ 100) 7 11 = [(7, 8), (8, 10), (10, 11)] := by decide +kernel
    rw [e1] at hy1
    rw [e2] at hy2
    refine ⟨r1, r2, ys1, ys2, rfl, rfl, t2 _ _ hr1, hr2, szle (by rw [hy1.len, hy2.len]; simp), fun p np => ?_⟩
    have t3 := same_upd (o := .lst (ys1 ++ ys2)) np
    have hp : (upd H3 p (.lst (ys1 ++ ys2))) p = some (.lst (ys1 ++ ys2)) := upd_same
    have hy3 := (hy1.mono fun v x (k : Nd H2 v x) => (k.same t2).same t3).app (hy2.mono fun v x (k : Nd H3 v x) => k.same t3)
    generalize upd H3 p (.lst (ys1 ++ ys2)) = H4 at hp hy3 ⊢
    refine ⟨12, p, _, _, rfl, by decide, by decide, hp, hy3, by decide, by decide, by decide +kernel, fun H5 tp zs t5 ntp htp hz => ?_⟩
    have e3 : tps 12 (jn (srt ([(3, 4), (4, 6), (6, 7)] ++ [(7, 8), (8, 10), (10, 11)]))) = [(3, 4), (4, 8), (8, 10), (10, 11)] := by
      rw [show srt ([(3, 4), (4, 6), (6, 7)] ++ [(7, 8), (8, 10), (10, 11)]) = [(3, 4), (4, 6), (6, 7), (7, 8), (8, 10), (10, 11)] from srt_id (by decide)]
      decide +kernel
    rw [e3] at hz
    refine ⟨two, fun q1 m1 => ⟨two, fun q2 m2 => ⟨two, fun q3 m3 => ⟨two, fun q4 m4 => ⟨(by show 4 ≤ sizeLine; decide), fun l nl => ?_⟩⟩⟩⟩⟩
    have w1 := same_upd (o := .tup [.int 3, .int 4]) m1
    have w2 := same_upd (o := .tup [.int 4, .int 8]) m2
    have w3 := same_upd (o := .tup [.int 8, .int 10]) m3
    have w4 := same_upd (o := .tup [.int 10, .int 11]) m4
    have w5 := same_upd (o := .lst [.ref q1, .ref q2, .ref q3, .ref q4]) nl
    have wa := (((w1.trans w2).trans w3).trans w4).trans w5
    refine ⟨_, _, lst_dp (wa _ _ htp) (hz.mono fun v x (k : Nd H5 v x) => k.same wa), lst_dp (l := [(3, 4), (4, 8), (8, 10), (10, 11)]) upd_same (.cons ⟨q1, rfl, w5 _ _ (w4 _ _ (w3 _ _ (w2 _ _ upd_same)))⟩ (.cons ⟨q2, rfl, w5 _ _ (w4 _ _ (w3 _ _ upd_same))⟩ (.cons ⟨q3, rfl, w5 _ _ (w4 _ _ upd_same)⟩ (.cons ⟨q4, rfl, w5 _ _ upd_same⟩ .nil)))), nds_shaped _, nds_shaped _, ?_⟩
    rw [nds_eqv, decide_eq_true rfl]
    exact q _
end
end LT

namespace LT
open PySem PySem.Spec PyProof.Rows L2
theorem all_mk {l : PySem.W.OpenLaw} {w : World} {K : PySem.W.Frag} {h : Heap} {mg : Str → Option Value} {fa f0 f1 f2 f3 f4 f5 f6 f7 f8 f9 f10 f11 f12 f13 f14 f15 f16 f17 f18 f19 f20 f21 f22 f23 f24 f25 f26 f27 f28 : Addr} (X : K.In h) (G : h.Ns mainGlobals mg) (hfa : mg "law" = some (.ref fa))
    {od0 an0 od1 an1 od2 an2 od3 an3 od4 an4 od5 an5 od6 an6 od7 an7 od8 an8 od9 an9 od10 an10 od11 an11 od12 an12 od13 an13 od14 an14 od15 an15 od16 an16 od17 an17 od18 an18 od19 an19 od20 an20 od21 an21 od22 an22 od23 an23 od24 an24 od25 an25 od26 an26 od27 an27 od28 an28 : Option Addr} {sl0 sl1 sl2 sl3 sl4 sl5 sl6 sl7 sl8 sl9 sl10 sl11 sl12 sl13 sl14 sl15 sl16 sl17 sl18 sl19 sl20 sl21 sl22 sl23 sl24 sl25 sl26 sl27 sl28 : Array (Option Value)} {oc0 kV0 dc0 pm0 cd0 ct0 oc1 kV1 dc1 pm1 cd1 ct1 oc2 kV2 dc2 pm2 cd2 ct2 oc3 kV3 dc3 pm3 cd3 ct3 oc4 kV4 dc4 pm4 cd4 ct4 oc5 kV5 dc5 pm5 cd5 ct5 oc6 kV6 dc6 pm6 cd6 ct6 oc7 kV7 dc7 pm7 cd7 ct7 oc8 kV8 dc8 pm8 cd8 ct8 oc9 kV9 dc9 pm9 cd9 ct9 oc10 kV10 dc10 pm10 cd10 ct10 oc11 kV11 dc11 pm11 cd11 ct11 oc12 kV12 dc12 pm12 cd12 ct12 oc13 kV13 dc13 pm13 cd13 ct13 oc14 kV14 dc14 pm14 cd14 ct14 oc15 kV15 dc15 pm15 cd15 ct15 oc16 kV16 dc16 pm16 cd16 ct16 oc17 kV17 dc17 pm17 cd17 ct17 oc18 kV18 dc18 pm18 cd18 ct18 oc19 kV19 dc19 pm19 cd19 ct19 oc20 kV20 dc20 pm20 cd20 ct20 oc21 kV21 dc21 pm21 cd21 ct21 oc22 kV22 dc22 pm22 cd22 ct22 oc23 kV23 dc23 pm23 cd23 ct23 oc24 kV24 dc24 pm24 cd24 ct24 oc25 kV25 dc25 pm25 cd25 ct25 oc26 kV26 dc26 pm26 cd26 ct26 oc27 kV27 dc27 pm27 cd27 ct27 oc28 kV28 dc28 pm28 cd28 ct28 : Value}
    (a0 : PySem.W.nsIn K mainGlobals "is_whole" = some (some (.ref f0))) (l0 : K.lookup f0 = some ⟨oc0, od0, .func (PySem.W.fnOf "is_whole" "is_whole" (defArgs sIsWhole) (defBody sIsWhole) (defScope sIsWhole) .none kV0 dc0 pm0 an0 cd0 ct0), sl0⟩) (c0 : PySem.W.codeIn K cd0 "is_whole" = true) (k0 : PySem.W.keepIn K (.ref f0) = true)
    (a1 : PySem.W.nsIn K mainGlobals "is_between" = some (some (.ref f1))) (l1 : K.lookup f1 = some ⟨oc1, od1, .func (PySem.W.fnOf "is_between" "is_between" (defArgs sIsBetween) (defBody sIsBetween) (defScope sIsBetween) .none kV1 dc1 pm1 an1 cd1 ct1), sl1⟩) (c1 : PySem.W.codeIn K cd1 "is_between" = true) (k1 : PySem.W.keepIn K (.ref f1) = true)
    (a2 : PySem.W.nsIn K mainGlobals "is_tree_node" = some (some (.ref f2))) (l2 : K.lookup f2 = some ⟨oc2, od2, .func (PySem.W.fnOf "is_tree_node" "is_tree_node" (defArgs sIsTreeNode) (defBody sIsTreeNode) (defScope sIsTreeNode) .none kV2 dc2 pm2 an2 cd2 ct2), sl2⟩) (c2 : PySem.W.codeIn K cd2 "is_tree_node" = true) (k2 : PySem.W.keepIn K (.ref f2) = true)
    (a3 : PySem.W.nsIn K mainGlobals "is_list_of" = some (some (.ref f3))) (l3 : K.lookup f3 = some ⟨oc3, od3, .func (PySem.W.fnOf "is_list_of" "is_list_of" (defArgs sIsListOf) (defBody sIsListOf) (defScope sIsListOf) .none kV3 dc3 pm3 an3 cd3 ct3), sl3⟩) (c3 : PySem.W.codeIn K cd3 "is_list_of" = true) (k3 : PySem.W.keepIn K (.ref f3) = true)
    (a4 : PySem.W.nsIn K mainGlobals "is_span_from" = some (some (.ref f4))) (l4 : K.lookup f4 = some ⟨oc4, od4, .func (PySem.W.fnOf "is_span_from" "is_span_from" (defArgs sIsSpanFrom) (defBody sIsSpanFrom) (defScope sIsSpanFrom) .none kV4 dc4 pm4 an4 cd4 ct4), sl4⟩) (c4 : PySem.W.codeIn K cd4 "is_span_from" = true) (k4 : PySem.W.keepIn K (.ref f4) = true)
    (a5 : PySem.W.nsIn K mainGlobals "check_size" = some (some (.ref f5))) (l5 : K.lookup f5 = some ⟨oc5, od5, .func (PySem.W.fnOf "check_size" "check_size" (defArgs sCheckSize) (defBody sCheckSize) (defScope sCheckSize) .none kV5 dc5 pm5 an5 cd5 ct5), sl5⟩) (c5 : PySem.W.codeIn K cd5 "check_size" = true) (k5 : PySem.W.keepIn K (.ref f5) = true)
    (a6 : PySem.W.nsIn K mainGlobals "check_span" = some (some (.ref f6))) (l6 : K.lookup f6 = some ⟨oc6, od6, .func (PySem.W.fnOf "check_span" "check_span" (defArgs sCheckSpan) (defBody sCheckSpan) (defScope sCheckSpan) .none kV6 dc6 pm6 an6 cd6 ct6), sl6⟩) (c6 : PySem.W.codeIn K cd6 "check_span" = true) (k6 : PySem.W.keepIn K (.ref f6) = true)
    (a7 : PySem.W.nsIn K mainGlobals "check_spans" = some (some (.ref f7))) (l7 : K.lookup f7 = some ⟨oc7, od7, .func (PySem.W.fnOf "check_spans" "check_spans" (defArgs sCheckSpans) (defBody sCheckSpans) (defScope sCheckSpans) .none kV7 dc7 pm7 an7 cd7 ct7), sl7⟩) (c7 : PySem.W.codeIn K cd7 "check_spans" = true) (k7 : PySem.W.keepIn K (.ref f7) = true)
    {dT8 : Addr} {tc8 : Value} {td8 : Option Addr} {tits8 : Array Value} {tn8 : Nat} {tsl8 : Array (Option Value)}
    (a8 : PySem.W.nsIn K mainGlobals "check_nodes" = some (some (.ref f8))) (l8 : K.lookup f8 = some ⟨oc8, od8, .func (PySem.W.fnOf "check_nodes" "check_nodes" (defArgs sCheckNodes) (defBody sCheckNodes) (defScope sCheckNodes) (.ref dT8) kV8 dc8 pm8 an8 cd8 ct8), sl8⟩) (c8 : PySem.W.codeIn K cd8 "check_nodes" = true) (k8 : PySem.W.keepIn K (.ref f8) = true)
    (lT8 : K.lookup dT8 = some ⟨tc8, td8, .seq tits8 tn8, tsl8⟩) (vT8 : Vals [.int 1, .int 60] tits8.toList)
    (a9 : PySem.W.nsIn K mainGlobals "power_within" = some (some (.ref f9))) (l9 : K.lookup f9 = some ⟨oc9, od9, .func (PySem.W.fnOf "power_within" "power_within" (defArgs sPowerWithin) (defBody sPowerWithin) (defScope sPowerWithin) .none kV9 dc9 pm9 an9 cd9 ct9), sl9⟩) (c9 : PySem.W.codeIn K cd9 "power_within" = true) (k9 : PySem.W.keepIn K (.ref f9) = true)
    (a10 : PySem.W.nsIn K mainGlobals "_first_full" = some (some (.ref f10))) (l10 : K.lookup f10 = some ⟨oc10, od10, .func (PySem.W.fnOf "_first_full" "_first_full" (defArgs sFirstFull) (defBody sFirstFull) (defScope sFirstFull) .none kV10 dc10 pm10 an10 cd10 ct10), sl10⟩) (c10 : PySem.W.codeIn K cd10 "_first_full" = true) (k10 : PySem.W.keepIn K (.ref f10) = true)
    (a11 : PySem.W.nsIn K mainGlobals "nodes_within" = some (some (.ref f11))) (l11 : K.lookup f11 = some ⟨oc11, od11, .func (PySem.W.fnOf "nodes_within" "nodes_within" (defArgs sNodesWithin) (defBody sNodesWithin) (defScope sNodesWithin) .none kV11 dc11 pm11 an11 cd11 ct11), sl11⟩) (c11 : PySem.W.codeIn K cd11 "nodes_within" = true) (k11 : PySem.W.keepIn K (.ref f11) = true)
    (a12 : PySem.W.nsIn K mainGlobals "nodes_beside" = some (some (.ref f12))) (l12 : K.lookup f12 = some ⟨oc12, od12, .func (PySem.W.fnOf "nodes_beside" "nodes_beside" (defArgs sNodesBeside) (defBody sNodesBeside) (defScope sNodesBeside) .none kV12 dc12 pm12 an12 cd12 ct12), sl12⟩) (c12 : PySem.W.codeIn K cd12 "nodes_beside" = true) (k12 : PySem.W.keepIn K (.ref f12) = true)
    (a13 : PySem.W.nsIn K mainGlobals "joined" = some (some (.ref f13))) (l13 : K.lookup f13 = some ⟨oc13, od13, .func (PySem.W.fnOf "joined" "joined" (defArgs sJoined) (defBody sJoined) (defScope sJoined) .none kV13 dc13 pm13 an13 cd13 ct13), sl13⟩) (c13 : PySem.W.codeIn K cd13 "joined" = true) (k13 : PySem.W.keepIn K (.ref f13) = true)
    (a14 : PySem.W.nsIn K mainGlobals "_check" = some (some (.ref f14))) (l14 : K.lookup f14 = some ⟨oc14, od14, .func (PySem.W.fnOf "_check" "_check" (defArgs sCheck) (defBody sCheck) (defScope sCheck) .none kV14 dc14 pm14 an14 cd14 ct14), sl14⟩) (c14 : PySem.W.codeIn K cd14 "_check" = true) (k14 : PySem.W.keepIn K (.ref f14) = true)
    (a15 : PySem.W.nsIn K mainGlobals "gives_root" = some (some (.ref f15))) (l15 : K.lookup f15 = some ⟨oc15, od15, .func (PySem.W.fnOf "gives_root" "gives_root" (defArgs sGivesRoot) (defBody sGivesRoot) (defScope sGivesRoot) .none kV15 dc15 pm15 an15 cd15 ct15), sl15⟩) (c15 : PySem.W.codeIn K cd15 "gives_root" = true) (k15 : PySem.W.keepIn K (.ref f15) = true)
    (a16 : PySem.W.nsIn K mainGlobals "known_tops" = some (some (.ref f16))) (l16 : K.lookup f16 = some ⟨oc16, od16, .func (PySem.W.fnOf "known_tops" "known_tops" (defArgs sKnownTops) (defBody sKnownTops) (defScope sKnownTops) .none kV16 dc16 pm16 an16 cd16 ct16), sl16⟩) (c16 : PySem.W.codeIn K cd16 "known_tops" = true) (k16 : PySem.W.keepIn K (.ref f16) = true)
    (a17 : PySem.W.nsIn K mainGlobals "missing" = some (some (.ref f17))) (l17 : K.lookup f17 = some ⟨oc17, od17, .func (PySem.W.fnOf "missing" "missing" (defArgs sMissing) (defBody sMissing) (defScope sMissing) .none kV17 dc17 pm17 an17 cd17 ct17), sl17⟩) (c17 : PySem.W.codeIn K cd17 "missing" = true) (k17 : PySem.W.keepIn K (.ref f17) = true)
    (a18 : PySem.W.nsIn K mainGlobals "compact" = some (some (.ref f18))) (l18 : K.lookup f18 = some ⟨oc18, od18, .func (PySem.W.fnOf "compact" "compact" (defArgs sCompact) (defBody sCompact) (defScope sCompact) .none kV18 dc18 pm18 an18 cd18 ct18), sl18⟩) (c18 : PySem.W.codeIn K cd18 "compact" = true) (k18 : PySem.W.keepIn K (.ref f18) = true)
    (a19 : PySem.W.nsIn K mainGlobals "compact_count" = some (some (.ref f19))) (l19 : K.lookup f19 = some ⟨oc19, od19, .func (PySem.W.fnOf "compact_count" "compact_count" (defArgs sCompactCount) (defBody sCompactCount) (defScope sCompactCount) .none kV19 dc19 pm19 an19 cd19 ct19), sl19⟩) (c19 : PySem.W.codeIn K cd19 "compact_count" = true) (k19 : PySem.W.keepIn K (.ref f19) = true)
    (a20 : PySem.W.nsIn K mainGlobals "_check_bounds" = some (some (.ref f20))) (l20 : K.lookup f20 = some ⟨oc20, od20, .func (PySem.W.fnOf "_check_bounds" "_check_bounds" (defArgs sCheckBounds) (defBody sCheckBounds) (defScope sCheckBounds) .none kV20 dc20 pm20 an20 cd20 ct20), sl20⟩) (c20 : PySem.W.codeIn K cd20 "_check_bounds" = true) (k20 : PySem.W.keepIn K (.ref f20) = true)
    (a21 : PySem.W.nsIn K mainGlobals "join_sums" = some (some (.ref f21))) (l21 : K.lookup f21 = some ⟨oc21, od21, .func (PySem.W.fnOf "join_sums" "join_sums" (defArgs sJoinSums) (defBody sJoinSums) (defScope sJoinSums) .none kV21 dc21 pm21 an21 cd21 ct21), sl21⟩) (c21 : PySem.W.codeIn K cd21 "join_sums" = true) (k21 : PySem.W.keepIn K (.ref f21) = true)
    (a22 : PySem.W.nsIn K mainGlobals "needed" = some (some (.ref f22))) (l22 : K.lookup f22 = some ⟨oc22, od22, .func (PySem.W.fnOf "needed" "needed" (defArgs sNeeded) (defBody sNeeded) (defScope sNeeded) .none kV22 dc22 pm22 an22 cd22 ct22), sl22⟩) (c22 : PySem.W.codeIn K cd22 "needed" = true) (k22 : PySem.W.keepIn K (.ref f22) = true)
    (a23 : PySem.W.nsIn K mainGlobals "_law_bag" = some (some (.ref f23))) (l23 : K.lookup f23 = some ⟨oc23, od23, .func (PySem.W.fnOf "_law_bag" "_law_bag" (defArgs sLawBag) (defBody sLawBag) (defScope sLawBag) .none kV23 dc23 pm23 an23 cd23 ct23), sl23⟩) (c23 : PySem.W.codeIn K cd23 "_law_bag" = true) (k23 : PySem.W.keepIn K (.ref f23) = true)
    (a24 : PySem.W.nsIn K mainGlobals "_law_pick" = some (some (.ref f24))) (l24 : K.lookup f24 = some ⟨oc24, od24, .func (PySem.W.fnOf "_law_pick" "_law_pick" (defArgs sLawPick) (defBody sLawPick) (defScope sLawPick) .none kV24 dc24 pm24 an24 cd24 ct24), sl24⟩) (c24 : PySem.W.codeIn K cd24 "_law_pick" = true) (k24 : PySem.W.keepIn K (.ref f24) = true)
    (a25 : PySem.W.nsIn K mainGlobals "_law_size" = some (some (.ref f25))) (l25 : K.lookup f25 = some ⟨oc25, od25, .func (PySem.W.fnOf "_law_size" "_law_size" (defArgs sLawSize) (defBody sLawSize) (defScope sLawSize) .none kV25 dc25 pm25 an25 cd25 ct25), sl25⟩) (c25 : PySem.W.codeIn K cd25 "_law_size" = true) (k25 : PySem.W.keepIn K (.ref f25) = true)
    (a26 : PySem.W.nsIn K mainGlobals "_law_bounds" = some (some (.ref f26))) (l26 : K.lookup f26 = some ⟨oc26, od26, .func (PySem.W.fnOf "_law_bounds" "_law_bounds" (defArgs sLawBounds) (defBody sLawBounds) (defScope sLawBounds) .none kV26 dc26 pm26 an26 cd26 ct26), sl26⟩) (c26 : PySem.W.codeIn K cd26 "_law_bounds" = true) (k26 : PySem.W.keepIn K (.ref f26) = true)
    (a27 : PySem.W.nsIn K mainGlobals "_law_right" = some (some (.ref f27))) (l27 : K.lookup f27 = some ⟨oc27, od27, .func (PySem.W.fnOf "_law_right" "_law_right" (defArgs sLawRight) (defBody sLawRight) (defScope sLawRight) .none kV27 dc27 pm27 an27 cd27 ct27), sl27⟩) (c27 : PySem.W.codeIn K cd27 "_law_right" = true) (k27 : PySem.W.keepIn K (.ref f27) = true)
    (a28 : PySem.W.nsIn K mainGlobals "law" = some (some (.ref f28))) (l28 : K.lookup f28 = some ⟨oc28, od28, .func (PySem.W.fnOf "law" "law" (defArgs sLaw) (defBody sLaw) (defScope sLaw) .none kV28 dc28 pm28 an28 cd28 ct28), sl28⟩) (c28 : PySem.W.codeIn K cd28 "law" = true) (k28 : PySem.W.keepIn K (.ref f28) = true)
    (z_bool : PySem.W.nsIn K mainGlobals "bool" = some none)
    (z_enumerate : PySem.W.nsIn K mainGlobals "enumerate" = some none)
    (z_int : PySem.W.nsIn K mainGlobals "int" = some none)
    (z_isinstance : PySem.W.nsIn K mainGlobals "isinstance" = some none)
    (z_len : PySem.W.nsIn K mainGlobals "len" = some none)
    (z_list : PySem.W.nsIn K mainGlobals "list" = some none)
    (z_max : PySem.W.nsIn K mainGlobals "max" = some none)
    (z_min : PySem.W.nsIn K mainGlobals "min" = some none)
    (z_range : PySem.W.nsIn K mainGlobals "range" = some none)
    (z_set : PySem.W.nsIn K mainGlobals "set" = some none)
    (z_sorted : PySem.W.nsIn K mainGlobals "sorted" = some none)
    (z_sum : PySem.W.nsIn K mainGlobals "sum" = some none)
    (z_tuple : PySem.W.nsIn K mainGlobals "tuple" = some none)
    (z_zip : PySem.W.nsIn K mainGlobals "zip" = some none)
    {t_FULL_SIZE : Tok} (g_FULL_SIZE : PySem.W.nsIn K mainGlobals "FULL_SIZE" = some (some (.int 1267650600228229401496703205376 t_FULL_SIZE)))
    {t_MOST_BOUNDS : Tok} (g_MOST_BOUNDS : PySem.W.nsIn K mainGlobals "MOST_BOUNDS" = some (some (.int 12 t_MOST_BOUNDS)))
    {t_MOST_ENTRIES : Tok} (g_MOST_ENTRIES : PySem.W.nsIn K mainGlobals "MOST_ENTRIES" = some (some (.int 1000000000000000000000000000000 t_MOST_ENTRIES)))
    {t_MOST_SPANS : Tok} (g_MOST_SPANS : PySem.W.nsIn K mainGlobals "MOST_SPANS" = some (some (.int 12 t_MOST_SPANS)))
    : ∃ fd : FuncData, (∀ (s : Shared) (v : Value), BindsTo s fd ⟨[v], []⟩ [("script", v)]) ∧ ∀ base : Heap, K.In base → base.Ns mainGlobals mg → FnOk l.prog w K mg base CX0 9 fa fd ["script"] (spLaw K) := by
  have e := hfa.symm.trans (PySem.W.mg_of X G a28)
  cases e
  have FIsWhole := fun_mk (st := sIsWhole) l0 c0 k0
  have FIsBetween := fun_mk (st := sIsBetween) l1 c1 k1
  have FIsTreeNode := fun_mk (st := sIsTreeNode) l2 c2 k2
  have FIsListOf := fun_mk (st := sIsListOf) l3 c3 k3
  have FIsSpanFrom := fun_mk (st := sIsSpanFrom) l4 c4 k4
  have FCheckSize := fun_mk (st := sCheckSize) l5 c5 k5
  have FCheckSpan := fun_mk (st := sCheckSpan) l6 c6 k6
  have FCheckSpans := fun_mk (st := sCheckSpans) l7 c7 k7
  have FCheckNodes := funT_mk (st := sCheckNodes) l8 c8 k8 lT8 vT8
  have FPowerWithin := fun_mk (st := sPowerWithin) l9 c9 k9
  have FFirstFull := fun_mk (st := sFirstFull) l10 c10 k10
  have FNodesWithin := fun_mk (st := sNodesWithin) l11 c11 k11
  have FNodesBeside := fun_mk (st := sNodesBeside) l12 c12 k12
  have FJoined := fun_mk (st := sJoined) l13 c13 k13
  have FCheck := fun_mk (st := sCheck) l14 c14 k14
  have FGivesRoot := fun_mk (st := sGivesRoot) l15 c15 k15
  have FKnownTops := fun_mk (st := sKnownTops) l16 c16 k16
  have FMissing := fun_mk (st := sMissing) l17 c17 k17
  have FCompact := fun_mk (st := sCompact) l18 c18 k18
  have FCompactCount := fun_mk (st := sCompactCount) l19 c19 k19
  have FCheckBounds := fun_mk (st := sCheckBounds) l20 c20 k20
  have FJoinSums := fun_mk (st := sJoinSums) l21 c21 k21
  have FNeeded := fun_mk (st := sNeeded) l22 c22 k22
  have FLawBag := fun_mk (st := sLawBag) l23 c23 k23
  have FLawPick := fun_mk (st := sLawPick) l24 c24 k24
  have FLawSize := fun_mk (st := sLawSize) l25 c25 k25
  have FLawBounds := fun_mk (st := sLawBounds) l26 c26 k26
  have FLawRight := fun_mk (st := sLawRight) l27 c27 k27
  have FLaw := fun_mk (st := sLaw) l28 c28 k28
  have AIsWhole : At K mg "is_whole" f0 (PySem.W.fnOf "is_whole" "is_whole" (defArgs sIsWhole) (defBody sIsWhole) (defScope sIsWhole) .none kV0 dc0 pm0 an0 cd0 ct0) ["value"] := ⟨PySem.W.mg_of X G a0, k0, FIsWhole.binds (ps := ["value"]) fun _ _ _ _ _ _ us hl => match us, hl with | [_], _ => rfl⟩
  have AIsBetween : At K mg "is_between" f1 (PySem.W.fnOf "is_between" "is_between" (defArgs sIsBetween) (defBody sIsBetween) (defScope sIsBetween) .none kV1 dc1 pm1 an1 cd1 ct1) ["value", "low", "high"] := ⟨PySem.W.mg_of X G a1, k1, FIsBetween.binds (ps := ["value", "low", "high"]) fun _ _ _ _ _ _ us hl => match us, hl with | [_, _, _], _ => rfl⟩
  have AIsTreeNode : At K mg "is_tree_node" f2 (PySem.W.fnOf "is_tree_node" "is_tree_node" (defArgs sIsTreeNode) (defBody sIsTreeNode) (defScope sIsTreeNode) .none kV2 dc2 pm2 an2 cd2 ct2) ["size", "value"] := ⟨PySem.W.mg_of X G a2, k2, FIsTreeNode.binds (ps := ["size", "value"]) fun _ _ _ _ _ _ us hl => match us, hl with | [_, _], _ => rfl⟩
  have AIsListOf : At K mg "is_list_of" f3 (PySem.W.fnOf "is_list_of" "is_list_of" (defArgs sIsListOf) (defBody sIsListOf) (defScope sIsListOf) .none kV3 dc3 pm3 an3 cd3 ct3) ["value", "least", "most"] := ⟨PySem.W.mg_of X G a3, k3, FIsListOf.binds (ps := ["value", "least", "most"]) fun _ _ _ _ _ _ us hl => match us, hl with | [_, _, _], _ => rfl⟩
  have AIsSpanFrom : At K mg "is_span_from" f4 (PySem.W.fnOf "is_span_from" "is_span_from" (defArgs sIsSpanFrom) (defBody sIsSpanFrom) (defScope sIsSpanFrom) .none kV4 dc4 pm4 an4 cd4 ct4) ["size", "value", "least"] := ⟨PySem.W.mg_of X G a4, k4, FIsSpanFrom.binds (ps := ["size", "value", "least"]) fun _ _ _ _ _ _ us hl => match us, hl with | [_, _, _], _ => rfl⟩
  have ACheckSize : At K mg "check_size" f5 (PySem.W.fnOf "check_size" "check_size" (defArgs sCheckSize) (defBody sCheckSize) (defScope sCheckSize) .none kV5 dc5 pm5 an5 cd5 ct5) ["size"] := ⟨PySem.W.mg_of X G a5, k5, FCheckSize.binds (ps := ["size"]) fun _ _ _ _ _ _ us hl => match us, hl with | [_], _ => rfl⟩
  have ACheckSpan : At K mg "check_span" f6 (PySem.W.fnOf "check_span" "check_span" (defArgs sCheckSpan) (defBody sCheckSpan) (defScope sCheckSpan) .none kV6 dc6 pm6 an6 cd6 ct6) ["size", "begin", "end"] := ⟨PySem.W.mg_of X G a6, k6, FCheckSpan.binds (ps := ["size", "begin", "end"]) fun _ _ _ _ _ _ us hl => match us, hl with | [_, _, _], _ => rfl⟩
  have ACheckSpans : At K mg "check_spans" f7 (PySem.W.fnOf "check_spans" "check_spans" (defArgs sCheckSpans) (defBody sCheckSpans) (defScope sCheckSpans) .none kV7 dc7 pm7 an7 cd7 ct7) ["size", "spans"] := ⟨PySem.W.mg_of X G a7, k7, FCheckSpans.binds (ps := ["size", "spans"]) fun _ _ _ _ _ _ us hl => match us, hl with | [_, _], _ => rfl⟩
  have ACheckNodes : AtT K mg "check_nodes" f8 _ ["size", "nodes", "least", "most"] tits8.toList [.int 1, .int 60] := ⟨PySem.W.mg_of X G a8, k8, FCheckNodes.binds (n := 2) (m := 2) rfl (fun _ _ _ _ _ _ _ us its hl hi => match us, hl, its, hi with | [_, _], _, [_, _], _ => ⟨_, rfl, rfl⟩) , vT8⟩
  have APowerWithin : At K mg "power_within" f9 (PySem.W.fnOf "power_within" "power_within" (defArgs sPowerWithin) (defBody sPowerWithin) (defScope sPowerWithin) .none kV9 dc9 pm9 an9 cd9 ct9) ["number"] := ⟨PySem.W.mg_of X G a9, k9, FPowerWithin.binds (ps := ["number"]) fun _ _ _ _ _ _ us hl => match us, hl with | [_], _ => rfl⟩
  have AFirstFull : At K mg "_first_full" f10 (PySem.W.fnOf "_first_full" "_first_full" (defArgs sFirstFull) (defBody sFirstFull) (defScope sFirstFull) .none kV10 dc10 pm10 an10 cd10 ct10) ["begin", "end"] := ⟨PySem.W.mg_of X G a10, k10, FFirstFull.binds (ps := ["begin", "end"]) fun _ _ _ _ _ _ us hl => match us, hl with | [_, _], _ => rfl⟩
  have ANodesWithin : At K mg "nodes_within" f11 (PySem.W.fnOf "nodes_within" "nodes_within" (defArgs sNodesWithin) (defBody sNodesWithin) (defScope sNodesWithin) .none kV11 dc11 pm11 an11 cd11 ct11) ["size", "begin", "end"] := ⟨PySem.W.mg_of X G a11, k11, FNodesWithin.binds (ps := ["size", "begin", "end"]) fun _ _ _ _ _ _ us hl => match us, hl with | [_, _, _], _ => rfl⟩
  have ANodesBeside : At K mg "nodes_beside" f12 (PySem.W.fnOf "nodes_beside" "nodes_beside" (defArgs sNodesBeside) (defBody sNodesBeside) (defScope sNodesBeside) .none kV12 dc12 pm12 an12 cd12 ct12) ["size", "stretches"] := ⟨PySem.W.mg_of X G a12, k12, FNodesBeside.binds (ps := ["size", "stretches"]) fun _ _ _ _ _ _ us hl => match us, hl with | [_, _], _ => rfl⟩
  have AJoined : At K mg "joined" f13 (PySem.W.fnOf "joined" "joined" (defArgs sJoined) (defBody sJoined) (defScope sJoined) .none kV13 dc13 pm13 an13 cd13 ct13) ["stretches"] := ⟨PySem.W.mg_of X G a13, k13, FJoined.binds (ps := ["stretches"]) fun _ _ _ _ _ _ us hl => match us, hl with | [_], _ => rfl⟩
  have ACheck : At K mg "_check" f14 (PySem.W.fnOf "_check" "_check" (defArgs sCheck) (defBody sCheck) (defScope sCheck) .none kV14 dc14 pm14 an14 cd14 ct14) ["size", "nodes"] := ⟨PySem.W.mg_of X G a14, k14, FCheck.binds (ps := ["size", "nodes"]) fun _ _ _ _ _ _ us hl => match us, hl with | [_, _], _ => rfl⟩
  have AGivesRoot : At K mg "gives_root" f15 (PySem.W.fnOf "gives_root" "gives_root" (defArgs sGivesRoot) (defBody sGivesRoot) (defScope sGivesRoot) .none kV15 dc15 pm15 an15 cd15 ct15) ["size", "nodes"] := ⟨PySem.W.mg_of X G a15, k15, FGivesRoot.binds (ps := ["size", "nodes"]) fun _ _ _ _ _ _ us hl => match us, hl with | [_, _], _ => rfl⟩
  have AKnownTops : At K mg "known_tops" f16 (PySem.W.fnOf "known_tops" "known_tops" (defArgs sKnownTops) (defBody sKnownTops) (defScope sKnownTops) .none kV16 dc16 pm16 an16 cd16 ct16) ["size", "nodes"] := ⟨PySem.W.mg_of X G a16, k16, FKnownTops.binds (ps := ["size", "nodes"]) fun _ _ _ _ _ _ us hl => match us, hl with | [_, _], _ => rfl⟩
  have AMissing : At K mg "missing" f17 (PySem.W.fnOf "missing" "missing" (defArgs sMissing) (defBody sMissing) (defScope sMissing) .none kV17 dc17 pm17 an17 cd17 ct17) ["size", "nodes"] := ⟨PySem.W.mg_of X G a17, k17, FMissing.binds (ps := ["size", "nodes"]) fun _ _ _ _ _ _ us hl => match us, hl with | [_, _], _ => rfl⟩
  have ACompact : At K mg "compact" f18 (PySem.W.fnOf "compact" "compact" (defArgs sCompact) (defBody sCompact) (defScope sCompact) .none kV18 dc18 pm18 an18 cd18 ct18) ["begin", "end"] := ⟨PySem.W.mg_of X G a18, k18, FCompact.binds (ps := ["begin", "end"]) fun _ _ _ _ _ _ us hl => match us, hl with | [_, _], _ => rfl⟩
  have ACompactCount : At K mg "compact_count" f19 (PySem.W.fnOf "compact_count" "compact_count" (defArgs sCompactCount) (defBody sCompactCount) (defScope sCompactCount) .none kV19 dc19 pm19 an19 cd19 ct19) ["begin", "end"] := ⟨PySem.W.mg_of X G a19, k19, FCompactCount.binds (ps := ["begin", "end"]) fun _ _ _ _ _ _ us hl => match us, hl with | [_, _], _ => rfl⟩
  have ACheckBounds : At K mg "_check_bounds" f20 (PySem.W.fnOf "_check_bounds" "_check_bounds" (defArgs sCheckBounds) (defBody sCheckBounds) (defScope sCheckBounds) .none kV20 dc20 pm20 an20 cd20 ct20) ["bounds"] := ⟨PySem.W.mg_of X G a20, k20, FCheckBounds.binds (ps := ["bounds"]) fun _ _ _ _ _ _ us hl => match us, hl with | [_], _ => rfl⟩
  have AJoinSums : At K mg "join_sums" f21 (PySem.W.fnOf "join_sums" "join_sums" (defArgs sJoinSums) (defBody sJoinSums) (defScope sJoinSums) .none kV21 dc21 pm21 an21 cd21 ct21) ["bounds"] := ⟨PySem.W.mg_of X G a21, k21, FJoinSums.binds (ps := ["bounds"]) fun _ _ _ _ _ _ us hl => match us, hl with | [_], _ => rfl⟩
  have ANeeded : At K mg "needed" f22 (PySem.W.fnOf "needed" "needed" (defArgs sNeeded) (defBody sNeeded) (defScope sNeeded) .none kV22 dc22 pm22 an22 cd22 ct22) ["size", "spans"] := ⟨PySem.W.mg_of X G a22, k22, FNeeded.binds (ps := ["size", "spans"]) fun _ _ _ _ _ _ us hl => match us, hl with | [_, _], _ => rfl⟩
  have ALawBag : At K mg "_law_bag" f23 (PySem.W.fnOf "_law_bag" "_law_bag" (defArgs sLawBag) (defBody sLawBag) (defScope sLawBag) .none kV23 dc23 pm23 an23 cd23 ct23) ["cell"] := ⟨PySem.W.mg_of X G a23, k23, FLawBag.binds (ps := ["cell"]) fun _ _ _ _ _ _ us hl => match us, hl with | [_], _ => rfl⟩
  have ALawPick : At K mg "_law_pick" f24 (PySem.W.fnOf "_law_pick" "_law_pick" (defArgs sLawPick) (defBody sLawPick) (defScope sLawPick) .none kV24 dc24 pm24 an24 cd24 ct24) ["bag", "many"] := ⟨PySem.W.mg_of X G a24, k24, FLawPick.binds (ps := ["bag", "many"]) fun _ _ _ _ _ _ us hl => match us, hl with | [_, _], _ => rfl⟩
  have ALawSize : At K mg "_law_size" f25 (PySem.W.fnOf "_law_size" "_law_size" (defArgs sLawSize) (defBody sLawSize) (defScope sLawSize) .none kV25 dc25 pm25 an25 cd25 ct25) ["bag", "most"] := ⟨PySem.W.mg_of X G a25, k25, FLawSize.binds (ps := ["bag", "most"]) fun _ _ _ _ _ _ us hl => match us, hl with | [_, _], _ => rfl⟩
  have ALawBounds : At K mg "_law_bounds" f26 (PySem.W.fnOf "_law_bounds" "_law_bounds" (defArgs sLawBounds) (defBody sLawBounds) (defScope sLawBounds) .none kV26 dc26 pm26 an26 cd26 ct26) ["bag", "low", "high"] := ⟨PySem.W.mg_of X G a26, k26, FLawBounds.binds (ps := ["bag", "low", "high"]) fun _ _ _ _ _ _ us hl => match us, hl with | [_, _, _], _ => rfl⟩
  have ALawRight : At K mg "_law_right" f27 (PySem.W.fnOf "_law_right" "_law_right" (defArgs sLawRight) (defBody sLawRight) (defScope sLawRight) .none kV27 dc27 pm27 an27 cd27 ct27) ["bag", "size"] := ⟨PySem.W.mg_of X G a27, k27, FLawRight.binds (ps := ["bag", "size"]) fun _ _ _ _ _ _ us hl => match us, hl with | [_, _], _ => rfl⟩
  have z_bool := PySem.W.mg_none_of X G z_bool
  have z_enumerate := PySem.W.mg_none_of X G z_enumerate
  have z_int := PySem.W.mg_none_of X G z_int
  have z_isinstance := PySem.W.mg_none_of X G z_isinstance
  have z_len := PySem.W.mg_none_of X G z_len
  have z_list := PySem.W.mg_none_of X G z_list
  have z_max := PySem.W.mg_none_of X G z_max
  have z_min := PySem.W.mg_none_of X G z_min
  have z_range := PySem.W.mg_none_of X G z_range
  have z_set := PySem.W.mg_none_of X G z_set
  have z_sorted := PySem.W.mg_none_of X G z_sorted
  have z_sum := PySem.W.mg_none_of X G z_sum
  have z_tuple := PySem.W.mg_none_of X G z_tuple
  have z_zip := PySem.W.mg_none_of X G z_zip
  have g_FULL_SIZE := PySem.W.mg_of X G g_FULL_SIZE
  have g_MOST_BOUNDS := PySem.W.mg_of X G g_MOST_BOUNDS
  have g_MOST_ENTRIES := PySem.W.mg_of X G g_MOST_ENTRIES
  have g_MOST_SPANS := PySem.W.mg_of X G g_MOST_SPANS
  refine ⟨PySem.W.fnOf "law" "law" (defArgs sLaw) (defBody sLaw) (defScope sLaw) .none kV28 dc28 pm28 an28 cd28 ct28, fun s v => .of_eq rfl, fun base _ _ => ?_⟩
  have GIsWholeV := ok_is_wholeV (P := l.prog) (w := w) (base := base) FIsWhole z_isinstance z_int z_bool
  have GIsWhole := ok_is_whole (P := l.prog) (w := w) (base := base) FIsWhole z_isinstance z_int z_bool
  have GIsBetweenV := ok_is_betweenV FIsBetween GIsWholeV AIsWhole
  have GIsBetween := ok_is_between FIsBetween GIsWhole AIsWhole
  have GIsTreeNode := ok_is_tree_nodeV FIsTreeNode GIsBetweenV AIsBetween z_isinstance z_tuple z_len
  have GIsListOf := ok_is_list_of (P := l.prog) (w := w) (base := base) FIsListOf z_isinstance z_list z_len
  have GIsSpanFrom := ok_is_span_from FIsSpanFrom GIsBetween AIsBetween z_isinstance z_tuple z_len
  have GCheckSize := ok_check_size FCheckSize GIsBetween AIsBetween g_MOST_ENTRIES
  have GCheckSpan := ok_check_span FCheckSpan GIsBetween AIsBetween
  have GCheckSpans := ok_check_spans FCheckSpans GIsListOf AIsListOf GIsSpanFrom AIsSpanFrom g_MOST_SPANS z_enumerate
  have GCheckNodes := ok_check_nodes (P := l.prog) (w := w) (base := base) FCheckNodes GIsListOf AIsListOf GIsTreeNode AIsTreeNode z_enumerate
  have GPowerWithin := ok_power_within (P := l.prog) (w := w) (mg := mg) (base := base) FPowerWithin
  have GFirstFull := ok_first_full FFirstFull GPowerWithin APowerWithin z_min
  have GNodesWithinX := ok_nodes_withinX FNodesWithin GIsTreeNode AIsTreeNode GFirstFull AFirstFull
  have GNodesBeside := ok_nodes_beside FNodesBeside GNodesWithinX ANodesWithin z_sorted z_max
  have GJoined := ok_joined (P := l.prog) (w := w) (base := base) FJoined z_sorted z_max
  have GCheck := ok_check FCheck GCheckSize ACheckSize GCheckNodes ACheckNodes
  have GGivesRoot := ok_gives_root FGivesRoot GCheck ACheck GJoined AJoined
  have GKnownTops := ok_known_tops FKnownTops GCheck ACheck GJoined AJoined GNodesWithinX ANodesWithin
  have GMissing := ok_missing FMissing GCheck ACheck GNodesBeside ANodesBeside
  have GCompact := ok_compact FCompact GCheckSpan ACheckSpan GNodesWithinX ANodesWithin g_MOST_ENTRIES g_FULL_SIZE
  have GCompactCount := ok_compact_count FCompactCount GCompact ACompact z_len
  have GCheckBounds := ok_check_bounds FCheckBounds GIsListOf AIsListOf GIsBetween AIsBetween g_MOST_BOUNDS g_MOST_ENTRIES z_enumerate
  have GJoinSums := ok_join_sums FJoinSums GCheckBounds ACheckBounds GCompactCount ACompactCount z_sum z_zip
  have GNeeded := ok_needed FNeeded GCheckSize ACheckSize GCheckSpans ACheckSpans GNodesBeside ANodesBeside
  have GLawBag := ok_law_bag (P := l.prog) (w := w) (base := base) FLawBag z_max
  have GLawPick := ok_law_pick (P := l.prog) (w := w) (base := base) FLawPick z_int
  have GLawSize := ok_law_sizeM FLawSize GLawPick ALawPick z_max z_min z_sum z_range
  have GLawBounds := ok_law_bounds FLawBounds GLawPick ALawPick z_range z_min z_set z_sorted
  have GLawRight := ok_law_right FLawRight GLawPick ALawPick GLawBounds ALawBounds GCompact ACompact GCompactCount ACompactCount GJoinSums AJoinSums GKnownTops AKnownTops GGivesRoot AGivesRoot GMissing AMissing GNeeded ANeeded z_max z_min z_len z_sum z_zip
  exact ok_law FLaw GLawBag ALawBag GLawSize ALawSize GLawRight ALawRight GKnownTops AKnownTops GCompact ACompact
end LT
open PySem PySem.W PyProof.Rows
set_option maxRecDepth 100000 in
set_option maxHeartbeats 0 in
theorem PySem.Challenge.cw_logtrees_k57_whole_tops_and_compact_holds : PySem.Challenge.rw_logtrees_k57_whole_tops_and_compact.Holds := by
  w_on; o_law; k_head; (case hw => w_witness2)
  k_fill
  refine L2.walk_of (l := PySem.Challenge.rw_logtrees_k57_whole_tops_and_compact) (n := 63) (k := 9) (x := "script") (CX := fun _ => L2.CX0) (sp := fun w => LT.spLaw _) rfl (by decide) rfl ⟨rfl, by decide, by decide⟩ (fun w h Y => PySem.W.kIn_of Y) ?F (fun _ _ a ns hl _ hS => ⟨a, ns, rfl, hS, hl, fun _ => rfl⟩) (fun _ _ _ _ _ h => h)
  case F =>
    intro w mg fa h KX G hmg
    refine' LT.all_mk KX G hmg ?a0 ?l0 ?c0 ?k0 ?a1 ?l1 ?c1 ?k1 ?a2 ?l2 ?c2 ?k2 ?a3 ?l3 ?c3 ?k3 ?a4 ?l4 ?c4 ?k4 ?a5 ?l5 ?c5 ?k5 ?a6 ?l6 ?c6 ?k6 ?a7 ?l7 ?c7 ?k7 ?a8 ?l8 ?c8 ?k8 ?lT8 ?vT8 ?a9 ?l9 ?c9 ?k9 ?a10 ?l10 ?c10 ?k10 ?a11 ?l11 ?c11 ?k11 ?a12 ?l12 ?c12 ?k12 ?a13 ?l13 ?c13 ?k13 ?a14 ?l14 ?c14 ?k14 ?a15 ?l15 ?c15 ?k15 ?a16 ?l16 ?c16 ?k16 ?a17 ?l17 ?c17 ?k17 ?a18 ?l18 ?c18 ?k18 ?a19 ?l19 ?c19 ?k19 ?a20 ?l20 ?c20 ?k20 ?a21 ?l21 ?c21 ?k21 ?a22 ?l22 ?c22 ?k22 ?a23 ?l23 ?c23 ?k23 ?a24 ?l24 ?c24 ?k24 ?a25 ?l25 ?c25 ?k25 ?a26 ?l26 ?c26 ?k26 ?a27 ?l27 ?c27 ?k27 ?a28 ?l28 ?c28 ?k28 ?z_bool ?z_enumerate ?z_int ?z_isinstance ?z_len ?z_list ?z_max ?z_min ?z_range ?z_set ?z_sorted ?z_sum ?z_tuple ?z_zip ?g_FULL_SIZE ?g_MOST_BOUNDS ?g_MOST_ENTRIES ?g_MOST_SPANS
    (case a0 => k_is)
    (case l0 => k_is)
    (case c0 => k_is)
    (case k0 => k_is)
    (case a1 => k_is)
    (case l1 => k_is)
    (case c1 => k_is)
    (case k1 => k_is)
    (case a2 => k_is)
    (case l2 => k_is)
    (case c2 => k_is)
    (case k2 => k_is)
    (case a3 => k_is)
    (case l3 => k_is)
    (case c3 => k_is)
    (case k3 => k_is)
    (case a4 => k_is)
    (case l4 => k_is)
    (case c4 => k_is)
    (case k4 => k_is)
    (case a5 => k_is)
    (case l5 => k_is)
    (case c5 => k_is)
    (case k5 => k_is)
    (case a6 => k_is)
    (case l6 => k_is)
    (case c6 => k_is)
    (case k6 => k_is)
    (case a7 => k_is)
    (case l7 => k_is)
    (case c7 => k_is)
    (case k7 => k_is)
    (case a8 => k_is)
    (case l8 => k_is)
    (case c8 => k_is)
    (case k8 => k_is)
    (case lT8 => k_is)
    (case vT8 => exact .cons ⟨_, rfl⟩ (.cons ⟨_, rfl⟩ (.nil)))
    (case a9 => k_is)
    (case l9 => k_is)
    (case c9 => k_is)
    (case k9 => k_is)
    (case a10 => k_is)
    (case l10 => k_is)
    (case c10 => k_is)
    (case k10 => k_is)
    (case a11 => k_is)
    (case l11 => k_is)
    (case c11 => k_is)
    (case k11 => k_is)
    (case a12 => k_is)
    (case l12 => k_is)
    (case c12 => k_is)
    (case k12 => k_is)
    (case a13 => k_is)
    (case l13 => k_is)
    (case c13 => k_is)
    (case k13 => k_is)
    (case a14 => k_is)
    (case l14 => k_is)
    (case c14 => k_is)
    (case k14 => k_is)
    (case a15 => k_is)
    (case l15 => k_is)
    (case c15 => k_is)
    (case k15 => k_is)
    (case a16 => k_is)
    (case l16 => k_is)
    (case c16 => k_is)
    (case k16 => k_is)
    (case a17 => k_is)
    (case l17 => k_is)
    (case c17 => k_is)
    (case k17 => k_is)
    (case a18 => k_is)
    (case l18 => k_is)
    (case c18 => k_is)
    (case k18 => k_is)
    (case a19 => k_is)
    (case l19 => k_is)
    (case c19 => k_is)
    (case k19 => k_is)
    (case a20 => k_is)
    (case l20 => k_is)
    (case c20 => k_is)
    (case k20 => k_is)
    (case a21 => k_is)
    (case l21 => k_is)
    (case c21 => k_is)
    (case k21 => k_is)
    (case a22 => k_is)
    (case l22 => k_is)
    (case c22 => k_is)
    (case k22 => k_is)
    (case a23 => k_is)
    (case l23 => k_is)
    (case c23 => k_is)
    (case k23 => k_is)
    (case a24 => k_is)
    (case l24 => k_is)
    (case c24 => k_is)
    (case k24 => k_is)
    (case a25 => k_is)
    (case l25 => k_is)
    (case c25 => k_is)
    (case k25 => k_is)
    (case a26 => k_is)
    (case l26 => k_is)
    (case c26 => k_is)
    (case k26 => k_is)
    (case a27 => k_is)
    (case l27 => k_is)
    (case c27 => k_is)
    (case k27 => k_is)
    (case a28 => k_is)
    (case l28 => k_is)
    (case c28 => k_is)
    (case k28 => k_is)
    (case z_bool => k_is)
    (case z_enumerate => k_is)
    (case z_int => k_is)
    (case z_isinstance => k_is)
    (case z_len => k_is)
    (case z_list => k_is)
    (case z_max => k_is)
    (case z_min => k_is)
    (case z_range => k_is)
    (case z_set => k_is)
    (case z_sorted => k_is)
    (case z_sum => k_is)
    (case z_tuple => k_is)
    (case z_zip => k_is)
    (case g_FULL_SIZE => k_is)
    (case g_MOST_BOUNDS => k_is)
    (case g_MOST_ENTRIES => k_is)
    (case g_MOST_SPANS => k_is)
