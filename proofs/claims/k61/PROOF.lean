import PyProof.Rows.All
import Wide.All
import OpenK.AllK
import Wide.FinOn
import HandS.ForMost
import HandS.Wide
import HandS.WideBits
import HandS.IsInst
import HandS.Style
import HandS.Deep
import HandS.RaiseMore
import HandS.Conv
import HandS.Flow
import HandS.SortRule
import HandS.NoneIn
import HandS.TupLen
import HandS.Set
import HandS.SetFor
import HandS.Strs
import HandS.Defaults
import KE.DataAny
import HandS.TupSets
import HandS.Text
import HandS.StrMore
import HandS.FStr
import PyProof.ReprRoads
import PyProof.Rows.NestShow
import KE.DataMinMax
import KE.SortData
import PySem.Challenge.RW_logtrees_k61_whole_texts_and_papers
set_option Elab.async false
set_option linter.all false
set_option maxRecDepth 100000
set_option maxHeartbeats 4000000
namespace LT
/-- the greatest power of two less than m (m from 2) -/
def gp (m : Nat) : Nat := 2 ^ Nat.log2 (m - 1)
theorem gp_pos (m : Nat) : 0 < gp m := Nat.pow_pos (by decide)
theorem gp_lt {m : Nat} (h : 2 ≤ m) : gp m < m := by
  have := Nat.log2_self_le (n := m - 1) (by omega)
  unfold gp; omega
theorem gp_ge {m : Nat} (h : 2 ≤ m) : m ≤ 2 * gp m := by
  have := Nat.lt_log2_self (n := m - 1)
  unfold gp; rw [Nat.pow_succ] at this; omega
theorem pow_eq_of {i j : Nat} {m : Nat} (h1 : 2 ^ i < m) (h2 : m ≤ 2 * 2 ^ i) (h3 : 2 ^ j < m) (h4 : m ≤ 2 * 2 ^ j) : i = j := by
  have a : 2 ^ i < 2 ^ (j + 1) := by rw [Nat.pow_succ]; omega
  have b : 2 ^ j < 2 ^ (i + 1) := by rw [Nat.pow_succ]; omega
  have a' := (Nat.pow_lt_pow_iff_right (by decide : 1 < 2)).mp a
  have b' := (Nat.pow_lt_pow_iff_right (by decide : 1 < 2)).mp b
  omega
theorem gp_eq {i m : Nat} (h1 : 2 ^ i < m) (h2 : m ≤ 2 * 2 ^ i) : gp m = 2 ^ i := by
  have h : 2 ≤ m := by have := Nat.pow_pos (a := 2) (n := i) (by decide); omega
  have := pow_eq_of (gp_lt h) (gp_ge h) h1 h2
  unfold gp; rw [this]
theorem gp_pow (i : Nat) : gp (2 ^ (i + 1)) = 2 ^ i := gp_eq (by rw [Nat.pow_succ]; have := Nat.pow_pos (a := 2) (n := i) (by decide); omega) (by rw [Nat.pow_succ]; omega)

/-- siblings from the root's half down to the leaf's: nodes as (begin, length-end) pairs -/
def sib (b m e : Nat) : List (Nat × Nat) :=
  if h : m ≤ 1 then [] else
    if e < b + gp m then (b + gp m, b + m) :: sib b (gp m) e
    else (b, b + gp m) :: sib (b + gp m) (m - gp m) e
termination_by m
decreasing_by
  · exact gp_lt (by omega)
  · have := gp_pos m; omega
theorem sib_one {b m e : Nat} (h : m ≤ 1) : sib b m e = [] := by rw [sib]; simp [h]
theorem sib_low {b m e : Nat} (h : 2 ≤ m) (k : e < b + gp m) : sib b m e = (b + gp m, b + m) :: sib b (gp m) e := by
  rw [sib]; rw [dif_neg (by omega), if_pos k]
theorem sib_high {b m e : Nat} (h : 2 ≤ m) (k : ¬ e < b + gp m) : sib b m e = (b, b + gp m) :: sib (b + gp m) (m - gp m) e := by
  rw [sib]; rw [dif_neg (by omega), if_neg k]

/-! ### joining up again -/
def join (x y : Nat × Nat) : Nat × Nat := (min x.1 y.1, max x.2 y.2)
/-- the halves of a node -/
def halv (x : Nat × Nat) : (Nat × Nat) × (Nat × Nat) := ((x.1, x.1 + gp (x.2 - x.1)), (x.1 + gp (x.2 - x.1), x.2))
def ok1 (x y : Nat × Nat) : Prop := (join x y).1 + 2 ≤ (join x y).2 ∧ (halv (join x y) = (x, y) ∨ halv (join x y) = (y, x))
def oks : Nat × Nat → List (Nat × Nat) → Prop
  | _, [] => True
  | x, y :: r => ok1 x y ∧ oks (join x y) r
def top : Nat × Nat → List (Nat × Nat) → Nat × Nat
  | x, [] => x
  | x, y :: r => top (join x y) r
theorem oks_append : ∀ (x : Nat × Nat) (l r : List (Nat × Nat)), oks x l → oks (top x l) r → oks x (l ++ r)
  | _, [], _, _, h => h
  | x, y :: l, r, h1, h2 => ⟨h1.1, oks_append (join x y) l r h1.2 h2⟩
theorem top_append : ∀ (x : Nat × Nat) (l r : List (Nat × Nat)), top x (l ++ r) = top (top x l) r
  | _, [], _ => rfl
  | x, y :: l, r => top_append (join x y) l r
theorem sib_up : ∀ (m b e : Nat), b ≤ e → e < b + m → oks (e, e + 1) (sib b m e).reverse ∧ top (e, e + 1) (sib b m e).reverse = (b, b + m) := by
  intro m
  induction m using Nat.strongRecOn with
  | ind m ih =>
    intro b e h1 h2
    by_cases hm : m ≤ 1
    · have : m = 1 := by omega
      subst this
      rw [sib_one (by omega)]
      have : e = b := by omega
      subst this
      exact ⟨True.intro, rfl⟩
    · have g1 := gp_lt (m := m) (by omega)
      have g2 := gp_pos m
      by_cases k : e < b + gp m
      · rw [sib_low (by omega) k, List.reverse_cons]
        obtain ⟨p, q⟩ := ih (gp m) g1 b e h1 k
        have j : join (b, b + gp m) (b + gp m, b + m) = (b, b + m) := by
          unfold join; simp only []; rw [Nat.min_eq_left (by omega), Nat.max_eq_right (by omega)]
        refine ⟨oks_append _ _ _ p ?_, ?_⟩
        · rw [q]
          refine ⟨⟨?_, .inl ?_⟩, True.intro⟩
          · rw [j]; simp only []; omega
          · rw [j]; unfold halv; simp only []; rw [Nat.add_sub_cancel_left]
        · rw [top_append, q]; exact j
      · rw [sib_high (by omega) k, List.reverse_cons]
        obtain ⟨p, q⟩ := ih (m - gp m) (by omega) (b + gp m) e (by omega) (by omega)
        have e2 : b + gp m + (m - gp m) = b + m := by omega
        rw [e2] at q
        have j : join (b + gp m, b + m) (b, b + gp m) = (b, b + m) := by
          unfold join; simp only []; rw [Nat.min_eq_right (by omega), Nat.max_eq_left (by omega)]
        refine ⟨oks_append _ _ _ p ?_, ?_⟩
        · rw [q]
          refine ⟨⟨?_, .inr ?_⟩, True.intro⟩
          · rw [j]; simp only []; omega
          · rw [j]; unfold halv; simp only []; rw [Nat.add_sub_cancel_left]
        · rw [top_append, q]; exact j
theorem sib_len_pow (i : Nat) : ∀ (b e : Nat), b ≤ e → e < b + 2 ^ i → (sib b (2 ^ i) e).length = i := by
  induction i with
  | zero => intro b e h1 h2; rw [sib_one (by simp)]; rfl
  | succ i ih =>
    intro b e h1 h2
    have h3 : 2 ≤ 2 ^ (i + 1) := by rw [Nat.pow_succ]; have := Nat.pow_pos (a := 2) (n := i) (by decide); omega
    have g := gp_pow i
    have e2 : 2 ^ (i + 1) - 2 ^ i = 2 ^ i := by rw [Nat.pow_succ]; omega
    by_cases k : e < b + gp (2 ^ (i + 1))
    · rw [sib_low h3 k, List.length_cons, g, ih b e h1 (by omega)]
    · rw [sib_high h3 k, List.length_cons, g, e2, ih (b + 2 ^ i) e (by omega) (by rw [Nat.pow_succ] at h2; omega)]
/-! ### the peaks by digits: (begin, height) -/
def pk : Nat → Nat → Nat → List (Nat × Nat)
  | 0, _, _ => []
  | i + 1, n, b => if n.testBit i then (b, i) :: pk i n (b + 2 ^ i) else pk i n b
theorem mod_succ (n i : Nat) : n % 2 ^ (i + 1) = (if n.testBit i then 2 ^ i else 0) + n % 2 ^ i := by
  rw [Nat.mod_pow_succ, Nat.testBit_eq_decide_div_mod_eq, Nat.add_comm]
  have h : n / 2 ^ i % 2 = 0 ∨ n / 2 ^ i % 2 = 1 := by omega
  rcases h with h | h <;> rw [h] <;> simp
theorem pk_nil : ∀ (i n b : Nat), n % 2 ^ i = 0 → pk i n b = []
  | 0, _, _, _ => rfl
  | i + 1, n, b, h => by
    rw [mod_succ] at h
    have p := Nat.pow_pos (a := 2) (n := i) (by decide)
    unfold pk
    cases t : n.testBit i with
    | true => rw [t] at h; simp at h
    | false => rw [t] at h; simp at h; simp; exact pk_nil i n b h
theorem pk_ne : ∀ (i n b : Nat), n % 2 ^ i ≠ 0 → pk i n b ≠ []
  | 0, _, _, h => by simp [Nat.mod_one] at h
  | i + 1, n, b, h => by
    rw [mod_succ] at h
    unfold pk
    cases t : n.testBit i with
    | true => simp
    | false => rw [t] at h; simp at h; simp; exact pk_ne i n b (by omega)
theorem pk_begin : ∀ (i n b : Nat) (x : Nat × Nat), x ∈ pk i n b → b ≤ x.1 ∧ x.2 < i
  | 0, _, _, _, h => by simp [pk] at h
  | i + 1, n, b, x, h => by
    unfold pk at h
    cases t : n.testBit i with
    | true =>
      rw [t] at h; simp at h
      rcases h with h | h
      · subst h; exact ⟨Nat.le_refl _, Nat.lt_succ_self _⟩
      · have := pk_begin i n _ x h; have p := Nat.pow_pos (a := 2) (n := i) (by decide); omega
    | false =>
      rw [t] at h; simp at h
      have := pk_begin i n _ x h; omega
/-- what the law says of the levels: s the place of the first row, of t rows in all -/
def lev (t : Nat) : Nat → List (Nat × Nat) → List (Nat × Nat × Nat)
  | _, [] => []
  | s, x :: r => (x.1, x.1 + 2 ^ x.2, x.2 + min (s + 1) (t - 1)) :: lev t (s + 1) r
def due (e : Nat) (l : List (Nat × Nat × Nat)) : List Nat := (l.filter fun x => decide (x.1 ≤ e) && decide (e < x.2.1)).map fun x => x.2.2
theorem due_none (t e : Nat) : ∀ (l : List (Nat × Nat)) (s : Nat), (∀ x ∈ l, e < x.1) → due e (lev t s l) = []
  | [], _, _ => rfl
  | x :: r, s, h => by
    have h1 := h x (List.mem_cons_self)
    have ih := due_none t e r (s + 1) fun y hy => h y (List.mem_cons_of_mem _ hy)
    show List.map _ (List.filter _ ((x.1, x.1 + 2 ^ x.2, x.2 + min (s + 1) (t - 1)) :: lev t (s + 1) r)) = []
    rw [List.filter_cons, if_neg (by simp; omega)]
    exact ih
theorem due_is (n e : Nat) : ∀ (i b s : Nat), b ≤ e → e < b + n % 2 ^ i → due e (lev (s + (pk i n b).length) s (pk i n b)) = [(sib b (n % 2 ^ i) e).length + min s (s + (pk i n b).length - 1)] := by
  intro i
  induction i with
  | zero => intro b s h1 h2; simp [Nat.mod_one] at h2; omega
  | succ i ih =>
    intro b s h1 h2
    have p := Nat.pow_pos (a := 2) (n := i) (by decide)
    have ml := Nat.mod_lt n p
    cases t : n.testBit i with
    | false =>
      have e1 : n % 2 ^ (i + 1) = n % 2 ^ i := by rw [mod_succ, t]; simp
      have e2 : pk (i + 1) n b = pk i n b := by show (if n.testBit i = true then _ else _) = _; rw [t]; simp
      rw [e1] at h2
      rw [e1, e2]; exact ih b s h1 h2
    | true =>
      have e1 : n % 2 ^ (i + 1) = 2 ^ i + n % 2 ^ i := by rw [mod_succ, t]; simp
      have e2 : pk (i + 1) n b = (b, i) :: pk i n (b + 2 ^ i) := by show (if n.testBit i = true then _ else _) = _; rw [t]; simp
      rw [e1] at h2
      rw [e1, e2, List.length_cons]
      by_cases r0 : n % 2 ^ i = 0
      · rw [pk_nil i n _ r0, r0]
        rw [r0] at h2
        rw [Nat.add_zero] at h2
        rw [Nat.add_zero (2 ^ i), sib_len_pow i b e h1 h2]
        show List.map _ (List.filter _ [(b, b + 2 ^ i, i + min (s + 1) (s + (0 + 1) - 1))]) = _
        rw [List.filter_cons, if_pos (by simp; omega)]
        simp
      · have hne : 1 ≤ (pk i n (b + 2 ^ i)).length := by
          have := pk_ne i n (b + 2 ^ i) r0
          cases hh : pk i n (b + 2 ^ i) with
          | nil => exact absurd hh this
          | cons _ _ => rw [List.length_cons]; omega
        have g : gp (2 ^ i + n % 2 ^ i) = 2 ^ i := gp_eq (by omega) (by omega)
        by_cases k : e < b + 2 ^ i
        · rw [sib_low (by omega) (by rw [g]; exact k), g, List.length_cons, sib_len_pow i b e h1 k]
          have d := due_none (s + ((pk i n (b + 2 ^ i)).length + 1)) e (pk i n (b + 2 ^ i)) (s + 1) fun x hx => by have := pk_begin _ _ _ x hx; omega
          show List.map _ (List.filter _ ((b, b + 2 ^ i, i + min (s + 1) (s + ((pk i n (b + 2 ^ i)).length + 1) - 1)) :: lev (s + ((pk i n (b + 2 ^ i)).length + 1)) (s + 1) (pk i n (b + 2 ^ i)))) = _
          rw [List.filter_cons, if_pos (by simp; omega), List.map_cons]
          have d' : List.map (fun x => x.2.2) (List.filter (fun x => decide (x.1 ≤ e) && decide (e < x.2.1)) (lev (s + ((pk i n (b + 2 ^ i)).length + 1)) (s + 1) (pk i n (b + 2 ^ i)))) = [] := d
          rw [d']
          simp
          omega
        · rw [sib_high (by omega) (by rw [g]; exact k), g, List.length_cons, Nat.add_sub_cancel_left]
          have q := ih (b + 2 ^ i) (s + 1) (by omega) (by omega)
          have e3 : s + 1 + (pk i n (b + 2 ^ i)).length = s + ((pk i n (b + 2 ^ i)).length + 1) := by omega
          rw [e3] at q
          show List.map _ (List.filter _ ((b, b + 2 ^ i, i + min (s + 1) (s + ((pk i n (b + 2 ^ i)).length + 1) - 1)) :: lev (s + ((pk i n (b + 2 ^ i)).length + 1)) (s + 1) (pk i n (b + 2 ^ i)))) = _
          rw [List.filter_cons, if_neg (by simp; omega)]
          refine Eq.trans q ?_
          congr 1
          omega
/-! ### which pairs are nodes -/
/-- the bits of m - 1 -/
def lb (m : Nat) : Nat := if m ≤ 1 then 0 else Nat.log2 (m - 1) + 1
theorem lb_le {x i : Nat} (h : x ≤ 2 ^ i) : lb x ≤ i := by
  unfold lb
  by_cases k : x ≤ 1
  · rw [if_pos k]; omega
  · rw [if_neg k]
    have h1 := Nat.log2_self_le (n := x - 1) (by omega)
    have h2 : 2 ^ Nat.log2 (x - 1) < 2 ^ i := by omega
    exact (Nat.pow_lt_pow_iff_right (by decide : 1 < 2)).mp h2
theorem lb_ge (x : Nat) : x ≤ 2 ^ lb x := by
  unfold lb
  by_cases k : x ≤ 1
  · rw [if_pos k]; omega
  · rw [if_neg k]
    have := Nat.lt_log2_self (n := x - 1)
    omega
theorem lb_pow (i : Nat) : lb (2 ^ i) = i := by
  have h1 := lb_le (Nat.le_refl (2 ^ i))
  have h2 := (Nat.pow_le_pow_iff_right (by decide : 1 < 2)).mp (lb_ge (2 ^ i))
  omega
theorem lb_gp {m : Nat} (h : 2 ≤ m) : 2 ^ lb m = 2 * gp m := by
  unfold lb gp; rw [if_neg (by omega), Nat.pow_succ]; omega
def tree (n b m : Nat) : Prop := 2 ^ lb m ∣ b ∧ (m = 2 ^ lb m ∨ b + m = n)
theorem tree_root (n : Nat) : tree n 0 n := ⟨Nat.dvd_zero _, .inr (Nat.zero_add _)⟩
theorem tree_low {n b m : Nat} (h : 2 ≤ m) (t : tree n b m) : tree n b (gp m) := by
  obtain ⟨d, _⟩ := t
  rw [lb_gp h] at d
  have e : 2 ^ lb (gp m) = gp m := by unfold gp; rw [lb_pow]
  exact ⟨by rw [e]; exact Nat.dvd_trans (Nat.dvd_mul_left _ _) d, .inl e.symm⟩
theorem tree_high {n b m : Nat} (h : 2 ≤ m) (t : tree n b m) : tree n (b + gp m) (m - gp m) := by
  obtain ⟨d, k⟩ := t
  rw [lb_gp h] at d k
  have g1 := gp_lt h
  have g2 := gp_ge h
  have dg : 2 ^ lb (m - gp m) ∣ gp m := by
    have : lb (m - gp m) ≤ Nat.log2 (m - 1) := lb_le (by unfold gp at g1 g2 ⊢; omega)
    exact Nat.pow_dvd_pow 2 this
  refine ⟨Nat.dvd_add (Nat.dvd_trans dg (Nat.dvd_trans (Nat.dvd_mul_left _ _) d)) dg, ?_⟩
  rcases k with k | k
  · left
    have e : m - gp m = gp m := by omega
    rw [e]
    unfold gp; rw [lb_pow]
  · right; omega
theorem sib_len_le : ∀ (m b e : Nat), b ≤ e → e < b + m → (sib b m e).length ≤ lb m := by
  intro m
  induction m using Nat.strongRecOn with
  | ind m ih =>
    intro b e h1 h2
    by_cases hm : m ≤ 1
    · rw [sib_one hm]; exact Nat.zero_le _
    · have g1 := gp_lt (m := m) (by omega)
      have g2 := gp_ge (m := m) (by omega)
      have g3 := gp_pos m
      have e1 : lb m = Nat.log2 (m - 1) + 1 := by unfold lb; rw [if_neg hm]
      by_cases k : e < b + gp m
      · rw [sib_low (by omega) k, List.length_cons]
        have := ih (gp m) g1 b e h1 k
        have e2 : lb (gp m) = Nat.log2 (m - 1) := by unfold gp; rw [lb_pow]
        omega
      · rw [sib_high (by omega) k, List.length_cons]
        have := ih (m - gp m) (by omega) (b + gp m) e (by omega) (by omega)
        have e2 : lb (m - gp m) ≤ Nat.log2 (m - 1) := lb_le (by unfold gp at g1 g2 ⊢; omega)
        omega
end LT
namespace LT
open PySem PySem.Spec PyProof.Rows L2
def topS (i : Nat) : Stmt := PySem.Challenge.pw_logtrees_k61_whole_texts_and_papers.main.body.getD i (.Pass ⟨0, 0, 0, 0⟩)
abbrev sIsWhole : Stmt := topS 12
theorem scIsWhole : FnScope ["value"] ["value"] (defScope sIsWhole) := ⟨rfl, rfl, rfl, by decide +kernel, rfl, by decide +kernel, by decide +kernel⟩
abbrev sIsBetween : Stmt := topS 13
theorem scIsBetween : FnScope ["value", "low", "high"] ["value", "low", "high"] (defScope sIsBetween) := ⟨rfl, rfl, rfl, by decide +kernel, rfl, by decide +kernel, by decide +kernel⟩
abbrev sIsTreeNode : Stmt := topS 14
theorem scIsTreeNode : FnScope ["size", "value", "begin", "end", "room"] ["size", "value"] (defScope sIsTreeNode) := ⟨rfl, rfl, rfl, by decide +kernel, rfl, by decide +kernel, by decide +kernel⟩
abbrev sIsListOf : Stmt := topS 15
theorem scIsListOf : FnScope ["value", "least", "most"] ["value", "least", "most"] (defScope sIsListOf) := ⟨rfl, rfl, rfl, by decide +kernel, rfl, by decide +kernel, by decide +kernel⟩
abbrev sIsSpanFrom : Stmt := topS 16
theorem scIsSpanFrom : FnScope ["size", "value", "least", "first", "end"] ["size", "value", "least"] (defScope sIsSpanFrom) := ⟨rfl, rfl, rfl, by decide +kernel, rfl, by decide +kernel, by decide +kernel⟩
abbrev sCheckSize : Stmt := topS 17
theorem scCheckSize : FnScope ["size"] ["size"] (defScope sCheckSize) := ⟨rfl, rfl, rfl, by decide +kernel, rfl, by decide +kernel, by decide +kernel⟩
abbrev sCheckEntry : Stmt := topS 18
theorem scCheckEntry : FnScope ["size", "entry"] ["size", "entry"] (defScope sCheckEntry) := ⟨rfl, rfl, rfl, by decide +kernel, rfl, by decide +kernel, by decide +kernel⟩
abbrev sCheckNode : Stmt := topS 19
theorem scCheckNode : FnScope ["size", "node"] ["size", "node"] (defScope sCheckNode) := ⟨rfl, rfl, rfl, by decide +kernel, rfl, by decide +kernel, by decide +kernel⟩
abbrev sCheckSpans : Stmt := topS 20
theorem scCheckSpans : FnScope ["size", "spans", "behind", "item", "span"] ["size", "spans"] (defScope sCheckSpans) := ⟨rfl, rfl, rfl, by decide +kernel, rfl, by decide +kernel, by decide +kernel⟩
abbrev sCheckNodes : Stmt := topS 21
theorem scCheckNodes : FnScope ["size", "nodes", "least", "most", "item", "node"] ["size", "nodes", "least", "most"] (defScope sCheckNodes) := ⟨rfl, rfl, rfl, by decide +kernel, rfl, by decide +kernel, by decide +kernel⟩
abbrev sCheckOlder : Stmt := topS 22
theorem scCheckOlder : FnScope ["size", "older"] ["size", "older"] (defScope sCheckOlder) := ⟨rfl, rfl, rfl, by decide +kernel, rfl, by decide +kernel, by decide +kernel⟩
abbrev sTextOf : Stmt := topS 26
theorem scTextOf : FnScope ["nodes", "begin", "end"] ["nodes"] (defScope sTextOf) := ⟨rfl, rfl, rfl, by decide +kernel, rfl, by decide +kernel, by decide +kernel⟩
abbrev sNumberOf : Stmt := topS 27
theorem scNumberOf : FnScope ["word"] ["word"] (defScope sNumberOf) := ⟨rfl, rfl, rfl, by decide +kernel, rfl, by decide +kernel, by decide +kernel⟩
abbrev sShowNodes : Stmt := topS 28
theorem scShowNodes : FnScope ["size", "nodes"] ["size", "nodes"] (defScope sShowNodes) := ⟨rfl, rfl, rfl, by decide +kernel, rfl, by decide +kernel, by decide +kernel⟩
abbrev sReadNodes : Stmt := topS 29
theorem scReadNodes : FnScope ["size", "text", "nodes", "part", "words", "first", "_", "last", "node"] ["size", "text"] (defScope sReadNodes) := ⟨rfl, rfl, rfl, by decide +kernel, rfl, by decide +kernel, by decide +kernel⟩
abbrev sPowerWithin : Stmt := topS 31
theorem scPowerWithin : FnScope ["number"] ["number"] (defScope sPowerWithin) := ⟨rfl, rfl, rfl, by decide +kernel, rfl, by decide +kernel, by decide +kernel⟩
abbrev sFirstFull : Stmt := topS 32
theorem scFirstFull : FnScope ["begin", "end", "room"] ["begin", "end"] (defScope sFirstFull) := ⟨rfl, rfl, rfl, by decide +kernel, rfl, by decide +kernel, by decide +kernel⟩
abbrev sNodesWithin : Stmt := topS 33
theorem scNodesWithin : FnScope ["size", "begin", "end", "found", "node"] ["size", "begin", "end"] (defScope sNodesWithin) := ⟨rfl, rfl, rfl, by decide +kernel, rfl, by decide +kernel, by decide +kernel⟩
abbrev sNodesBeside : Stmt := topS 34
theorem scNodesBeside : FnScope ["size", "stretches", "found", "behind", "begin", "end"] ["size", "stretches"] (defScope sNodesBeside) := ⟨rfl, rfl, rfl, by decide +kernel, rfl, by decide +kernel, by decide +kernel⟩
abbrev sPeaks : Stmt := topS 35
theorem scPeaks : FnScope ["size", "found", "begin", "end"] ["size"] (defScope sPeaks) := ⟨rfl, rfl, rfl, by decide +kernel, rfl, by decide +kernel, by decide +kernel⟩
abbrev sHalves : Stmt := topS 36
theorem scHalves : FnScope ["size", "node", "begin", "end", "middle"] ["size", "node"] (defScope sHalves) := ⟨rfl, rfl, rfl, by decide +kernel, rfl, by decide +kernel, by decide +kernel⟩
abbrev sPath : Stmt := topS 38
theorem scPath : FnScope ["size", "entry", "siblings", "node", "low", "high"] ["size", "entry"] (defScope sPath) := ⟨rfl, rfl, rfl, by decide +kernel, rfl, by decide +kernel, by decide +kernel⟩
abbrev sNeeded : Stmt := topS 40
theorem scNeeded : FnScope ["size", "spans"] ["size", "spans"] (defScope sNeeded) := ⟨rfl, rfl, rfl, by decide +kernel, rfl, by decide +kernel, by decide +kernel⟩
abbrev sOlderList : Stmt := topS 42
theorem scOlderList : FnScope ["size", "older", "tops"] ["size", "older"] (defScope sOlderList) := ⟨rfl, rfl, rfl, by decide +kernel, rfl, by decide +kernel, by decide +kernel⟩
abbrev sJoined : Stmt := topS 44
theorem scJoined : FnScope ["stretches", "found", "begin", "end", "first", "last"] ["stretches"] (defScope sJoined) := ⟨rfl, rfl, rfl, by decide +kernel, rfl, by decide +kernel, by decide +kernel⟩
abbrev sShowsNeeded : Stmt := topS 46
theorem scShowsNeeded : FnScope ["size", "spans", "value", "wanted", "item"] ["size", "spans", "value"] (defScope sShowsNeeded) := ⟨rfl, rfl, rfl, by decide +kernel, rfl, by decide +kernel, by decide +kernel⟩
abbrev sCheck : Stmt := topS 47
theorem scCheck : FnScope ["size", "spans", "nodes"] ["size", "spans", "nodes"] (defScope sCheck) := ⟨rfl, rfl, rfl, by decide +kernel, rfl, by decide +kernel, by decide +kernel⟩
abbrev sServes : Stmt := topS 48
theorem scServes : FnScope ["size", "spans", "nodes"] ["size", "spans", "nodes"] (defScope sServes) := ⟨rfl, rfl, rfl, by decide +kernel, rfl, by decide +kernel, by decide +kernel⟩
abbrev sMeets : Stmt := topS 49
theorem scMeets : FnScope ["node", "spans", "begin", "end", "first", "last"] ["node", "spans"] (defScope sMeets) := ⟨rfl, rfl, rfl, by decide +kernel, rfl, by decide +kernel, by decide +kernel⟩
abbrev sFirstWrong : Stmt := topS 50
theorem scFirstWrong : FnScope ["size", "spans", "nodes", "index", "node"] ["size", "spans", "nodes"] (defScope sFirstWrong) := ⟨rfl, rfl, rfl, by decide +kernel, rfl, by decide +kernel, by decide +kernel⟩
abbrev sLacking : Stmt := topS 51
theorem scLacking : FnScope ["size", "spans", "nodes"] ["size", "spans", "nodes"] (defScope sLacking) := ⟨rfl, rfl, rfl, by decide +kernel, rfl, by decide +kernel, by decide +kernel⟩
abbrev sLawBag : Stmt := topS 53
theorem scLawBag : FnScope ["cell"] ["cell"] (defScope sLawBag) := ⟨rfl, rfl, rfl, by decide +kernel, rfl, by decide +kernel, by decide +kernel⟩
abbrev sLawPick : Stmt := topS 54
theorem scLawPick : FnScope ["bag", "many", "told", "seed", "turn", "first", "second", "drawn"] ["bag", "many"] (defScope sLawPick) := ⟨rfl, rfl, rfl, by decide +kernel, rfl, by decide +kernel, by decide +kernel⟩
abbrev sLawOnes : Stmt := topS 55
theorem scLawOnes : FnScope ["number", "found"] ["number"] (defScope sLawOnes) := ⟨rfl, rfl, rfl, by decide +kernel, rfl, by decide +kernel, by decide +kernel⟩
abbrev sLawSpans : Stmt := topS 56
theorem scLawSpans : FnScope ["bag", "many", "ends", "found", "low", "high", "turn"] ["bag", "many"] (defScope sLawSpans) := ⟨rfl, rfl, rfl, by decide +kernel, rfl, by decide +kernel, by decide +kernel⟩
abbrev sLawMixed : Stmt := topS 57
theorem scLawMixed : FnScope ["bag", "items", "left", "found"] ["bag", "items"] (defScope sLawMixed) := ⟨rfl, rfl, rfl, by decide +kernel, rfl, by decide +kernel, by decide +kernel⟩
abbrev sLawPaperRight : Stmt := topS 58
theorem scLawPaperRight : FnScope ["bag", "many", "spans", "paper", "told", "at", "rest", "parts"] ["bag", "many", "spans", "paper"] (defScope sLawPaperRight) := ⟨rfl, rfl, rfl, by decide +kernel, rfl, by decide +kernel, by decide +kernel⟩
abbrev sLaw : Stmt := topS 59
theorem scLaw : FnScope ["script", "cell", "bag", "many", "spans", "lists_here", "one", "texts", "text", "whole", "node", "other"] ["script"] (defScope sLaw) := ⟨rfl, rfl, rfl, by decide +kernel, rfl, by decide +kernel, by decide +kernel⟩
/-- a def as it stands behind the top -/
structure At (K : PySem.W.Frag) (mg : Str → Option Value) (x : Str) (f : Addr) (fd : FuncData) (ps : List Str) : Prop where
  m : mg x = some (.ref f)
  kp : PySem.W.keepIn K (.ref f) = true
  b : Binds K fd ps []
theorem units1 {k : Nat} {A : Around} (r : Room k A) : A.units + 65 < cLine := by have := r.un; omega
/-- all but b as it was -/
def But (b : Addr) (H H' : Hp) : Prop := ∀ a o, a ≠ b → H a = some o → H' a = some o
theorem But.refl (b : Addr) (H : Hp) : But b H H := fun _ _ _ h => h
theorem But.trans {b : Addr} {H H1 H2 : Hp} (x : But b H H1) (y : But b H1 H2) : But b H H2 := fun a o n h => y a o n (x a o n h)
theorem But.of {b : Addr} {H H1 : Hp} (x : Same H H1) : But b H H1 := fun a o _ h => x a o h
theorem same_upd {H : Hp} {p : Addr} {o : HO} (h : H p = none) : Same H (upd H p o) := fun b x e => by
  rw [upd_ne (ne_of_none e h)]
  exact e
def BagAt (H : Hp) (b : Addr) : Prop := ∃ x y z : Int, H b = some (.lst [.int x, .int y, .int z])
theorem BagAt.same {H H' : Hp} {b : Addr} (h : BagAt H b) (s : Same H H') : BagAt H' b := by
  obtain ⟨x, y, z, e⟩ := h
  exact ⟨x, y, z, s _ _ e⟩
/-- a pair of ints -/
def Nd (H : Hp) (v : V) (x : Nat × Nat) : Prop := ∃ p, v = .ref p ∧ H p = some (.tup [.int x.1, .int x.2])
theorem Nd.same {H H' : Hp} {v : V} {x : Nat × Nat} (h : Nd H v x) (s : Same H H') : Nd H' v x := by
  obtain ⟨p, e, q⟩ := h
  exact ⟨p, e, s _ _ q⟩
theorem Nd.dp {K : PySem.W.Frag} {H : Hp} {v : V} {x : Nat × Nat} (h : Nd H v x) : Dp K H v (.tuple [.int x.1, .int x.2]) := by
  obtain ⟨p, rfl, q⟩ := h
  exact .tup (SqT.of q) (.cons (.int _) (.cons (.int _) .nil))
theorem nd_shaped (a b : Int) : SeqAt.shaped (.tuple [.int a, .int b]) = true := by
  show (PyData.canLay0 _ && decide (PyData.depth _ ≤ 64)) = true
  simp [PyData.canLay0, PyData.canLayAll0, PyData.depth, PyData.depthAll]
theorem nd_eqv (a b c d : Int) : PyData.eqv (.tuple [.int a, .int b]) (.tuple [.int c, .int d]) = (decide (a = c) && decide (b = d)) := by
  have e : PyData.eqv (.tuple [.int a, .int b]) (.tuple [.int c, .int d]) = ((a == c) && ((b == d) && true)) := by simp only [PyData.eqv, PyData.eqvAll]
  rw [e, Bool.and_true]
  by_cases h1 : a = c <;> by_cases h2 : b = d <;> simp [h1, h2]
/-- lists of values and what they stand for -/
inductive All2 {α : Type} (R : V → α → Prop) : List V → List α → Prop
  | nil : All2 R [] []
  | cons {v : V} {x : α} {vs : List V} {xs : List α} : R v x → All2 R vs xs → All2 R (v :: vs) (x :: xs)
section
variable {α : Type} {R R' : V → α → Prop}
theorem All2.mono (f : ∀ v x, R v x → R' v x) : ∀ {vs : List V} {xs : List α}, All2 R vs xs → All2 R' vs xs
  | _, _, .nil => .nil
  | _, _, .cons h t => .cons (f _ _ h) (All2.mono f t)
theorem All2.len : ∀ {vs : List V} {xs : List α}, All2 R vs xs → vs.length = xs.length
  | _, _, .nil => rfl
  | _, _, .cons _ t => by rw [List.length_cons, List.length_cons, All2.len t]
theorem All2.app : ∀ {vs : List V} {xs : List α} {us : List V} {ys : List α}, All2 R vs xs → All2 R us ys → All2 R (vs ++ us) (xs ++ ys)
  | _, _, _, _, .nil, h => h
  | _, _, _, _, .cons h t, k => .cons h (All2.app t k)
theorem All2.rev : ∀ {vs : List V} {xs : List α}, All2 R vs xs → All2 R vs.reverse xs.reverse
  | _, _, .nil => .nil
  | _, _, .cons h t => by
    rw [List.reverse_cons, List.reverse_cons]
    exact All2.app (All2.rev t) (.cons h .nil)
theorem All2.nth : ∀ {vs : List V} {xs : List α} {i : Nat} {v : V}, All2 R vs xs → vs[i]? = some v → ∃ x, xs[i]? = some x ∧ R v x
  | _, _, _, _, .nil, h => by simp at h
  | _, _, 0, _, .cons h t, e => by
    have := Option.some.inj e
    subst this
    exact ⟨_, rfl, h⟩
  | _, _, i + 1, _, .cons h t, e => by
    rw [List.getElem?_cons_succ] at e ⊢
    exact All2.nth t e
theorem All2.nth2 : ∀ {vs : List V} {xs : List α} {i : Nat} {x : α}, All2 R vs xs → xs[i]? = some x → ∃ v, vs[i]? = some v ∧ R v x
  | _, _, _, _, .nil, h => by simp at h
  | _, _, 0, _, .cons h t, e => by
    have := Option.some.inj e
    subst this
    exact ⟨_, rfl, h⟩
  | _, _, i + 1, _, .cons h t, e => by
    rw [List.getElem?_cons_succ] at e ⊢
    exact All2.nth2 t e
end

/-! ### rules within a comprehension: what they say of the written part is said of the def's -/
section
open PySem L2
variable {X : Cx} {s : Shared} {H : Hp} {sc : Scope} {ce : Env} {fp : List Addr}
theorem pg_tupB {es : List Expr} {k : Nat} {pos : Pos} {t : TGs} {n : Nat} (hc : X.calm = true) (h : PGs (X.blk s H sc ce fp) es t)
    (hn : (assignEach es (X.blk s H sc ce fp).env).length = n := by rfl) (hst : (assignEach es (X.blk s H sc ce fp).env).findIdx? (·.1) = none := by rfl) : PG (X.blk s H sc ce fp) (.Tuple es k pos) (gTup X.K n t) := pg_tup hc h hn hst
theorem ix_listB : IxR (X.blk s H sc ce fp) (rIxL X.K) := ix_list
theorem ix_tupB : IxR (X.blk s H sc ce fp) (rIxT X.K) := ix_tup
theorem call_len_seqB : CallR (X.blk s H sc ce fp) (.builtin "len") (fun xs H Q => ∃ p ys, xs = [.ref p] ∧ (SqL X.K H p ys ∨ SqT X.K H p ys) ∧ Q (.int ys.length) H) := call_len_seq
theorem op_eqDB (hu : X.A.units + 64 < cLine) : OpR (X.blk s H sc ce fp) (compareOp .Eq) (rEqD X.K) := op_eqD (X := X.blk s H sc ce fp) hu
theorem op_neDB (hu : X.A.units + 64 < cLine) : OpR (X.blk s H sc ce fp) (compareOp .NotEq) (rNeD X.K) := op_neD (X := X.blk s H sc ce fp) hu
theorem op_inDB (hu : X.A.units + 65 < cLine) : OpR (X.blk s H sc ce fp) (compareOp .In) (rInD X.K) := op_inD (X := X.blk s H sc ce fp) hu
theorem op_notInDB (hu : X.A.units + 65 < cLine) : OpR (X.blk s H sc ce fp) (compareOp .NotIn) (rNotInD X.K) := op_notInD (X := X.blk s H sc ce fp) hu
end
theorem Nd.upd {H : Hp} {v : V} {x : Nat × Nat} {s : Addr} {xs : List V} {o : HO} (h : Nd H v x) (hs : H s = some (.lst xs)) : Nd (upd H s o) v x := by
  obtain ⟨p, e, q⟩ := h
  exact ⟨p, e, by rw [upd_ne (ne_of q hs (by intro z; cases z))]; exact q⟩
def full (x : Nat × Nat) : Nat × Nat := (x.1, x.1 + 2 ^ x.2)
theorem pk_len : ∀ (i n b : Nat), (pk i n b).length ≤ i
  | 0, _, _ => Nat.le_refl _
  | i + 1, n, b => by
    show (if n.testBit i = true then (b, i) :: pk i n (b + 2 ^ i) else pk i n b).length ≤ i + 1
    by_cases t : n.testBit i = true
    · rw [if_pos t, List.length_cons]
      exact Nat.succ_le_succ (pk_len i n _)
    · rw [if_neg t]
      exact Nat.le_succ_of_le (pk_len i n b)
theorem take_more {α : Type} : ∀ {l : List α} {i : Nat} {x : α}, l[i]? = some x → l.take (i + 1) = l.take i ++ [x]
  | [], i, x, h => by simp at h
  | a :: l, 0, x, h => by
    have e : a = x := Option.some.inj h
    subst e
    rfl
  | a :: l, i + 1, x, h => by
    have ih := take_more (l := l) (i := i) (x := x) h
    show a :: l.take (i + 1) = a :: l.take i ++ [x]
    rw [ih]
    rfl
theorem szle {n : Nat} (h : n ≤ 100000) : n ≤ sizeLine := Nat.le_trans h (by decide)
theorem szlt {n : Nat} (h : n < 100000) : n < sizeLine := Nat.lt_of_lt_of_le h (by decide)
end LT

namespace LT
open PySem PySem.Spec PyProof.Rows L2
theorem bools_dp {K : PySem.W.Frag} {H : Hp} : ∀ bs : List Bool, DpAll K H (bs.map V.bl) (bs.map PyData.bool)
  | [] => .nil
  | b :: bs => .cons (.bl b) (bools_dp bs)
theorem bools_plain : ∀ bs : List Bool, PyData.plainAll (bs.map PyData.bool) = true
  | [] => rfl
  | b :: bs => by
    show (PyData.plain (.bool b) && PyData.plainAll (bs.map PyData.bool)) = true
    rw [bools_plain bs]
    rfl
theorem bools_fits (bs : List Bool) : ∀ x ∈ bs.map PyData.bool, x.fits63 := by
  intro x hx
  obtain ⟨b, _, rfl⟩ := List.mem_map.mp hx
  exact trivial
theorem bools_any : ∀ bs : List Bool, (bs.map PyData.bool).any PyData.truthy = bs.any id
  | [] => rfl
  | b :: bs => by
    rw [List.map_cons, List.any_cons, List.any_cons, bools_any bs]
    rfl
theorem bools_all : ∀ bs : List Bool, (bs.map PyData.bool).all PyData.truthy = bs.all id
  | [] => rfl
  | b :: bs => by
    rw [List.map_cons, List.all_cons, List.all_cons, bools_all bs]
    rfl
section
variable {X : Cx}
/-- any(xs), all(xs), a list of truth values -/
def rAny (K : PySem.W.Frag) : List V → Hp → VK → Prop := fun vs H Q => ∃ (a : Addr) (bs : List Bool), vs = [V.ref a] ∧ SqL K H a (bs.map V.bl) ∧ Q (.bl (bs.any id)) H
def rAll (K : PySem.W.Frag) : List V → Hp → VK → Prop := fun vs H Q => ∃ (a : Addr) (bs : List Bool), vs = [V.ref a] ∧ SqL K H a (bs.map V.bl) ∧ Q (.bl (bs.all id)) H
theorem cr_any (hc : X.calm = true) : CallR X (.builtin "any") (rAny X.K) := by
  intro pins s σ H vs us Q I r h
  obtain ⟨a, bs, rfl, hs, q⟩ := h
  obtain ⟨its, rv, hl, _⟩ := I.list hs
  rw [Vals.ref1 r]
  obtain ⟨as, hr⟩ := Dp.readsAll I _ _ _ (bools_dp bs) rv
  refine PySem.W.any_list_data (I.ok.hd hc) hl.isList hr (bools_plain bs) (bools_fits bs) fun h' tk hk => ⟨.bl (bs.any id), H, I.kept hk, ?_, q⟩
  rw [bools_any]
  exact rfl
theorem cr_all (hc : X.calm = true) : CallR X (.builtin "all") (rAll X.K) := by
  intro pins s σ H vs us Q I r h
  obtain ⟨a, bs, rfl, hs, q⟩ := h
  obtain ⟨its, rv, hl, _⟩ := I.list hs
  rw [Vals.ref1 r]
  obtain ⟨as, hr⟩ := Dp.readsAll I _ _ _ (bools_dp bs) rv
  refine PySem.W.all_list_data (I.ok.hd hc) hl.isList hr (bools_plain bs) (bools_fits bs) fun h' tk hk => ⟨.bl (bs.all id), H, I.kept hk, ?_, q⟩
  rw [bools_all]
  exact rfl
end
end LT

namespace LT
open PySem PySem.Spec PyProof.Rows L2
section
variable {P : Program} {w : World} {K : PySem.W.Frag} {mg : Str → Option Value} {base : Heap}
def spWhole : Sp := fun vs H Q _ => ∃ i : Int, vs = [.int i] ∧ Q (.bl true) H
theorem ok_is_whole {f : Addr} {fd : FuncData} (F : Fun K "is_whole" "is_whole" sIsWhole f fd) (z_isinstance : mg "isinstance" = none) (z_int : mg "int" = none) (z_bool : mg "bool" = none) : FnOk P w K mg base CX0 1 f fd ["value"] spWhole := by
  refine F.ok scIsWhole (fun vs H Q E h => ?_) (fun cdv A outer s H vs Q E hr h => ?_)
  · obtain ⟨i, rfl, _⟩ := h
    rfl
  obtain ⟨i, rfl, q⟩ := h
  refine ⟨_, (pss_one (ps_ret (pe_and (pe_callB call_isi (by rfl) z_isinstance (by decide +kernel) (pa_cons (pv 0) (pa_cons (pe_bltn (v := .ty "int") (u := .type "int") (by rfl) z_int (by decide +kernel) rfl) pa_nil))) (pe_one (pe_not (pe_callB call_isi (by rfl) z_isinstance (by decide +kernel) (pa_cons (pv 0) (pa_cons (pe_bltn (v := .ty "bool") (u := .type "bool") (by rfl) z_bool (by decide +kernel) rfl) pa_nil)))))))), ?_⟩
  refine ⟨_, rfl, _, _, _, _, true, rfl, .ty "int", .base (.int i), kit_ty (by decide +kernel), true, rfl, ?_⟩
  refine ⟨_, rfl, _, _, _, _, false, rfl, .ty "bool", .base (.int i), kit_ty (by decide +kernel), false, rfl, ?_⟩
  exact q
def spBetween : Sp := fun vs H Q _ => ∃ v lo hi : Int, vs = [.int v, .int lo, .int hi] ∧ Q (.bl (decide (lo ≤ v) && decide (v ≤ hi))) H
theorem ok_is_between {f g : Addr} {fd gd : FuncData} (F : Fun K "is_between" "is_between" sIsBetween f fd) (GIsWhole : FnOk P w K mg base CX0 1 g gd ["value"] spWhole) (AIsWhole : At K mg "is_whole" g gd ["value"]) : FnOk P w K mg base CX0 2 f fd ["value", "low", "high"] spBetween := by
  refine F.ok scIsBetween (fun vs H Q E h => ?_) (fun cdv A outer s H vs Q E hr h => ?_)
  · obtain ⟨i, _, _, rfl, _⟩ := h
    rfl
  obtain ⟨v, lo, hi, rfl, q⟩ := h
  refine ⟨_, (pss_one (ps_ret (pe_and (pe_call GIsWhole (hr.mono (by decide)) rfl AIsWhole.m AIsWhole.kp AIsWhole.b .nil pass0 (pa_cons (pv 0) pa_nil)) (pe_one (pe_chain op_le op_le (pv 1) (pv 0) (pv 2)))))), ?_⟩
  refine ⟨_, rfl, v, rfl, true, rfl, ?_⟩
  refine ⟨_, rfl, _, rfl, _, _, rfl, rfl, _, rfl, ?_⟩
  by_cases h1 : lo ≤ v
  · rw [decide_eq_true h1] at q ⊢
    exact ⟨_, rfl, _, _, rfl, rfl, q⟩
  · rw [decide_eq_false h1] at q ⊢
    exact q
def spCheckSize : Sp := fun vs H Q _ => ∃ n : Int, vs = [.int n] ∧ 1 ≤ n ∧ n ≤ 10 ^ 30 ∧ Q .non H
theorem ok_check_size {f g : Addr} {fd gd : FuncData} {t : Tok} (F : Fun K "check_size" "check_size" sCheckSize f fd) (GIsBetween : FnOk P w K mg base CX0 2 g gd ["value", "low", "high"] spBetween) (AIsBetween : At K mg "is_between" g gd ["value", "low", "high"]) (g_MOST_ENTRIES : mg "MOST_ENTRIES" = some (.int 1000000000000000000000000000000 t)) : FnOk P w K mg base CX0 3 f fd ["size"] spCheckSize := by
  refine F.ok scCheckSize (fun vs H Q E h => ?_) (fun cdv A outer s H vs Q E hr h => ?_)
  · obtain ⟨i, rfl, _⟩ := h
    rfl
  obtain ⟨n, rfl, h1, h2, q⟩ := h
  refine ⟨_, (pss_one (ps_if (pt_not (pt_val (pe_call GIsBetween (hr.mono (by decide)) rfl AIsBetween.m AIsBetween.kp AIsBetween.b .nil pass0 (pa_cons (pv 0) (pa_cons pe_int (pa_cons (pe_glob (v := .int 1000000000000000000000000000000) rfl g_MOST_ENTRIES ⟨_, rfl⟩) pa_nil))))))
    (pss_one ps_never)
    pss_nil)), ?_⟩
  refine ⟨_, rfl, n, 1, 1000000000000000000000000000000, rfl, _, rfl, ?_⟩
  rw [decide_eq_true h1, decide_eq_true (show n ≤ 1000000000000000000000000000000 from h2)]
  exact q
end
end LT

namespace LT
open PySem PySem.Spec PyProof.Rows L2
/-- values of the plain kinds, with their types -/
inductive Pl (K : PySem.W.Frag) (H : Hp) : V → String → Prop
  | non : Pl K H .non "NoneType"
  | bl (b : Bool) : Pl K H (.bl b) "bool"
  | int (i : Int) : Pl K H (.int i) "int"
  | str (s : Str) : Pl K H (.str s) "str"
  | lst {a : Addr} {xs : List V} : H a = some (.lst xs) → Pl K H (.ref a) "list"
  | tup {a : Addr} {xs : List V} : H a = some (.tup xs) → Pl K H (.ref a) "tuple"
  | dict {a : Addr} {kvs : List (Key × V)} : H a = some (.dK kvs) → Pl K H (.ref a) "dict"
theorem Pl.ty {K : PySem.W.Frag} {H : Hp} {v : V} {t : String} (h : Pl K H v t) : TyX K H v (.type t) := by
  cases h with
  | non => exact .base .non
  | bl b => exact .base (.bl b)
  | int i => exact .base (.int i)
  | str s => exact .base (.str s)
  | lst e => exact .base (.lst e)
  | tup e => exact .base (.tup e)
  | dict e => exact .base (.dK e)
def isInt : V → Bool
  | .int _ => true
  | _ => false
def inRange (lo hi : Int) : V → Bool
  | .int i => decide (lo ≤ i) && decide (i ≤ hi)
  | _ => false
section
variable {P : Program} {w : World} {K : PySem.W.Frag} {mg : Str → Option Value} {base : Heap}
def spWholeV (K : PySem.W.Frag) : Sp := fun vs H Q _ => ∃ (v : V) (t : String), vs = [v] ∧ Pl K H v t ∧ Q (.bl (isInt v)) H
theorem ok_is_wholeV {f : Addr} {fd : FuncData} (F : Fun K "is_whole" "is_whole" sIsWhole f fd) (z_isinstance : mg "isinstance" = none) (z_int : mg "int" = none) (z_bool : mg "bool" = none) : FnOk P w K mg base CX0 1 f fd ["value"] (spWholeV K) := by
  refine F.ok scIsWhole (fun vs H Q E h => ?_) (fun cdv A outer s H vs Q E hr h => ?_)
  · obtain ⟨_, _, rfl, _⟩ := h
    rfl
  obtain ⟨v, t, rfl, hv, q⟩ := h
  refine ⟨_, (pss_one (ps_ret (pe_and (pe_callB call_isi (by rfl) z_isinstance (by decide +kernel) (pa_cons (pv 0) (pa_cons (pe_bltn (v := .ty "int") (u := .type "int") (by rfl) z_int (by decide +kernel) rfl) pa_nil))) (pe_one (pe_not (pe_callB call_isi (by rfl) z_isinstance (by decide +kernel) (pa_cons (pv 0) (pa_cons (pe_bltn (v := .ty "bool") (u := .type "bool") (by rfl) z_bool (by decide +kernel) rfl) pa_nil)))))))), ?_⟩
  cases hv with
  | non => exact ⟨_, rfl, _, _, _, _, false, rfl, .ty "int", (Pl.non (K := K) (H := H)).ty, kit_ty (by decide +kernel), false, rfl, q⟩
  | bl b => exact ⟨_, rfl, _, _, _, _, true, rfl, .ty "int", (Pl.bl (K := K) (H := H) b).ty, kit_ty (by decide +kernel), true, rfl, _, rfl, _, _, _, _, true, rfl, .ty "bool", (Pl.bl (K := K) (H := H) b).ty, kit_ty (by decide +kernel), true, rfl, q⟩
  | int i => exact ⟨_, rfl, _, _, _, _, true, rfl, .ty "int", (Pl.int (K := K) (H := H) i).ty, kit_ty (by decide +kernel), true, rfl, _, rfl, _, _, _, _, false, rfl, .ty "bool", (Pl.int (K := K) (H := H) i).ty, kit_ty (by decide +kernel), false, rfl, q⟩
  | str s => exact ⟨_, rfl, _, _, _, _, false, rfl, .ty "int", (Pl.str (K := K) (H := H) s).ty, kit_ty (by decide +kernel), false, rfl, q⟩
  | lst e => exact ⟨_, rfl, _, _, _, _, false, rfl, .ty "int", (Pl.lst (K := K) e).ty, kit_ty (by decide +kernel), false, rfl, q⟩
  | tup e => exact ⟨_, rfl, _, _, _, _, false, rfl, .ty "int", (Pl.tup (K := K) e).ty, kit_ty (by decide +kernel), false, rfl, q⟩
  | dict e => exact ⟨_, rfl, _, _, _, _, false, rfl, .ty "int", (Pl.dict (K := K) e).ty, kit_ty (by decide +kernel), false, rfl, q⟩
def spBetweenV (K : PySem.W.Frag) : Sp := fun vs H Q _ => ∃ (v : V) (t : String) (lo hi : Int), vs = [v, .int lo, .int hi] ∧ Pl K H v t ∧ Q (.bl (inRange lo hi v)) H
theorem ok_is_betweenV {f g : Addr} {fd gd : FuncData} (F : Fun K "is_between" "is_between" sIsBetween f fd) (GIsWhole : FnOk P w K mg base CX0 1 g gd ["value"] (spWholeV K)) (AIsWhole : At K mg "is_whole" g gd ["value"]) : FnOk P w K mg base CX0 2 f fd ["value", "low", "high"] (spBetweenV K) := by
  refine F.ok scIsBetween (fun vs H Q E h => ?_) (fun cdv A outer s H vs Q E hr h => ?_)
  · obtain ⟨_, _, _, _, rfl, _⟩ := h
    rfl
  obtain ⟨v, t, lo, hi, rfl, hv, q⟩ := h
  refine ⟨_, (pss_one (ps_ret (pe_and (pe_call GIsWhole (hr.mono (by decide)) rfl AIsWhole.m AIsWhole.kp AIsWhole.b .nil pass0 (pa_cons (pv 0) pa_nil)) (pe_one (pe_chain op_le op_le (pv 1) (pv 0) (pv 2)))))), ?_⟩
  refine ⟨_, rfl, v, t, rfl, hv, isInt v, rfl, ?_⟩
  cases v with
  | int i =>
    have q' : Q (.bl (decide (lo ≤ i) && decide (i ≤ hi))) H := q
    refine ⟨_, rfl, _, rfl, _, _, rfl, rfl, _, rfl, ?_⟩
    by_cases h1 : lo ≤ i
    · rw [decide_eq_true h1] at q' ⊢
      exact ⟨_, rfl, _, _, rfl, rfl, q'⟩
    · rw [decide_eq_false h1] at q' ⊢
      exact q'
  | non => exact q
  | bl _ => exact q
  | str _ => exact q
  | byt _ => exact q
  | flt _ => exact q
  | ref _ => exact q
  | ty _ => exact q
theorem whole_of {k : Nat} {f : Addr} {fd : FuncData} (F : FnOk P w K mg base CX0 k f fd ["value"] (spWholeV K)) : FnOk P w K mg base CX0 k f fd ["value"] spWhole :=
  F.imp fun vs H Q E h => by
    obtain ⟨i, rfl, q⟩ := h
    exact ⟨_, _, rfl, .int i, q⟩
theorem between_of {k : Nat} {f : Addr} {fd : FuncData} (F : FnOk P w K mg base CX0 k f fd ["value", "low", "high"] (spBetweenV K)) : FnOk P w K mg base CX0 k f fd ["value", "low", "high"] spBetween :=
  F.imp fun vs H Q E h => by
    obtain ⟨v, lo, hi, rfl, q⟩ := h
    exact ⟨_, _, _, _, rfl, .int v, q⟩
end
end LT

namespace LT
open PySem PySem.Spec PyProof.Rows L2
section
variable {P : Program} {w : World} {K : PySem.W.Frag} {mg : Str → Option Value} {base : Heap}
def spCheckEntry : Sp := fun vs H Q _ => ∃ n e : Int, vs = [.int n, .int e] ∧ 0 ≤ e ∧ e < n ∧ Q .non H
theorem ok_check_entry {f g : Addr} {fd gd : FuncData} (F : Fun K "check_entry" "check_entry" sCheckEntry f fd) (GIsBetween : FnOk P w K mg base CX0 2 g gd ["value", "low", "high"] spBetween) (AIsBetween : At K mg "is_between" g gd ["value", "low", "high"]) : FnOk P w K mg base CX0 3 f fd ["size", "entry"] spCheckEntry := by
  refine F.ok scCheckEntry (fun vs H Q E h => ?_) (fun cdv A outer s H vs Q E hr h => ?_)
  · obtain ⟨i, _, rfl, _⟩ := h
    rfl
  obtain ⟨n, e, rfl, h1, h2, q⟩ := h
  refine ⟨_, (pss_one (ps_if (pt_not (pt_val (pe_call GIsBetween (hr.mono (by decide)) rfl AIsBetween.m AIsBetween.kp AIsBetween.b .nil pass0 (pa_cons (pv 1) (pa_cons pe_int (pa_cons (pe_op op_sub (pv 0) pe_int) pa_nil))))))
    (pss_one ps_never)
    pss_nil)), ?_⟩
  refine ⟨_, rfl, _, rfl, _, _, rfl, rfl, e, 0, n - 1, rfl, _, rfl, ?_⟩
  rw [decide_eq_true h1, decide_eq_true (show e ≤ n - 1 by omega)]
  exact q
end
end LT

namespace LT
open PySem PySem.Spec PyProof.Rows L2
theorem bits_nat (k : Nat) : Builtin.Int.intBits (k : Int) = if k = 0 then 0 else k.log2 + 1 := by
  unfold Builtin.Int.intBits
  by_cases h : k = 0
  · subst h; rfl
  · rw [if_neg h, if_neg (by simpa using h)]
    rfl
theorem bits_lb {m : Nat} (h : 1 ≤ m) : Builtin.Int.intBits ((m - 1 : Nat) : Int) = lb m := by
  rw [bits_nat]
  unfold lb
  by_cases k : m ≤ 1
  · rw [if_pos k, if_pos (by omega)]
  · rw [if_neg k, if_neg (by omega)]
theorem lb100 {m : Nat} (h : m ≤ 10 ^ 30) : lb m ≤ 100 := lb_le (Nat.le_trans h (by decide))
theorem fmod_of_dvd {a b : Nat} (h : a ∣ b) : Int.fmod (b : Int) (a : Int) = 0 := by
  rw [Int.fmod_eq_emod_of_nonneg _ (Int.natCast_nonneg _)]
  exact Int.emod_eq_zero_of_dvd (Int.natCast_dvd_natCast.mpr h)
end LT

namespace LT
open PySem PySem.Spec PyProof.Rows L2
section
variable {P : Program} {w : World} {K : PySem.W.Frag} {mg : Str → Option Value} {base : Heap}
def spTree : Sp := fun vs H Q _ => ∃ (n b m : Nat) (v : V), vs = [.int n, v] ∧ Nd H v (b, b + m) ∧ 1 ≤ m ∧ b + m ≤ n ∧ n ≤ 10 ^ 30 ∧ tree n b m ∧ Q (.bl true) H
theorem ok_is_tree_node {f g : Addr} {fd gd : FuncData} (F : Fun K "is_tree_node" "is_tree_node" sIsTreeNode f fd) (GIsBetween : FnOk P w K mg base CX0 2 g gd ["value", "low", "high"] spBetween) (AIsBetween : At K mg "is_between" g gd ["value", "low", "high"])
    (z_isinstance : mg "isinstance" = none) (z_tuple : mg "tuple" = none) (z_len : mg "len" = none) : FnOk P w K mg base CX0 3 f fd ["size", "value"] spTree := by
  refine F.ok scIsTreeNode (fun vs H Q E h => ?_) (fun cdv A outer s H vs Q E hr h => ?_)
  · obtain ⟨_, _, _, _, rfl, _⟩ := h
    rfl
  obtain ⟨n, b, m, v, rfl, ⟨p, rfl, hp⟩, hm, hn, h30, ht, q⟩ := h
  refine ⟨_, (pss_cons (ps_if (PW.pt (pw_or (pt_not (pt_val (pe_callB call_isi (by rfl) z_isinstance (by decide +kernel) (pa_cons (pv 1) (pa_cons (pe_bltn (v := .ty "tuple") (u := .type "tuple") (by rfl) z_tuple (by decide +kernel) rfl) pa_nil))))) (pw_or1 (pt_cmpR op_ne (pe_callB call_len_seq (by rfl) z_len PySem.boot_len (pa_cons (pv 1) pa_nil)) pe_int (nomark _)))))
    (pss_one (ps_ret pe_bl))
    pss_nil)
    (pss_cons (ps_asg (pv 1) (pg_tup (by rfl) (pgs_cons (pg_name (i := 2) scIsTreeNode.nd rfl (Or.inl rfl)) (pgs_cons (pg_name (i := 3) scIsTreeNode.nd rfl (Or.inl rfl)) pgs_nil))))
    (pss_cons (ps_if (PW.pt (pw_or (pt_not (pt_val (pe_call GIsBetween (hr.mono (by decide)) rfl AIsBetween.m AIsBetween.kp AIsBetween.b .nil pass0 (pa_cons (pv 2) (pa_cons pe_int (pa_cons (pe_op op_sub (pv 0) pe_int) pa_nil)))))) (pw_or1 (pt_not (pt_val (pe_call GIsBetween (hr.mono (by decide)) rfl AIsBetween.m AIsBetween.kp AIsBetween.b .nil pass0 (pa_cons (pv 3) (pa_cons (pe_op op_add (pv 2) pe_int) (pa_cons (pv 0) pa_nil)))))))))
    (pss_one (ps_ret pe_bl))
    pss_nil)
    (pss_cons (ps_set (i := 4) scIsTreeNode.nd rfl (Or.inl rfl) (pe_op op_shl pe_int (pe_bits (pe_op op_sub (pe_op op_sub (pv 3) (pv 2)) pe_int))))
    (pss_one (ps_ret (pe_and (pe_cmpR op_eq (pe_op op_modN (pv 2) (pv 4)) pe_int (nomark _)) (pe_one (pe_or (pe_cmpR op_eq (pe_op op_sub (pv 3) (pv 2)) (pv 4) (nomark _)) (pe_one (pe_cmpR op_eq (pv 3) (pv 0) (nomark _)))))))))))), ?_⟩
  refine ⟨_, rfl, _, _, _, _, true, rfl, .ty "tuple", .base (.tup hp), kit_ty (by decide +kernel), true, rfl, ?_⟩
  refine ⟨_, rfl, p, _, rfl, .inr (SqT.of hp), rfl, false, rfl, ?_⟩
  refine ⟨_, rfl, p, _, rfl, SqT.of hp, rfl, _, _, rfl, _, _, rfl, rfl, ?_⟩
  refine ⟨_, rfl, _, rfl, _, _, rfl, rfl, _, _, _, rfl, true, ?_, ?_⟩
  · exact congrArg V.bl (by rw [Bool.and_eq_true]; exact ⟨decide_eq_true (by omega), decide_eq_true (by show (b : Int) ≤ n - 1; omega)⟩)
  refine ⟨_, rfl, _, rfl, _, _, rfl, rfl, _, rfl, _, _, _, rfl, true, ?_, ?_⟩
  · exact congrArg V.bl (by rw [Bool.and_eq_true]; exact ⟨decide_eq_true (by show (b : Int) + 1 ≤ ((b + m : Nat) : Int); omega), decide_eq_true (by show ((b + m : Nat) : Int) ≤ n; omega)⟩)
  have e1 : ((b + m : Nat) : Int) - (b : Int) - 1 = ((m - 1 : Nat) : Int) := by omega
  refine ⟨_, rfl, _, rfl, _, _, rfl, rfl, _, _, rfl, rfl, _, rfl, ?_⟩
  dsimp only
  rw [e1, bits_lb hm]
  have l100 := lb100 (show m ≤ 10 ^ 30 by omega)
  refine ⟨_, _, rfl, rfl, ⟨Int.natCast_nonneg _, by omega, by decide⟩, ?_⟩
  have e2 : (1 : Int) * 2 ^ ((lb m : Nat) : Int).toNat = ((2 ^ lb m : Nat) : Int) := by rw [Int.one_mul, Int.toNat_natCast]; exact (Int.natCast_pow 2 (lb m)).symm
  dsimp only
  rw [e2]
  obtain ⟨d, k⟩ := ht
  have pz : 0 < 2 ^ lb m := Nat.pow_pos (by decide)
  generalize 2 ^ lb m = R at d k pz
  refine ⟨_, rfl, _, rfl, _, _, rfl, rfl, by omega, rfl, true, ?_, ?_⟩
  · show V.bl (decide (V.int (Int.fmod (b : Int) (R : Int)) = V.int 0)) = V.bl true
    rw [fmod_of_dvd d, decide_eq_true rfl]
  refine ⟨_, rfl, _, rfl, _, _, rfl, rfl, _, rfl, rfl, _, rfl, ite2 (fun c => q) (fun c => ?_)⟩
  have c1 : ¬ V.int (((b + m : Nat) : Int) - (b : Int)) = V.int (R : Int) := of_decide_eq_false (Bool.eq_false_iff.mpr c)
  refine ⟨_, rfl, _, rfl, rfl, ?_⟩
  have e4 : b + m = n := by
    rcases k with k | k
    · exact absurd (congrArg V.int (by omega)) c1
    · exact k
  show Q (V.bl (decide (V.int ((b + m : Nat) : Int) = V.int (n : Int)))) H
  rw [decide_eq_true (by rw [e4])]
  exact q
def spCheckNode : Sp := fun vs H Q _ => ∃ (n b m : Nat) (v : V), vs = [.int n, v] ∧ Nd H v (b, b + m) ∧ 1 ≤ m ∧ b + m ≤ n ∧ n ≤ 10 ^ 30 ∧ tree n b m ∧ Q .non H
theorem ok_check_node {f g : Addr} {fd gd : FuncData} (F : Fun K "check_node" "check_node" sCheckNode f fd) (GIsTreeNode : FnOk P w K mg base CX0 3 g gd ["size", "value"] spTree) (AIsTreeNode : At K mg "is_tree_node" g gd ["size", "value"]) : FnOk P w K mg base CX0 4 f fd ["size", "node"] spCheckNode := by
  refine F.ok scCheckNode (fun vs H Q E h => ?_) (fun cdv A outer s H vs Q E hr h => ?_)
  · obtain ⟨_, _, _, _, rfl, _⟩ := h
    rfl
  obtain ⟨n, b, m, v, rfl, hv, hm, hn, h30, ht, q⟩ := h
  refine ⟨_, (pss_one (ps_if (pt_not (pt_val (pe_call GIsTreeNode (hr.mono (by decide)) rfl AIsTreeNode.m AIsTreeNode.kp AIsTreeNode.b .nil pass0 (pa_cons (pv 0) (pa_cons (pv 1) pa_nil)))))
    (pss_one ps_never)
    pss_nil)), ?_⟩
  refine ⟨_, rfl, _, rfl, n, b, m, v, rfl, hv, hm, hn, h30, ht, true, rfl, q⟩
end
end LT

namespace LT
open PySem PySem.Spec PyProof.Rows L2
section
variable {P : Program} {w : World} {K : PySem.W.Frag} {mg : Str → Option Value} {base : Heap}
def spPower : Sp := fun vs H Q _ => ∃ (k : Nat), vs = [.int k] ∧ 1 ≤ k ∧ k ≤ 10 ^ 30 ∧ Q (.int ((2 ^ k.log2 : Nat) : Int)) H
theorem ok_power_within {f : Addr} {fd : FuncData} (F : Fun K "power_within" "power_within" sPowerWithin f fd) : FnOk P w K mg base CX0 1 f fd ["number"] spPower := by
  refine F.ok scPowerWithin (fun vs H Q E h => ?_) (fun cdv A outer s H vs Q E hr h => ?_)
  · obtain ⟨_, rfl, _⟩ := h
    rfl
  obtain ⟨k, rfl, h1, h30, q⟩ := h
  refine ⟨_, (pss_one (ps_ret (pe_op op_shl pe_int (pe_op op_sub (pe_bits (pv 0)) pe_int)))), ?_⟩
  refine ⟨_, rfl, _, rfl, _, _, rfl, rfl, ?_⟩
  dsimp only
  have e : ((Builtin.Int.intBits (k : Int) : Nat) : Int) - 1 = ((k.log2 : Nat) : Int) := by
    rw [bits_nat, if_neg (by omega)]
    omega
  rw [e]
  have l100 : k.log2 < 100 := (Nat.log2_lt (by omega)).mpr (Nat.lt_of_le_of_lt h30 (by decide))
  refine ⟨_, _, rfl, rfl, ⟨Int.natCast_nonneg _, by omega, by decide⟩, ?_⟩
  have e2 : (1 : Int) * 2 ^ ((k.log2 : Nat) : Int).toNat = ((2 ^ k.log2 : Nat) : Int) := by rw [Int.one_mul, Int.toNat_natCast]; exact (Int.natCast_pow 2 _).symm
  show Q (.int ((1 : Int) * 2 ^ ((k.log2 : Nat) : Int).toNat)) H
  rw [e2]
  exact q
end
end LT

namespace LT
open PySem PySem.Spec PyProof.Rows L2
section
variable {P : Program} {w : World} {K : PySem.W.Frag} {mg : Str → Option Value} {base : Heap}
def spHalvesL : Sp := fun vs H Q _ => ∃ (n b m : Nat) (v : V), vs = [.int n, v] ∧ Nd H v (b, b + m) ∧ 1 ≤ m ∧ b + m ≤ n ∧ n ≤ 10 ^ 30 ∧ tree n b m ∧ (m = 1 → Q .non H) ∧ (2 ≤ m →
  ∀ (H' : Hp) (q : Addr) (l h : V), Same H H' → H q = none → H' q = some (.tup [l, h]) → Nd H' l (b, b + gp m) → Nd H' h (b + gp m, b + m) → Q (.ref q) H')
theorem ok_halves {f g1 g2 g3 : Addr} {fd d1 d2 d3 : FuncData} (F : Fun K "halves" "halves" sHalves f fd) (GCheckSize : FnOk P w K mg base CX0 3 g1 d1 ["size"] spCheckSize) (ACheckSize : At K mg "check_size" g1 d1 ["size"])
    (GCheckNode : FnOk P w K mg base CX0 4 g2 d2 ["size", "node"] spCheckNode) (ACheckNode : At K mg "check_node" g2 d2 ["size", "node"]) (GPowerWithin : FnOk P w K mg base CX0 1 g3 d3 ["number"] spPower) (APowerWithin : At K mg "power_within" g3 d3 ["number"]) :
    FnOk P w K mg base CX0 5 f fd ["size", "node"] spHalvesL := by
  refine F.ok scHalves (fun vs H Q E h => ?_) (fun cdv A outer s H vs Q E hr h => ?_)
  · obtain ⟨_, _, _, _, rfl, _⟩ := h
    rfl
  obtain ⟨n, b, m, v, rfl, hv, hm, hn, h30, ht, q1, q⟩ := h
  refine ⟨_, (pss_cons (ps_expr (pe_call GCheckSize (hr.mono (by decide)) rfl ACheckSize.m ACheckSize.kp ACheckSize.b .nil pass0 (pa_cons (pv 0) pa_nil)))
    (pss_cons (ps_expr (pe_call GCheckNode (hr.mono (by decide)) rfl ACheckNode.m ACheckNode.kp ACheckNode.b .nil pass0 (pa_cons (pv 0) (pa_cons (pv 1) pa_nil))))
    (pss_cons (ps_asg (pv 1) (pg_tup (by rfl) (pgs_cons (pg_name (i := 2) scHalves.nd rfl (Or.inl rfl)) (pgs_cons (pg_name (i := 3) scHalves.nd rfl (Or.inl rfl)) pgs_nil))))
    (pss_cons (ps_if (pt_cmpR op_eq (pe_op op_sub (pv 3) (pv 2)) pe_int (nomark _))
    (pss_one (ps_ret pe_non))
    pss_nil)
    (pss_cons (ps_set (i := 4) scHalves.nd rfl (Or.inl rfl) (pe_op op_add (pv 2) (pe_call GPowerWithin (hr.mono (by decide)) rfl APowerWithin.m APowerWithin.kp APowerWithin.b .nil pass0 (pa_cons (pe_op op_sub (pe_op op_sub (pv 3) (pv 2)) pe_int) pa_nil))))
    (pss_one (ps_ret (pe_tup (pa_cons (pe_tup (pa_cons (pv 2) (pa_cons (pv 4) pa_nil))) (pa_cons (pe_tup (pa_cons (pv 4) (pa_cons (pv 3) pa_nil))) pa_nil)))))))))), ?_⟩
  refine ⟨_, rfl, n, rfl, by omega, by omega, ?_⟩
  refine ⟨_, rfl, _, rfl, n, b, m, v, rfl, hv, by omega, hn, h30, ht, ?_⟩
  obtain ⟨p, rfl, hp⟩ := id hv
  refine ⟨_, rfl, p, _, rfl, SqT.of hp, rfl, _, _, rfl, _, _, rfl, rfl, ?_⟩
  refine ⟨_, rfl, _, rfl, _, _, rfl, rfl, rfl, _, rfl, ite2 (fun c => ?_) (fun c => ?_)⟩
  · have c1 : V.int (((b + m : Nat) : Int) - (b : Int)) = V.int 1 := of_decide_eq_true c
    have := V.int.inj c1
    exact q1 (by omega)
  have c1 : ¬ V.int (((b + m : Nat) : Int) - (b : Int)) = V.int 1 := of_decide_eq_false (Bool.eq_false_iff.mpr c)
  have hm2 : 2 ≤ m := by
    have : ¬ m = 1 := fun z => c1 (congrArg V.int (by omega))
    omega
  replace q := q hm2
  have e1 : ((b + m : Nat) : Int) - (b : Int) - 1 = ((m - 1 : Nat) : Int) := by omega
  refine ⟨_, rfl, _, rfl, _, rfl, _, _, rfl, rfl, _, _, rfl, rfl, m - 1, congrArg (fun z => [V.int z]) e1, by omega, by omega, _, _, rfl, rfl, ?_⟩
  have e2 : (b : Int) + ((2 ^ (m - 1).log2 : Nat) : Int) = ((b + gp m : Nat) : Int) := by unfold gp; omega
  have two : 2 ≤ sizeLine := by decide
  refine ⟨_, rfl, _, rfl, two, fun t1 n1 => ⟨_, rfl, _, rfl, two, fun t2 n2 => ⟨two, fun t3 n3 => ?_⟩⟩⟩
  dsimp only
  have s1 := same_upd (o := .tup [.int (b : Int), .int ((b : Int) + ((2 ^ (m - 1).log2 : Nat) : Int))]) n1
  have s2 := same_upd (o := .tup [.int ((b : Int) + ((2 ^ (m - 1).log2 : Nat) : Int)), .int ((b + m : Nat) : Int)]) n2
  have s3 := same_upd (o := .tup [.ref t1, .ref t2]) n3
  refine q _ t3 (.ref t1) (.ref t2) (s1.trans (s2.trans s3)) ((s1.trans s2).free n3) upd_same ⟨t1, rfl, s3 _ _ (s2 _ _ ?_)⟩ ⟨t2, rfl, s3 _ _ ?_⟩
  · rw [upd_same]
    dsimp only
    rw [e2]
  · rw [upd_same]
    dsimp only
    rw [e2]
def spPath : Sp := fun vs H Q _ => ∃ (n e : Nat), vs = [.int n, .int e] ∧ e < n ∧ n ≤ 10 ^ 30 ∧
  ∀ (H' : Hp) (p : Addr) (xs : List V), Same H H' → H p = none → H' p = some (.lst xs) → All2 (Nd H') xs (sib 0 n e).reverse → Q (.ref p) H'
theorem ok_path {f g1 g2 g3 : Addr} {fd d1 d2 d3 : FuncData} (F : Fun K "path" "path" sPath f fd) (GCheckSize : FnOk P w K mg base CX0 3 g1 d1 ["size"] spCheckSize) (ACheckSize : At K mg "check_size" g1 d1 ["size"])
    (GCheckEntry : FnOk P w K mg base CX0 3 g2 d2 ["size", "entry"] spCheckEntry) (ACheckEntry : At K mg "check_entry" g2 d2 ["size", "entry"]) (GHalves : FnOk P w K mg base CX0 5 g3 d3 ["size", "node"] spHalvesL) (AHalves : At K mg "halves" g3 d3 ["size", "node"]) :
    FnOk P w K mg base CX0 6 f fd ["size", "entry"] spPath := by
  refine F.ok scPath (fun vs H Q E h => ?_) (fun cdv A outer s H vs Q E hr h => ?_)
  · obtain ⟨_, _, rfl, _⟩ := h
    rfl
  obtain ⟨n, e, rfl, he, h30, q⟩ := h
  refine ⟨_, (pss_cons (ps_expr (pe_call GCheckSize (hr.mono (by decide)) rfl ACheckSize.m ACheckSize.kp ACheckSize.b .nil pass0 (pa_cons (pv 0) pa_nil)))
    (pss_cons (ps_expr (pe_call GCheckEntry (hr.mono (by decide)) rfl ACheckEntry.m ACheckEntry.kp ACheckEntry.b .nil pass0 (pa_cons (pv 0) (pa_cons (pv 1) pa_nil))))
    (pss_cons (ps_set (i := 2) scPath.nd rfl (Or.inl rfl) (pe_lst pa_nil))
    (pss_cons (ps_set (i := 3) scPath.nd rfl (Or.inl rfl) (pe_tup (pa_cons pe_int (pa_cons (pv 0) pa_nil))))
    (pss_cons (ps_while PassesOwn.never (pt_cmpR (op_neD hr.units) (pv 3) (pe_tup (pa_cons (pv 1) (pa_cons (pe_op op_add (pv 1) pe_int) pa_nil))) (nomark _))
    (pss_cons (ps_asg (pe_call GHalves (hr.mono (by decide)) rfl AHalves.m AHalves.kp AHalves.b .nil pass0 (pa_cons (pv 0) (pa_cons (pv 3) pa_nil))) (pg_tup (by rfl) (pgs_cons (pg_name (i := 4) scPath.nd rfl (Or.inl rfl)) (pgs_cons (pg_name (i := 5) scPath.nd rfl (Or.inl rfl)) pgs_nil))))
    (pss_one (ps_if (pt_cmpR op_lt (pv 1) (pe_ix ix_tup (pv 4) pe_int (fun _ _ => rfl)) (nomark _))
    (pss_cons (ps_set (i := 3) scPath.nd rfl (Or.inl rfl) (pv 4))
    (pss_one (ps_expr (pe_bm PySem.F.plainAttrs_list PySem.F.slot_list_append PySem.F.type_list_append mt_append (pv 2) (pa_cons (pv 5) pa_nil)))))
    (pss_cons (ps_set (i := 3) scPath.nd rfl (Or.inl rfl) (pv 5))
    (pss_one (ps_expr (pe_bm PySem.F.plainAttrs_list PySem.F.slot_list_append PySem.F.type_list_append mt_append (pv 2) (pa_cons (pv 4) pa_nil)))))))))
    (pss_one (ps_ret (pe_revL (pv 2))))))))), ?_⟩
  refine ⟨_, rfl, n, rfl, by omega, by omega, ?_⟩
  refine ⟨_, rfl, _, rfl, n, e, rfl, by omega, by omega, ?_⟩
  have two : 2 ≤ sizeLine := by decide
  refine ⟨Nat.zero_le _, fun sb nsb => ?_⟩
  have z1 := same_upd (o := .lst []) nsb
  refine ⟨_, rfl, two, fun t0 n0 => ?_⟩
  have z2 := same_upd (o := .tup [.int 0, .int (n : Int)]) n0
  refine ⟨fun mu σ H' => ∃ (b : Nat) (nv : V) (v4 v5 : Option V) (xs : List V) (done : List (Nat × Nat)), σ = [some (.int n), some (.int e), some (.ref sb), some nv, v4, v5] ∧ Same H H' ∧ H' sb = some (.lst xs) ∧ All2 (Nd H') xs done ∧
      Nd H' nv (b, b + mu) ∧ 1 ≤ mu ∧ b ≤ e ∧ e < b + mu ∧ b + mu ≤ n ∧ tree n b mu ∧ done ++ sib b mu e = sib 0 n e,
    ⟨n, 0, .ref t0, none, none, [], [], rfl, z1.trans z2, z2 _ _ upd_same, .nil, ⟨t0, rfl, by rw [upd_same]; simp⟩, by omega, by omega, by omega, by omega, tree_root n, rfl⟩, ?_⟩
  rintro m σ H1 ⟨b, nv, v4, v5, xs, done, rfl, sm, hs, hx, hv, hm, hb, hb2, hn, ht, hd⟩
  refine ⟨_, rfl, _, rfl, _, rfl, _, _, rfl, rfl, two, fun t nt => ?_⟩
  have s1 := same_upd (o := .tup [.int (e : Int), .int ((e : Int) + 1)]) nt
  refine ⟨_, _, (hv.same s1).dp, .tup (SqT.of upd_same) (.cons (.int _) (.cons (.int _) .nil)), nd_shaped _ _, nd_shaped _ _, ?_⟩
  rw [nd_eqv]
  have hlen : done.length ≤ 100 := by
    have k1 := sib_len_le n 0 e (Nat.zero_le _) (by omega)
    have k2 := lb100 h30
    have k3 := congrArg List.length hd
    rw [List.length_append] at k3
    omega
  have hs1 : (upd H1 t (.tup [.int (e : Int), .int ((e : Int) + 1)])) sb = some (.lst xs) := s1 _ _ hs
  have hx1 := hx.mono (fun v x (k : Nd H1 v x) => k.same s1)
  have hv1 := hv.same s1
  have sm1 := sm.trans s1
  generalize upd H1 t (.tup [.int (e : Int), .int ((e : Int) + 1)]) = H2 at hs1 hx1 hv1 sm1
  by_cases h1 : m = 1
  · refine ⟨false, ?_, iteF ?_⟩
    · subst h1
      have : b = e := by omega
      subst this
      simp
    · subst h1
      rw [sib_one (by omega), List.append_nil] at hd
      refine ⟨_, rfl, sb, xs, rfl, SqL.of hs1, fun p np => ?_⟩
      have s3 := same_upd (o := .lst xs.reverse) np
      refine q _ p xs.reverse (sm1.trans s3) (sm1.free np) upd_same ?_
      rw [← hd]
      exact (hx1.mono (fun v x (k : Nd H2 v x) => k.same s3)).rev
  · refine ⟨true, ?_, iteT ⟨fun σ' H' => ∃ mu, mu < m ∧ ∃ (b : Nat) (nv : V) (v4 v5 : Option V) (xs : List V) (done : List (Nat × Nat)), σ' = [some (.int n), some (.int e), some (.ref sb), some nv, v4, v5] ∧ Same H H' ∧ H' sb = some (.lst xs) ∧ All2 (Nd H') xs done ∧
      Nd H' nv (b, b + mu) ∧ 1 ≤ mu ∧ b ≤ e ∧ e < b + mu ∧ b + mu ≤ n ∧ tree n b mu ∧ done ++ sib b mu e = sib 0 n e, fun σ' H' h => h, ?_⟩⟩
    · refine congrArg V.bl ?_
      rw [Bool.not_eq_true', Bool.and_eq_false_iff]
      by_cases c : b = e
      · right
        exact decide_eq_false (by show ¬ ((b + m : Nat) : Int) = (e : Int) + 1; omega)
      · left
        exact decide_eq_false (by show ¬ (b : Int) = (e : Int); omega)
    have hm2 : 2 ≤ m := by omega
    have gl := gp_lt hm2
    have gg := gp_pos m
    refine ⟨_, rfl, _, rfl, n, b, m, nv, rfl, hv1, by omega, hn, h30, ht, (fun z => absurd z (by omega)), fun _ H3 qa l h s3 nqa hqa hl hh => ?_⟩
    refine ⟨qa, _, rfl, SqT.of hqa, rfl, _, _, rfl, _, _, rfl, rfl, ?_⟩
    obtain ⟨lp, rfl, hlp⟩ := id hl
    refine ⟨_, rfl, _, rfl, lp, _, _, _, rfl, rfl, SqT.of hlp, (atI_nat (j := 1) rfl), _, _, rfl, rfl, _, rfl, ite2 (fun c => ?_) (fun c => ?_)⟩
    · have c1 : (e : Int) < ((b + gp m : Nat) : Int) := of_decide_eq_true c
      have hs3 := s3 _ _ hs1
      refine ⟨_, rfl, ?_⟩
      refine ⟨_, rfl, .inl ⟨rfl, _, SqL.of hs3⟩, _, rfl, sb, _, _, rfl, rfl, hs3, szlt (by rw [hx.len]; omega), ?_⟩
      refine ⟨gp m, gl, b, _, _, _, xs ++ [h], done ++ [(b + gp m, b + m)], rfl, ?_, upd_same, ?_, hl.upd hs3, by omega, hb, by omega, by omega, tree_low hm2 ht, ?_⟩
      · exact fun a o k => by rw [upd_ne (ne_of_none k nsb)]; exact s3 _ _ (sm1 _ _ k)
      · exact (hx1.mono (fun v x (k : Nd H2 v x) => (k.same s3).upd hs3)).app (.cons (hh.upd hs3) .nil)
      · rw [sib_low hm2 (by omega)] at hd
        rw [← hd, List.append_assoc]
        rfl
    · have c1 : ¬ (e : Int) < ((b + gp m : Nat) : Int) := of_decide_eq_false (Bool.eq_false_iff.mpr c)
      have hs3 := s3 _ _ hs1
      refine ⟨_, rfl, ?_⟩
      refine ⟨_, rfl, .inl ⟨rfl, _, SqL.of hs3⟩, _, rfl, sb, _, _, rfl, rfl, hs3, szlt (by rw [hx.len]; omega), ?_⟩
      have e5 : b + gp m + (m - gp m) = b + m := by omega
      refine ⟨m - gp m, by omega, b + gp m, _, _, _, xs ++ [.ref lp], done ++ [(b, b + gp m)], rfl, ?_, upd_same, ?_, by rw [e5]; exact hh.upd hs3, by omega, by omega, by omega, by omega, tree_high hm2 ht, ?_⟩
      · exact fun a o k => by rw [upd_ne (ne_of_none k nsb)]; exact s3 _ _ (sm1 _ _ k)
      · exact (hx1.mono (fun v x (k : Nd H2 v x) => (k.same s3).upd hs3)).app (.cons (hl.upd hs3) .nil)
      · rw [sib_high hm2 (by omega)] at hd
        rw [← hd, List.append_assoc]
        rfl
end
end LT

namespace LT
/-- the nodes from (b, b + m) down, as the law lists them -/
def nodesF : Nat → Nat → Nat → List (Nat × Nat)
  | 0, _, _ => []
  | i + 1, b, m => if m ≤ 1 then [(b, b + m)] else (b, b + m) :: (nodesF i b (gp m) ++ nodesF i (b + gp m) (m - gp m))
theorem nodesF_one {i b m : Nat} (h : m ≤ 1) : nodesF (i + 1) b m = [(b, b + m)] := if_pos h
theorem nodesF_two {i b m : Nat} (h : ¬ m ≤ 1) : nodesF (i + 1) b m = (b, b + m) :: (nodesF i b (gp m) ++ nodesF i (b + gp m) (m - gp m)) := if_neg h
theorem gp_half {i m : Nat} (h : 2 ≤ m) (k : 2 * m ≤ 2 ^ (i + 1)) : 2 * gp m ≤ 2 ^ i ∧ 2 * (m - gp m) ≤ 2 ^ i := by
  have g1 := gp_lt h
  have g2 := gp_ge h
  have p := Nat.pow_succ (n := 2) (m := i)
  have : gp m < 2 ^ i := by omega
  unfold gp at this ⊢
  have e := (Nat.pow_lt_pow_iff_right (by decide : 1 < 2)).mp this
  have e2 : 2 ^ ((m - 1).log2 + 1) ≤ 2 ^ i := Nat.pow_le_pow_right (by decide) (by omega)
  rw [Nat.pow_succ] at e2
  unfold gp at g1 g2
  omega
theorem nodesF_len : ∀ (i b m : Nat), 1 ≤ m → 2 * m ≤ 2 ^ i → (nodesF i b m).length = 2 * m - 1
  | 0, b, m, h1, h2 => by simp at h2; omega
  | i + 1, b, m, h1, h2 => by
    by_cases c : m ≤ 1
    · rw [nodesF_one c]
      simp
      omega
    · rw [nodesF_two c, List.length_cons, List.length_append]
      have g1 := gp_lt (m := m) (by omega)
      have g3 := gp_pos m
      obtain ⟨k1, k2⟩ := gp_half (by omega) h2
      rw [nodesF_len i b (gp m) g3 k1, nodesF_len i (b + gp m) (m - gp m) (by omega) k2]
      omega
/-- a node of tree(n) -/
def isN (n : Nat) (x : Nat × Nat) : Prop := x.1 < x.2 ∧ x.2 ≤ n ∧ tree n x.1 (x.2 - x.1)
theorem mul_le_of_lt {R a b : Nat} (h1 : R ∣ a) (h2 : R ∣ b) (h : a < b) : a + R ≤ b := by
  obtain ⟨x, rfl⟩ := h1
  obtain ⟨y, rfl⟩ := h2
  have : x < y := Nat.lt_of_mul_lt_mul_left h
  calc R * x + R = R * (x + 1) := by rw [Nat.mul_succ]
    _ ≤ R * y := Nat.mul_le_mul_left R this
/-- a node within another one is it, or lies within one of its halves -/
theorem node_in {n b m : Nat} (h : 2 ≤ m) (t : tree n b m) (hn : b + m ≤ n) {x : Nat × Nat} (hx : isN n x) (h1 : b ≤ x.1) (h2 : x.2 ≤ b + m) : x = (b, b + m) ∨ x.2 ≤ b + gp m ∨ b + gp m ≤ x.1 := by
  obtain ⟨x1, x2⟩ := x
  obtain ⟨k1, k2, d, k3⟩ := hx
  simp only at k1 k2 d k3 h1 h2
  by_cases c1 : x2 ≤ b + gp m
  · exact .inr (.inl c1)
  by_cases c2 : b + gp m ≤ x1
  · exact .inr (.inr c2)
  left
  obtain ⟨td, tk⟩ := t
  have e := lb_gp h
  rw [e] at td tk
  have g1 := gp_lt h
  have g2 := gp_ge h
  have gR : gp m = 2 ^ Nat.log2 (m - 1) := rfl
  generalize hr : lb (x2 - x1) = r at d k3
  have ge := lb_ge (x2 - x1)
  rw [hr] at ge
  by_cases c : r ≤ Nat.log2 (m - 1)
  · -- small: a multiple of 2 ^ r below b + gp m ends there at most
    have dg : 2 ^ r ∣ gp m := by rw [gR]; exact Nat.pow_dvd_pow 2 c
    have db : 2 ^ r ∣ b := Nat.dvd_trans dg (Nat.dvd_trans (Nat.dvd_mul_left _ _) td)
    have := mul_le_of_lt d (Nat.dvd_add db dg) (by omega : x1 < b + gp m)
    omega
  · have dd : 2 * gp m ∣ 2 ^ r := by
      rw [gR, Nat.mul_comm, ← Nat.pow_succ]
      exact Nat.pow_dvd_pow 2 (by omega)
    have dx := Nat.dvd_trans dd d
    have ex : x1 = b := by
      by_cases z : b < x1
      · have := mul_le_of_lt td dx z
        omega
      · omega
    subst ex
    have le : 2 * gp m ≤ 2 ^ r := Nat.le_of_dvd (Nat.pow_pos (by decide)) dd
    have rl : r ≤ Nat.log2 (m - 1) + 1 := by
      rw [← hr]
      refine lb_le ?_
      rw [Nat.pow_succ, ← gR]
      omega
    have e2 : 2 ^ r ≤ 2 * gp m := by
      rw [gR, Nat.mul_comm, ← Nat.pow_succ]
      exact Nat.pow_le_pow_right (by decide) rl
    have : x2 = x1 + m := by
      rcases k3 with k3 | k3 <;> omega
    rw [this]
theorem mem_nodesF (n : Nat) (x : Nat × Nat) : ∀ (i b m : Nat), 1 ≤ m → 2 * m ≤ 2 ^ i → tree n b m → b + m ≤ n → (x ∈ nodesF i b m ↔ isN n x ∧ b ≤ x.1 ∧ x.2 ≤ b + m)
  | 0, b, m, h1, h2, _, _ => by simp at h2; omega
  | i + 1, b, m, h1, h2, t, hn => by
    by_cases c : m ≤ 1
    · have em : m = 1 := by omega
      subst em
      rw [nodesF_one (by omega), List.mem_singleton]
      constructor
      · rintro rfl
        exact ⟨⟨by simp, by simpa using hn, by simpa using t⟩, by simp, by simp⟩
      · rintro ⟨⟨k1, _⟩, k2, k3⟩
        have : x.1 = b ∧ x.2 = b + 1 := by omega
        exact Prod.ext this.1 this.2
    · rw [nodesF_two c, List.mem_cons, List.mem_append]
      have g1 := gp_lt (m := m) (by omega)
      have g3 := gp_pos m
      obtain ⟨k1, k2⟩ := gp_half (by omega) h2
      have e : b + gp m + (m - gp m) = b + m := by omega
      have il := mem_nodesF n x i b (gp m) g3 k1 (tree_low (by omega) t) (by omega)
      have ih := mem_nodesF n x i (b + gp m) (m - gp m) (by omega) k2 (tree_high (by omega) t) (by omega)
      rw [il, ih, e]
      constructor
      · rintro (rfl | ⟨p, q, r⟩ | ⟨p, q, r⟩)
        · exact ⟨⟨by simp; omega, by simpa using hn, by simpa using t⟩, by simp, by simp⟩
        · exact ⟨p, q, by omega⟩
        · exact ⟨p, by omega, r⟩
      · rintro ⟨p, q, r⟩
        rcases node_in (by omega) t hn p q r with z | z | z
        · exact .inl z
        · exact .inr (.inl ⟨p, q, z⟩)
        · exact .inr (.inr ⟨p, z, r⟩)
instance (n : Nat) (x : Nat × Nat) : Decidable (tree n x.1 (x.2 - x.1)) := by unfold tree; infer_instance
instance (n : Nat) (x : Nat × Nat) : Decidable (isN n x) := by unfold isN; infer_instance
end LT

namespace LT
open PySem PySem.Spec PyProof.Rows L2
def tnV (n : Nat) : V → V → Bool
  | .int b, .int e => decide (0 ≤ b ∧ isN n (b.toNat, e.toNat))
  | _, _ => false
theorem tn_out {n : Nat} {b e : Int} (h : ¬ (0 ≤ b ∧ b < e ∧ e ≤ n)) : tnV n (.int b) (.int e) = false := by
  refine decide_eq_false (fun ⟨h0, k⟩ => h ⟨h0, ?_, ?_⟩)
  · have := k.1
    simp only at this
    omega
  · have := k.1
    have := k.2.1
    simp only at *
    omega
/-- what may be asked whether it is a node -/
inductive Ask (K : PySem.W.Frag) (H : Hp) (n : Nat) : V → Bool → Prop
  | kind {v : V} {t : String} : Pl K H v t → t ≠ "tuple" → Ask K H n v false
  | long {p : Addr} {xs : List V} : H p = some (.tup xs) → xs.length ≠ 2 → xs.length ≤ 1000 → Ask K H n (.ref p) false
  | pair {p : Addr} {v1 v2 : V} {t1 t2 : String} : H p = some (.tup [v1, v2]) → Pl K H v1 t1 → Pl K H v2 t2 → Ask K H n (.ref p) (tnV n v1 v2)
theorem kit_tup {t : String} {K : PySem.W.Frag} {H : Hp} {v : V} (h : Pl K H v t) (hn : t ≠ "tuple") : PySem.W.kitOne K (.type t) (.type "tuple") = some false := by
  cases h with
  | non => exact kit_ty (by decide +kernel)
  | bl _ => exact kit_ty (by decide +kernel)
  | int _ => exact kit_ty (by decide +kernel)
  | str _ => exact kit_ty (by decide +kernel)
  | lst _ => exact kit_ty (by decide +kernel)
  | tup _ => exact absurd rfl hn
  | dict _ => exact kit_ty (by decide +kernel)
section
variable {P : Program} {w : World} {K : PySem.W.Frag} {mg : Str → Option Value} {base : Heap}
def spTreeV (K : PySem.W.Frag) : Sp := fun vs H Q _ => ∃ (n : Nat) (v : V) (r : Bool), vs = [.int n, v] ∧ 1 ≤ n ∧ n ≤ 2 ^ 100 ∧ Ask K H n v r ∧ Q (.bl r) H
theorem ok_is_tree_nodeV {f g : Addr} {fd gd : FuncData} (F : Fun K "is_tree_node" "is_tree_node" sIsTreeNode f fd) (GIsBetween : FnOk P w K mg base CX0 2 g gd ["value", "low", "high"] (spBetweenV K)) (AIsBetween : At K mg "is_between" g gd ["value", "low", "high"])
    (z_isinstance : mg "isinstance" = none) (z_tuple : mg "tuple" = none) (z_len : mg "len" = none) : FnOk P w K mg base CX0 3 f fd ["size", "value"] (spTreeV K) := by
  refine F.ok scIsTreeNode (fun vs H Q E h => ?_) (fun cdv A outer s H vs Q E hr h => ?_)
  · obtain ⟨_, _, _, rfl, _⟩ := h
    rfl
  obtain ⟨n, v, r, rfl, n1, h30, ask, q⟩ := h
  refine ⟨_, (pss_cons (ps_if (PW.pt (pw_or (pt_not (pt_val (pe_callB call_isi (by rfl) z_isinstance (by decide +kernel) (pa_cons (pv 1) (pa_cons (pe_bltn (v := .ty "tuple") (u := .type "tuple") (by rfl) z_tuple (by decide +kernel) rfl) pa_nil))))) (pw_or1 (pt_cmpR op_ne (pe_callB call_len_seq (by rfl) z_len PySem.boot_len (pa_cons (pv 1) pa_nil)) pe_int (nomark _)))))
    (pss_one (ps_ret pe_bl))
    pss_nil)
    (pss_cons (ps_asg (pv 1) (pg_tup (by rfl) (pgs_cons (pg_name (i := 2) scIsTreeNode.nd rfl (Or.inl rfl)) (pgs_cons (pg_name (i := 3) scIsTreeNode.nd rfl (Or.inl rfl)) pgs_nil))))
    (pss_cons (ps_if (PW.pt (pw_or (pt_not (pt_val (pe_call GIsBetween (hr.mono (by decide)) rfl AIsBetween.m AIsBetween.kp AIsBetween.b .nil pass0 (pa_cons (pv 2) (pa_cons pe_int (pa_cons (pe_op op_sub (pv 0) pe_int) pa_nil)))))) (pw_or1 (pt_not (pt_val (pe_call GIsBetween (hr.mono (by decide)) rfl AIsBetween.m AIsBetween.kp AIsBetween.b .nil pass0 (pa_cons (pv 3) (pa_cons (pe_op op_add (pv 2) pe_int) (pa_cons (pv 0) pa_nil)))))))))
    (pss_one (ps_ret pe_bl))
    pss_nil)
    (pss_cons (ps_set (i := 4) scIsTreeNode.nd rfl (Or.inl rfl) (pe_op op_shl pe_int (pe_bits (pe_op op_sub (pe_op op_sub (pv 3) (pv 2)) pe_int))))
    (pss_one (ps_ret (pe_and (pe_cmpR op_eq (pe_op op_modN (pv 2) (pv 4)) pe_int (nomark _)) (pe_one (pe_or (pe_cmpR op_eq (pe_op op_sub (pv 3) (pv 2)) (pv 4) (nomark _)) (pe_one (pe_cmpR op_eq (pv 3) (pv 0) (nomark _)))))))))))), ?_⟩
  cases ask with
  | @kind _ t hv ht => exact ⟨_, rfl, _, _, _, _, false, rfl, .ty "tuple", hv.ty, kit_tup hv ht, false, rfl, q⟩
  | @long p xs hp hl h1000 =>
    refine ⟨_, rfl, _, _, _, _, true, rfl, .ty "tuple", .base (.tup hp), kit_ty (by decide +kernel), true, rfl, ?_⟩
    refine ⟨_, rfl, p, _, rfl, .inr (SqT.of hp), rfl, true, ?_, q⟩
    refine congrArg V.bl ?_
    rw [Bool.not_eq_true']
    exact decide_eq_false (fun z => hl (by have := V.int.inj z; omega))
  | @pair p v1 v2 ty1 ty2 hp p1 p2 =>
    refine ⟨_, rfl, _, _, _, _, true, rfl, .ty "tuple", .base (.tup hp), kit_ty (by decide +kernel), true, rfl, ?_⟩
    refine ⟨_, rfl, p, _, rfl, .inr (SqT.of hp), rfl, false, rfl, ?_⟩
    refine ⟨_, rfl, p, _, rfl, SqT.of hp, rfl, _, _, rfl, _, _, rfl, rfl, ?_⟩
    refine ⟨_, rfl, _, rfl, _, _, rfl, rfl, v1, ty1, _, _, rfl, p1, inRange 0 ((n : Int) - 1) v1, rfl, ?_⟩
    cases h1 : inRange 0 ((n : Int) - 1) v1 with
    | false =>
      have e : tnV n v1 v2 = false := by
        cases v1 with
        | int b =>
          cases v2 with
          | int e =>
            refine tn_out (fun k => ?_)
            have h1' : (decide (0 ≤ b) && decide (b ≤ (n : Int) - 1)) = false := h1
            rw [decide_eq_true k.1, decide_eq_true (show b ≤ (n : Int) - 1 by omega)] at h1'
            exact absurd h1' (by decide)
          | _ => rfl
        | _ => rfl
      rw [e] at q
      exact q
    | true =>
      cases p1 with
      | int b =>
        have h1' : (decide (0 ≤ b) && decide (b ≤ (n : Int) - 1)) = true := h1
        rw [Bool.and_eq_true] at h1'
        have b0 := of_decide_eq_true h1'.1
        have b1 := of_decide_eq_true h1'.2
        refine ⟨_, rfl, _, rfl, _, _, rfl, rfl, _, rfl, v2, ty2, _, _, rfl, p2, inRange (b + 1) (n : Int) v2, rfl, ?_⟩
        cases h2 : inRange (b + 1) (n : Int) v2 with
        | false =>
          have e : tnV n (.int b) v2 = false := by
            cases v2 with
            | int e =>
              refine tn_out (fun k => ?_)
              have h2' : (decide (b + 1 ≤ e) && decide (e ≤ (n : Int))) = false := h2
              rw [decide_eq_true (show b + 1 ≤ e by omega), decide_eq_true k.2.2] at h2'
              exact absurd h2' (by decide)
            | _ => rfl
          rw [e] at q
          exact q
        | true =>
          cases p2 with
          | int e =>
            have h2' : (decide (b + 1 ≤ e) && decide (e ≤ (n : Int))) = true := h2
            rw [Bool.and_eq_true] at h2'
            have e0 := of_decide_eq_true h2'.1
            have e1 := of_decide_eq_true h2'.2
            obtain ⟨bn, rfl⟩ := Int.eq_ofNat_of_zero_le b0
            obtain ⟨en, rfl⟩ := Int.eq_ofNat_of_zero_le (show 0 ≤ e by omega)
            have hlt : bn < en := by omega
            have ev : tnV n (.int (bn : Int)) (.int (en : Int)) = decide (isN n (bn, en)) := by
              show decide (0 ≤ (bn : Int) ∧ isN n ((bn : Int).toNat, (en : Int).toNat)) = decide (isN n (bn, en))
              rw [Int.toNat_natCast, Int.toNat_natCast]
              by_cases k : isN n (bn, en)
              · rw [decide_eq_true k, decide_eq_true ⟨b0, k⟩]
              · rw [decide_eq_false k, decide_eq_false (fun z => k z.2)]
            rw [ev] at q
            have em : (en : Int) - (bn : Int) - 1 = ((en - bn - 1 : Nat) : Int) := by omega
            refine ⟨_, rfl, _, rfl, _, _, rfl, rfl, _, _, rfl, rfl, _, rfl, ?_⟩
            dsimp only
            rw [em, bits_lb (show 1 ≤ en - bn by omega)]
            have l100 := lb_le (show en - bn ≤ 2 ^ 100 by omega)
            refine ⟨_, _, rfl, rfl, ⟨Int.natCast_nonneg _, by omega, by decide⟩, ?_⟩
            have e2 : (1 : Int) * 2 ^ ((lb (en - bn) : Nat) : Int).toNat = ((2 ^ lb (en - bn) : Nat) : Int) := by rw [Int.one_mul, Int.toNat_natCast]; exact (Int.natCast_pow 2 _).symm
            dsimp only
            rw [e2]
            have pz : 0 < 2 ^ lb (en - bn) := Nat.pow_pos (by decide)
            have isE : isN n (bn, en) ↔ (bn % 2 ^ lb (en - bn) = 0 ∧ (en - bn = 2 ^ lb (en - bn) ∨ en = n)) := by
              unfold isN tree
              simp only
              constructor
              · rintro ⟨_, _, k1, k2⟩
                exact ⟨Nat.mod_eq_zero_of_dvd k1, k2.elim .inl (fun z => .inr (by omega))⟩
              · rintro ⟨k1, k2⟩
                exact ⟨hlt, by omega, Nat.dvd_of_mod_eq_zero k1, k2.elim .inl (fun z => .inr (by omega))⟩
            generalize 2 ^ lb (en - bn) = R at pz isE
            have fm : Int.fmod (bn : Int) (R : Int) = ((bn % R : Nat) : Int) := by
              rw [Int.fmod_eq_emod_of_nonneg _ (Int.natCast_nonneg _)]
              exact (Int.natCast_emod _ _).symm
            refine ⟨_, rfl, _, rfl, _, _, rfl, rfl, by omega, rfl, decide (bn % R = 0), ?_, ?_⟩
            · show V.bl (decide (V.int (Int.fmod (bn : Int) (R : Int)) = V.int 0)) = V.bl (decide (bn % R = 0))
              rw [fm]
              refine congrArg V.bl ?_
              by_cases k : bn % R = 0
              · rw [decide_eq_true k, k]; rfl
              · rw [decide_eq_false k]
                exact decide_eq_false (fun z => k (by have := V.int.inj z; omega))
            by_cases k : bn % R = 0
            · rw [decide_eq_true k]
              refine iteT ?_
              refine ⟨_, rfl, _, rfl, _, _, rfl, rfl, _, rfl, rfl, _, rfl, ite2 (fun c => ?_) (fun c => ?_)⟩
              · have c1 : V.int ((en : Int) - (bn : Int)) = V.int (R : Int) := of_decide_eq_true c
                have c2 := V.int.inj c1
                rw [decide_eq_true (isE.mpr ⟨k, .inl (by omega)⟩)] at q
                exact q
              · have c1 : ¬ V.int ((en : Int) - (bn : Int)) = V.int (R : Int) := of_decide_eq_false (Bool.eq_false_iff.mpr c)
                refine ⟨_, rfl, _, rfl, rfl, ?_⟩
                have ed : decide (V.int (en : Int) = V.int (n : Int)) = decide (isN n (bn, en)) := by
                  by_cases z : en = n
                  · rw [decide_eq_true (isE.mpr ⟨k, .inr z⟩), decide_eq_true (by rw [z])]
                  · rw [decide_eq_false (fun y => z (by have := V.int.inj y; omega)), decide_eq_false (fun y => (isE.mp y).2.elim (fun u => c1 (congrArg V.int (by omega))) z)]
                show Q (.bl (decide (V.int (en : Int) = V.int (n : Int)))) H
                rw [ed]
                exact q
            · rw [decide_eq_false k]
              refine iteF ?_
              rw [decide_eq_false (fun z => k (isE.mp z).1)] at q
              exact q
          | _ => exact absurd h2 (by intro z; cases z)
      | _ => exact absurd h1 (by intro z; cases z)
end
end LT

namespace LT
/-! ### the greatest nodes within a stretch -/
theorem and_pred_odd (c : Nat) : (2 * c + 1) &&& (2 * c) = 2 * c := by
  apply Nat.eq_of_testBit_eq
  intro i
  rw [Nat.testBit_and]
  cases i with
  | zero => simp
  | succ i =>
    rw [Nat.testBit_succ, Nat.testBit_succ, show (2 * c + 1) / 2 = c by omega, show 2 * c / 2 = c by omega, Bool.and_self]
theorem and_pred_even (c : Nat) (h : 0 < c) : (2 * c) &&& (2 * c - 1) = 2 * (c &&& (c - 1)) := by
  apply Nat.eq_of_testBit_eq
  intro i
  rw [Nat.testBit_and]
  cases i with
  | zero => simp
  | succ i =>
    rw [Nat.testBit_succ, Nat.testBit_succ, Nat.testBit_succ, show 2 * c / 2 = c by omega, show (2 * c - 1) / 2 = c - 1 by omega, show 2 * (c &&& (c - 1)) / 2 = c &&& (c - 1) by omega, Nat.testBit_and]
def low (b : Nat) : Nat := b - (b &&& (b - 1))
theorem low_is : ∀ b : Nat, 0 < b → ∃ k, low b = 2 ^ k ∧ 2 ^ k ∣ b ∧ ¬ 2 ^ (k + 1) ∣ b := by
  intro b
  induction b using Nat.strongRecOn with
  | ind b ih =>
    intro hb
    rcases Nat.mod_two_eq_zero_or_one b with h | h
    · obtain ⟨c, rfl⟩ : ∃ c, b = 2 * c := ⟨b / 2, by omega⟩
      obtain ⟨k, e, d1, d2⟩ := ih c (by omega) (by omega)
      refine ⟨k + 1, ?_, ?_, ?_⟩
      · unfold low at e ⊢
        rw [and_pred_even c (by omega), Nat.pow_succ]
        omega
      · rw [Nat.pow_succ, Nat.mul_comm]
        exact Nat.mul_dvd_mul_left 2 d1
      · rw [Nat.pow_succ, Nat.mul_comm (2 ^ (k + 1)) 2]
        exact fun z => d2 (Nat.dvd_of_mul_dvd_mul_left (by decide) z)
    · obtain ⟨c, rfl⟩ : ∃ c, b = 2 * c + 1 := ⟨b / 2, by omega⟩
      refine ⟨0, ?_, Nat.one_dvd _, ?_⟩
      · unfold low
        rw [show 2 * c + 1 - 1 = 2 * c by omega, and_pred_odd]
        omega
      · intro z
        have := Nat.mod_eq_zero_of_dvd z
        omega
/-- the room of the greatest full node that begins at b, up to e -/
def rm (b e : Nat) : Nat := if b = 0 then 2 ^ (e - b).log2 else min (2 ^ (e - b).log2) (low b)
theorem rm_is {b e : Nat} (h : b < e) : ∃ k, rm b e = 2 ^ k ∧ 2 ^ k ∣ b ∧ b + 2 ^ k ≤ e ∧ (2 ^ (k + 1) ∣ b → e < b + 2 ^ (k + 1)) := by
  have l1 := Nat.log2_self_le (n := e - b) (by omega)
  have l2 := Nat.lt_log2_self (n := e - b)
  unfold rm
  by_cases c : b = 0
  · subst c
    rw [if_pos rfl]
    exact ⟨_, rfl, Nat.dvd_zero _, by omega, fun _ => by omega⟩
  · rw [if_neg c]
    obtain ⟨k, e1, d1, d2⟩ := low_is b (by omega)
    rw [e1]
    by_cases c2 : (e - b).log2 ≤ k
    · have := Nat.pow_le_pow_right (n := 2) (by decide) c2
      rw [Nat.min_eq_left this]
      exact ⟨_, rfl, Nat.dvd_trans (Nat.pow_dvd_pow 2 c2) d1, by omega, fun _ => by omega⟩
    · have := Nat.pow_le_pow_right (n := 2) (by decide) (show k ≤ (e - b).log2 by omega)
      rw [Nat.min_eq_right this]
      exact ⟨k, rfl, d1, by omega, fun z => absurd z d2⟩
def rw1 (n b e : Nat) : Nat := if isN n (b, e) then e - b else rm b e
def nwF (n : Nat) : Nat → Nat → Nat → List (Nat × Nat)
  | 0, _, _ => []
  | f + 1, b, e => if b < e then (b, b + rw1 n b e) :: nwF n f (b + rw1 n b e) e else []
def nw (n b e : Nat) : List (Nat × Nat) := nwF n (e - b) b e
theorem rw1_pos {n b e : Nat} (h : b < e) : 0 < rw1 n b e ∧ b + rw1 n b e ≤ e := by
  unfold rw1
  split
  · omega
  · obtain ⟨k, e1, _, e2, _⟩ := rm_is h
    have := Nat.pow_pos (a := 2) (n := k) (by decide)
    omega
theorem nwF_eq (n e : Nat) : ∀ (f g b : Nat), e - b ≤ f → e - b ≤ g → nwF n f b e = nwF n g b e
  | 0, 0, _, _, _ => rfl
  | 0, g + 1, b, h, _ => by
    show [] = if b < e then _ else _
    rw [if_neg (by omega)]
  | f + 1, 0, b, _, h => by
    show (if b < e then _ else _) = []
    rw [if_neg (by omega)]
  | f + 1, g + 1, b, h1, h2 => by
    show (if b < e then _ else _) = if b < e then _ else _
    by_cases c : b < e
    · have := rw1_pos (n := n) c
      rw [if_pos c, if_pos c, nwF_eq n e f g (b + rw1 n b e) (by omega) (by omega)]
    · rw [if_neg c, if_neg c]
theorem nw_nil {n b e : Nat} (h : e ≤ b) : nw n b e = [] := by
  unfold nw
  rw [show e - b = 0 by omega]
  rfl
theorem nw_step {n b e : Nat} (h : b < e) : nw n b e = (b, b + rw1 n b e) :: nw n (b + rw1 n b e) e := by
  have p := rw1_pos (n := n) h
  unfold nw
  rw [show e - b = (e - b - 1) + 1 by omega]
  show (if b < e then _ else _) = _
  rw [if_pos h, nwF_eq n e (e - b - 1) (e - (b + rw1 n b e)) (b + rw1 n b e) (by omega) (by omega)]
/-- induction over the nodes within -/
theorem nw_ind {n e : Nat} {p : Nat → Prop} (h0 : ∀ b, e ≤ b → p b) (h1 : ∀ b, b < e → p (b + rw1 n b e) → p b) (b : Nat) : p b := by
  have : ∀ (f b : Nat), e - b ≤ f → p b := by
    intro f
    induction f with
    | zero => exact fun b h => h0 b (by omega)
    | succ f ih =>
      intro b h
      by_cases c : b < e
      · have := rw1_pos (n := n) c
        exact h1 b c (ih _ (by omega))
      · exact h0 b (by omega)
  exact this _ b (Nat.le_refl _)
theorem nw_len2 {n e : Nat} : ∀ (L b : Nat), 2 ^ L ∣ b → e < b + 2 ^ L → (nw n b e).length ≤ L
  | 0, b, _, h => by rw [nw_nil (by simp at h; omega)]; exact Nat.zero_le _
  | L + 1, b, d, h => by
    have d' : 2 ^ L ∣ b := Nat.dvd_trans (Nat.pow_dvd_pow 2 (Nat.le_succ L)) d
    by_cases c : b < e
    · by_cases c2 : e < b + 2 ^ L
      · have := nw_len2 (n := n) (e := e) L b d' c2
        omega
      · rw [nw_step c, List.length_cons]
        unfold rw1
        split
        · rw [nw_nil (by omega)]
          simp
        · obtain ⟨k, e1, e2, e3, e4⟩ := rm_is c
          rw [e1]
          have kL : k = L := by
            by_cases z : k < L
            · have := e4 (Nat.dvd_trans (Nat.pow_dvd_pow 2 z) d')
              have := Nat.pow_le_pow_right (n := 2) (by decide) (show k + 1 ≤ L from z)
              omega
            · have : 2 ^ k < 2 ^ (L + 1) := by omega
              have := (Nat.pow_lt_pow_iff_right (by decide : 1 < 2)).mp this
              omega
          subst kL
          have := nw_len2 (n := n) (e := e) k (b + 2 ^ k) (Nat.dvd_add e2 (Nat.dvd_refl _)) (by rw [Nat.pow_succ] at h; omega)
          omega
    · rw [nw_nil (by omega)]
      exact Nat.zero_le _
theorem nw_len1 {n e L : Nat} : ∀ (t j b : Nat), j + t = L → 2 ^ j ∣ b → e < b + 2 ^ L → (nw n b e).length ≤ L + t
  | 0, j, b, hj, d, h => by
    have : j = L := by omega
    subst this
    exact nw_len2 j b d h
  | t + 1, j, b, hj, d, h => by
    by_cases c : b < e
    · by_cases d1 : 2 ^ (j + 1) ∣ b
      · have := nw_len1 (n := n) (e := e) (L := L) t (j + 1) b (by omega) d1 h
        omega
      · rw [nw_step c, List.length_cons]
        unfold rw1
        split
        · rw [nw_nil (by omega)]
          simp
          omega
        · obtain ⟨k, e1, e2, e3, e4⟩ := rm_is c
          rw [e1]
          by_cases z : k < j
          · have e5 := e4 (Nat.dvd_trans (Nat.pow_dvd_pow 2 z) d)
            have := nw_len2 (n := n) (e := e) k (b + 2 ^ k) (Nat.dvd_add e2 (Nat.dvd_refl _)) (by rw [Nat.pow_succ] at e5; omega)
            omega
          · have kj : k = j := by
              by_cases y : j < k
              · exact absurd (Nat.dvd_trans (Nat.pow_dvd_pow 2 y) e2) d1
              · omega
            subst kj
            have d2 : 2 ^ (k + 1) ∣ b + 2 ^ k := by
              obtain ⟨x, rfl⟩ := d
              rcases Nat.mod_two_eq_zero_or_one x with y | y
              · exact absurd (by rw [Nat.pow_succ]; exact Nat.mul_dvd_mul_left _ (Nat.dvd_of_mod_eq_zero y)) d1
              · refine ⟨x / 2 + 1, ?_⟩
                have : x = 2 * (x / 2) + 1 := by omega
                rw [Nat.pow_succ]
                generalize x / 2 = u at this
                subst this
                rw [Nat.mul_add, Nat.mul_add, Nat.mul_assoc (2 ^ k) 2 u]
                omega
            have p := Nat.pow_pos (a := 2) (n := k) (by decide)
            have := nw_len1 (n := n) (e := e) (L := L) t (k + 1) (b + 2 ^ k) (by omega) d2 (by omega)
            omega
    · rw [nw_nil (by omega)]
      exact Nat.zero_le _
theorem nw_len {n b e : Nat} (h : e ≤ 2 ^ 100) : (nw n b e).length ≤ 202 := by
  have := nw_len1 (n := n) (e := e) (L := 101) 101 0 b (by decide) (by simp) (by rw [Nat.pow_succ]; omega)
  omega
/-- nodes are nested or apart -/
theorem lam {n b m B M : Nat} (t : tree n b m) (hm : 1 ≤ m) (T : tree n B M) (hn : b + m ≤ n) (HN : B + M ≤ n) (h1 : b < B) (h2 : B < b + m) : B + M ≤ b + m := by
  obtain ⟨d, k⟩ := t
  obtain ⟨D, _⟩ := T
  have ge := lb_ge m
  have gE := lb_ge M
  by_cases c : lb m ≤ lb M
  · have := mul_le_of_lt d (Nat.dvd_trans (Nat.pow_dvd_pow 2 c) D) h1
    omega
  · have c1 : lb M ≤ lb m := by omega
    have := mul_le_of_lt D (Nat.dvd_add (Nat.dvd_trans (Nat.pow_dvd_pow 2 c1) d) (Nat.pow_dvd_pow 2 c1)) (show B < b + 2 ^ lb m by omega)
    rcases k with k | k
    · omega
    · omega
theorem isN_tree {n b e : Nat} (h : isN n (b, e)) : b < e ∧ e ≤ n ∧ tree n b (e - b) := h
theorem isN_of {n b m : Nat} (h1 : 1 ≤ m) (h2 : b + m ≤ n) (t : tree n b m) : isN n (b, b + m) := ⟨by show b < b + m; omega, h2, by show tree n b (b + m - b); rw [Nat.add_sub_cancel_left]; exact t⟩
theorem full_isN {n b k : Nat} (h2 : b + 2 ^ k ≤ n) (d : 2 ^ k ∣ b) : isN n (b, b + 2 ^ k) := isN_of (Nat.pow_pos (by decide)) h2 ⟨by rw [lb_pow]; exact d, .inl (by rw [lb_pow])⟩
theorem rw1_isN {n b e : Nat} (h : b < e) (hn : e ≤ n) : isN n (b, b + rw1 n b e) := by
  unfold rw1
  split
  · rename_i c
    rw [show b + (e - b) = e by omega]
    exact c
  · obtain ⟨k, e1, e2, e3, _⟩ := rm_is h
    rw [e1]
    exact full_isN (by omega) e2
/-- the first node is the greatest one that begins there -/
theorem rw1_max {n b e y : Nat} (hn : e ≤ n) (hy : isN n (b, y)) (h : y ≤ e) : y ≤ b + rw1 n b e := by
  have hb : b < y := hy.1
  unfold rw1
  split
  · omega
  · rename_i c
    obtain ⟨k, e1, e2, e3, e4⟩ := rm_is (show b < e by omega)
    rw [e1]
    obtain ⟨_, y1, d, t⟩ := isN_tree hy
    rcases t with t | t
    · by_cases z : k < lb (y - b)
      · have := e4 (Nat.dvd_trans (Nat.pow_dvd_pow 2 z) d)
        have := Nat.pow_le_pow_right (n := 2) (by decide) (show k + 1 ≤ lb (y - b) from z)
        omega
      · have := Nat.pow_le_pow_right (n := 2) (by decide) (show lb (y - b) ≤ k by omega)
        omega
    · have : y = e := by omega
      subst this
      exact absurd hy c
/-- a list of nodes one behind the other -/
def Ch (n : Nat) : Nat → Nat → List (Nat × Nat) → Prop
  | lo, hi, [] => lo = hi
  | lo, hi, x :: l => x.1 = lo ∧ isN n x ∧ x.2 ≤ hi ∧ Ch n x.2 hi l
theorem nw_ch {n e : Nat} (hn : e ≤ n) (b : Nat) : b ≤ e → Ch n b e (nw n b e) := by
  refine nw_ind (n := n) (e := e) (p := fun b => b ≤ e → Ch n b e (nw n b e)) (fun b h h2 => ?_) (fun b h ih _ => ?_) b
  · rw [nw_nil h]
    exact Nat.le_antisymm h2 h
  · rw [nw_step h]
    have := rw1_pos (n := n) h
    exact ⟨rfl, rw1_isN h hn, this.2, ih this.2⟩
/-- nothing greater in the stretch has one of them -/
def Mx (n lo hi : Nat) (l : List (Nat × Nat)) : Prop := ∀ x ∈ l, ∀ p, isN n p → lo ≤ p.1 → p.2 ≤ hi → p.1 ≤ x.1 → x.2 ≤ p.2 → p = x
theorem nw_mx {n lo e : Nat} (hn : e ≤ n) (b : Nat) : b ≤ e → lo ≤ b → (∀ p, isN n p → lo ≤ p.1 → p.2 ≤ e → p.1 < b → p.2 ≤ b) → Mx n lo e (nw n b e) := by
  refine nw_ind (n := n) (e := e) (p := fun b => b ≤ e → lo ≤ b → (∀ p, isN n p → lo ≤ p.1 → p.2 ≤ e → p.1 < b → p.2 ≤ b) → Mx n lo e (nw n b e)) (fun b h h2 _ _ => ?_) (fun b h ih h1 h2 h3 => ?_) b
  · rw [nw_nil h]
    exact fun x hx => by cases hx
  · have w := rw1_pos (n := n) h
    have wN := rw1_isN h hn
    have wM : ∀ p, isN n p → lo ≤ p.1 → p.2 ≤ e → p.1 = b → p.2 ≤ b + rw1 n b e := by
      rintro ⟨p1, p2⟩ k1 k2 k3 rfl
      exact rw1_max hn k1 k3
    rw [nw_step h]
    intro x hx
    rcases List.mem_cons.mp hx with rfl | hx
    · rintro ⟨p1, p2⟩ k1 k2 k3 k4 k5
      simp only at k2 k3 k4 k5
      by_cases c : p1 < b
      · have := h3 _ k1 k2 k3 c
        simp only at this
        omega
      · have : p1 = b := by omega
        subst this
        have := wM _ k1 k2 k3 rfl
        simp only at this
        exact Prod.ext rfl (by show p2 = _; omega)
    · refine ih w.2 (by omega) ?_ x hx
      rintro ⟨p1, p2⟩ k1 k2 k3 k4
      simp only at k2 k3 k4 ⊢
      by_cases c : p1 < b
      · have := h3 _ k1 k2 k3 c
        simp only at this
        omega
      · by_cases c2 : p1 = b
        · subst c2
          exact wM _ k1 k2 k3 rfl
        · obtain ⟨q1, q2, q3⟩ := isN_tree k1
          obtain ⟨u1, u2, u3⟩ := isN_tree wN
          have := lam (n := n) (b := b) (m := b + rw1 n b e - b) (B := p1) (M := p2 - p1) u3 (by omega) q3 (by omega) (by omega) (by omega) (by omega)
          omega
theorem nw_max {n b e : Nat} (hn : e ≤ n) (h : b ≤ e) : Mx n b e (nw n b e) := nw_mx hn b h (Nat.le_refl _) (fun p _ k1 _ k3 => by omega)
theorem Ch.mem {n : Nat} : ∀ {lo hi : Nat} {l : List (Nat × Nat)}, Ch n lo hi l → ∀ x ∈ l, isN n x ∧ lo ≤ x.1 ∧ x.2 ≤ hi
  | lo, hi, y :: l, ⟨h1, h2, h3, h4⟩, x, hx => by
    have k := h2.1
    rcases List.mem_cons.mp hx with rfl | hx
    · exact ⟨h2, by omega, h3⟩
    · obtain ⟨k1, k2, k3⟩ := Ch.mem h4 x hx
      exact ⟨k1, by omega, k3⟩
theorem Ch.le {n : Nat} : ∀ {lo hi : Nat} {l : List (Nat × Nat)}, Ch n lo hi l → lo ≤ hi
  | _, _, [], h => Nat.le_of_eq h
  | lo, hi, y :: l, ⟨h1, h2, h3, h4⟩ => by
    have k := h2.1
    omega
theorem Ch.app {n : Nat} : ∀ {lo mid hi : Nat} {l r : List (Nat × Nat)}, Ch n lo mid l → Ch n mid hi r → Ch n lo hi (l ++ r)
  | _, _, _, [], _, h, k => by
    have h : _ = _ := h
    subst h
    exact k
  | _, _, _, x :: l, r, ⟨h1, h2, h3, h4⟩, k => ⟨h1, h2, Nat.le_trans h3 k.le, Ch.app h4 k⟩
/-- each entry between is in one of them -/
theorem Ch.at {n : Nat} : ∀ {lo hi : Nat} {l : List (Nat × Nat)}, Ch n lo hi l → ∀ i, lo ≤ i → i < hi → ∃ x ∈ l, x.1 ≤ i ∧ i < x.2
  | lo, hi, [], h, i, h1, h2 => by
    have h : lo = hi := h
    omega
  | lo, hi, y :: l, ⟨h1, h2, h3, h4⟩, i, k1, k2 => by
    by_cases c : i < y.2
    · exact ⟨y, List.mem_cons_self, by omega, c⟩
    · obtain ⟨x, hx, r⟩ := Ch.at h4 i (by omega) k2
      exact ⟨x, List.mem_cons_of_mem _ hx, r⟩
theorem Ch.sum {n : Nat} : ∀ {lo hi : Nat} {l : List (Nat × Nat)}, Ch n lo hi l → (l.map fun x => x.2 - x.1).sum = hi - lo
  | lo, hi, [], h => by
    have h : lo = hi := h
    simp; omega
  | lo, hi, y :: l, ⟨h1, h2, h3, h4⟩ => by
    have := Ch.sum h4
    have k := h2.1
    have := h4.le
    rw [List.map_cons, List.sum_cons]
    omega
/-- any node within the stretch lies in one of them -/
theorem nw_in {n b e : Nat} (hn : e ≤ n) (h : b ≤ e) {p : Nat × Nat} (hp : isN n p) (h1 : b ≤ p.1) (h2 : p.2 ≤ e) : ∃ x ∈ nw n b e, x.1 ≤ p.1 ∧ p.2 ≤ x.2 := by
  have k := hp.1
  obtain ⟨x, hx, a1, a2⟩ := (nw_ch hn b h).at p.1 h1 (by omega)
  refine ⟨x, hx, a1, ?_⟩
  obtain ⟨x1, x2, x3⟩ := (nw_ch hn b h).mem x hx
  have kx := x1.1
  have kn := x1.2.1
  have pn := hp.2.1
  by_cases c : x.1 < p.1
  · have := lam (n := n) (b := x.1) (m := x.2 - x.1) (B := p.1) (M := p.2 - p.1) x1.2.2 (by omega) hp.2.2 (by omega) (by omega) c (by omega)
    omega
  · by_cases c2 : p.2 ≤ x.2
    · exact c2
    · have := nw_max hn h x hx p hp h1 h2 (by omega) (by omega)
      rw [this]
      exact Nat.le_refl _
/-- a list of nodes one behind the other, none within a greater one of the stretch, is that of the greatest ones -/
theorem nw_unique {n hi lo0 : Nat} (hn : hi ≤ n) : ∀ (l r : List (Nat × Nat)) (lo : Nat), lo0 ≤ lo → Ch n lo hi l → Ch n lo hi r → Mx n lo0 hi l → Mx n lo0 hi r → l = r
  | [], [], _, _, _, _, _, _ => rfl
  | [], y :: r, lo, _, h1, ⟨k1, k2, k3, k4⟩, _, _ => by
    have h1 : lo = hi := h1
    have := k2.1
    omega
  | x :: l, [], lo, _, ⟨k1, k2, k3, k4⟩, h1, _, _ => by
    have h1 : lo = hi := h1
    have := k2.1
    omega
  | x :: l, y :: r, lo, h0, ⟨k1, k2, k3, k4⟩, ⟨j1, j2, j3, j4⟩, m1, m2 => by
    have e : x = y := by
      by_cases c : x.2 ≤ y.2
      · exact (m1 x List.mem_cons_self y j2 (by omega) j3 (by omega) c).symm
      · exact m2 y List.mem_cons_self x k2 (by omega) k3 (by omega) (by omega)
    subst e
    have := k2.1
    rw [nw_unique hn l r x.2 (by omega) k4 j4 (fun z hz => m1 z (List.mem_cons_of_mem _ hz)) (fun z hz => m2 z (List.mem_cons_of_mem _ hz))]
end LT

namespace LT
open PySem PySem.Spec PyProof.Rows L2
theorem bitAnd_low (b : Nat) (h : 0 < b) : Builtin.bitAnd (b : Int) (-(b : Int)) = ((low b : Nat) : Int) := by
  rw [bitAnd_pn (Int.natCast_nonneg b) (by omega)]
  have e : (Builtin.bitNot (-(b : Int))).toNat = b - 1 := by
    show (-(-(b : Int)) - 1).toNat = b - 1
    omega
  rw [e, Int.toNat_natCast]
  have : b &&& (b - 1) ≤ b := Nat.and_le_left
  unfold low
  omega
section
variable {P : Program} {w : World} {K : PySem.W.Frag} {mg : Str → Option Value} {base : Heap}
def spFirstFull : Sp := fun vs H Q _ => ∃ (b e : Nat), vs = [.int b, .int e] ∧ b < e ∧ e ≤ 10 ^ 30 ∧ ∀ (H' : Hp) (p : Addr), Same H H' → H p = none → H' p = some (.tup [.int b, .int ((b + rm b e : Nat) : Int)]) → Q (.ref p) H'
theorem ok_first_full {f g1 : Addr} {fd d1 : FuncData} (F : Fun K "_first_full" "_first_full" sFirstFull f fd) (GPowerWithin : FnOk P w K mg base CX0 1 g1 d1 ["number"] spPower) (APowerWithin : At K mg "power_within" g1 d1 ["number"]) (z_min : mg "min" = none) :
    FnOk P w K mg base CX0 2 f fd ["begin", "end"] spFirstFull := by
  refine F.ok scFirstFull (fun vs H Q E h => ?_) (fun cdv A outer s H vs Q E hr h => ?_)
  · obtain ⟨_, _, rfl, _⟩ := h
    rfl
  obtain ⟨b, e, rfl, hb, h30, q⟩ := h
  refine ⟨_, (pss_cons (ps_set (i := 2) scFirstFull.nd rfl (Or.inl rfl) (pe_call GPowerWithin (hr.mono (by decide)) rfl APowerWithin.m APowerWithin.kp APowerWithin.b .nil pass0 (pa_cons (pe_op op_sub (pv 1) (pv 0)) pa_nil)))
    (pss_cons (ps_if (pt_cmpR op_gt (pv 0) pe_int (nomark _))
    (pss_one (ps_set (i := 2) scFirstFull.nd rfl (Or.inl rfl) (pe_callB (call_min2 rfl) (by rfl) z_min (by decide +kernel) (pa_cons (pv 2) (pa_cons (pe_op op_and (pv 0) (pe_un un_neg (pv 0))) pa_nil)))))
    pss_nil)
    (pss_one (ps_ret (pe_tup (pa_cons (pv 0) (pa_cons (pe_op op_add (pv 0) (pv 2)) pa_nil))))))), ?_⟩
  have two : 2 ≤ sizeLine := by decide
  refine ⟨_, rfl, _, rfl, _, _, rfl, rfl, e - b, congrArg (fun z => [V.int z]) (by omega), by omega, by omega, ?_⟩
  refine ⟨_, rfl, _, _, rfl, rfl, _, rfl, ite2 (fun c => ?_) (fun c => ?_)⟩
  · have c1 : (b : Int) > 0 := of_decide_eq_true c
    refine ⟨_, rfl, _, rfl, _, rfl, _, rfl, _, _, rfl, rfl, _, _, rfl, ?_⟩
    rw [bitAnd_low b (by omega)]
    have em : (if ((low b : Nat) : Int) < ((2 ^ (e - b).log2 : Nat) : Int) then ((low b : Nat) : Int) else ((2 ^ (e - b).log2 : Nat) : Int)) = ((rm b e : Nat) : Int) := by
      unfold rm
      rw [if_neg (show ¬ b = 0 by omega)]
      split <;> omega
    refine ⟨_, rfl, _, rfl, _, rfl, _, _, rfl, rfl, two, fun t nt => ?_⟩
    dsimp only
    rw [em]
    refine q _ t (same_upd nt) nt ?_
    rw [upd_same, show (b : Int) + ((rm b e : Nat) : Int) = ((b + rm b e : Nat) : Int) by omega]
  · have c1 : ¬ (b : Int) > 0 := of_decide_eq_false (Bool.eq_false_iff.mpr c)
    have b0 : b = 0 := by omega
    have em : rm b e = 2 ^ (e - b).log2 := by unfold rm; rw [if_pos b0]
    refine ⟨_, rfl, _, rfl, _, rfl, _, _, rfl, rfl, two, fun t nt => ?_⟩
    refine q _ t (same_upd nt) nt ?_
    rw [upd_same, em]
    rfl
def spWithinX : Sp := fun vs H Q _ => ∃ (n b e : Nat), vs = [.int n, .int b, .int e] ∧ 1 ≤ n ∧ n ≤ 2 ^ 100 ∧ e ≤ n ∧ e ≤ 10 ^ 30 ∧
  ∀ (H' : Hp) (p : Addr) (xs : List V), Same H H' → H p = none → H' p = some (.lst xs) → All2 (Nd H') xs (nw n b e) → Q (.ref p) H'
theorem tn_nat (n b e : Nat) : tnV n (.int (b : Int)) (.int (e : Int)) = decide (isN n (b, e)) := by
  show decide (0 ≤ (b : Int) ∧ isN n ((b : Int).toNat, (e : Int).toNat)) = decide (isN n (b, e))
  rw [Int.toNat_natCast, Int.toNat_natCast]
  by_cases k : isN n (b, e)
  · rw [decide_eq_true k, decide_eq_true ⟨Int.natCast_nonneg _, k⟩]
  · rw [decide_eq_false k, decide_eq_false (fun z => k z.2)]
theorem ok_nodes_withinX {f g1 g2 : Addr} {fd d1 d2 : FuncData} (F : Fun K "nodes_within" "nodes_within" sNodesWithin f fd) (GIsTreeNode : FnOk P w K mg base CX0 3 g1 d1 ["size", "value"] (spTreeV K)) (AIsTreeNode : At K mg "is_tree_node" g1 d1 ["size", "value"])
    (GFirstFull : FnOk P w K mg base CX0 2 g2 d2 ["begin", "end"] spFirstFull) (AFirstFull : At K mg "_first_full" g2 d2 ["begin", "end"]) : FnOk P w K mg base CX0 4 f fd ["size", "begin", "end"] spWithinX := by
  refine F.ok scNodesWithin (fun vs H Q E h => ?_) (fun cdv A outer s H vs Q E hr h => ?_)
  · obtain ⟨_, _, _, rfl, _⟩ := h
    rfl
  obtain ⟨n, b0, e, rfl, n1, n100, he, h30, q⟩ := h
  refine ⟨_, (pss_cons (ps_set (i := 3) scNodesWithin.nd rfl (Or.inl rfl) (pe_lst pa_nil))
    (pss_cons (ps_while PassesOwn.never (pt_cmpR op_lt (pv 1) (pv 2) (nomark _))
    (pss_cons (ps_if (pt_val (pe_call GIsTreeNode (hr.mono (by decide)) rfl AIsTreeNode.m AIsTreeNode.kp AIsTreeNode.b .nil pass0 (pa_cons (pv 0) (pa_cons (pe_tup (pa_cons (pv 1) (pa_cons (pv 2) pa_nil))) pa_nil))))
    (pss_one (ps_set (i := 4) scNodesWithin.nd rfl (Or.inl rfl) (pe_tup (pa_cons (pv 1) (pa_cons (pv 2) pa_nil)))))
    (pss_one (ps_set (i := 4) scNodesWithin.nd rfl (Or.inl rfl) (pe_call GFirstFull (hr.mono (by decide)) rfl AFirstFull.m AFirstFull.kp AFirstFull.b .nil pass0 (pa_cons (pv 1) (pa_cons (pv 2) pa_nil))))))
    (pss_cons (ps_expr (pe_bm PySem.F.plainAttrs_list PySem.F.slot_list_append PySem.F.type_list_append mt_append (pv 3) (pa_cons (pv 4) pa_nil)))
    (pss_one (ps_set (i := 1) scNodesWithin.nd rfl (Or.inl rfl) (pe_ix ix_tup (pv 4) pe_int (fun _ _ => rfl)))))))
    (pss_one (ps_ret (pv 3))))), ?_⟩
  have two : 2 ≤ sizeLine := by decide
  refine ⟨Nat.zero_le _, fun fa nf => ?_⟩
  refine ⟨fun mu σ H' => ∃ (b : Nat) (v4 : Option V) (xs : List V) (done : List (Nat × Nat)), σ = [some (.int n), some (.int (b : Int)), some (.int (e : Int)), some (.ref fa), v4] ∧ Same H H' ∧ H' fa = some (.lst xs) ∧ All2 (Nd H') xs done ∧ done ++ nw n b e = nw n b0 e ∧ mu = e - b,
    ⟨e - b0, b0, none, [], [], rfl, same_upd nf, upd_same, .nil, rfl, rfl⟩, ?_⟩
  rintro m σ H1 ⟨b, v4, xs, done, rfl, sm, hf, hx, hd, rfl⟩
  refine ⟨_, rfl, _, rfl, _, _, rfl, rfl, _, rfl, ite2 (fun c => ?_) (fun c => ?_)⟩
  · have c1 : (b : Int) < (e : Int) := of_decide_eq_true c
    have dl : done.length ≤ 202 := by
      have k1 := congrArg List.length hd
      rw [List.length_append] at k1
      have k2 := nw_len (n := n) (b := b0) (e := e) (by omega)
      omega
    have w1 := rw1_pos (n := n) (show b < e by omega)
    have st := nw_step (n := n) (show b < e by omega)
    refine ⟨fun σ' H' => ∃ mu, mu < e - b ∧ ∃ (b : Nat) (v4 : Option V) (xs : List V) (done : List (Nat × Nat)), σ' = [some (.int n), some (.int (b : Int)), some (.int (e : Int)), some (.ref fa), v4] ∧ Same H H' ∧ H' fa = some (.lst xs) ∧ All2 (Nd H') xs done ∧ done ++ nw n b e = nw n b0 e ∧ mu = e - b, fun σ' H' h => h, ?_⟩
    -- behind the choice
    have fin : ∀ (H2 : Hp) (p : Addr), Same H1 H2 → H2 p = some (.tup [.int (b : Int), .int ((b + rw1 n b e : Nat) : Int)]) →
        (pss_term_fin : True) → ∃ (b' : Nat) (xs' : List V) (done' : List (Nat × Nat)), b' = b + rw1 n b e ∧ xs' = xs ++ [.ref p] ∧ Same H (upd H2 fa (.lst xs')) ∧ All2 (Nd (upd H2 fa (.lst xs'))) xs' done' ∧ done' ++ nw n b' e = nw n b0 e := fun H2 p s2 hp _ => by
      have hf2 := s2 _ _ hf
      refine ⟨_, _, done ++ [(b, b + rw1 n b e)], rfl, rfl, ?_, ?_, ?_⟩
      · exact fun a o k => by rw [upd_ne (ne_of_none k nf)]; exact s2 _ _ (sm _ _ k)
      · refine (hx.mono (fun v x (k : Nd H1 v x) => (k.same s2).upd hf2)).app (.cons ?_ .nil)
        exact Nd.upd (x := (b, b + rw1 n b e)) ⟨p, rfl, hp⟩ hf2
      · rw [← hd, st, List.append_assoc]
        rfl
    refine ⟨_, rfl, _, rfl, _, rfl, two, fun t nt => ?_⟩
    have s1 := same_upd (o := .tup [.int (b : Int), .int (e : Int)]) nt
    have ht : (upd H1 t (.tup [.int (b : Int), .int (e : Int)])) t = some (.tup [.int (b : Int), .int (e : Int)]) := upd_same
    generalize upd H1 t (.tup [.int (b : Int), .int (e : Int)]) = H2 at s1 ht
    refine ⟨n, .ref t, _, rfl, n1, n100, .pair ht (.int _) (.int _), ?_⟩
    rw [tn_nat]
    by_cases c2 : isN n (b, e)
    · rw [decide_eq_true c2]
      refine ⟨true, rfl, ?_⟩
      have rw_e : rw1 n b e = e - b := by unfold rw1; rw [if_pos c2]
      refine ⟨_, rfl, _, rfl, two, fun t2 nt2 => ?_⟩
      have s2 := same_upd (o := .tup [.int (b : Int), .int (e : Int)]) nt2
      obtain ⟨b', xs', done', eb, ex, f1, f2, f3⟩ := fin _ t2 (s1.trans s2) (by rw [upd_same, rw_e, show b + (e - b) = e by omega]) trivial
      subst ex
      have hf3 := s2 _ _ (s1 _ _ hf)
      have ht3 : (upd H2 t2 (.tup [.int (b : Int), .int (e : Int)])) t2 = some (.tup [.int (b : Int), .int (e : Int)]) := upd_same
      refine ⟨_, rfl, .inl ⟨rfl, _, SqL.of hf3⟩, _, rfl, fa, _, _, rfl, rfl, hf3, szlt (by rw [hx.len]; omega), ?_⟩
      refine ⟨_, rfl, t2, _, _, _, rfl, rfl, SqT.of ((upd_ne (ne_of ht3 hf3 (by intro z; cases z))).trans ht3), atI_nat (j := 1) rfl, ?_⟩
      refine ⟨e - b', by omega, b', some (.ref t2), xs ++ [.ref t2], done', ?_, f1, ?_, f2, f3, rfl⟩
      · rw [eb, rw_e, show b + (e - b) = e by omega]
        rfl
      · exact upd_same
    · rw [decide_eq_false c2]
      refine ⟨false, rfl, ?_⟩
      have rw_e : rw1 n b e = rm b e := by unfold rw1; rw [if_neg c2]
      refine ⟨_, rfl, _, rfl, b, e, rfl, by omega, by omega, fun H3 t2 s2 nt2 ht2 => ?_⟩
      obtain ⟨b', xs', done', eb, ex, f1, f2, f3⟩ := fin _ t2 (s1.trans s2) (by rw [ht2, rw_e]) trivial
      subst ex
      have hf3 := s2 _ _ (s1 _ _ hf)
      refine ⟨_, rfl, .inl ⟨rfl, _, SqL.of hf3⟩, _, rfl, fa, _, _, rfl, rfl, hf3, szlt (by rw [hx.len]; omega), ?_⟩
      refine ⟨_, rfl, t2, _, _, _, rfl, rfl, SqT.of ((upd_ne (ne_of ht2 hf3 (by intro z; cases z))).trans ht2), atI_nat (j := 1) rfl, ?_⟩
      refine ⟨e - b', by omega, b', some (.ref t2), xs ++ [.ref t2], done', ?_, f1, ?_, f2, f3, rfl⟩
      · rw [eb, rw_e]
        rfl
      · exact upd_same
  · have c1 : ¬ (b : Int) < (e : Int) := of_decide_eq_false (Bool.eq_false_iff.mpr c)
    rw [nw_nil (show e ≤ b by omega), List.append_nil] at hd
    rw [hd] at hx
    exact ⟨_, rfl, q H1 fa xs sm nf hf hx⟩
def spWithin : Sp := fun vs H Q _ => ∃ (n b e : Nat), vs = [.int n, .int b, .int e] ∧ 1 ≤ n ∧ n ≤ 2 ^ 100 ∧ b ≤ e ∧ e ≤ n ∧ e ≤ 10 ^ 30 ∧
  ∀ (H' : Hp) (p : Addr) (xs : List V), Same H H' → H p = none → H' p = some (.lst xs) → All2 (Nd H') xs (nw n b e) → Q (.ref p) H'
theorem within_of {k : Nat} {f : Addr} {fd : FuncData} (F : FnOk P w K mg base CX0 k f fd ["size", "begin", "end"] spWithinX) : FnOk P w K mg base CX0 k f fd ["size", "begin", "end"] spWithin :=
  F.imp fun vs H Q E h => by
    obtain ⟨n, b, e, rfl, n1, n100, hb, he, h30, q⟩ := h
    exact ⟨n, b, e, rfl, n1, n100, he, h30, q⟩
end
end LT

namespace LT
/-! ### an entry's siblings, by side -/
def lft (b m e : Nat) : List (Nat × Nat) :=
  if h : m ≤ 1 then [] else
    if e < b + gp m then lft b (gp m) e
    else (b, b + gp m) :: lft (b + gp m) (m - gp m) e
termination_by m
decreasing_by
  · exact gp_lt (by omega)
  · have := gp_pos m; omega
theorem lft_one {b m e : Nat} (h : m ≤ 1) : lft b m e = [] := by rw [lft]; simp [h]
theorem lft_low {b m e : Nat} (h : 2 ≤ m) (k : e < b + gp m) : lft b m e = lft b (gp m) e := by
  rw [lft, dif_neg (by omega), if_pos k]
theorem lft_high {b m e : Nat} (h : 2 ≤ m) (k : ¬ e < b + gp m) : lft b m e = (b, b + gp m) :: lft (b + gp m) (m - gp m) e := by
  rw [lft, dif_neg (by omega), if_neg k]
def rgt (b m e : Nat) : List (Nat × Nat) :=
  if h : m ≤ 1 then [] else
    if e < b + gp m then rgt b (gp m) e ++ [(b + gp m, b + m)]
    else rgt (b + gp m) (m - gp m) e
termination_by m
decreasing_by
  · exact gp_lt (by omega)
  · have := gp_pos m; omega
theorem rgt_one {b m e : Nat} (h : m ≤ 1) : rgt b m e = [] := by rw [rgt]; simp [h]
theorem rgt_low {b m e : Nat} (h : 2 ≤ m) (k : e < b + gp m) : rgt b m e = rgt b (gp m) e ++ [(b + gp m, b + m)] := by
  rw [rgt, dif_neg (by omega), if_pos k]
theorem rgt_high {b m e : Nat} (h : 2 ≤ m) (k : ¬ e < b + gp m) : rgt b m e = rgt (b + gp m) (m - gp m) e := by
  rw [rgt, dif_neg (by omega), if_neg k]
/-- induction down the way to an entry -/
theorem way_ind {n e : Nat} {p : Nat → Nat → Prop} (h1 : ∀ b m, m ≤ 1 → b ≤ e → e < b + m → b + m ≤ n → p b m)
    (h2 : ∀ b m, 2 ≤ m → tree n b m → b ≤ e → e < b + gp m → b + m ≤ n → p b (gp m) → p b m)
    (h3 : ∀ b m, 2 ≤ m → tree n b m → b ≤ e → ¬ e < b + gp m → e < b + m → b + m ≤ n → p (b + gp m) (m - gp m) → p b m) :
    ∀ (m b : Nat), tree n b m → b ≤ e → e < b + m → b + m ≤ n → p b m := by
  intro m
  induction m using Nat.strongRecOn with
  | ind m ih =>
    intro b t k1 k2 k3
    by_cases c : m ≤ 1
    · exact h1 b m c k1 k2 k3
    · have m2 : 2 ≤ m := by omega
      have g1 := gp_lt m2
      have g3 := gp_pos m
      by_cases k : e < b + gp m
      · exact h2 b m m2 t k1 k k3 (ih _ g1 b (tree_low m2 t) k1 k (by omega))
      · exact h3 b m m2 t k1 k k2 k3 (ih _ (by omega) _ (tree_high m2 t) (by omega) (by omega) (by omega))
theorem sides_len {n e : Nat} : ∀ (m b : Nat), tree n b m → b ≤ e → e < b + m → b + m ≤ n → (lft b m e).length + (rgt b m e).length = (sib b m e).length := by
  refine way_ind (fun b m h _ _ _ => ?_) (fun b m h _ _ k _ ih => ?_) (fun b m h _ _ k _ _ ih => ?_)
  · rw [lft_one h, rgt_one h, sib_one h]; rfl
  · rw [lft_low h k, rgt_low h k, sib_low h k]; simp only [List.length_append, List.length_cons, List.length_nil]; omega
  · rw [lft_high h k, rgt_high h k, sib_high h k, List.length_cons, List.length_cons]; omega
theorem half_low_isN {n b m : Nat} (h : 2 ≤ m) (t : tree n b m) (hn : b + m ≤ n) : isN n (b, b + gp m) := isN_of (gp_pos m) (by have := gp_lt h; omega) (tree_low h t)
theorem half_high_isN {n b m : Nat} (h : 2 ≤ m) (t : tree n b m) (hn : b + m ≤ n) : isN n (b + gp m, b + m) := by
  have g := gp_lt h
  have := isN_of (n := n) (b := b + gp m) (m := m - gp m) (by omega) (by omega) (tree_high h t)
  rw [show b + gp m + (m - gp m) = b + m by omega] at this
  exact this
theorem lft_ch {n e : Nat} : ∀ (m b : Nat), tree n b m → b ≤ e → e < b + m → b + m ≤ n → Ch n b e (lft b m e) := by
  refine way_ind (fun b m h _ _ _ => ?_) (fun b m h _ _ k _ ih => ?_) (fun b m h t _ k k2 hn ih => ?_)
  · rw [lft_one h]; show b = e; omega
  · rw [lft_low h k]; exact ih
  · rw [lft_high h k]
    exact ⟨rfl, half_low_isN h t hn, by show b + gp m ≤ e; omega, ih⟩
theorem rgt_ch {n e : Nat} : ∀ (m b : Nat), tree n b m → b ≤ e → e < b + m → b + m ≤ n → Ch n (e + 1) (b + m) (rgt b m e) := by
  refine way_ind (fun b m h _ _ _ => ?_) (fun b m h t _ k hn ih => ?_) (fun b m h _ _ k _ _ ih => ?_)
  · rw [rgt_one h]; show e + 1 = b + m; omega
  · rw [rgt_low h k]
    refine ih.app ⟨rfl, half_high_isN h t hn, Nat.le_refl _, rfl⟩
  · rw [rgt_high h k]
    have := gp_lt h
    rw [show b + gp m + (m - gp m) = b + m by omega] at ih
    exact ih
theorem lft_mx {n e : Nat} (he : e < n) : ∀ (m b : Nat), tree n b m → b ≤ e → e < b + m → b + m ≤ n → Mx n 0 e (lft b m e) := by
  refine way_ind (fun b m h _ _ _ => ?_) (fun b m h _ _ k _ ih => ?_) (fun b m h t _ k k2 hn ih => ?_)
  · rw [lft_one h]; exact fun x hx => by cases hx
  · rw [lft_low h k]; exact ih
  · rw [lft_high h k]
    intro x hx
    rcases List.mem_cons.mp hx with rfl | hx
    · rintro ⟨p1, p2⟩ hp _ q2 q3 q4
      simp only at q2 q3 q4
      have g := gp_pos m
      obtain ⟨a1, a2, a3⟩ := isN_tree hp
      by_cases c : p1 < b
      · have := lam (n := n) (b := p1) (m := p2 - p1) (B := b) (M := m) a3 (by omega) t (by omega) hn c (by omega)
        omega
      · have e1 : p1 = b := by omega
        subst e1
        rcases node_in h t hn hp (Nat.le_refl _) (by show p2 ≤ p1 + m; omega) with z | z | z
        · have : p2 = p1 + m := congrArg Prod.snd z
          omega
        · simp only at z
          exact Prod.ext rfl (by show p2 = _; omega)
        · simp only at z
          omega
    · exact ih x hx
theorem rgt_mx {n e : Nat} : ∀ (m b : Nat), tree n b m → b ≤ e → e < b + m → b + m ≤ n → Mx n (e + 1) n (rgt b m e) := by
  refine way_ind (fun b m h _ _ _ => ?_) (fun b m h t hb k hn ih => ?_) (fun b m h _ _ k _ _ ih => ?_)
  · rw [rgt_one h]; exact fun x hx => by cases hx
  · rw [rgt_low h k]
    intro x hx
    rcases List.mem_append.mp hx with hx | hx
    · exact ih x hx
    · rw [List.mem_singleton] at hx
      subst hx
      rintro ⟨p1, p2⟩ hp q1 q2 q3 q4
      simp only at q1 q2 q3 q4
      have g := gp_lt h
      obtain ⟨a1, a2, a3⟩ := isN_tree hp
      have := lam (n := n) (b := b) (m := m) (B := p1) (M := p2 - p1) t (by omega) a3 hn (by omega) (by omega) (by omega)
      have e2 : p2 = b + m := by omega
      rcases node_in h t hn hp (by show b ≤ p1; omega) (by show p2 ≤ b + m; omega) with z | z | z
      · have : p1 = b := congrArg Prod.fst z
        omega
      · simp only at z
        omega
      · simp only at z
        exact Prod.ext (by show p1 = _; omega) (by show p2 = _; omega)
  · rw [rgt_high h k]; exact ih
/-- what lies ahead of an entry, and behind it -/
theorem nw_lft {n e : Nat} (h : e < n) : nw n 0 e = lft 0 n e := by
  have r := tree_root n
  exact nw_unique (n := n) (hi := e) (lo0 := 0) (by omega) _ _ 0 (Nat.le_refl _) (nw_ch (by omega) 0 (by omega)) (lft_ch n 0 r (by omega) (by omega) (by omega)) (nw_max (by omega) (by omega)) (lft_mx h n 0 r (by omega) (by omega) (by omega))
theorem nw_rgt {n e : Nat} (h : e < n) : nw n (e + 1) n = rgt 0 n e := by
  have r := tree_root n
  have c := rgt_ch (e := e) n 0 r (by omega) (by omega) (by omega)
  rw [Nat.zero_add] at c
  exact nw_unique (n := n) (hi := n) (lo0 := e + 1) (Nat.le_refl _) _ _ (e + 1) (Nat.le_refl _) (nw_ch (Nat.le_refl _) (e + 1) (by omega)) c (nw_max (Nat.le_refl _) (by omega)) (rgt_mx n 0 r (by omega) (by omega) (by omega))
theorem nw_single {n e : Nat} (h : e < n) : (nw n 0 e).length + (nw n (e + 1) n).length = (sib 0 n e).length := by
  rw [nw_lft h, nw_rgt h]
  exact sides_len n 0 (tree_root n) (by omega) (by omega) (by omega)
/-! ### peaks -/
theorem pk_ch {n e : Nat} (he : e ≤ n) : ∀ (i b : Nat), 2 ^ i ∣ b → b + e % 2 ^ i = e → Ch n b e ((pk i e b).map full)
  | 0, b, _, h => by rw [Nat.pow_zero, Nat.mod_one] at h; exact h
  | i + 1, b, d, h => by
    rw [mod_succ] at h
    have d' : 2 ^ i ∣ b := Nat.dvd_trans (Nat.pow_dvd_pow 2 (Nat.le_succ i)) d
    show Ch n b e ((if e.testBit i = true then (b, i) :: pk i e (b + 2 ^ i) else pk i e b).map full)
    by_cases t : e.testBit i = true
    · rw [if_pos t] at h ⊢
      refine ⟨rfl, (show isN n (b, b + 2 ^ i) from full_isN (by omega) d'), ?_, pk_ch he i (b + 2 ^ i) (Nat.dvd_add d' (Nat.dvd_refl _)) (by omega)⟩
      show b + 2 ^ i ≤ e
      omega
    · rw [if_neg t] at h ⊢
      exact pk_ch he i b d' (by omega)
theorem pk_mx {n e : Nat} (he : e < n) : ∀ (i b : Nat), 2 ^ i ∣ b → b + e % 2 ^ i = e → Mx n 0 e ((pk i e b).map full)
  | 0, b, _, h => fun x hx => by cases hx
  | i + 1, b, d, h => by
    have ml := Nat.mod_lt e (Nat.pow_pos (a := 2) (n := i + 1) (by decide))
    have hh := h
    rw [mod_succ] at h
    have d' : 2 ^ i ∣ b := Nat.dvd_trans (Nat.pow_dvd_pow 2 (Nat.le_succ i)) d
    show Mx n 0 e ((if e.testBit i = true then (b, i) :: pk i e (b + 2 ^ i) else pk i e b).map full)
    by_cases t : e.testBit i = true
    · rw [if_pos t] at h ⊢
      intro x hx
      rw [List.map_cons] at hx
      rcases List.mem_cons.mp hx with rfl | hx
      · rintro ⟨p1, p2⟩ hp _ q2 q3 q4
        have q3 : p1 ≤ b := q3
        have q4 : b + 2 ^ i ≤ p2 := q4
        simp only at q2
        have pz := Nat.pow_pos (a := 2) (n := i) (by decide)
        obtain ⟨a1, a2, a3, a4⟩ := isN_tree hp
        have a5 : p2 - p1 = 2 ^ lb (p2 - p1) := by
          rcases a4 with a4 | a4
          · exact a4
          · omega
        by_cases c : i < lb (p2 - p1)
        · have m1 := Nat.pow_le_pow_right (n := 2) (by decide) (show i + 1 ≤ lb (p2 - p1) from c)
          have m2 := mul_le_of_lt (R := 2 ^ (i + 1)) d (Nat.dvd_add (Nat.dvd_trans (Nat.pow_dvd_pow 2 (show i + 1 ≤ lb (p2 - p1) from c)) a3) (Nat.pow_dvd_pow 2 (show i + 1 ≤ lb (p2 - p1) from c))) (show b < p1 + 2 ^ lb (p2 - p1) by omega)
          omega
        · have m1 := Nat.pow_le_pow_right (n := 2) (by decide) (show lb (p2 - p1) ≤ i by omega)
          exact Prod.ext (by show p1 = b; omega) (by show p2 = b + 2 ^ i; omega)
      · exact pk_mx he i (b + 2 ^ i) (Nat.dvd_add d' (Nat.dvd_refl _)) (by omega) x hx
    · rw [if_neg t] at h ⊢
      exact pk_mx he i b d' (by omega)
theorem nw_pk {n e : Nat} (h : e < n) (h100 : e < 2 ^ 101) : nw n 0 e = (pk 101 e 0).map full := by
  have em : 0 + e % 2 ^ 101 = e := by rw [Nat.mod_eq_of_lt h100, Nat.zero_add]
  exact nw_unique (n := n) (hi := e) (lo0 := 0) (by omega) _ _ 0 (Nat.le_refl _) (nw_ch (by omega) 0 (by omega)) (pk_ch (by omega) 101 0 (Nat.dvd_zero _) em) (nw_max (by omega) (by omega)) (pk_mx h 101 0 (Nat.dvd_zero _) em)
theorem pk_even : ∀ (i c b b' : Nat), (pk (i + 1) (2 * c) b).length = (pk i c b').length
  | 0, c, b, b' => by
    show (if (2 * c).testBit 0 = true then _ else _ : List (Nat × Nat)).length = 0
    have : (2 * c).testBit 0 = false := by simp
    rw [this]
    rfl
  | i + 1, c, b, b' => by
    show (if (2 * c).testBit (i + 1) = true then (b, i + 1) :: pk (i + 1) (2 * c) (b + 2 ^ (i + 1)) else pk (i + 1) (2 * c) b).length = (if c.testBit i = true then (b', i) :: pk i c (b' + 2 ^ i) else pk i c b').length
    rw [Nat.testBit_succ, show 2 * c / 2 = c by omega]
    by_cases t : c.testBit i = true
    · rw [if_pos t, if_pos t, List.length_cons, List.length_cons, pk_even i c _ (b' + 2 ^ i)]
    · rw [if_neg t, if_neg t, pk_even i c b b']
theorem pk_odd : ∀ (i c b b' : Nat), (pk (i + 1) (2 * c + 1) b).length = (pk i c b').length + 1
  | 0, c, b, b' => by
    show (if (2 * c + 1).testBit 0 = true then (b, 0) :: ([] : List (Nat × Nat)) else []).length = 0 + 1
    have : (2 * c + 1).testBit 0 = true := by simp
    rw [this]
    rfl
  | i + 1, c, b, b' => by
    show (if (2 * c + 1).testBit (i + 1) = true then (b, i + 1) :: pk (i + 1) (2 * c + 1) (b + 2 ^ (i + 1)) else pk (i + 1) (2 * c + 1) b).length = (if c.testBit i = true then (b', i) :: pk i c (b' + 2 ^ i) else pk i c b').length + 1
    rw [Nat.testBit_succ, show (2 * c + 1) / 2 = c by omega]
    by_cases t : c.testBit i = true
    · rw [if_pos t, if_pos t, List.length_cons, List.length_cons, pk_odd i c _ (b' + 2 ^ i)]
    · rw [if_neg t, if_neg t, pk_odd i c b b']
theorem pow_dvd_odd {k c : Nat} (h : 2 ^ k ∣ 2 * c + 1) : k = 0 := by
  cases k with
  | zero => rfl
  | succ k =>
    have := Nat.dvd_trans (⟨2 ^ k, by rw [Nat.pow_succ, Nat.mul_comm]⟩ : 2 ∣ 2 ^ (k + 1)) h
    omega
theorem pk_pred : ∀ (i e k b b' : Nat), 0 < e → e < 2 ^ i → 2 ^ k ∣ e → ¬ 2 ^ (k + 1) ∣ e → (pk i e b).length + k = (pk i (e - 1) b').length + 1
  | 0, e, k, _, _, h, h2, _, _ => by simp at h2; omega
  | i + 1, e, k, b, b', h, h2, d1, d2 => by
    rcases Nat.mod_two_eq_zero_or_one e with z | z
    · obtain ⟨c, rfl⟩ : ∃ c, e = 2 * c := ⟨e / 2, by omega⟩
      have kp : k ≠ 0 := fun y => d2 (by rw [y]; exact ⟨c, by simp⟩)
      obtain ⟨j, rfl⟩ : ∃ j, k = j + 1 := ⟨k - 1, by omega⟩
      rw [Nat.pow_succ] at h2
      have ih := pk_pred i c j 0 0 (by omega) (by omega) (by rw [Nat.pow_succ, Nat.mul_comm] at d1; exact Nat.dvd_of_mul_dvd_mul_left (by decide) d1) (fun y => d2 (by rw [Nat.pow_succ, Nat.mul_comm]; exact Nat.mul_dvd_mul_left 2 y))
      rw [show 2 * c - 1 = 2 * (c - 1) + 1 by omega, pk_even i c b 0, pk_odd i (c - 1) b' 0]
      omega
    · obtain ⟨c, rfl⟩ : ∃ c, e = 2 * c + 1 := ⟨e / 2, by omega⟩
      have := pow_dvd_odd d1
      subst this
      rw [show 2 * c + 1 - 1 = 2 * c by omega, pk_odd i c b 0, pk_even i c b' 0]
theorem lb_big {n : Nat} (h : 2 ≤ n) : lb n = Nat.log2 (n - 1) + 1 := by unfold lb; rw [if_neg (by omega)]
end LT

namespace LT
open PySem PySem.Spec PyProof.Rows L2
/-! ### lists of ints as data -/
theorem ints_lay : ∀ ns : List Int, PyData.canLayAll0 (ns.map PyData.int) = true
  | [] => by simp [PyData.canLayAll0]
  | n :: ns => by simp [PyData.canLayAll0, PyData.canLay0, ints_lay ns]
theorem ints_depth : ∀ ns : List Int, PyData.depthAll (ns.map PyData.int) ≤ 1
  | [] => by simp [PyData.depthAll]
  | n :: ns => by
    have := ints_depth ns
    simp only [List.map_cons, PyData.depthAll, PyData.depth]
    omega
theorem ints_shaped (ns : List Int) : SeqAt.shaped (.list (ns.map PyData.int)) = true := by
  have h := ints_depth ns
  have h2 : PyData.depth (.list (ns.map PyData.int)) ≤ 64 := by
    simp only [PyData.depth]
    omega
  show (PyData.canLay0 (.list (ns.map PyData.int)) && decide (PyData.depth (.list (ns.map PyData.int)) ≤ 64)) = true
  rw [Bool.and_eq_true]
  exact ⟨by simp only [PyData.canLay0]; exact ints_lay ns, decide_eq_true h2⟩
theorem ints_dp {K : PySem.W.Frag} {H : Hp} : ∀ ns : List Int, DpAll K H (ns.map V.int) (ns.map PyData.int)
  | [] => .nil
  | n :: ns => .cons (.int n) (ints_dp ns)
theorem ints_nil : ∀ ns : List Int, PyData.eqv (.list (ns.map PyData.int)) (.list []) = ns.isEmpty
  | [] => by simp only [List.map_nil, PyData.eqv, PyData.eqvAll, List.isEmpty_nil]
  | n :: ns => by simp only [List.map_cons, PyData.eqv, PyData.eqvAll, List.isEmpty_cons]
theorem nil_shaped : SeqAt.shaped (.list []) = true := ints_shaped []
end LT

namespace LT
open PySem PySem.Spec PyProof.Rows L2
def nd (x : Nat × Nat) : PyData := .tuple [.int x.1, .int x.2]
theorem nds_lay : ∀ l : List (Nat × Nat), PyData.canLayAll0 (l.map nd) = true
  | [] => by simp [PyData.canLayAll0]
  | x :: l => by simp [PyData.canLayAll0, nd, PyData.canLay0, nds_lay l]
theorem nds_depth : ∀ l : List (Nat × Nat), PyData.depthAll (l.map nd) ≤ 2
  | [] => by simp [PyData.depthAll]
  | x :: l => by
    have := nds_depth l
    simp only [List.map_cons, PyData.depthAll, nd, PyData.depth]
    omega
theorem nds_shaped (l : List (Nat × Nat)) : SeqAt.shaped (.list (l.map nd)) = true := by
  have h := nds_depth l
  have h2 : PyData.depth (.list (l.map nd)) ≤ 64 := by
    simp only [PyData.depth]
    omega
  show (PyData.canLay0 (.list (l.map nd)) && decide (PyData.depth (.list (l.map nd)) ≤ 64)) = true
  rw [Bool.and_eq_true]
  exact ⟨by simp only [PyData.canLay0]; exact nds_lay l, decide_eq_true h2⟩
theorem nds_dp {K : PySem.W.Frag} {H : Hp} : ∀ {vs : List V} {l : List (Nat × Nat)}, All2 (Nd H) vs l → DpAll K H vs (l.map nd)
  | _, _, .nil => .nil
  | _, _, .cons h t => .cons h.dp (nds_dp t)
theorem nds_any (l : List (Nat × Nat)) (x : Nat × Nat) : (l.map nd).any (fun z => PyData.eqv z (.tuple [.int x.1, .int x.2])) = decide (x ∈ l) := by
  induction l with
  | nil => simp
  | cons y l ih =>
    rw [List.map_cons, List.any_cons, ih]
    show (PyData.eqv (.tuple [.int y.1, .int y.2]) _ || _) = _
    rw [nd_eqv]
    by_cases c : x = y
    · subst c
      simp
    · have e : (decide ((y.1 : Int) = (x.1 : Int)) && decide ((y.2 : Int) = (x.2 : Int))) = false := by
        rw [Bool.and_eq_false_iff]
        by_cases c1 : y.1 = x.1
        · right
          refine decide_eq_false (fun z => c (Prod.ext c1.symm ?_))
          omega
        · left
          exact decide_eq_false (fun z => c1 (by omega))
      rw [e, Bool.false_or]
      simp [c]
end LT

namespace LT
open PySem PySem.Spec PyProof.Rows L2
theorem ndt_shaped (l : List (Nat × Nat)) : SeqAt.shaped (.tuple (l.map nd)) = true := by
  have h := nds_depth l
  have h2 : PyData.depth (.tuple (l.map nd)) ≤ 64 := by
    simp only [PyData.depth]
    omega
  show (PyData.canLay0 (.tuple (l.map nd)) && decide (PyData.depth (.tuple (l.map nd)) ≤ 64)) = true
  rw [Bool.and_eq_true]
  exact ⟨by simp only [PyData.canLay0]; exact nds_lay l, decide_eq_true h2⟩
theorem tup_dp {K : PySem.W.Frag} {H : Hp} {p : Addr} {vs : List V} {l : List (Nat × Nat)} (h : H p = some (.tup vs)) (k : All2 (Nd H) vs l) : Dp K H (.ref p) (.tuple (l.map nd)) := .tup (SqT.of h) (nds_dp k)
theorem lst_dp {K : PySem.W.Frag} {H : Hp} {p : Addr} {vs : List V} {l : List (Nat × Nat)} (h : H p = some (.lst vs)) (k : All2 (Nd H) vs l) : Dp K H (.ref p) (.list (l.map nd)) := .lst (SqL.of h) (nds_dp k)
end LT

namespace LT
open PySem PySem.Spec PyProof.Rows L2
section
variable {P : Program} {w : World} {K : PySem.W.Frag} {mg : Str → Option Value} {base : Heap}
/-! ### walking an enumerate -/
theorem for_enum {a : Addr} {xs : List V} {g : TG} {tb : TS} {D : Ends} {σ : L2.St} {H : Hp} (Pv : Nat → L2.St → Hp → Prop) (h0 : Pv 0 σ H) (hl : ∀ i σ H, i ≤ xs.length → Pv i σ H → SqL K H a xs)
    (hs : ∀ i x σ H T, xs[i]? = some x → Pv i σ H → H T = none → g (.ref T) σ (upd H T (.tup [.int (i : Nat), x])) fun σ2 H2 => tb { D with nx := Pv (i + 1), ct := Pv (i + 1), bk := D.nx } σ2 H2) (hd : ∀ σ H, Pv xs.length σ H → D.nx σ H) :
    ∃ W : Nat → Nat → L2.St → Hp → Prop, (∃ m, W 0 m σ H) ∧ ∀ i m σ H, W i m σ H →
      ((Ite K a).stop i H ∧ D.nx σ H) ∨ ((Ite K a).go i H ∧ ∃ N : L2.St → Hp → Prop, (∀ σ' H', N σ' H' → ∃ m', m' < m ∧ W (i + 1) m' σ' H') ∧ ∀ x H', (Ite K a).yld i H x H' → g x σ H' fun σ2 H2 => tb { D with nx := N, ct := N, bk := D.nx } σ2 H2) := by
  refine ⟨fun i m σ H => m = xs.length - i ∧ i ≤ xs.length ∧ Pv i σ H, ⟨xs.length, by simp, Nat.zero_le _, h0⟩, ?_⟩
  rintro i m σ H ⟨rfl, hi, p⟩
  have q := hl i σ H hi p
  by_cases hlt : i < xs.length
  · refine .inr ⟨⟨xs, xs[i], q, by simp [hlt]⟩, Pv (i + 1), fun σ' H' p' => ⟨xs.length - (i + 1), by omega, rfl, hlt, p'⟩, fun x H' y => ?_⟩
    obtain ⟨T, x1, rfl, nT, rfl, f⟩ := y
    exact hs i x1 σ H T (f xs q) p nT
  · have e : i = xs.length := by omega
    subst e
    exact .inl ⟨⟨xs, q, Nat.le_refl _⟩, hd σ H p⟩
end
end LT

namespace LT
open PySem PySem.Spec PyProof.Rows L2
theorem log2_is {r h : Nat} (h1 : 2 ^ h ≤ r) (h2 : r < 2 ^ (h + 1)) : r.log2 = h := (Nat.log2_eq_iff (by have := Nat.pow_pos (a := 2) (n := h) (by decide); omega)).mpr ⟨h1, h2⟩
theorem pk_step : ∀ (i n b : Nat), n % 2 ^ i ≠ 0 → ∃ h, h < i ∧ pk i n b = (b, h) :: pk h n (b + 2 ^ h) ∧ n % 2 ^ i = 2 ^ h + n % 2 ^ h
  | 0, n, b, hr => by simp [Nat.mod_one] at hr
  | i + 1, n, b, hr => by
    rw [mod_succ] at hr
    by_cases t : n.testBit i = true
    · refine ⟨i, Nat.lt_succ_self i, ?_, by rw [mod_succ, if_pos t]⟩
      show (if n.testBit i = true then _ else _) = _
      rw [if_pos t]
    · rw [if_neg t, Nat.zero_add] at hr
      obtain ⟨h, h1, h2, h3⟩ := pk_step i n b hr
      refine ⟨h, by omega, ?_, by rw [mod_succ, if_neg t, Nat.zero_add]; exact h3⟩
      show (if n.testBit i = true then _ else _) = _
      rw [if_neg t]
      exact h2
section
variable {P : Program} {w : World} {K : PySem.W.Frag} {mg : Str → Option Value} {base : Heap}
def spTops : Sp := fun vs H Q _ => ∃ (n : Nat), vs = [.int n] ∧ 1 ≤ n ∧ n ≤ 10 ^ 30 ∧ ∀ (H' : Hp) (p : Addr) (xs : List V), Same H H' → H p = none → H' p = some (.lst xs) → All2 (Nd H') xs ((pk 101 n 0).map full) → Q (.ref p) H'
theorem ok_peaks {f g1 g2 : Addr} {fd d1 d2 : FuncData} (F : Fun K "peaks" "peaks" sPeaks f fd) (GCheckSize : FnOk P w K mg base CX0 3 g1 d1 ["size"] spCheckSize) (ACheckSize : At K mg "check_size" g1 d1 ["size"])
    (GPowerWithin : FnOk P w K mg base CX0 1 g2 d2 ["number"] spPower) (APowerWithin : At K mg "power_within" g2 d2 ["number"]) : FnOk P w K mg base CX0 4 f fd ["size"] spTops := by
  refine F.ok scPeaks (fun vs H Q E h => ?_) (fun cdv A outer s H vs Q E hr h => ?_)
  · obtain ⟨_, rfl, _⟩ := h
    rfl
  obtain ⟨n, rfl, h1, h30, q⟩ := h
  refine ⟨_, (pss_cons (ps_expr (pe_call GCheckSize (hr.mono (by decide)) rfl ACheckSize.m ACheckSize.kp ACheckSize.b .nil pass0 (pa_cons (pv 0) pa_nil)))
    (pss_cons (ps_set (i := 1) scPeaks.nd rfl (Or.inl rfl) (pe_lst pa_nil))
    (pss_cons (ps_set (i := 2) scPeaks.nd rfl (Or.inl rfl) pe_int)
    (pss_cons (ps_while PassesOwn.never (pt_cmpR op_lt (pv 2) (pv 0) (nomark _))
    (pss_cons (ps_set (i := 3) scPeaks.nd rfl (Or.inl rfl) (pe_op op_add (pv 2) (pe_call GPowerWithin (hr.mono (by decide)) rfl APowerWithin.m APowerWithin.kp APowerWithin.b .nil pass0 (pa_cons (pe_op op_sub (pv 0) (pv 2)) pa_nil))))
    (pss_cons (ps_expr (pe_bm PySem.F.plainAttrs_list PySem.F.slot_list_append PySem.F.type_list_append mt_append (pv 1) (pa_cons (pe_tup (pa_cons (pv 2) (pa_cons (pv 3) pa_nil))) pa_nil)))
    (pss_one (ps_set (i := 2) scPeaks.nd rfl (Or.inl rfl) (pv 3))))))
    (pss_one (ps_ret (pv 1))))))), ?_⟩
  refine ⟨_, rfl, n, rfl, by omega, by omega, ?_⟩
  refine ⟨Nat.zero_le _, fun fa nf => ?_⟩
  have nm : n % 2 ^ 101 = n := Nat.mod_eq_of_lt (Nat.lt_of_le_of_lt h30 (by decide))
  refine ⟨fun mu σ H' => ∃ (i b : Nat) (v3 : Option V) (xs : List V) (done : List (Nat × Nat)), σ = [some (.int n), some (.ref fa), some (.int b), v3] ∧ Same H H' ∧ H' fa = some (.lst xs) ∧ All2 (Nd H') xs (done.map full) ∧ done ++ pk i n b = pk 101 n 0 ∧ b + n % 2 ^ i = n ∧ mu = n - b,
    ⟨n, 101, 0, none, [], [], rfl, same_upd nf, upd_same, .nil, rfl, by omega, by omega⟩, ?_⟩
  rintro m σ H1 ⟨i, b, v3, xs, done, rfl, sm, hf, hx, hd, hb, rfl⟩
  refine ⟨_, rfl, _, rfl, _, _, rfl, rfl, _, rfl, ite2 (fun c => ?_) (fun c => ?_)⟩
  · have c1 : (b : Int) < (n : Int) := of_decide_eq_true c
    obtain ⟨h, hi, hp, hm⟩ := pk_step i n b (by omega)
    have ph := Nat.pow_pos (a := 2) (n := h) (by decide)
    have lh : (n - b).log2 = h := log2_is (by omega) (by have := Nat.mod_lt n ph; rw [Nat.pow_succ]; omega)
    have dl : done.length ≤ 101 := by
      have k1 := congrArg List.length hd
      rw [List.length_append] at k1
      have k2 := pk_len 101 n 0
      omega
    refine ⟨fun σ' H' => ∃ mu, mu < n - b ∧ ∃ (i b : Nat) (v3 : Option V) (xs : List V) (done : List (Nat × Nat)), σ' = [some (.int n), some (.ref fa), some (.int b), v3] ∧ Same H H' ∧ H' fa = some (.lst xs) ∧ All2 (Nd H') xs (done.map full) ∧ done ++ pk i n b = pk 101 n 0 ∧ b + n % 2 ^ i = n ∧ mu = n - b, fun σ' H' h => h, ?_⟩
    have e1 : (n : Int) - (b : Int) = ((n - b : Nat) : Int) := by omega
    refine ⟨_, rfl, _, rfl, _, rfl, _, _, rfl, rfl, n - b, congrArg (fun z => [V.int z]) e1, by omega, by omega, _, _, rfl, rfl, ?_⟩
    have e2 : (b : Int) + ((2 ^ (n - b).log2 : Nat) : Int) = ((b + 2 ^ h : Nat) : Int) := by rw [lh]; omega
    dsimp only
    rw [e2]
    refine ⟨_, rfl, .inl ⟨rfl, _, SqL.of hf⟩, _, rfl, _, rfl, (by show 2 ≤ sizeLine; decide), fun t nt => ?_⟩
    have s1 := same_upd (o := .tup [.int (b : Int), .int ((b + 2 ^ h : Nat) : Int)]) nt
    have hf1 := s1 _ _ hf
    refine ⟨fa, _, _, rfl, rfl, hf1, szlt (by rw [hx.len, List.length_map]; omega), ?_⟩
    refine ⟨_, rfl, ?_⟩
    refine ⟨n - (b + 2 ^ h), by omega, h, b + 2 ^ h, _, xs ++ [.ref t], done ++ [(b, h)], rfl, ?_, upd_same, ?_, ?_, by omega, rfl⟩
    · exact fun a o k => by rw [upd_ne (ne_of_none k nf)]; exact s1 _ _ (sm _ _ k)
    · rw [List.map_append]
      refine (hx.mono (fun v x (k : Nd H1 v x) => (k.same s1).upd hf1)).app (.cons ?_ .nil)
      exact Nd.upd (x := full (b, h)) ⟨t, rfl, upd_same⟩ hf1
    · rw [← hd, hp, List.append_assoc]
      rfl
  · have c1 : ¬ (b : Int) < (n : Int) := of_decide_eq_false (Bool.eq_false_iff.mpr c)
    rw [pk_nil i n b (by omega), List.append_nil] at hd
    rw [hd] at hx
    exact ⟨_, rfl, q H1 fa xs sm nf hf hx⟩
end
end LT

namespace LT
open PySem PySem.Spec PyProof.Rows L2
/-- spans, each one at or behind the end of the one ahead -/
def So (n : Nat) : Nat → List (Nat × Nat) → Prop
  | lo, [] => lo ≤ n
  | lo, x :: l => lo ≤ x.1 ∧ x.1 < x.2 ∧ x.2 ≤ n ∧ So n x.2 l
theorem So.le {n : Nat} : ∀ {lo : Nat} {l : List (Nat × Nat)}, So n lo l → lo ≤ n
  | _, [], h => h
  | _, _ :: _, ⟨h1, h2, h3, _⟩ => by omega
theorem So.mem {n : Nat} : ∀ {lo : Nat} {l : List (Nat × Nat)}, So n lo l → ∀ x ∈ l, lo ≤ x.1 ∧ x.1 < x.2 ∧ x.2 ≤ n
  | lo, y :: l, ⟨h1, h2, h3, h4⟩, x, hx => by
    rcases List.mem_cons.mp hx with rfl | hx
    · exact ⟨h1, h2, h3⟩
    · obtain ⟨k1, k2, k3⟩ := So.mem h4 x hx
      exact ⟨by omega, k2, k3⟩
/-- the needed nodes -/
def nl (n : Nat) : Nat → List (Nat × Nat) → List (Nat × Nat)
  | lo, [] => nw n lo n
  | lo, x :: l => nw n lo x.1 ++ nl n x.2 l
section
variable {P : Program} {w : World} {K : PySem.W.Frag} {mg : Str → Option Value} {base : Heap}
def spListOf : Sp := fun vs H Q _ => ∃ (p : Addr) (xs : List V) (lo hi : Nat), vs = [.ref p, .int lo, .int hi] ∧ H p = some (.lst xs) ∧ lo ≤ xs.length ∧ xs.length ≤ hi ∧ Q (.bl true) H
theorem ok_is_list_of {f : Addr} {fd : FuncData} (F : Fun K "is_list_of" "is_list_of" sIsListOf f fd) (z_isinstance : mg "isinstance" = none) (z_list : mg "list" = none) (z_len : mg "len" = none) : FnOk P w K mg base CX0 1 f fd ["value", "least", "most"] spListOf := by
  refine F.ok scIsListOf (fun vs H Q E h => ?_) (fun cdv A outer s H vs Q E hr h => ?_)
  · obtain ⟨_, _, _, _, rfl, _⟩ := h
    rfl
  obtain ⟨p, xs, lo, hi, rfl, hp, h1, h2, q⟩ := h
  refine ⟨_, (pss_one (ps_ret (pe_and (pe_callB call_isi (by rfl) z_isinstance (by decide +kernel) (pa_cons (pv 0) (pa_cons (pe_bltn (v := .ty "list") (u := .type "list") (by rfl) z_list (by decide +kernel) rfl) pa_nil))) (pe_one (pe_chain op_le op_le (pv 1) (pe_callB call_len_seq (by rfl) z_len PySem.boot_len (pa_cons (pv 0) pa_nil)) (pv 2)))))), ?_⟩
  refine ⟨_, rfl, _, _, _, _, true, rfl, .ty "list", .base (.lst hp), kit_ty (by decide +kernel), true, rfl, ?_⟩
  refine ⟨_, rfl, _, rfl, p, xs, rfl, .inl (SqL.of hp), _, _, rfl, rfl, true, congrArg V.bl (decide_eq_true (by omega)), _, rfl, _, _, rfl, rfl, ?_⟩
  show Q (.bl (decide (((xs.length : Nat) : Int) ≤ (hi : Int)))) H
  rw [decide_eq_true (show ((xs.length : Nat) : Int) ≤ (hi : Int) by omega)]
  exact q
def spSpanFrom : Sp := fun vs H Q _ => ∃ (n lo : Nat) (v : V) (x : Nat × Nat), vs = [.int n, v, .int lo] ∧ Nd H v x ∧ lo ≤ x.1 ∧ x.1 < x.2 ∧ x.2 ≤ n ∧ Q (.bl true) H
theorem ok_is_span_from {f g : Addr} {fd gd : FuncData} (F : Fun K "is_span_from" "is_span_from" sIsSpanFrom f fd) (GIsBetween : FnOk P w K mg base CX0 2 g gd ["value", "low", "high"] spBetween) (AIsBetween : At K mg "is_between" g gd ["value", "low", "high"])
    (z_isinstance : mg "isinstance" = none) (z_tuple : mg "tuple" = none) (z_len : mg "len" = none) : FnOk P w K mg base CX0 3 f fd ["size", "value", "least"] spSpanFrom := by
  refine F.ok scIsSpanFrom (fun vs H Q E h => ?_) (fun cdv A outer s H vs Q E hr h => ?_)
  · obtain ⟨_, _, _, _, rfl, _⟩ := h
    rfl
  obtain ⟨n, lo, v, x, rfl, ⟨p, rfl, hp⟩, h1, h2, h3, q⟩ := h
  refine ⟨_, (pss_cons (ps_if (PW.pt (pw_or (pt_not (pt_val (pe_callB call_isi (by rfl) z_isinstance (by decide +kernel) (pa_cons (pv 1) (pa_cons (pe_bltn (v := .ty "tuple") (u := .type "tuple") (by rfl) z_tuple (by decide +kernel) rfl) pa_nil))))) (pw_or1 (pt_cmpR op_ne (pe_callB call_len_seq (by rfl) z_len PySem.boot_len (pa_cons (pv 1) pa_nil)) pe_int (nomark _)))))
    (pss_one (ps_ret pe_bl))
    pss_nil)
    (pss_cons (ps_asg (pv 1) (pg_tup (by rfl) (pgs_cons (pg_name (i := 3) scIsSpanFrom.nd rfl (Or.inl rfl)) (pgs_cons (pg_name (i := 4) scIsSpanFrom.nd rfl (Or.inl rfl)) pgs_nil))))
    (pss_one (ps_ret (pe_and (pe_call GIsBetween (hr.mono (by decide)) rfl AIsBetween.m AIsBetween.kp AIsBetween.b .nil pass0 (pa_cons (pv 3) (pa_cons (pv 2) (pa_cons (pe_op op_sub (pv 0) pe_int) pa_nil)))) (pe_one (pe_call GIsBetween (hr.mono (by decide)) rfl AIsBetween.m AIsBetween.kp AIsBetween.b .nil pass0 (pa_cons (pv 4) (pa_cons (pe_op op_add (pv 3) pe_int) (pa_cons (pv 0) pa_nil)))))))))), ?_⟩
  refine ⟨_, rfl, _, _, _, _, true, rfl, .ty "tuple", .base (.tup hp), kit_ty (by decide +kernel), true, rfl, ?_⟩
  refine ⟨_, rfl, p, _, rfl, .inr (SqT.of hp), rfl, false, rfl, ?_⟩
  refine ⟨_, rfl, p, _, rfl, SqT.of hp, rfl, _, _, rfl, _, _, rfl, rfl, ?_⟩
  refine ⟨_, rfl, _, rfl, _, rfl, _, _, rfl, rfl, _, _, _, rfl, true, ?_, ?_⟩
  · exact congrArg V.bl (by rw [Bool.and_eq_true]; exact ⟨decide_eq_true (by omega), decide_eq_true (by omega)⟩)
  refine ⟨_, rfl, _, rfl, _, _, rfl, rfl, _, rfl, _, _, _, rfl, ?_⟩
  have e : (decide ((x.1 : Int) + 1 ≤ (x.2 : Int)) && decide ((x.2 : Int) ≤ (n : Int))) = true := by
    rw [Bool.and_eq_true]
    exact ⟨decide_eq_true (by omega), decide_eq_true (by omega)⟩
  show Q (.bl (decide ((x.1 : Int) + 1 ≤ (x.2 : Int)) && decide ((x.2 : Int) ≤ (n : Int)))) H
  rw [e]
  exact q
def spCheckSpans : Sp := fun vs H Q _ => ∃ (n : Nat) (p : Addr) (xs : List V) (S : List (Nat × Nat)), vs = [.int n, .ref p] ∧ H p = some (.lst xs) ∧ All2 (Nd H) xs S ∧ 1 ≤ S.length ∧ S.length ≤ 12 ∧ So n 0 S ∧ ∀ H', Same H H' → Q .non H'
theorem ok_check_spans {f g1 g2 : Addr} {fd d1 d2 : FuncData} {t : Tok} (F : Fun K "check_spans" "check_spans" sCheckSpans f fd) (GIsListOf : FnOk P w K mg base CX0 1 g1 d1 ["value", "least", "most"] spListOf) (AIsListOf : At K mg "is_list_of" g1 d1 ["value", "least", "most"])
    (GIsSpanFrom : FnOk P w K mg base CX0 3 g2 d2 ["size", "value", "least"] spSpanFrom) (AIsSpanFrom : At K mg "is_span_from" g2 d2 ["size", "value", "least"]) (g_MOST_SPANS : mg "MOST_SPANS" = some (.int 12 t)) (z_enumerate : mg "enumerate" = none) : FnOk P w K mg base CX0 4 f fd ["size", "spans"] spCheckSpans := by
  refine F.ok scCheckSpans (fun vs H Q E h => ?_) (fun cdv A outer s H vs Q E hr h => ?_)
  · obtain ⟨_, _, _, _, rfl, _⟩ := h
    rfl
  obtain ⟨n, p, xs, S, rfl, hp, hx, l1, l12, hS, q⟩ := h
  refine ⟨_, (pss_cons (ps_if (pt_not (pt_val (pe_call GIsListOf (hr.mono (by decide)) rfl AIsListOf.m AIsListOf.kp AIsListOf.b .nil pass0 (pa_cons (pv 1) (pa_cons pe_int (pa_cons (pe_glob (v := .int 12) rfl g_MOST_SPANS ⟨_, rfl⟩) pa_nil))))))
    (pss_one ps_never)
    pss_nil)
    (pss_cons (ps_set (i := 2) scCheckSpans.nd rfl (Or.inl rfl) pe_int)
    (pss_one (ps_for PassesOwn.never rfl (pi_enum (by rfl) z_enumerate (pa_cons (pv 1) pa_nil)) (pg_tup (by rfl) (pgs_cons (pg_name (i := 3) scCheckSpans.nd rfl (Or.inl rfl)) (pgs_cons (pg_name (i := 4) scCheckSpans.nd rfl (Or.inl rfl)) pgs_nil)))
    (pss_cons (ps_if (pt_not (pt_val (pe_call GIsSpanFrom (hr.mono (by decide)) rfl AIsSpanFrom.m AIsSpanFrom.kp AIsSpanFrom.b .nil pass0 (pa_cons (pv 0) (pa_cons (pv 4) (pa_cons (pv 2) pa_nil))))))
    (pss_one ps_never)
    pss_nil)
    (pss_one (ps_set (i := 2) scCheckSpans.nd rfl (Or.inl rfl) (pe_ix ix_tup (pv 4) pe_int (fun _ _ => rfl))))))))), ?_⟩
  have xl := hx.len
  refine ⟨_, rfl, p, xs, 1, 12, rfl, hp, by omega, by omega, true, rfl, ?_⟩
  refine ⟨_, rfl, p, xs, rfl, SqL.of hp, ?_⟩
  refine for_enum (a := p) (xs := xs) (fun i σ H' => ∃ (lo : Nat) (v3 v4 : Option V), σ = [some (.int (n : Int)), some (.ref p), some (.int (lo : Int)), v3, v4] ∧ Same H H' ∧ So n lo (S.drop i))
    ⟨0, none, none, rfl, Same.refl _, hS⟩ (fun i σ H' _ ⟨_, _, _, _, sm, _⟩ => SqL.of (sm _ _ hp)) ?_ ?_
  · rintro i x σ H2 T hi ⟨lo, v3, v4, rfl, sm, hs⟩ nT
    obtain ⟨y, hyi, hy⟩ := hx.nth hi
    have hdr : S.drop i = y :: S.drop (i + 1) := by
      obtain ⟨hl, hxe⟩ := List.getElem?_eq_some_iff.mp hyi
      rw [List.drop_eq_getElem_cons hl, hxe]
    rw [hdr] at hs
    obtain ⟨k1, k2, k3, k4⟩ := hs
    have sT := same_upd (o := .tup [.int ((i : Nat) : Int), x]) nT
    have hy2 := (hy.same sm).same sT
    obtain ⟨yp, rfl, hyp⟩ := id hy2
    refine ⟨T, _, rfl, SqT.of upd_same, rfl, _, _, rfl, _, _, rfl, rfl, ?_⟩
    refine ⟨_, rfl, _, rfl, _, rfl, n, lo, _, y, rfl, hy2, k1, k2, k3, true, rfl, ?_⟩
    refine ⟨_, rfl, yp, _, _, _, rfl, rfl, SqT.of hyp, atI_nat (j := 1) rfl, ?_⟩
    exact ⟨y.2, _, _, rfl, sm.trans sT, k4⟩
  · rintro σ H2 ⟨lo, v3, v4, rfl, sm, hs⟩
    exact q H2 sm
end
end LT

namespace LT
open PySem PySem.Spec PyProof.Rows L2
def cst (x : Nat × Nat) : Int × Int := (x.1, x.2)
theorem lex_anti (x y : Int × Int) (h1 : SrtO.lexB y x = false) (h2 : SrtO.lexB x y = false) : x = y := by
  unfold SrtO.lexB at h1 h2
  by_cases c : x.1 = y.1
  · rw [if_pos c.symm] at h1
    rw [if_pos c] at h2
    have := of_decide_eq_false h1
    have := of_decide_eq_false h2
    exact Prod.ext c (by omega)
  · rw [if_neg (fun z => c z.symm)] at h1
    rw [if_neg c] at h2
    have := of_decide_eq_false h1
    have := of_decide_eq_false h2
    omega
/-- the key of a pair in the heap -/
def kOf (H : Hp) : V → Int × Int
  | .ref a => match H a with
    | some (.tup [.int i, .int j]) => (i, j)
    | _ => (0, 0)
  | _ => (0, 0)
theorem kOf_nd {H : Hp} {v : V} {x : Nat × Nat} (h : Nd H v x) : kOf H v = cst x := by
  obtain ⟨p, rfl, q⟩ := h
  unfold kOf
  simp only [q]
  rfl
theorem keys_of {H : Hp} : ∀ {vs : List V} {l : List (Nat × Nat)}, All2 (Nd H) vs l → vs.map (kOf H) = l.map cst
  | _, _, .nil => rfl
  | _, _, .cons h t => by rw [List.map_cons, List.map_cons, kOf_nd h, keys_of t]
theorem cst_inj {x y : Nat × Nat} (h : cst x = cst y) : x = y := by
  have h1 := congrArg Prod.fst h
  have h2 := congrArg Prod.snd h
  unfold cst at h1 h2
  simp only at h1 h2
  exact Prod.ext (by omega) (by omega)
theorem of_keys {H : Hp} : ∀ (vs : List V) (l : List (Nat × Nat)), vs.map (kOf H) = l.map cst → (∀ v ∈ vs, ∃ x, Nd H v x) → All2 (Nd H) vs l
  | [], [], _, _ => .nil
  | [], y :: l, h, _ => by cases h
  | v :: vs, [], h, _ => by cases h
  | v :: vs, y :: l, h, k => by
    rw [List.map_cons, List.map_cons, List.cons.injEq] at h
    obtain ⟨x, hx⟩ := k v List.mem_cons_self
    have e : x = y := cst_inj (by rw [← kOf_nd hx]; exact h.1)
    subst e
    exact .cons hx (of_keys vs l h.2 fun u hu => k u (List.mem_cons_of_mem _ hu))
theorem All2.mem {α : Type} {R : V → α → Prop} : ∀ {vs : List V} {xs : List α} {v : V}, All2 R vs xs → v ∈ vs → ∃ x, x ∈ xs ∧ R v x
  | _, _, _, .cons h t, m => by
    rcases List.mem_cons.mp m with rfl | m
    · exact ⟨_, List.mem_cons_self, h⟩
    · obtain ⟨x, k1, k2⟩ := All2.mem t m
      exact ⟨x, List.mem_cons_of_mem _ k1, k2⟩
def leN (x y : Nat × Nat) : Bool := decide (x.1 < y.1) || (decide (x.1 = y.1) && decide (x.2 ≤ y.2))
theorem leN_iff {x y : Nat × Nat} : leN x y = true ↔ x.1 < y.1 ∨ (x.1 = y.1 ∧ x.2 ≤ y.2) := by
  unfold leN
  simp only [Bool.or_eq_true, Bool.and_eq_true, decide_eq_true_eq]
theorem leN_trans (a b c : Nat × Nat) (h1 : leN a b = true) (h2 : leN b c = true) : leN a c = true := by
  rw [leN_iff] at *
  omega
theorem leN_total (a b : Nat × Nat) : (leN a b || leN b a) = true := by
  rw [Bool.or_eq_true, leN_iff, leN_iff]
  omega
/-- the pairs in their order -/
def srt (l : List (Nat × Nat)) : List (Nat × Nat) := l.mergeSort leN
theorem srt_perm (l : List (Nat × Nat)) : (srt l).Perm l := List.mergeSort_perm l leN
theorem srt_pair (l : List (Nat × Nat)) : (srt l).Pairwise (fun x y => leN x y = true) := List.pairwise_mergeSort leN_trans leN_total l
theorem srt_len (l : List (Nat × Nat)) : (srt l).length = l.length := (srt_perm l).length_eq
theorem srt_mem {l : List (Nat × Nat)} {x : Nat × Nat} : x ∈ srt l ↔ x ∈ l := (srt_perm l).mem_iff
theorem leN_anti {x y : Nat × Nat} (h1 : leN x y = true) (h2 : leN y x = true) : x = y := by
  rw [leN_iff] at *
  exact Prod.ext (by omega) (by omega)
theorem srt_id {l : List (Nat × Nat)} (h : l.Pairwise (fun x y => leN x y = true)) : srt l = l :=
  List.Perm.eq_of_pairwise (le := fun x y => leN x y = true) (fun _ _ _ _ h1 h2 => leN_anti h1 h2) (srt_pair l) h (srt_perm l)
theorem srt_eq {l k : List (Nat × Nat)} (h : l.Perm k) : srt l = srt k :=
  List.Perm.eq_of_pairwise (le := fun x y => leN x y = true) (fun _ _ _ _ h1 h2 => leN_anti h1 h2) (srt_pair l) (srt_pair k) ((srt_perm l).trans (h.trans (srt_perm k).symm))
theorem lexB_of {x y : Nat × Nat} (h : leN x y = true) : SrtO.lexB (cst y) (cst x) = false := by
  rw [leN_iff] at h
  show (if ((y.1 : Nat) : Int) = ((x.1 : Nat) : Int) then decide (((y.2 : Nat) : Int) < ((x.2 : Nat) : Int)) else decide (((y.1 : Nat) : Int) < ((x.1 : Nat) : Int))) = false
  by_cases c : y.1 = x.1
  · rw [if_pos (by omega)]; exact decide_eq_false (by omega)
  · rw [if_neg (by omega)]; exact decide_eq_false (by omega)
theorem sorted_srt {H : Hp} {xs ys : List V} {l : List (Nat × Nat)} (hx : All2 (Nd H) xs l) (h : SrtO.Srtd (ltP (kOf H)) ys) (p : ys.Perm xs) : All2 (Nd H) ys (srt l) := by
  refine of_keys ys (srt l) ?_ (fun v hv => ?_)
  · have p1 := (p.map (kOf H))
    rw [keys_of hx] at p1
    refine List.Perm.eq_of_pairwise (le := fun x y => SrtO.lexB y x = false) (fun a b _ _ h1 h2 => lex_anti a b h1 h2) ?_ ?_ (p1.trans ((srt_perm l).map cst).symm)
    · exact List.pairwise_map.mpr h
    · exact List.pairwise_map.mpr ((srt_pair l).imp fun h => lexB_of h)
  · obtain ⟨x, _, k⟩ := hx.mem (p.mem_iff.mp hv)
    exact ⟨x, k⟩
end LT

namespace LT
open PySem PySem.Spec PyProof.Rows L2
/-- the greatest nodes beside stretches that ascend by their begins -/
def nb (n : Nat) : Nat → List (Nat × Nat) → List (Nat × Nat)
  | lo, [] => nw n lo n
  | lo, x :: l => nw n lo x.1 ++ nb n (max lo x.2) l
theorem nb_len {n : Nat} (h : n ≤ 2 ^ 100) : ∀ (l : List (Nat × Nat)) (lo : Nat), (∀ x ∈ l, x.1 ≤ n) → (nb n lo l).length ≤ 202 * (l.length + 1)
  | [], lo, _ => nw_len h
  | x :: l, lo, k => by
    have k1 := k x List.mem_cons_self
    have a := nw_len (n := n) (b := lo) (e := x.1) (by omega)
    have b := nb_len h l (max lo x.2) (fun y hy => k y (List.mem_cons_of_mem _ hy))
    show (nw n lo x.1 ++ nb n (max lo x.2) l).length ≤ 202 * (l.length + 1 + 1)
    rw [List.length_append]
    omega
theorem max_castB (a c : Nat) : (if ((c : Nat) : Int) > (a : Int) then (c : Int) else (a : Int)) = ((max a c : Nat) : Int) := by split <;> omega
section
variable {P : Program} {w : World} {K : PySem.W.Frag} {mg : Str → Option Value} {base : Heap}
def spBeside : Sp := fun vs H Q _ => ∃ (n : Nat) (p : Addr) (xs : List V) (S : List (Nat × Nat)), vs = [.int n, .ref p] ∧ 1 ≤ n ∧ n ≤ 10 ^ 30 ∧ H p = some (.lst xs) ∧ All2 (Nd H) xs S ∧ S.length ≤ 400 ∧ (∀ x ∈ S, x.1 ≤ n) ∧
  ∀ (H' : Hp) (r : Addr) (ys : List V), Same H H' → H r = none → H' r = some (.lst ys) → All2 (Nd H') ys (nb n 0 (srt S)) → Q (.ref r) H'
theorem ok_nodes_beside {f g3 : Addr} {fd d3 : FuncData} (F : Fun K "nodes_beside" "nodes_beside" sNodesBeside f fd)
    (GNodesWithin : FnOk P w K mg base CX0 4 g3 d3 ["size", "begin", "end"] spWithinX) (ANodesWithin : At K mg "nodes_within" g3 d3 ["size", "begin", "end"]) (z_sorted : mg "sorted" = none) (z_max : mg "max" = none) : FnOk P w K mg base CX0 5 f fd ["size", "stretches"] spBeside := by
  refine F.ok scNodesBeside (fun vs H Q E h => ?_) (fun cdv A outer s H vs Q E hr h => ?_)
  · obtain ⟨_, _, _, _, rfl, _⟩ := h
    rfl
  obtain ⟨n, p, xs, S, rfl, n1, h30, hp, hx, l400, hS, q⟩ := h
  refine ⟨_, (pss_cons (ps_set (i := 2) scNodesBeside.nd rfl (Or.inl rfl) (pe_lst pa_nil))
    (pss_cons (ps_set (i := 3) scNodesBeside.nd rfl (Or.inl rfl) pe_int)
    (pss_cons (ps_for PassesOwn.never rfl (pi_list (pe_callB cr_sortedPO (by rfl) z_sorted (by decide +kernel) (pa_cons (pv 1) pa_nil))) (pg_tup (by rfl) (pgs_cons (pg_name (i := 4) scNodesBeside.nd rfl (Or.inl rfl)) (pgs_cons (pg_name (i := 5) scNodesBeside.nd rfl (Or.inl rfl)) pgs_nil)))
    (pss_cons (ps_expr (pe_bm PySem.F.plainAttrs_list PySem.F.slot_list_extend PySem.F.type_list_extend mt_extend (pv 2) (pa_cons (pe_call GNodesWithin (hr.mono (by decide)) rfl ANodesWithin.m ANodesWithin.kp ANodesWithin.b .nil pass0 (pa_cons (pv 0) (pa_cons (pv 3) (pa_cons (pv 4) pa_nil)))) pa_nil)))
    (pss_one (ps_set (i := 3) scNodesBeside.nd rfl (Or.inl rfl) (pe_callB (call_max2 rfl) (by rfl) z_max (by decide +kernel) (pa_cons (pv 3) (pa_cons (pv 5) pa_nil)))))))
    (pss_cons (ps_expr (pe_bm PySem.F.plainAttrs_list PySem.F.slot_list_extend PySem.F.type_list_extend mt_extend (pv 2) (pa_cons (pe_call GNodesWithin (hr.mono (by decide)) rfl ANodesWithin.m ANodesWithin.kp ANodesWithin.b .nil pass0 (pa_cons (pv 0) (pa_cons (pv 3) (pa_cons (pv 0) pa_nil)))) pa_nil)))
    (pss_one (ps_ret (pv 2))))))), ?_⟩
  refine ⟨Nat.zero_le _, fun fa nf => ?_⟩
  have s2 := same_upd (o := .lst []) nf
  have hx2 := hx.mono (fun v x (k : Nd H v x) => k.same s2)
  have hp2 := s2 _ _ hp
  have hf2 : (upd H fa (.lst [])) fa = some (.lst []) := upd_same
  generalize upd H fa (.lst []) = H2 at s2 hx2 hp2 hf2
  refine ⟨_, rfl, p, xs, kOf H2, rfl, SqL.of hp2, fun x hm => ?_, fun ys so hs1 hs2 nso => ?_⟩
  · obtain ⟨y, _, pa, rfl, hpa⟩ := hx2.mem hm
    exact ⟨pa, rfl, by rw [hpa]; simp only [kOf, hpa]⟩
  have s3 := same_upd (o := .lst ys) nso
  have hy0 := (sorted_srt hx2 hs1 hs2.perm).mono (fun v x (k : Nd H2 v x) => k.same s3)
  have hso : (upd H2 so (.lst ys)) so = some (.lst ys) := upd_same
  have hf3 := s3 _ _ hf2
  have sof : so ≠ fa := fun z => by rw [z, hf2] at nso; cases nso
  have s03 := s2.trans s3
  have tot := nb_len (n := n) (by omega) (srt S) 0 (fun x hx => hS x (srt_mem.mp hx))
  have hT : ∀ x ∈ srt S, x.1 ≤ n := fun x hx => hS x (srt_mem.mp hx)
  have tl : (srt S).length ≤ 400 := by rw [srt_len]; exact l400
  generalize srt S = T at q hy0 tot hT tl
  generalize upd H2 so (.lst ys) = H3 at s3 hso hf3 hy0 s03
  have yl := hy0.len
  refine ⟨so, rfl, ⟨_, SqL.of hso⟩, for_list (K := K) (a := so) (xs := ys) (fun i σ H' => ∃ (lo : Nat) (v4 v5 : Option V) (zs : List V) (done : List (Nat × Nat)), σ = [some (.int (n : Int)), some (.ref p), some (.ref fa), some (.int (lo : Int)), v4, v5] ∧ Same H H' ∧ But fa H3 H' ∧ H' fa = some (.lst zs) ∧ All2 (Nd H') zs done ∧ done ++ nb n lo (T.drop i) = nb n 0 T)
    ⟨0, none, none, [], [], rfl, s03, But.refl _ _, hf3, .nil, rfl⟩ (fun i σ H' _ ⟨_, _, _, _, _, _, _, k, _⟩ => SqL.of (k _ _ sof hso)) ?_ ?_⟩
  · rintro i v σ H4 hi ⟨lo, v4, v5, zs, done, rfl, sm, B4, hf, hz, hd⟩
    obtain ⟨x, hxi, pv, rfl, hpv⟩ := hy0.nth hi
    have hdr : T.drop i = x :: T.drop (i + 1) := by
      obtain ⟨hl, hxe⟩ := List.getElem?_eq_some_iff.mp hxi
      rw [List.drop_eq_getElem_cons hl, hxe]
    rw [hdr] at hd
    have xn := hT x (List.mem_of_getElem? hxi)
    have pvf : pv ≠ fa := fun z => by rw [z, hf3] at hpv; cases hpv
    have hpv4 := B4 _ _ pvf hpv
    refine ⟨pv, _, rfl, SqT.of hpv4, rfl, _, _, rfl, _, _, rfl, rfl, ?_⟩
    refine ⟨_, rfl, .inl ⟨rfl, _, SqL.of hf⟩, _, rfl, _, rfl, _, rfl, n, lo, x.1, rfl, n1, by omega, xn, by omega, fun H5 r us s5 nr hr5 hu => ?_⟩
    have hf5 := s5 _ _ hf
    have lz : zs.length + us.length ≤ 100000 := by
      have k := congrArg List.length hd
      rw [List.length_append] at k
      have k2 : (nb n lo (x :: T.drop (i + 1))).length = (nw n lo x.1).length + (nb n (max lo x.2) (T.drop (i + 1))).length := by
        show (nw n lo x.1 ++ _).length = _
        rw [List.length_append]
      rw [hz.len, hu.len]
      omega
    refine ⟨fa, r, zs, us, rfl, rfl, hf5, hr5, szle (by omega), ?_⟩
    refine ⟨_, rfl, _, rfl, _, _, rfl, ?_⟩
    rw [max_castB]
    refine ⟨max lo x.2, _, _, zs ++ us, done ++ nw n lo x.1, rfl, ?_, ?_, upd_same, ?_, ?_⟩
    · exact fun a o k => by rw [upd_ne (ne_of_none k nf)]; exact s5 _ _ (sm _ _ k)
    · exact fun a o n k => by rw [upd_ne n]; exact s5 _ _ (B4 a o n k)
    · exact (hz.mono (fun v x (k : Nd H4 v x) => (k.same s5).upd hf5)).app (hu.mono (fun v x (k : Nd H5 v x) => k.upd hf5))
    · rw [← hd, List.append_assoc]
      rfl
  · rintro σ H4 ⟨lo, v4, v5, zs, done, rfl, sm, B4, hf, hz, hd⟩
    rw [yl, List.drop_length] at hd
    refine ⟨_, rfl, .inl ⟨rfl, _, SqL.of hf⟩, _, rfl, _, rfl, _, rfl, n, lo, n, rfl, n1, by omega, by omega, by omega, fun H5 r us s5 nr hr5 hu => ?_⟩
    have hf5 := s5 _ _ hf
    have lz : zs.length + us.length ≤ 100000 := by
      have k := congrArg List.length hd
      rw [List.length_append] at k
      have k2 : (nb n lo []).length = (nw n lo n).length := rfl
      rw [hz.len, hu.len]
      omega
    refine ⟨fa, r, zs, us, rfl, rfl, hf5, hr5, szle (by omega), ?_⟩
    refine ⟨_, rfl, q _ fa (zs ++ us) ?_ nf upd_same ?_⟩
    · exact fun a o k => by rw [upd_ne (ne_of_none k nf)]; exact s5 _ _ (sm _ _ k)
    · rw [← hd]
      exact (hz.mono (fun v x (k : Nd H4 v x) => (k.same s5).upd hf5)).app (hu.mono (fun v x (k : Nd H5 v x) => k.upd hf5))
end
end LT

namespace LT
open PySem PySem.Spec PyProof.Rows L2
section
variable {P : Program} {w : World} {K : PySem.W.Frag} {mg : Str → Option Value} {base : Heap}
theorem nl_len {n : Nat} (h : n ≤ 2 ^ 100) : ∀ (l : List (Nat × Nat)) (lo : Nat), So n lo l → (nl n lo l).length ≤ 202 * (l.length + 1)
  | [], lo, _ => nw_len h
  | x :: l, lo, ⟨h1, h2, h3, h4⟩ => by
    have a := nw_len (n := n) (b := lo) (e := x.1) (by omega)
    have b := nl_len h l x.2 h4
    show (nw n lo x.1 ++ nl n x.2 l).length ≤ 202 * (l.length + 1 + 1)
    rw [List.length_append]
    omega
def spNeeded : Sp := fun vs H Q _ => ∃ (n : Nat) (p : Addr) (xs : List V) (S : List (Nat × Nat)), vs = [.int n, .ref p] ∧ 1 ≤ n ∧ n ≤ 10 ^ 30 ∧ H p = some (.lst xs) ∧ All2 (Nd H) xs S ∧ 1 ≤ S.length ∧ S.length ≤ 12 ∧ So n 0 S ∧
  ∀ (H' : Hp) (r : Addr) (ys : List V), Same H H' → H r = none → H' r = some (.lst ys) → All2 (Nd H') ys (nl n 0 S) → Q (.ref r) H'
theorem so_pair {n : Nat} : ∀ {lo : Nat} {l : List (Nat × Nat)}, So n lo l → l.Pairwise (fun x y => leN x y = true)
  | _, [], _ => .nil
  | lo, x :: l, ⟨h1, h2, h3, h4⟩ => .cons (fun y hy => by
      obtain ⟨k1, k2, k3⟩ := So.mem h4 y hy
      rw [leN_iff]
      omega) (so_pair h4)
theorem nb_nl {n : Nat} : ∀ {lo : Nat} {l : List (Nat × Nat)}, So n lo l → nb n lo l = nl n lo l
  | _, [], _ => rfl
  | lo, x :: l, ⟨h1, h2, h3, h4⟩ => by
    show nw n lo x.1 ++ nb n (max lo x.2) l = nw n lo x.1 ++ nl n x.2 l
    rw [Nat.max_eq_right (by omega), nb_nl h4]
theorem ok_needed {f g1 g2 g3 : Addr} {fd d1 d2 d3 : FuncData} (F : Fun K "needed" "needed" sNeeded f fd) (GCheckSize : FnOk P w K mg base CX0 3 g1 d1 ["size"] spCheckSize) (ACheckSize : At K mg "check_size" g1 d1 ["size"])
    (GCheckSpans : FnOk P w K mg base CX0 4 g2 d2 ["size", "spans"] spCheckSpans) (ACheckSpans : At K mg "check_spans" g2 d2 ["size", "spans"])
    (GNodesBeside : FnOk P w K mg base CX0 5 g3 d3 ["size", "stretches"] spBeside) (ANodesBeside : At K mg "nodes_beside" g3 d3 ["size", "stretches"]) : FnOk P w K mg base CX0 6 f fd ["size", "spans"] spNeeded := by
  refine F.ok scNeeded (fun vs H Q E h => ?_) (fun cdv A outer s H vs Q E hr h => ?_)
  · obtain ⟨_, _, _, _, rfl, _⟩ := h
    rfl
  obtain ⟨n, p, xs, S, rfl, n1, h30, hp, hx, l1, l12, hS, q⟩ := h
  refine ⟨_, (pss_cons (ps_expr (pe_call GCheckSize (hr.mono (by decide)) rfl ACheckSize.m ACheckSize.kp ACheckSize.b .nil pass0 (pa_cons (pv 0) pa_nil)))
    (pss_cons (ps_expr (pe_call GCheckSpans (hr.mono (by decide)) rfl ACheckSpans.m ACheckSpans.kp ACheckSpans.b .nil pass0 (pa_cons (pv 0) (pa_cons (pv 1) pa_nil))))
    (pss_one (ps_ret (pe_call GNodesBeside (hr.mono (by decide)) rfl ANodesBeside.m ANodesBeside.kp ANodesBeside.b .nil pass0 (pa_cons (pv 0) (pa_cons (pv 1) pa_nil))))))), ?_⟩
  refine ⟨_, rfl, _, rfl, by omega, by omega, _, rfl, _, rfl, n, p, xs, S, rfl, hp, hx, l1, l12, hS, fun H1 s1 => ?_⟩
  refine ⟨_, rfl, _, rfl, n, p, xs, S, rfl, n1, h30, s1 _ _ hp, hx.mono (fun v x (k : Nd H v x) => k.same s1), by omega, fun x hx => by have := (So.mem hS x hx); omega, fun H2 r ys s2 nr hr2 hy => ?_⟩
  rw [srt_id (so_pair hS), nb_nl hS] at hy
  exact q H2 r ys (s1.trans s2) (s1.free nr) hr2 hy
end
end LT

namespace LT
open PySem PySem.Spec PyProof.Rows L2
def ol (n e : Nat) : List (Nat × Nat) := if e = n then [] else (if (pk 101 e 0).length = 1 then [] else (pk 101 e 0).map full) ++ nw n e n
def oc (n e : Nat) : Nat := (ol n e).length
def lg (n : Nat) : Nat := if 3 < n then 3 else 1
section
variable {P : Program} {w : World} {K : PySem.W.Frag} {mg : Str → Option Value} {base : Heap}
def spCheckOlder : Sp := fun vs H Q _ => ∃ n e : Int, vs = [.int n, .int e] ∧ 1 ≤ e ∧ e ≤ n ∧ Q .non H
theorem ok_check_older {f g : Addr} {fd gd : FuncData} (F : Fun K "check_older" "check_older" sCheckOlder f fd) (GIsBetween : FnOk P w K mg base CX0 2 g gd ["value", "low", "high"] spBetween) (AIsBetween : At K mg "is_between" g gd ["value", "low", "high"]) : FnOk P w K mg base CX0 3 f fd ["size", "older"] spCheckOlder := by
  refine F.ok scCheckOlder (fun vs H Q E h => ?_) (fun cdv A outer s H vs Q E hr h => ?_)
  · obtain ⟨_, _, rfl, _⟩ := h
    rfl
  obtain ⟨n, e, rfl, h1, h2, q⟩ := h
  refine ⟨_, (pss_one (ps_if (pt_not (pt_val (pe_call GIsBetween (hr.mono (by decide)) rfl AIsBetween.m AIsBetween.kp AIsBetween.b .nil pass0 (pa_cons (pv 1) (pa_cons pe_int (pa_cons (pv 0) pa_nil))))))
    (pss_one ps_never)
    pss_nil)), ?_⟩
  refine ⟨_, rfl, _, rfl, e, 1, n, rfl, _, rfl, ?_⟩
  rw [decide_eq_true h1, decide_eq_true h2]
  exact q
def spOlderList : Sp := fun vs H Q _ => ∃ n e : Nat, vs = [.int n, .int e] ∧ 1 ≤ e ∧ e ≤ n ∧ n ≤ 10 ^ 30 ∧ ∀ (H' : Hp) (p : Addr) (xs : List V), Same H H' → H p = none → H' p = some (.lst xs) → All2 (Nd H') xs (ol n e) → Q (.ref p) H'
theorem ok_older_list {f g1 g2 g3 g4 : Addr} {fd d1 d2 d3 d4 : FuncData} (F : Fun K "older_list" "older_list" sOlderList f fd) (GCheckSize : FnOk P w K mg base CX0 3 g1 d1 ["size"] spCheckSize) (ACheckSize : At K mg "check_size" g1 d1 ["size"])
    (GCheckOlder : FnOk P w K mg base CX0 3 g2 d2 ["size", "older"] spCheckOlder) (ACheckOlder : At K mg "check_older" g2 d2 ["size", "older"])
    (GPeaks : FnOk P w K mg base CX0 4 g3 d3 ["size"] spTops) (APeaks : At K mg "peaks" g3 d3 ["size"])
    (GNodesWithin : FnOk P w K mg base CX0 4 g4 d4 ["size", "begin", "end"] spWithin) (ANodesWithin : At K mg "nodes_within" g4 d4 ["size", "begin", "end"]) (z_len : mg "len" = none) : FnOk P w K mg base CX0 5 f fd ["size", "older"] spOlderList := by
  refine F.ok scOlderList (fun vs H Q E h => ?_) (fun cdv A outer s H vs Q E hr h => ?_)
  · obtain ⟨_, _, rfl, _⟩ := h
    rfl
  obtain ⟨n, e, rfl, h1, h2, h30, q⟩ := h
  refine ⟨_, (pss_cons (ps_expr (pe_call GCheckSize (hr.mono (by decide)) rfl ACheckSize.m ACheckSize.kp ACheckSize.b .nil pass0 (pa_cons (pv 0) pa_nil)))
    (pss_cons (ps_expr (pe_call GCheckOlder (hr.mono (by decide)) rfl ACheckOlder.m ACheckOlder.kp ACheckOlder.b .nil pass0 (pa_cons (pv 0) (pa_cons (pv 1) pa_nil))))
    (pss_cons (ps_if (pt_cmpR op_eq (pv 1) (pv 0) (nomark _))
    (pss_one (ps_ret (pe_lst pa_nil)))
    pss_nil)
    (pss_cons (ps_set (i := 2) scOlderList.nd rfl (Or.inl rfl) (pe_call GPeaks (hr.mono (by decide)) rfl APeaks.m APeaks.kp APeaks.b .nil pass0 (pa_cons (pv 1) pa_nil)))
    (pss_cons (ps_if (pt_cmpR op_eq (pe_callB call_len_seq (by rfl) z_len PySem.boot_len (pa_cons (pv 2) pa_nil)) pe_int (nomark _))
    (pss_one (ps_set (i := 2) scOlderList.nd rfl (Or.inl rfl) (pe_lst pa_nil)))
    pss_nil)
    (pss_one (ps_ret (pe_op op_cat (pv 2) (pe_call GNodesWithin (hr.mono (by decide)) rfl ANodesWithin.m ANodesWithin.kp ANodesWithin.b .nil pass0 (pa_cons (pv 0) (pa_cons (pv 1) (pa_cons (pv 0) pa_nil)))))))))))), ?_⟩
  refine ⟨_, rfl, _, rfl, by omega, by omega, _, rfl, _, rfl, n, e, rfl, by omega, by omega, ?_⟩
  refine ⟨_, rfl, _, rfl, rfl, _, rfl, ite2 (fun c => ?_) (fun c => ?_)⟩
  · have c1 := V.int.inj (of_decide_eq_true c)
    have c2 : e = n := by omega
    refine ⟨Nat.zero_le _, fun p np => q _ p [] (same_upd np) np upd_same ?_⟩
    unfold ol
    rw [if_pos c2]
    exact .nil
  · have c1 : ¬ V.int (e : Int) = V.int (n : Int) := of_decide_eq_false (Bool.eq_false_iff.mpr c)
    have c2 : ¬ e = n := fun z => c1 (by rw [z])
    unfold ol at q
    rw [if_neg c2] at q
    have pl := pk_len 101 e 0
    refine ⟨_, rfl, e, rfl, h1, by omega, fun H1 t xs s1 nt ht hx => ?_⟩
    have hl := hx.len
    rw [List.length_map] at hl
    have wl := nw_len (n := n) (b := e) (e := n) (by omega)
    refine ⟨_, rfl, t, xs, rfl, .inl (SqL.of ht), rfl, _, rfl, ite2 (fun c => ?_) (fun c => ?_)⟩
    · have c3 := V.int.inj (of_decide_eq_true c)
      have c4 : (pk 101 e 0).length = 1 := by omega
      rw [if_pos c4] at q
      refine ⟨Nat.zero_le _, fun t2 nt2 => ?_⟩
      have s2 := same_upd (o := .lst []) nt2
      refine ⟨_, rfl, _, rfl, _, rfl, _, rfl, n, e, n, rfl, by omega, by omega, h2, by omega, h30, fun H3 p ys s3 np hp hy => ?_⟩
      refine ⟨t2, p, _, _, rfl, rfl, s3 _ _ upd_same, hp, szle (by rw [List.length_nil, hy.len]; omega), fun r nr => ?_⟩
      have s4 := same_upd (o := .lst ([] ++ ys)) nr
      exact q _ r ([] ++ ys) (s1.trans (s2.trans (s3.trans s4))) (s1.free (s2.free (s3.free nr))) upd_same (hy.mono fun v x k => k.same s4)
    · have c3 : ¬ V.int ((xs.length : Nat) : Int) = V.int 1 := of_decide_eq_false (Bool.eq_false_iff.mpr c)
      have c4 : ¬ (pk 101 e 0).length = 1 := fun z => c3 (by rw [hl, z]; rfl)
      rw [if_neg c4] at q
      refine ⟨_, rfl, _, rfl, _, rfl, _, rfl, n, e, n, rfl, by omega, by omega, h2, by omega, h30, fun H3 p ys s3 np hp hy => ?_⟩
      refine ⟨t, p, _, _, rfl, rfl, s3 _ _ ht, hp, szle (by rw [hl, hy.len]; omega), fun r nr => ?_⟩
      have s4 := same_upd (o := .lst (xs ++ ys)) nr
      exact q _ r (xs ++ ys) (s1.trans (s3.trans s4)) (s1.free (s3.free nr)) upd_same ((hx.mono fun v x k => (k.same s3).same s4).app (hy.mono fun v x k => k.same s4))
end
end LT

namespace LT
open PySem PySem.Spec PyProof.Rows L2
section
variable {P : Program} {w : World} {K : PySem.W.Frag} {mg : Str → Option Value} {base : Heap}
def spBag : Sp := fun vs H Q _ => ∃ c : Int, vs = [.int c] ∧ ∀ (H' : Hp) (p : Addr), Same H H' → H p = none → BagAt H' p → Q (.ref p) H'
theorem ok_law_bag {f : Addr} {fd : FuncData} (F : Fun K "_law_bag" "_law_bag" sLawBag f fd) (z_max : mg "max" = none) : FnOk P w K mg base CX0 1 f fd ["cell"] spBag := by
  refine F.ok scLawBag (fun vs H Q E h => ?_) (fun cdv A outer s H vs Q E hr h => ?_)
  · obtain ⟨_, rfl, _⟩ := h
    rfl
  obtain ⟨c, rfl, q⟩ := h
  refine ⟨_, (pss_one (ps_ret (pe_lst (pa_cons (pe_callB (call_max2 rfl) (by rfl) z_max (by decide +kernel) (pa_cons pe_int (pa_cons (pe_op op_sub (pv 0) (pe_op op_pow pe_int pe_int)) pa_nil))) (pa_cons (pv 0) (pa_cons pe_int pa_nil)))))), ?_⟩
  refine ⟨_, rfl, _, _, rfl, rfl, ⟨by decide, by decide, by decide⟩, _, _, rfl, rfl, _, _, rfl, _, rfl, (by show 3 ≤ sizeLine; decide), fun p np => ?_⟩
  exact q _ p (same_upd np) np ⟨_, _, _, upd_same⟩
theorem fm0 (x : Int) {m : Int} (h : 0 < m) : 0 ≤ x.fmod m := by
  rw [Int.fmod_eq_emod_of_nonneg _ (by omega)]
  exact Int.emod_nonneg _ (by omega)
theorem fm1 (x : Int) {m : Int} (h : 0 < m) : x.fmod m < m := by
  rw [Int.fmod_eq_emod_of_nonneg _ (by omega)]
  exact Int.emod_lt_of_pos _ h
def spPick : Sp := fun vs H Q _ => ∃ (b : Addr) (many : Int), vs = [.ref b, .int many] ∧ 0 < many ∧ many.natAbs < 2 ^ 250 ∧ BagAt H b ∧
  ∀ (r : Int) (H' : Hp), 0 ≤ r → r < many → (∀ a, a ≠ b → H' a = H a) → BagAt H' b → Q (.int r) H'
theorem ok_law_pick {f : Addr} {fd : FuncData} (F : Fun K "_law_pick" "_law_pick" sLawPick f fd) (z_int : mg "int" = none) : FnOk P w K mg base CX0 1 f fd ["bag", "many"] spPick := by
  refine F.ok scLawPick (fun vs H Q E h => ?_) (fun cdv A outer s H vs Q E hr h => ?_)
  · obtain ⟨_, _, rfl, _⟩ := h
    rfl
  obtain ⟨b, many, rfl, hm, hm2, ⟨x, y, z, h0⟩, q⟩ := h
  refine ⟨_, (pss_cons (ps_asg (pe_op op_add (pe_ix ix_list (pv 0) pe_int (fun _ _ => rfl)) pe_int) (pg_sub (pv 0) pe_int set_list))
    (pss_cons (ps_if (pt_cmpR op_gt (pe_ix ix_list (pv 0) pe_int (fun _ _ => rfl)) pe_int (nomark _))
    (pss_cons (ps_set (i := 2) scLawPick.nd rfl (Or.inl rfl) (pe_op op_modN (pe_callTy call_int1 (by rfl) z_int (by decide +kernel) (pa_cons (pe_ix ix_list (pv 0) pe_int (fun _ _ => rfl)) pa_nil)) (pv 1)))
    (pss_cons (ps_asg (pe_op op_fdivW (pe_callTy call_int1 (by rfl) z_int (by decide +kernel) (pa_cons (pe_ix ix_list (pv 0) pe_int (fun _ _ => rfl)) pa_nil)) (pv 1)) (pg_sub (pv 0) pe_int set_list))
    (pss_one (ps_ret (pv 2)))))
    pss_nil)
    (pss_cons (ps_par (i := 3) (j := 4) (by rfl) scLawPick.nd rfl rfl (by decide) rfl rfl (pa_cons (pe_callTy call_int1 (by rfl) z_int (by decide +kernel) (pa_cons (pe_ix ix_list (pv 0) pe_int (fun _ _ => rfl)) pa_nil)) (pa_cons (pe_callTy call_int1 (by rfl) z_int (by decide +kernel) (pa_cons (pe_ix ix_list (pv 0) pe_int (fun _ _ => rfl)) pa_nil)) pa_nil)) (by rfl))
    (pss_cons (ps_set (i := 5) scLawPick.nd rfl (Or.inl rfl) (pe_op op_modN (pe_callTy call_int1 (by rfl) z_int (by decide +kernel) (pa_cons (pe_op op_add (pe_op op_add (pe_op op_mul (pe_op op_modN (pv 3) pe_int) pe_int) (pe_op op_mul (pv 4) pe_int)) pe_int) pa_nil)) pe_int))
    (pss_cons (ps_set (i := 6) scLawPick.nd rfl (Or.inl rfl) (pe_op op_modN (pe_callTy call_int1 (by rfl) z_int (by decide +kernel) (pa_cons (pe_op op_add (pe_op op_mul (pv 5) (pv 5)) (pe_op op_mul (pv 4) pe_int)) pa_nil)) pe_int))
    (pss_cons (ps_set (i := 7) scLawPick.nd rfl (Or.inl rfl) (pe_op op_fdivW (pe_callTy call_int1 (by rfl) z_int (by decide +kernel) (pa_cons (pe_op op_add (pe_op op_mul (pv 5) pe_int) (pv 6)) pa_nil)) pe_int))
    (pss_cons (ps_if (pt_cmpR op_gt (pv 1) (pe_op op_pow pe_int pe_int) (nomark _))
    (pss_one (ps_set (i := 7) scLawPick.nd rfl (Or.inl rfl) (pe_op op_add (pe_op op_pow (pv 7) pe_int) (pv 6))))
    pss_nil)
    (pss_one (ps_ret (pe_op op_modN (pe_callTy call_int1 (by rfl) z_int (by decide +kernel) (pa_cons (pv 7) pa_nil)) (pv 1))))))))))), ?_⟩
  refine ⟨_, rfl, b, _, _, _, rfl, rfl, SqL.of h0, atI_nat (j := 2) rfl, _, _, rfl, rfl, _, rfl, b, _, _, 2, rfl, rfl, h0, rfl, ?_⟩
  dsimp only
  have h1 : (upd H b (.lst ([.int x, .int y, .int z].set 2 (.int (z + 1))))) b = some (.lst [.int x, .int y, .int (z + 1)]) := upd_same
  have k1 : ∀ a, a ≠ b → (upd H b (.lst ([.int x, .int y, .int z].set 2 (.int (z + 1))))) a = H a := fun a ha => upd_ne ha
  generalize upd H b (.lst ([.int x, .int y, .int z].set 2 (.int (z + 1)))) = H1 at h1 k1
  refine ⟨_, rfl, b, _, _, _, rfl, rfl, SqL.of h1, atI_nat (j := 0) rfl, _, _, rfl, rfl, _, rfl, ite2 (fun c => ?_) (fun c => ?_)⟩
  · refine ⟨_, rfl, b, _, _, _, rfl, rfl, SqL.of h1, atI_nat (j := 0) rfl, .inl ⟨_, rfl, _, rfl, _, _, rfl, rfl, by omega, ?_⟩⟩
    refine ⟨_, rfl, b, _, _, _, rfl, rfl, SqL.of h1, atI_nat (j := 0) rfl, .inl ⟨_, rfl, _, rfl, _, _, rfl, rfl, wide_div hm hm2 (by decide) (by decide), _, rfl, b, _, _, 0, rfl, rfl, h1, rfl, ?_⟩⟩
    refine ⟨_, rfl, ?_⟩
    exact q _ _ (fm0 x hm) (fm1 x hm) (fun a ha => by rw [upd_ne ha]; exact k1 a ha) ⟨_, _, _, upd_same⟩
  · refine ⟨_, rfl, b, _, _, _, rfl, rfl, SqL.of h1, atI_nat (j := 1) rfl, .inl ⟨_, rfl, _, rfl, b, _, _, _, rfl, rfl, SqL.of h1, atI_nat (j := 2) rfl, .inl ⟨_, rfl, _, _, rfl, ?_⟩⟩⟩
    refine ⟨_, rfl, _, _, rfl, rfl, (by show (2147483629 : Int) ≠ 0; decide), _, _, rfl, rfl, .inr ⟨by decide, by decide⟩, _, rfl, _, _, rfl, rfl, .inr ⟨by decide, by decide⟩, _, _, rfl, rfl, _, _, rfl, rfl, .inl ⟨_, rfl, _, _, rfl, rfl, (by show (2147483647 : Int) ≠ 0; decide), ?_⟩⟩
    dsimp only
    have a0 := fm0 (y.fmod 2147483629 * 48271 + (z + 1) * 69621 + 12345) (m := 2147483647) (by decide)
    have a1 := fm1 (y.fmod 2147483629 * 48271 + (z + 1) * 69621 + 12345) (m := 2147483647) (by decide)
    generalize (y.fmod 2147483629 * 48271 + (z + 1) * 69621 + 12345).fmod 2147483647 = fi at a0 a1
    refine ⟨_, rfl, _, rfl, _, _, rfl, rfl, .inl ⟨by omega, by omega⟩, _, rfl, _, _, rfl, rfl, .inr ⟨by decide, by decide⟩, _, _, rfl, rfl, .inl ⟨_, rfl, _, _, rfl, rfl, (by show (2147483587 : Int) ≠ 0; decide), ?_⟩⟩
    dsimp only
    have b0 := fm0 (fi * fi + (z + 1) * 40692) (m := 2147483587) (by decide)
    have b1 := fm1 (fi * fi + (z + 1) * 40692) (m := 2147483587) (by decide)
    generalize (fi * fi + (z + 1) * 40692).fmod 2147483587 = se at b0 b1
    refine ⟨_, rfl, _, _, rfl, rfl, .inl ⟨by omega, by omega⟩, _, rfl, _, _, rfl, rfl, .inl ⟨_, rfl, _, _, rfl, rfl, wide_div (b := 6) (by decide) (by decide) (by decide) (by decide), ?_⟩⟩
    dsimp only
    have c0 : 0 ≤ (fi * 2147483587 + se) / 32 := by omega
    have c1 : (fi * 2147483587 + se) / 32 < 2 ^ 62 := by omega
    generalize (fi * 2147483587 + se) / 32 = dr at c0 c1
    refine ⟨_, rfl, _, _, rfl, rfl, ⟨by decide, by decide, by decide⟩, _, _, rfl, rfl, _, rfl, ite2 (fun c => ?_) (fun c => ?_)⟩
    · refine ⟨_, rfl, _, _, rfl, rfl, ⟨by decide, by decide, by omega⟩, _, rfl, _, _, rfl, rfl, ?_⟩
      refine ⟨_, rfl, .inl ⟨_, rfl, _, rfl, _, _, rfl, rfl, by omega, ?_⟩⟩
      exact q _ _ (fm0 _ hm) (fm1 _ hm) k1 ⟨_, _, _, h1⟩
    · refine ⟨_, rfl, .inl ⟨_, rfl, _, rfl, _, _, rfl, rfl, by omega, ?_⟩⟩
      exact q _ _ (fm0 _ hm) (fm1 _ hm) k1 ⟨_, _, _, h1⟩
end
end LT

namespace LT
open PySem PySem.Spec PyProof.Rows L2
section
variable {P : Program} {w : World} {K : PySem.W.Frag} {mg : Str → Option Value} {base : Heap}
theorem But.same {b : Addr} {H H1 H2 : Hp} (x : But b H H1) (y : Same H1 H2) : But b H H2 := fun a o n h => y a o (x a o n h)
theorem But.pick {b : Addr} {H H1 H2 : Hp} (x : But b H H1) (k : ∀ a, a ≠ b → H2 a = H1 a) : But b H H2 := fun a o n h => by rw [k a n]; exact x a o n h
theorem BagAt.ne {H : Hp} {b p : Addr} (h : BagAt H b) (n : H p = none) : p ≠ b := fun z => by
  obtain ⟨_, _, _, e⟩ := h
  rw [← z, n] at e
  cases e
theorem BagAt.upd {H : Hp} {b p : Addr} {o : HO} (h : BagAt H b) (n : p ≠ b) : BagAt (upd H p o) b := by
  obtain ⟨x, y, z, e⟩ := h
  exact ⟨x, y, z, by rw [upd_ne (fun z => n z.symm)]; exact e⟩
end
end LT

namespace LT
open PySem PySem.Spec PyProof.Rows L2
/-- a def with defaults dvs, as it stands behind the top -/
structure FunT (K : PySem.W.Frag) (x qual : Str) (st : Stmt) (its : List Value) (dvs : List V) (f : Addr) (fd : FuncData) : Prop where
  ex : ∃ (oc : Value) (od : Option Addr) (T : Addr) (kV doc pm : Value) (an : Option Addr) (cdv ct : Value) (osl : Array (Option Value)) (o : Obj) (n : Nat),
    fd = PySem.W.fnOf x qual (defArgs st) (defBody st) (defScope st) (.ref T) kV doc pm an cdv ct ∧ K.lookup f = some ⟨oc, od, .func fd, osl⟩ ∧ PySem.W.codeIn K cdv qual = true ∧ K.lookup T = some o ∧ o.data = .seq its.toArray n
  kp : PySem.W.keepIn K (.ref f) = true
  v : Vals dvs its
/-- how it is called with its defaults -/
structure AtT (K : PySem.W.Frag) (mg : Str → Option Value) (x : Str) (f : Addr) (fd : FuncData) (ps : List Str) (ds : List Value) (dvs : List V) : Prop where
  m : mg x = some (.ref f)
  kp : PySem.W.keepIn K (.ref f) = true
  b : Binds K fd ps ds
  v : Vals dvs ds
section
variable {P : Program} {w : World} {K : PySem.W.Frag} {mg : Str → Option Value} {base : Heap}
theorem FunT.ok {x qual : Str} {st : Stmt} {its : List Value} {dvs : List V} {f : Addr} {fd : FuncData} {N ps : List Str} {k : Nat} {sp : Sp} (F : FunT K x qual st its dvs f fd) (S : FnScope N ps (defScope st)) (len : ∀ vs H Q E, sp vs H Q E → vs.length = ps.length)
    (hbody : ∀ (cdv : Value) (A : Around) (outer : List Env) (s : Shared) (H : Hp) (vs : List V) (Q : VK) (E : XK), Room k (A.deeper (envOfC qual (defScope st) s.heap.objs.size f cdv)) → sp vs H Q E →
      ∃ t, PSs (cxOf CX0 P w K mg base N qual (defScope st) f cdv A outer s H E).nox (defBody st) t ∧ t { nx := fun _ H' => Q .non H', rt := Q } (start N vs) H) : FnOk P w K mg base CX0 (k + 1) f fd ps sp := by
  obtain ⟨oc, od, T, kV, doc, pm, an, cdv, ct, osl, o, n, rfl, lk, hcd, lT, oT⟩ := F.ex
  refine fn_of lk hcd S len fun A outer s H vs Q E hr hsp => ?_
  obtain ⟨t, h, q⟩ := hbody cdv A outer s H vs Q E hr hsp
  exact ⟨t, h.nox, q⟩
theorem funT_mk {x qual : Str} {st : Stmt} {f T : Addr} {oc tc : Value} {od an td : Option Addr} {osl tsl : Array (Option Value)} {tits : Array Value} {tn : Nat} {dvs : List V} {kV doc pm cdv ct : Value} (l : K.lookup f = some ⟨oc, od, .func (PySem.W.fnOf x qual (defArgs st) (defBody st) (defScope st) (.ref T) kV doc pm an cdv ct), osl⟩)
    (c : PySem.W.codeIn K cdv qual = true) (k : PySem.W.keepIn K (.ref f) = true) (lT : K.lookup T = some ⟨tc, td, .seq tits tn, tsl⟩) (v : Vals dvs tits.toList) : FunT K x qual st tits.toList dvs f (PySem.W.fnOf x qual (defArgs st) (defBody st) (defScope st) (.ref T) kV doc pm an cdv ct) :=
  ⟨⟨oc, od, T, kV, doc, pm, an, cdv, ct, osl, _, tn, rfl, l, c, lT, by simp⟩, k, v⟩
theorem FunT.binds {x qual : Str} {st : Stmt} {its : List Value} {dvs : List V} {f : Addr} {fd : FuncData} {ps : List Str} {n m : Nat} (F : FunT K x qual st its dvs f fd) (hm : dvs.length = m)
    (h : ∀ (T : Addr) (kV doc pm : Value) (an : Option Addr) (cdv ct : Value) (us its : List Value), us.length = n → its.length = m →
      ∃ k, bindArgs (PySem.W.fnOf x qual (defArgs st) (defBody st) (defScope st) (.ref T) kV doc pm an cdv ct) ⟨us, []⟩ = seqItems? (.ref T) >>= k ∧ k (some its.toArray) = pure (ps.zip (us ++ its))) (hn : n + m = ps.length := by rfl) : Binds K fd ps its := by
  obtain ⟨oc, od, T, kV, doc, pm, an, cdv, ct, osl, o, nn, rfl, lk, hcd, lT, oT⟩ := F.ex
  intro s us X hl
  have e := F.v.length
  rw [List.length_append] at hl
  obtain ⟨k, e1, e2⟩ := h T kV doc pm an cdv ct us its (by omega) (by omega)
  refine BindsTo.of_looks fun M => ?_
  rw [e1]
  exact looks_items X lT oT (.of_pure e2)
end
section
variable {X : Cx} {s : Shared} {H : Hp} {sc : Scope} {ce : Env} {fp : List Addr}
theorem pi_listB {tg l : Expr} {tl : TE} (hl : PE (X.blk s H sc ce fp) l tl) : PI (X.blk s H sc ce fp) tg l (iList X.K tl) := pi_list hl
end
section
variable {K : PySem.W.Frag} {a D : Addr} {xs : List V} {g g1 : TG} {tt tt1 : TT} {te : TE} {wi1 : TI} {vs vs1 : List Nat} {σ : L2.St} {H1 : Hp} {Qd : Hp → Prop}
/-- the inner walk of a comprehension with two for -/
abbrev InT (D : Addr) (wi1 : TI) (g1 : TG) (tt1 : TT) (te : TE) (vs1 : List Nat) (Nx : Hp → Prop) (σ2 : L2.St) (H3 : Hp) : Prop := wi1 σ2 H3 fun J1 H4 => ∃ W1 : Nat → Nat → Hp → Prop, (∃ m, W1 0 m H4) ∧ ∀ j k H, W1 j k H →
  (J1.stop j H ∧ Nx H) ∨ (J1.go j H ∧ ∃ Nx1 : Hp → Prop, (∀ H', Nx1 H' → ∃ k', k' < k ∧ W1 (j + 1) k' H') ∧ ∀ x H', J1.yld j H x H' → g1 x (wipe σ2 vs1) H' fun σ3 H5 => wipe σ3 vs1 = wipe σ2 vs1 ∧ tt1 σ3 H5 fun b H6 =>
    if b = true then te σ3 H6 fun y H7 => ∃ acc, H7 D = some (.lst acc) ∧ acc.length < sizeLine ∧ Nx1 (upd H7 D (.lst (acc ++ [y]))) else Nx1 H6)
theorem lc2_list (Pv : Nat → Hp → Prop) (h0 : Pv 0 (upd H1 D (.lst []))) (hl : ∀ i H, i ≤ xs.length → Pv i H → SqL K H a xs)
    (hs : ∀ i x H, xs[i]? = some x → Pv i H → g x (wipe σ vs) H fun σ2 H2 => wipe σ2 vs = wipe σ vs ∧ tt σ2 H2 fun b H3 => if b = true then InT D wi1 g1 tt1 te vs1 (Pv (i + 1)) σ2 H3 else Pv (i + 1) H3) (hd : ∀ H, Pv xs.length H → Qd H) :
    ∃ W : Nat → Nat → Hp → Prop, (∃ m, W 0 m (upd H1 D (.lst []))) ∧ ∀ i m H, W i m H →
      ((Itl K a).stop i H ∧ Qd H) ∨ ((Itl K a).go i H ∧ ∃ Nx : Hp → Prop, (∀ H', Nx H' → ∃ m', m' < m ∧ W (i + 1) m' H') ∧ ∀ x H', (Itl K a).yld i H x H' → g x (wipe σ vs) H' fun σ2 H2 => wipe σ2 vs = wipe σ vs ∧ tt σ2 H2 fun b H3 =>
        if b = true then InT D wi1 g1 tt1 te vs1 Nx σ2 H3 else Nx H3) := by
  refine ⟨fun i m H => m + i = xs.length ∧ Pv i H, ⟨xs.length, rfl, h0⟩, ?_⟩
  rintro i m H ⟨im, p⟩
  have q := hl i H (by omega) p
  by_cases hlt : i < xs.length
  · refine .inr ⟨⟨xs, xs[i], q, by simp [hlt]⟩, Pv (i + 1), fun H' p' => ⟨m - 1, by omega, by omega, p'⟩, fun x H' y => ?_⟩
    obtain ⟨e, y⟩ := y
    subst e
    exact hs i x _ (y xs q) p
  · have e : i = xs.length := by omega
    subst e
    exact .inl ⟨⟨xs, q, Nat.le_refl _⟩, hd H p⟩
theorem lc_in {σ2 : L2.St} {H4 : Hp} {Nx : Hp → Prop} (Pv : Nat → Hp → Prop) (h0 : Pv 0 H4) (hl : ∀ i H, i ≤ xs.length → Pv i H → SqL K H a xs)
    (hs : ∀ i x H, xs[i]? = some x → Pv i H → g1 x (wipe σ2 vs1) H fun σ3 H5 => wipe σ3 vs1 = wipe σ2 vs1 ∧ tt1 σ3 H5 fun b H6 =>
      if b = true then te σ3 H6 fun y H7 => ∃ acc, H7 D = some (.lst acc) ∧ acc.length < sizeLine ∧ Pv (i + 1) (upd H7 D (.lst (acc ++ [y]))) else Pv (i + 1) H6) (hd : ∀ H, Pv xs.length H → Nx H) :
    ∃ W1 : Nat → Nat → Hp → Prop, (∃ m, W1 0 m H4) ∧ ∀ j k H, W1 j k H →
      ((Itl K a).stop j H ∧ Nx H) ∨ ((Itl K a).go j H ∧ ∃ Nx1 : Hp → Prop, (∀ H', Nx1 H' → ∃ k', k' < k ∧ W1 (j + 1) k' H') ∧ ∀ x H', (Itl K a).yld j H x H' → g1 x (wipe σ2 vs1) H' fun σ3 H5 => wipe σ3 vs1 = wipe σ2 vs1 ∧ tt1 σ3 H5 fun b H6 =>
        if b = true then te σ3 H6 fun y H7 => ∃ acc, H7 D = some (.lst acc) ∧ acc.length < sizeLine ∧ Nx1 (upd H7 D (.lst (acc ++ [y]))) else Nx1 H6) := by
  refine ⟨fun i m H => m + i = xs.length ∧ Pv i H, ⟨xs.length, rfl, h0⟩, ?_⟩
  rintro i m H ⟨im, p⟩
  have q := hl i H (by omega) p
  by_cases hlt : i < xs.length
  · refine .inr ⟨⟨xs, xs[i], q, by simp [hlt]⟩, Pv (i + 1), fun H' p' => ⟨m - 1, by omega, by omega, p'⟩, fun x H' y => ?_⟩
    obtain ⟨e, y⟩ := y
    subst e
    exact hs i x _ (y xs q) p
  · have e : i = xs.length := by omega
    subst e
    exact .inl ⟨⟨xs, q, Nat.le_refl _⟩, hd H p⟩
end
end LT

namespace LT
open PySem PySem.Spec PyProof.Rows L2
/-- the fewest stretches with the same entries as some that ascend -/
def jgo : Nat × Nat → List (Nat × Nat) → List (Nat × Nat)
  | cur, [] => [cur]
  | cur, x :: l => if x.1 ≤ cur.2 then jgo (cur.1, max cur.2 x.2) l else cur :: jgo x l
def jn : List (Nat × Nat) → List (Nat × Nat)
  | [] => []
  | x :: l => jgo x l
theorem jgo_len : ∀ (l : List (Nat × Nat)) (c : Nat × Nat), (jgo c l).length ≤ l.length + 1
  | [], c => Nat.le_refl _
  | x :: l, c => by
    unfold jgo
    split
    · have := jgo_len l (c.1, max c.2 x.2)
      show _ ≤ l.length + 1 + 1
      omega
    · have := jgo_len l x
      show (jgo x l).length + 1 ≤ l.length + 1 + 1
      omega
theorem jn_len (l : List (Nat × Nat)) : (jn l).length ≤ l.length := by
  cases l with
  | nil => exact Nat.le_refl _
  | cons x l => exact jgo_len l x
theorem jgo_mem : ∀ (l : List (Nat × Nat)) (c : Nat × Nat) (n : Nat), c.1 < c.2 → c.2 ≤ n → (∀ x ∈ l, x.1 < x.2 ∧ x.2 ≤ n) → ∀ y ∈ jgo c l, y.1 < y.2 ∧ y.2 ≤ n
  | [], c, n, h1, h2, _, y, hy => by
    rw [List.mem_singleton.mp hy]
    exact ⟨h1, h2⟩
  | x :: l, c, n, h1, h2, h, y, hy => by
    have hx := h x List.mem_cons_self
    unfold jgo at hy
    split at hy
    · exact jgo_mem l (c.1, max c.2 x.2) n (by show c.1 < max c.2 x.2; omega) (by show max c.2 x.2 ≤ n; omega) (fun z hz => h z (List.mem_cons_of_mem _ hz)) y hy
    · rcases List.mem_cons.mp hy with rfl | hy
      · exact ⟨h1, h2⟩
      · exact jgo_mem l x n hx.1 hx.2 (fun z hz => h z (List.mem_cons_of_mem _ hz)) y hy
theorem jn_mem {l : List (Nat × Nat)} {n : Nat} (h : ∀ x ∈ l, x.1 < x.2 ∧ x.2 ≤ n) : ∀ y ∈ jn l, y.1 < y.2 ∧ y.2 ≤ n := by
  cases l with
  | nil => exact fun y hy => absurd hy (by simp [jn])
  | cons x l =>
    have hx := h x List.mem_cons_self
    exact jgo_mem l x n hx.1 hx.2 fun z hz => h z (List.mem_cons_of_mem _ hz)
theorem nds_eqvAll : ∀ l k : List (Nat × Nat), PyData.eqvAll (l.map nd) (k.map nd) = decide (l = k)
  | [], [] => by simp [PyData.eqvAll]
  | [], y :: k => by simp [PyData.eqvAll]
  | x :: l, [] => by simp [PyData.eqvAll]
  | x :: l, y :: k => by
    have e : PyData.eqvAll ((x :: l).map nd) ((y :: k).map nd) = (PyData.eqv (nd x) (nd y) && PyData.eqvAll (l.map nd) (k.map nd)) := by simp only [List.map_cons, PyData.eqvAll]
    rw [e, nds_eqvAll l k]
    unfold nd
    rw [nd_eqv]
    by_cases h : x = y
    · subst h
      simp
    · have : ¬ ((x.1 : Int) = (y.1 : Int) ∧ (x.2 : Int) = (y.2 : Int)) := fun z => h (Prod.ext (by omega) (by omega))
      have e2 : (decide ((x.1 : Int) = (y.1 : Int)) && decide ((x.2 : Int) = (y.2 : Int))) = false := by
        rw [Bool.and_eq_false_iff]
        by_cases h1 : (x.1 : Int) = (y.1 : Int)
        · exact .inr (decide_eq_false fun z => this ⟨h1, z⟩)
        · exact .inl (decide_eq_false h1)
      rw [e2]
      simp [h]
theorem nds_eqv (l k : List (Nat × Nat)) : PyData.eqv (.list (l.map nd)) (.list (k.map nd)) = decide (l = k) := by
  have e : PyData.eqv (.list (l.map nd)) (.list (k.map nd)) = PyData.eqvAll (l.map nd) (k.map nd) := by simp only [PyData.eqv]
  rw [e, nds_eqvAll]
section
variable {P : Program} {w : World} {K : PySem.W.Frag} {mg : Str → Option Value} {base : Heap}
def spCheckNodes : Sp := fun vs H Q _ => ∃ (n : Nat) (p : Addr) (xs : List V) (S : List (Nat × Nat)), vs = [.int n, .ref p, .int 1, .int 60] ∧ 1 ≤ n ∧ n ≤ 10 ^ 30 ∧ H p = some (.lst xs) ∧ All2 (Nd H) xs S ∧ 1 ≤ S.length ∧ S.length ≤ 60 ∧ (∀ x ∈ S, isN n x) ∧ ∀ H', Same H H' → Q .non H'
theorem ok_check_nodes {f g1 g2 : Addr} {fd d1 d2 : FuncData} {its : List Value} {dvs : List V} (F : FunT K "check_nodes" "check_nodes" sCheckNodes its dvs f fd) (GIsListOf : FnOk P w K mg base CX0 1 g1 d1 ["value", "least", "most"] spListOf) (AIsListOf : At K mg "is_list_of" g1 d1 ["value", "least", "most"])
    (GIsTreeNode : FnOk P w K mg base CX0 3 g2 d2 ["size", "value"] (spTreeV K)) (AIsTreeNode : At K mg "is_tree_node" g2 d2 ["size", "value"]) (z_enumerate : mg "enumerate" = none) : FnOk P w K mg base CX0 4 f fd ["size", "nodes", "least", "most"] spCheckNodes := by
  refine F.ok scCheckNodes (fun vs H Q E h => ?_) (fun cdv A outer s H vs Q E hr h => ?_)
  · obtain ⟨_, _, _, _, rfl, _⟩ := h
    rfl
  obtain ⟨n, p, xs, S, rfl, n1, h30, hp, hx, l1, l60, hS, q⟩ := h
  refine ⟨_, (pss_cons (ps_if (pt_not (pt_val (pe_call GIsListOf (hr.mono (by decide)) rfl AIsListOf.m AIsListOf.kp AIsListOf.b .nil pass0 (pa_cons (pv 1) (pa_cons (pv 2) (pa_cons (pv 3) pa_nil))))))
    (pss_one ps_never)
    pss_nil)
    (pss_one (ps_for PassesOwn.never rfl (pi_enum (by rfl) z_enumerate (pa_cons (pv 1) pa_nil)) (pg_tup (by rfl) (pgs_cons (pg_name (i := 4) scCheckNodes.nd rfl (Or.inl rfl)) (pgs_cons (pg_name (i := 5) scCheckNodes.nd rfl (Or.inl rfl)) pgs_nil)))
    (pss_one (ps_if (pt_not (pt_val (pe_call GIsTreeNode (hr.mono (by decide)) rfl AIsTreeNode.m AIsTreeNode.kp AIsTreeNode.b .nil pass0 (pa_cons (pv 0) (pa_cons (pv 5) pa_nil)))))
    (pss_one ps_never)
    pss_nil))))), ?_⟩
  have xl := hx.len
  refine ⟨_, rfl, _, rfl, _, rfl, p, xs, 1, 60, rfl, hp, by omega, by omega, true, rfl, ?_⟩
  refine ⟨_, rfl, p, xs, rfl, SqL.of hp, ?_⟩
  refine for_enum (a := p) (xs := xs) (fun i σ H' => ∃ (v4 v5 : Option V), σ = [some (.int (n : Int)), some (.ref p), some (.int 1), some (.int 60), v4, v5] ∧ Same H H')
    ⟨none, none, rfl, Same.refl _⟩ (fun i σ H' _ ⟨_, _, _, sm⟩ => SqL.of (sm _ _ hp)) ?_ ?_
  · rintro i x σ H2 T hi ⟨v4, v5, rfl, sm⟩ nT
    obtain ⟨y, hyi, hy⟩ := hx.nth hi
    have sT := same_upd (o := .tup [.int ((i : Nat) : Int), x]) nT
    have hy2 := (hy.same sm).same sT
    obtain ⟨yp, rfl, hyp⟩ := id hy2
    refine ⟨T, _, rfl, SqT.of upd_same, rfl, _, _, rfl, _, _, rfl, rfl, ?_⟩
    refine ⟨_, rfl, _, rfl, n, _, true, rfl, n1, by omega, ?_, true, rfl, ?_⟩
    · have e : tnV n (.int (y.1 : Int)) (.int (y.2 : Int)) = true := by
        rw [tn_nat]
        exact decide_eq_true (hS y (List.mem_of_getElem? hyi))
      exact e ▸ Ask.pair (n := n) hyp (.int _) (.int _)
    · exact ⟨_, _, rfl, sm.trans sT⟩
  · rintro σ H2 ⟨v4, v5, rfl, sm⟩
    exact q H2 sm
def spJoined : Sp := fun vs H Q _ => ∃ (p : Addr) (xs : List V) (S : List (Nat × Nat)), vs = [.ref p] ∧ H p = some (.lst xs) ∧ All2 (Nd H) xs S ∧ S.length ≤ 400 ∧
  ∀ (H' : Hp) (r : Addr) (ys : List V), Same H H' → H r = none → H' r = some (.lst ys) → All2 (Nd H') ys (jn (srt S)) → Q (.ref r) H'
theorem ok_joined {f : Addr} {fd : FuncData} (F : Fun K "joined" "joined" sJoined f fd) (z_sorted : mg "sorted" = none) (z_max : mg "max" = none) : FnOk P w K mg base CX0 1 f fd ["stretches"] spJoined := by
  refine F.ok scJoined (fun vs H Q E h => ?_) (fun cdv A outer s H vs Q E hr h => ?_)
  · obtain ⟨_, _, _, rfl, _⟩ := h
    rfl
  obtain ⟨p, xs, S, rfl, hp, hx, l400, q⟩ := h
  refine ⟨_, (pss_cons (ps_set (i := 1) scJoined.nd rfl (Or.inl rfl) (pe_lst pa_nil))
    (pss_cons (ps_for PassesOwn.never rfl (pi_list (pe_callB cr_sortedPO (by rfl) z_sorted (by decide +kernel) (pa_cons (pv 0) pa_nil))) (pg_tup (by rfl) (pgs_cons (pg_name (i := 2) scJoined.nd rfl (Or.inl rfl)) (pgs_cons (pg_name (i := 3) scJoined.nd rfl (Or.inl rfl)) pgs_nil)))
    (pss_one (ps_if (PW.pt (pw_and (pt_truth (pv 1) (fun _ => rfl)) (pw_and1 (pt_cmpR op_le (pv 2) (pe_ix ix_tup (pe_ix ix_list (pv 1) (pe_un un_neg pe_int) (fun _ _ => rfl)) pe_int (fun _ _ => rfl)) (nomark _)))))
    (pss_cons (ps_asg (pe_bm0 PySem.F.plainAttrs_list PySem.F.slot_list_pop PySem.F.type_list_pop mt_pop (pv 1)) (pg_tup (by rfl) (pgs_cons (pg_name (i := 4) scJoined.nd rfl (Or.inl rfl)) (pgs_cons (pg_name (i := 5) scJoined.nd rfl (Or.inl rfl)) pgs_nil))))
    (pss_one (ps_expr (pe_bm PySem.F.plainAttrs_list PySem.F.slot_list_append PySem.F.type_list_append mt_append (pv 1) (pa_cons (pe_tup (pa_cons (pv 4) (pa_cons (pe_callB (call_max2 rfl) (by rfl) z_max (by decide +kernel) (pa_cons (pv 5) (pa_cons (pv 3) pa_nil))) pa_nil))) pa_nil)))))
    (pss_one (ps_expr (pe_bm PySem.F.plainAttrs_list PySem.F.slot_list_append PySem.F.type_list_append mt_append (pv 1) (pa_cons (pe_tup (pa_cons (pv 2) (pa_cons (pv 3) pa_nil))) pa_nil)))))))
    (pss_one (ps_ret (pv 1))))), ?_⟩
  refine ⟨Nat.zero_le _, fun fa nf => ?_⟩
  have s2 := same_upd (o := .lst []) nf
  have hx2 := hx.mono (fun v x (k : Nd H v x) => k.same s2)
  have hp2 := s2 _ _ hp
  have hf2 : (upd H fa (.lst [])) fa = some (.lst []) := upd_same
  generalize upd H fa (.lst []) = H2 at s2 hx2 hp2 hf2
  refine ⟨_, rfl, p, xs, kOf H2, rfl, SqL.of hp2, fun x hm => ?_, fun ys so hs1 hs2 nso => ?_⟩
  · obtain ⟨y, _, pa, rfl, hpa⟩ := hx2.mem hm
    exact ⟨pa, rfl, by rw [hpa]; simp only [kOf, hpa]⟩
  have s3 := same_upd (o := .lst ys) nso
  have hy0 := (sorted_srt hx2 hs1 hs2.perm).mono (fun v x (k : Nd H2 v x) => k.same s3)
  have hso : (upd H2 so (.lst ys)) so = some (.lst ys) := upd_same
  have hf3 := s3 _ _ hf2
  have sof : so ≠ fa := fun z => by rw [z, hf2] at nso; cases nso
  have s03 := s2.trans s3
  have tl : (srt S).length ≤ 400 := by rw [srt_len]; exact l400
  generalize srt S = T at q hy0 tl
  generalize upd H2 so (.lst ys) = H3 at s3 hso hf3 hy0 s03
  have yl := hy0.len
  refine ⟨so, rfl, ⟨_, SqL.of hso⟩, for_list (K := K) (a := so) (xs := ys) (fun i σ H' => ∃ (v2 v3 v4 v5 : Option V) (zs : List V) (D : List (Nat × Nat)), σ = [some (.ref p), some (.ref fa), v2, v3, v4, v5] ∧ Same H H' ∧ But fa H3 H' ∧ H' fa = some (.lst zs) ∧ All2 (Nd H') zs D ∧ D.length ≤ i ∧
      ((i = 0 ∧ D = []) ∨ ∃ (done : List (Nat × Nat)) (c : Nat × Nat), D = done ++ [c] ∧ jn T = done ++ jgo c (T.drop i)))
    ⟨none, none, none, none, [], [], rfl, s03, But.refl _ _, hf3, .nil, Nat.le_refl _, .inl ⟨rfl, rfl⟩⟩ (fun i σ H' _ ⟨_, _, _, _, _, _, _, _, k, _⟩ => SqL.of (k _ _ sof hso)) ?_ ?_⟩
  · rintro i v σ H4 hi ⟨v2, v3, v4, v5, zs, D, rfl, sm, B4, hf, hz, dl, hd⟩
    obtain ⟨x, hxi, pv, rfl, hpv⟩ := hy0.nth hi
    have hdr : T.drop i = x :: T.drop (i + 1) := by
      obtain ⟨hl, hxe⟩ := List.getElem?_eq_some_iff.mp hxi
      rw [List.drop_eq_getElem_cons hl, hxe]
    have il : i < 400 := by
      have := (List.getElem?_eq_some_iff.mp hxi).1
      omega
    have pvf : pv ≠ fa := fun z => by rw [z, hf3] at hpv; cases hpv
    have hpv4 := B4 _ _ pvf hpv
    refine ⟨pv, _, rfl, SqT.of hpv4, rfl, _, _, rfl, _, _, rfl, rfl, ?_⟩
    have two : 2 ≤ sizeLine := by decide
    have step : ∀ (D2 : List (Nat × Nat)) (zs2 : List V) (H5 : Hp) (y : Nat × Nat) (t : Addr), Same H H5 → But fa H3 H5 → H5 fa = some (.lst zs2) → All2 (Nd H5) zs2 D2 → H5 t = none →
        let H6 := upd (upd H5 t (.tup [.int (y.1 : Int), .int (y.2 : Int)])) fa (.lst (zs2 ++ [.ref t]))
        Same H H6 ∧ But fa H3 H6 ∧ H6 fa = some (.lst (zs2 ++ [.ref t])) ∧ All2 (Nd H6) (zs2 ++ [.ref t]) (D2 ++ [y]) := by
      intro D2 zs2 H5 y t a1 a2 a3 a4 a5
      have w1 := same_upd (o := .tup [.int (y.1 : Int), .int (y.2 : Int)]) a5
      have f1 := w1 _ _ a3
      have tf : t ≠ fa := fun z => by rw [z, a3] at a5; cases a5
      refine ⟨fun u o k => by rw [upd_ne (ne_of_none k nf)]; exact w1 _ _ (a1 _ _ k), fun u o n k => by rw [upd_ne n]; exact w1 _ _ (a2 u o n k), upd_same, ?_⟩
      exact (a4.mono (fun v x (k : Nd H5 v x) => (k.same w1).upd f1)).app (.cons ⟨t, rfl, by rw [upd_ne tf, upd_same]⟩ .nil)
    rcases hd with ⟨i0, rfl⟩ | ⟨done, c, rfl, hj⟩
    · cases hz
      refine ⟨_, rfl, false, .inl ⟨[], SqL.of hf, rfl⟩, ?_⟩
      refine ⟨_, rfl, .inl ⟨rfl, _, SqL.of hf⟩, _, rfl, _, rfl, two, fun t nt => ?_⟩
      obtain ⟨b1, b2, b3, b4⟩ := step [] [] H4 x t sm B4 hf .nil nt
      refine ⟨fa, [], _, rfl, rfl, same_upd nt _ _ hf, szlt (by decide), ?_⟩
      refine ⟨_, _, _, _, [] ++ [.ref t], [x], rfl, b1, b2, b3, b4, by show 1 ≤ i + 1; omega, .inr ⟨[], x, rfl, ?_⟩⟩
      subst i0
      rw [List.drop_zero] at hdr
      rw [hdr]
      rfl
    · obtain ⟨zs0, zc, rfl, hz0, hzc⟩ : ∃ (zs0 : List V) (zc : V), zs = zs0 ++ [zc] ∧ All2 (Nd H4) zs0 done ∧ Nd H4 zc c := by
        have := hz.rev
        rw [List.reverse_append] at this
        generalize hzr : zs.reverse = zr at this
        cases this with
        | @cons v _ vs _ h r =>
          refine ⟨vs.reverse, v, ?_, ?_, h⟩
          · rw [← List.reverse_reverse zs, hzr, List.reverse_cons]
          · have r2 : All2 (Nd H4) vs.reverse (done.reverse).reverse := r.rev
            rwa [List.reverse_reverse] at r2
      obtain ⟨cp, rfl, hcp⟩ := hzc
      rw [hdr] at hj
      have hz9 : done.length + 1 ≤ 400 := by
        rw [List.length_append] at dl
        have : ([c] : List (Nat × Nat)).length = 1 := rfl
        omega
      refine ⟨_, rfl, true, .inl ⟨_, SqL.of hf, by cases zs0 <;> rfl⟩, ?_⟩
      refine ⟨_, rfl, _, rfl, _, rfl, fa, _, _, _, rfl, rfl, SqL.of hf, atI_last _ _, cp, _, _, _, rfl, rfl, SqT.of hcp, atI_nat (j := 1) rfl, _, _, rfl, rfl, ?_⟩
      by_cases le : x.1 ≤ c.2
      · refine ⟨true, congrArg V.bl (decide_eq_true (by omega)), ?_⟩
        refine ⟨_, rfl, .inl ⟨rfl, _, SqL.of hf⟩, fa, _, .ref cp, rfl, rfl, hf, by simp, ?_⟩
        have e1 : jn T = done ++ jgo (c.1, max c.2 x.2) (T.drop (i + 1)) := by
          rw [hj]
          show done ++ jgo c (x :: T.drop (i + 1)) = _
          rw [jgo, if_pos le]
        rw [List.dropLast_concat]
        have p1 : Same H (upd H4 fa (.lst zs0)) := fun u o k => by rw [upd_ne (ne_of_none k nf)]; exact sm _ _ k
        have p2 : But fa H3 (upd H4 fa (.lst zs0)) := fun u o n k => by rw [upd_ne n]; exact B4 u o n k
        have p3 : (upd H4 fa (.lst zs0)) fa = some (.lst zs0) := upd_same
        have p4 : All2 (Nd (upd H4 fa (.lst zs0))) zs0 done := hz0.mono (fun v x (k : Nd H4 v x) => k.upd hf)
        have p5 : (upd H4 fa (.lst zs0)) cp = some (.tup [.int (c.1 : Int), .int (c.2 : Int)]) := by
          rw [upd_ne (ne_of hcp hf (by intro z; cases z))]
          exact hcp
        generalize upd H4 fa (.lst zs0) = H5 at p1 p2 p3 p4 p5 ⊢
        refine ⟨cp, _, rfl, SqT.of p5, rfl, _, _, rfl, _, _, rfl, rfl, ?_⟩
        refine ⟨_, rfl, .inl ⟨rfl, _, SqL.of p3⟩, _, rfl, _, rfl, _, rfl, _, _, rfl, two, fun t nt => ?_⟩
        rw [max_castB]
        obtain ⟨b1, b2, b3, b4⟩ := step done zs0 H5 (c.1, max c.2 x.2) t p1 p2 p3 p4 nt
        refine ⟨fa, zs0, _, rfl, rfl, same_upd nt _ _ p3, szlt (by rw [p4.len]; omega), ?_⟩
        refine ⟨_, _, _, _, zs0 ++ [.ref t], done ++ [(c.1, max c.2 x.2)], rfl, b1, b2, b3, b4, ?_, .inr ⟨done, _, rfl, e1⟩⟩
        rw [List.length_append] at dl ⊢
        exact Nat.le_succ_of_le dl
      · refine ⟨false, congrArg V.bl (decide_eq_false (by omega)), ?_⟩
        have e1 : jn T = (done ++ [c]) ++ jgo x (T.drop (i + 1)) := by
          rw [hj, List.append_assoc]
          show done ++ jgo c (x :: T.drop (i + 1)) = _
          rw [jgo, if_neg le]
          rfl
        refine ⟨_, rfl, .inl ⟨rfl, _, SqL.of hf⟩, _, rfl, _, rfl, two, fun t nt => ?_⟩
        obtain ⟨b1, b2, b3, b4⟩ := step _ _ H4 x t sm B4 hf hz nt
        refine ⟨fa, _, _, rfl, rfl, same_upd nt _ _ hf, szlt (by rw [hz.len, List.length_append]; show done.length + 1 < 100000; omega), ?_⟩
        refine ⟨_, _, _, _, _, done ++ [c] ++ [x], rfl, b1, b2, b3, b4, ?_, .inr ⟨done ++ [c], _, rfl, e1⟩⟩
        rw [List.length_append]
        exact Nat.succ_le_succ dl
  · rintro σ H4 ⟨v2, v3, v4, v5, zs, D, rfl, sm, B4, hf, hz, dl, hd⟩
    refine ⟨_, rfl, q H4 fa zs sm nf hf ?_⟩
    rw [yl, List.drop_length] at hd
    rcases hd with ⟨e, rfl⟩ | ⟨done, c, rfl, e⟩
    · have : T = [] := List.eq_nil_of_length_eq_zero (by omega)
      subst this
      exact hz
    · rw [e]
      exact hz
end
end LT

namespace LT
open PySem PySem.Spec PyProof.Rows L2
def isHalfP (B M : Nat) (x : Nat × Nat) : Prop := x = (B, B + gp M) ∨ x = (B + gp M, B + M)
def wayL (b m : Nat) (x : Nat × Nat) : List (Nat × Nat) :=
  if h : m ≤ 1 then [(b, b + m)] else
    if x = (b, b + m) then [(b, b + m)] else
      if x.1 < b + gp m then (b, b + m) :: wayL b (gp m) x else (b, b + m) :: wayL (b + gp m) (m - gp m) x
termination_by m
decreasing_by
  · exact gp_lt (by omega)
  · have := gp_pos m; omega
theorem wayL_here {b m : Nat} {x : Nat × Nat} (h : x = (b, b + m)) : wayL b m x = [x] := by
  rw [wayL, ← h]
  simp
theorem wayL_low {b m : Nat} {x : Nat × Nat} (h : 2 ≤ m) (c : x ≠ (b, b + m)) (k : x.1 < b + gp m) : wayL b m x = (b, b + m) :: wayL b (gp m) x := by
  rw [wayL, dif_neg (by omega), if_neg c, if_pos k]
theorem wayL_high {b m : Nat} {x : Nat × Nat} (h : 2 ≤ m) (c : x ≠ (b, b + m)) (k : ¬ x.1 < b + gp m) : wayL b m x = (b, b + m) :: wayL (b + gp m) (m - gp m) x := by
  rw [wayL, dif_neg (by omega), if_neg c, if_neg k]
/-- a node within a node of two entries or more that is not it lies in a half -/
theorem in_half {n b m : Nat} {x : Nat × Nat} (hm : 1 ≤ m) (t : tree n b m) (hn : b + m ≤ n) (hx : isN n x) (h1 : b ≤ x.1) (h2 : x.2 ≤ b + m) (c : x ≠ (b, b + m)) :
    2 ≤ m ∧ (x.1 < b + gp m → x.2 ≤ b + gp m) := by
  have k := hx.1
  have m2 : 2 ≤ m := by
    by_cases z : m = 1
    · subst z
      exact absurd (Prod.ext (by show x.1 = b; omega) (by show x.2 = b + 1; omega)) c
    · omega
  refine ⟨m2, fun z => ?_⟩
  rcases node_in m2 t hn hx h1 h2 with y | y | y
  · exact absurd y c
  · exact y
  · omega
theorem wayL_end {n : Nat} {x : Nat × Nat} (hx : isN n x) : ∀ (m b : Nat), 1 ≤ m → tree n b m → b + m ≤ n → b ≤ x.1 → x.2 ≤ b + m → x ≠ (b, b + m) →
    ∃ us B M, wayL b m x = us ++ [(B, B + M), x] ∧ isN n (B, B + M) ∧ 2 ≤ M ∧ tree n B M ∧ isHalfP B M x := by
  intro m
  induction m using Nat.strongRecOn with
  | ind m ih =>
    intro b hm t hn h1 h2 c
    obtain ⟨m2, hh⟩ := in_half hm t hn hx h1 h2 c
    have g1 := gp_lt m2
    have g3 := gp_pos m
    have em : b + gp m + (m - gp m) = b + m := by omega
    by_cases k : x.1 < b + gp m
    · rw [wayL_low m2 c k]
      by_cases c2 : x = (b, b + gp m)
      · rw [wayL_here c2]
        exact ⟨[], b, m, rfl, isN_of hm hn t, m2, t, .inl c2⟩
      · obtain ⟨us, B, M, e, r⟩ := ih (gp m) g1 b g3 (tree_low m2 t) (by omega) h1 (hh k) c2
        exact ⟨(b, b + m) :: us, B, M, by rw [e]; rfl, r⟩
    · rw [wayL_high m2 c k]
      by_cases c2 : x = (b + gp m, b + gp m + (m - gp m))
      · rw [wayL_here c2]
        exact ⟨[], b, m, rfl, isN_of hm hn t, m2, t, .inr (by rw [c2, em])⟩
      · obtain ⟨us, B, M, e, r⟩ := ih (m - gp m) (by omega) (b + gp m) (by omega) (tree_high m2 t) (by omega) (by omega) (by omega) c2
        exact ⟨(b, b + m) :: us, B, M, by rw [e]; rfl, r⟩
theorem wayL_len {n e : Nat} : ∀ (m b : Nat), tree n b m → b ≤ e → e < b + m → b + m ≤ n → (wayL b m (e, e + 1)).length = (sib b m e).length + 1 := by
  refine way_ind (fun b m h h1 h2 _ => ?_) (fun b m h _ h1 k _ ih => ?_) (fun b m h _ h1 k _ _ ih => ?_)
  · rw [wayL_here (Prod.ext (by show e = b; omega) (by show e + 1 = b + m; omega)), sib_one h]
    rfl
  · rw [wayL_low h (fun z => by have := congrArg Prod.fst z; have := congrArg Prod.snd z; simp only at *; omega) k, sib_low h k, List.length_cons, List.length_cons, ih]
  · rw [wayL_high h (fun z => by have := congrArg Prod.fst z; have := congrArg Prod.snd z; simp only at *; omega) k, sib_high h k, List.length_cons, List.length_cons, ih]
theorem wayL_most (x : Nat × Nat) : ∀ (m b : Nat), 1 ≤ m → (wayL b m x).length ≤ lb m + 1 := by
  intro m
  induction m using Nat.strongRecOn with
  | ind m ih =>
    intro b hm
    by_cases c1 : m ≤ 1
    · rw [wayL, dif_pos c1]; simp
    · have m2 : 2 ≤ m := by omega
      have g1 := gp_lt m2
      have g2 := gp_ge m2
      have g3 := gp_pos m
      have e1 := lb_big m2
      by_cases c : x = (b, b + m)
      · rw [wayL_here c]; simp
      · by_cases k : x.1 < b + gp m
        · rw [wayL_low m2 c k, List.length_cons]
          have := ih (gp m) g1 b g3
          have e2 : lb (gp m) = Nat.log2 (m - 1) := by unfold gp; rw [lb_pow]
          omega
        · rw [wayL_high m2 c k, List.length_cons]
          have := ih (m - gp m) (by omega) (b + gp m) (by omega)
          have e2 : lb (m - gp m) ≤ Nat.log2 (m - 1) := lb_le (by unfold gp at g1 g2 ⊢; omega)
          omega
end LT

namespace LT
/-! ### needed nodes -/
def meets (x : Nat × Nat) (S : List (Nat × Nat)) : Bool := S.any fun s => decide (s.1 < x.2) && decide (x.1 < s.2)
theorem meets_iff {x : Nat × Nat} {S : List (Nat × Nat)} : meets x S = true ↔ ∃ s ∈ S, s.1 < x.2 ∧ x.1 < s.2 := by
  unfold meets
  rw [List.any_eq_true]
  constructor
  · rintro ⟨s, hs, h⟩
    rw [Bool.and_eq_true] at h
    exact ⟨s, hs, of_decide_eq_true h.1, of_decide_eq_true h.2⟩
  · rintro ⟨s, hs, h1, h2⟩
    exact ⟨s, hs, by rw [Bool.and_eq_true]; exact ⟨decide_eq_true h1, decide_eq_true h2⟩⟩
theorem meets_no {x : Nat × Nat} {S : List (Nat × Nat)} (h : ∀ s ∈ S, x.2 ≤ s.1 ∨ s.2 ≤ x.1) : meets x S = false := by
  cases e : meets x S with
  | false => rfl
  | true =>
    obtain ⟨s, hs, h1, h2⟩ := meets_iff.mp e
    have := h s hs
    omega
/-- a needed node: none of the told entries in it, some in each node that it is a half of -/
def Due (n : Nat) (S : List (Nat × Nat)) (x : Nat × Nat) : Prop := isN n x ∧ meets x S = false ∧ ∀ B M, isN n (B, B + M) → 2 ≤ M → isHalfP B M x → meets (B, B + M) S = true
theorem gap_due {n lo hi : Nat} {S : List (Nat × Nat)} (hn : hi ≤ n) (hlo : lo ≤ hi) (h1 : lo = 0 ∨ ∃ s ∈ S, s.1 < s.2 ∧ s.2 = lo) (h2 : hi = n ∨ ∃ s ∈ S, s.1 < s.2 ∧ s.1 = hi) (h3 : ∀ s ∈ S, s.2 ≤ lo ∨ hi ≤ s.1) (x : Nat × Nat) (hx : x ∈ nw n lo hi) : Due n S x := by
  obtain ⟨m1, m2, m3⟩ := (nw_ch hn lo hlo).mem x hx
  have x12 := m1.1
  refine ⟨m1, meets_no fun s hs => ?_, fun B M hp hM hh => ?_⟩
  · have := h3 s hs
    omega
  · have g1 := gp_lt hM
    have g3 := gp_pos M
    have pn := hp.2.1
    simp only at pn
    have xin : B ≤ x.1 ∧ x.2 ≤ B + M ∧ x ≠ (B, B + M) := by
      rcases hh with z | z <;> subst z <;> refine ⟨by simp only; omega, by simp only; omega, fun y => ?_⟩
      · have := congrArg Prod.snd y
        simp only at this
        omega
      · have := congrArg Prod.fst y
        simp only at this
        omega
    rw [meets_iff]
    by_cases c1 : B < lo
    · rcases h1 with h1 | ⟨s, hs, s1, s2⟩
      · omega
      · exact ⟨s, hs, by simp only; omega, by simp only; omega⟩
    · by_cases c2 : hi < B + M
      · rcases h2 with h2 | ⟨s, hs, s1, s2⟩
        · omega
        · exact ⟨s, hs, by simp only; omega, by simp only; omega⟩
      · exact absurd (nw_max hn hlo x hx (B, B + M) hp (by simp only; omega) (by simp only; omega) xin.1 xin.2.1).symm xin.2.2
theorem nl_due {n : Nat} : ∀ (S : List (Nat × Nat)) (lo : Nat) (pre : List (Nat × Nat)), So n lo S → (∀ s ∈ pre, s.2 ≤ lo) → (lo = 0 ∨ ∃ s ∈ pre, s.1 < s.2 ∧ s.2 = lo) → ∀ x ∈ nl n lo S, Due n (pre ++ S) x
  | [], lo, pre, hS, h1, h2, x, hx => by
    rw [List.append_nil]
    exact gap_due (Nat.le_refl n) hS h2 (.inl rfl) (fun s hs => .inl (h1 s hs)) x hx
  | y :: S, lo, pre, ⟨k1, k2, k3, k4⟩, h1, h2, x, hx => by
    have hx : x ∈ nw n lo y.1 ++ nl n y.2 S := hx
    rcases List.mem_append.mp hx with hx | hx
    · refine gap_due (by omega) k1 ?_ (.inr ⟨y, List.mem_append_right _ List.mem_cons_self, k2, rfl⟩) (fun s hs => ?_) x hx
      · rcases h2 with h2 | ⟨s, hs, r⟩
        · exact .inl h2
        · exact .inr ⟨s, List.mem_append_left _ hs, r⟩
      · rcases List.mem_append.mp hs with hs | hs
        · exact .inl (h1 s hs)
        · rcases List.mem_cons.mp hs with rfl | hs
          · exact .inr (Nat.le_refl _)
          · have := k4.mem s hs
            exact .inr (by omega)
    · have := nl_due S y.2 (pre ++ [y]) k4 (fun s hs => ?_) (.inr ⟨y, List.mem_append_right _ List.mem_cons_self, k2, rfl⟩) x hx
      · rw [List.append_assoc] at this
        exact this
      · rcases List.mem_append.mp hs with hs | hs
        · have := h1 s hs
          omega
        · rw [List.mem_singleton] at hs
          subst hs
          exact Nat.le_refl _
/-- nodes one behind the other, with gaps -/
def Up : Nat → List (Nat × Nat) → Prop
  | _, [] => True
  | lo, x :: l => lo ≤ x.1 ∧ x.1 < x.2 ∧ Up x.2 l
theorem Up.mono : ∀ {lo lo' : Nat} {l : List (Nat × Nat)}, Up lo l → lo' ≤ lo → Up lo' l
  | _, _, [], _, _ => trivial
  | _, _, _ :: _, ⟨h1, h2, h3⟩, h => ⟨Nat.le_trans h h1, h2, h3⟩
theorem Ch.up {n : Nat} : ∀ {lo hi : Nat} {l r : List (Nat × Nat)}, Ch n lo hi l → Up hi r → Up lo (l ++ r)
  | _, _, [], _, h, k => by
    have h : _ = _ := h
    subst h
    exact k
  | lo, hi, x :: l, r, ⟨h1, h2, h3, h4⟩, k => ⟨by omega, h2.1, Ch.up h4 k⟩
theorem nl_up {n : Nat} : ∀ (S : List (Nat × Nat)) (lo : Nat), So n lo S → Up lo (nl n lo S)
  | [], lo, h => by
    have := (nw_ch (n := n) (Nat.le_refl n) lo h).up (r := []) trivial
    rw [List.append_nil] at this
    exact this
  | y :: S, lo, ⟨k1, k2, k3, k4⟩ => (nw_ch (n := n) (show y.1 ≤ n by omega) lo k1).up ((nl_up S y.2 k4).mono (Nat.le_of_lt k2))
def wid (l : List (Nat × Nat)) : Nat := (l.map fun x => x.2 - x.1).sum
theorem wid_app (l r : List (Nat × Nat)) : wid (l ++ r) = wid l + wid r := by unfold wid; rw [List.map_append, List.sum_append]
theorem nl_wid {n : Nat} : ∀ (S : List (Nat × Nat)) (lo : Nat), So n lo S → wid (nl n lo S) + wid S + lo = n
  | [], lo, h => by
    have h : lo ≤ n := h
    have := (nw_ch (n := n) (Nat.le_refl n) lo h).sum
    show wid (nw n lo n) + 0 + lo = n
    unfold wid
    omega
  | y :: S, lo, ⟨k1, k2, k3, k4⟩ => by
    have a := (nw_ch (n := n) (show y.1 ≤ n by omega) lo k1).sum
    have b := nl_wid S y.2 k4
    show wid (nw n lo y.1 ++ nl n y.2 S) + wid (y :: S) + lo = n
    rw [wid_app]
    have c : wid (y :: S) = (y.2 - y.1) + wid S := rfl
    rw [c]
    unfold wid at a b ⊢
    omega
theorem nl_single {n e : Nat} (h : e < n) : (nl n 0 [(e, e + 1)]).length = (sib 0 n e).length := by
  show (nw n 0 e ++ nw n (e + 1) n).length = _
  rw [List.length_append]
  exact nw_single h
end LT

namespace LT
open PySem PySem.Spec PyProof.Rows L2
/-- stretches with entries, within a log -/
def Wn (n : Nat) (L : List (Nat × Nat)) : Prop := ∀ x ∈ L, x.1 < x.2 ∧ x.2 ≤ n
theorem Wn.app {n : Nat} {L M : List (Nat × Nat)} (h : Wn n L) (k : Wn n M) : Wn n (L ++ M) := fun x hx => (List.mem_append.mp hx).elim (h x) (k x)
theorem Wn.srt {n : Nat} {L : List (Nat × Nat)} (h : Wn n L) : Wn n (srt L) := fun x hx => h x (srt_mem.mp hx)
theorem meets_has {x : Nat × Nat} {S : List (Nat × Nat)} {s : Nat × Nat} (h : s ∈ S) (h1 : s.1 < x.2) (h2 : x.1 < s.2) : meets x S = true := meets_iff.mpr ⟨s, h, h1, h2⟩
theorem meets_same {S T : List (Nat × Nat)} (h : ∀ s, s ∈ S ↔ s ∈ T) (x : Nat × Nat) : meets x S = meets x T := by
  rw [Bool.eq_iff_iff, meets_iff, meets_iff]
  exact ⟨fun ⟨s, a, b⟩ => ⟨s, (h s).mp a, b⟩, fun ⟨s, a, b⟩ => ⟨s, (h s).mpr a, b⟩⟩
theorem due_same {n : Nat} {S T : List (Nat × Nat)} (h : ∀ x, meets x S = meets x T) {x : Nat × Nat} (d : Due n S x) : Due n T x :=
  ⟨d.1, by rw [← h]; exact d.2.1, fun B M a b c => by rw [← h]; exact d.2.2 B M a b c⟩
/-- what lies ahead of a begin has it beside -/
def Beg : List (Nat × Nat) → Prop := List.Pairwise (fun x y => x.1 ≤ y.1)
theorem srt_beg (L : List (Nat × Nat)) : Beg (srt L) := (srt_pair L).imp fun h => by
  have := leN_iff.mp h
  omega
theorem nb_due {n : Nat} : ∀ (l : List (Nat × Nat)) (lo : Nat) (pre : List (Nat × Nat)), Wn n l → Beg l → lo ≤ n → (∀ s ∈ pre, s.2 ≤ lo) → (lo = 0 ∨ ∃ s ∈ pre, s.1 < s.2 ∧ s.2 = lo) → ∀ x ∈ nb n lo l, Due n (pre ++ l) x
  | [], lo, pre, _, _, hlo, h1, h2, x, hx => by
    rw [List.append_nil]
    exact gap_due (Nat.le_refl n) hlo h2 (.inl rfl) (fun s hs => .inl (h1 s hs)) x hx
  | y :: l, lo, pre, hw, hb, hlo, h1, h2, x, hx => by
    obtain ⟨y12, yn⟩ := hw y List.mem_cons_self
    obtain ⟨hb1, hb2⟩ := List.pairwise_cons.mp hb
    rcases List.mem_append.mp (show x ∈ nw n lo y.1 ++ nb n (max lo y.2) l from hx) with hx | hx
    · by_cases c : lo ≤ y.1
      · refine gap_due (S := pre ++ y :: l) (by omega) c (h2.imp id fun ⟨s, a, b⟩ => ⟨s, List.mem_append_left _ a, b⟩) (.inr ⟨y, List.mem_append_right _ List.mem_cons_self, y12, rfl⟩) (fun s hs => ?_) x hx
        rcases List.mem_append.mp hs with hs | hs
        · exact .inl (h1 s hs)
        · rcases List.mem_cons.mp hs with rfl | hs
          · exact .inr (Nat.le_refl _)
          · exact .inr (hb1 s hs)
      · rw [nw_nil (by omega)] at hx
        cases hx
    · have := nb_due l (max lo y.2) (pre ++ [y]) (fun z hz => hw z (List.mem_cons_of_mem _ hz)) hb2 (by omega) (fun s hs => ?_) ?_ x hx
      · rwa [List.append_assoc] at this
      · rcases List.mem_append.mp hs with hs | hs
        · have := h1 s hs
          omega
        · rw [List.mem_singleton.mp hs]
          omega
      · by_cases c : lo ≤ y.2
        · exact .inr ⟨y, List.mem_append_right _ (List.mem_singleton_self _), y12, by omega⟩
        · rcases h2 with h2 | ⟨s, a, b, e⟩
          · omega
          · exact .inr ⟨s, List.mem_append_left _ a, b, by omega⟩
theorem nb_cov {n : Nat} : ∀ (l : List (Nat × Nat)) (lo i : Nat), Wn n l → lo ≤ i → i < n → (∀ s ∈ l, ¬ (s.1 ≤ i ∧ i < s.2)) → ∃ y ∈ nb n lo l, y.1 ≤ i ∧ i < y.2
  | [], lo, i, _, h1, h2, _ => (nw_ch (n := n) (Nat.le_refl n) lo (by omega)).at i h1 h2
  | y :: l, lo, i, hw, h1, h2, h3 => by
    obtain ⟨y12, yn⟩ := hw y List.mem_cons_self
    have hy := h3 y List.mem_cons_self
    by_cases c : i < y.1
    · obtain ⟨z, hz, k⟩ := (nw_ch (n := n) (e := y.1) (by omega) lo (by omega)).at i h1 c
      exact ⟨z, List.mem_append_left _ hz, k⟩
    · obtain ⟨z, hz, k⟩ := nb_cov l (max lo y.2) i (fun z hz => hw z (List.mem_cons_of_mem _ hz)) (by omega) h2 fun s hs => h3 s (List.mem_cons_of_mem _ hs)
      exact ⟨z, List.mem_append_right _ hz, k⟩
theorem nb_up {n : Nat} : ∀ (l : List (Nat × Nat)) (lo : Nat), Wn n l → lo ≤ n → Up lo (nb n lo l)
  | [], lo, _, h => by
    have := (nw_ch (n := n) (Nat.le_refl n) lo h).up (r := []) trivial
    rwa [List.append_nil] at this
  | y :: l, lo, hw, h => by
    obtain ⟨y12, yn⟩ := hw y List.mem_cons_self
    have ih := nb_up l (max lo y.2) (fun z hz => hw z (List.mem_cons_of_mem _ hz)) (by omega)
    show Up lo (nw n lo y.1 ++ nb n (max lo y.2) l)
    by_cases c : lo ≤ y.1
    · exact (nw_ch (n := n) (e := y.1) (by omega) lo c).up (ih.mono (by omega))
    · rw [nw_nil (by omega), List.nil_append]
      exact ih.mono (by omega)
theorem Up.mem : ∀ {lo : Nat} {l : List (Nat × Nat)}, Up lo l → ∀ x ∈ l, lo ≤ x.1 ∧ x.1 < x.2
  | lo, y :: l, ⟨h1, h2, h3⟩, x, hx => by
    rcases List.mem_cons.mp hx with rfl | hx
    · exact ⟨h1, h2⟩
    · have := h3.mem x hx
      exact ⟨by omega, this.2⟩
theorem up_ext : ∀ (l r : List (Nat × Nat)) (lo lo' : Nat), Up lo l → Up lo' r → (∀ x, x ∈ l ↔ x ∈ r) → l = r
  | [], [], _, _, _, _, _ => rfl
  | [], y :: r, _, _, _, _, h => absurd ((h y).mpr List.mem_cons_self) List.not_mem_nil
  | x :: l, [], _, _, _, _, h => absurd ((h x).mp List.mem_cons_self) List.not_mem_nil
  | x :: l, y :: r, lo, lo', ⟨a1, a2, a3⟩, ⟨b1, b2, b3⟩, h => by
    have e : x = y := by
      rcases List.mem_cons.mp ((h x).mp List.mem_cons_self) with e | hx
      · exact e
      · rcases List.mem_cons.mp ((h y).mpr List.mem_cons_self) with e | hy
        · exact e.symm
        · have := b3.mem x hx
          have := a3.mem y hy
          omega
    subst e
    congr 1
    refine up_ext l r x.2 x.2 a3 b3 fun z => ⟨fun hz => ?_, fun hz => ?_⟩
    · rcases List.mem_cons.mp ((h z).mp (List.mem_cons_of_mem _ hz)) with e | k
      · have := a3.mem z hz
        rw [e] at this
        omega
      · exact k
    · rcases List.mem_cons.mp ((h z).mpr (List.mem_cons_of_mem _ hz)) with e | k
      · have := b3.mem z hz
        rw [e] at this
        omega
      · exact k
/-- two nodes that share an entry are nested -/
theorem nested {n i : Nat} {x y : Nat × Nat} (hx : isN n x) (hy : isN n y) (h1 : x.1 ≤ i) (h2 : i < x.2) (h3 : y.1 ≤ i) (h4 : i < y.2) : (x.1 ≤ y.1 ∧ y.2 ≤ x.2) ∨ (y.1 ≤ x.1 ∧ x.2 ≤ y.2) := by
  obtain ⟨x12, xn, xt⟩ := isN_tree (n := n) (b := x.1) (e := x.2) hx
  obtain ⟨y12, yn, yt⟩ := isN_tree (n := n) (b := y.1) (e := y.2) hy
  rcases Nat.lt_trichotomy x.1 y.1 with c | c | c
  · have := lam xt (by omega) yt (by omega) (by omega) c (by omega)
    omega
  · omega
  · have := lam yt (by omega) xt (by omega) (by omega) c (by omega)
    omega
/-- a node within a greater one has its parent within, too -/
theorem par_in {n : Nat} {x : Nat × Nat} (hx : isN n x) : ∀ (m b : Nat), 1 ≤ m → tree n b m → b + m ≤ n → b ≤ x.1 → x.2 ≤ b + m → x ≠ (b, b + m) →
    ∃ B M, isN n (B, B + M) ∧ 2 ≤ M ∧ isHalfP B M x ∧ b ≤ B ∧ B + M ≤ b + m := by
  intro m
  induction m using Nat.strongRecOn with
  | ind m ih =>
    intro b hm t hn h1 h2 c
    obtain ⟨m2, hh⟩ := in_half hm t hn hx h1 h2 c
    have g1 := gp_lt m2
    have g3 := gp_pos m
    have em : b + gp m + (m - gp m) = b + m := by omega
    by_cases k : x.1 < b + gp m
    · by_cases c2 : x = (b, b + gp m)
      · exact ⟨b, m, isN_of hm hn t, m2, .inl c2, Nat.le_refl _, Nat.le_refl _⟩
      · obtain ⟨B, M, r1, r2, r3, r4, r5⟩ := ih (gp m) g1 b g3 (tree_low m2 t) (by omega) h1 (hh k) c2
        exact ⟨B, M, r1, r2, r3, r4, by omega⟩
    · by_cases c2 : x = (b + gp m, b + gp m + (m - gp m))
      · exact ⟨b, m, isN_of hm hn t, m2, .inr (by rw [c2, em]), Nat.le_refl _, Nat.le_refl _⟩
      · obtain ⟨B, M, r1, r2, r3, r4, r5⟩ := ih (m - gp m) (by omega) (b + gp m) (by omega) (tree_high m2 t) (by omega) (by omega) (by omega) c2
        exact ⟨B, M, r1, r2, r3, by omega, by omega⟩
theorem par_in2 {n : Nat} {x y : Nat × Nat} (hx : isN n x) (hy : isN n y) (h1 : y.1 ≤ x.1) (h2 : x.2 ≤ y.2) (c : x ≠ y) :
    ∃ B M, isN n (B, B + M) ∧ 2 ≤ M ∧ isHalfP B M x ∧ y.1 ≤ B ∧ B + M ≤ y.2 := by
  obtain ⟨y12, yn, yt⟩ := isN_tree (n := n) (b := y.1) (e := y.2) hy
  have e : y.1 + (y.2 - y.1) = y.2 := by omega
  obtain ⟨B, M, r1, r2, r3, r4, r5⟩ := par_in hx (y.2 - y.1) y.1 (by omega) yt (by omega) h1 (by omega) (by rw [e]; exact c)
  exact ⟨B, M, r1, r2, r3, r4, by omega⟩
theorem meets_sub {x y : Nat × Nat} {S : List (Nat × Nat)} (h1 : y.1 ≤ x.1) (h2 : x.2 ≤ y.2) (h : meets y S = false) : meets x S = false := by
  cases c : meets x S with
  | false => rfl
  | true =>
    obtain ⟨s, a, b, d⟩ := meets_iff.mp c
    rw [meets_has a (x := y) (by omega) (by omega)] at h
    cases h
/-- two due nodes that share an entry are one -/
theorem due_one {n i : Nat} {S : List (Nat × Nat)} {x y : Nat × Nat} (hx : Due n S x) (hy : Due n S y) (h1 : x.1 ≤ i) (h2 : i < x.2) (h3 : y.1 ≤ i) (h4 : i < y.2) : x = y := by
  by_cases c : x = y
  · exact c
  exfalso
  rcases nested hx.1 hy.1 h1 h2 h3 h4 with ⟨k1, k2⟩ | ⟨k1, k2⟩
  · obtain ⟨B, M, r1, r2, r3, r4, r5⟩ := par_in2 hy.1 hx.1 k1 k2 (fun z => c z.symm)
    have a := hy.2.2 B M r1 r2 r3
    rw [meets_sub (x := (B, B + M)) (y := x) r4 r5 hx.2.1] at a
    cases a
  · obtain ⟨B, M, r1, r2, r3, r4, r5⟩ := par_in2 hx.1 hy.1 k1 k2 c
    have a := hx.2.2 B M r1 r2 r3
    rw [meets_sub (x := (B, B + M)) (y := y) r4 r5 hy.2.1] at a
    cases a
theorem nb_srt_due {n : Nat} {L : List (Nat × Nat)} (hL : Wn n L) {x : Nat × Nat} (hx : x ∈ nb n 0 (srt L)) : Due n L x := by
  have := nb_due (srt L) 0 [] hL.srt (srt_beg L) (Nat.zero_le _) (fun _ h => absurd h List.not_mem_nil) (.inl rfl) x hx
  exact due_same (meets_same fun s => by rw [List.nil_append]; exact srt_mem) this
theorem nb_iff {n : Nat} {L : List (Nat × Nat)} (hL : Wn n L) (x : Nat × Nat) : x ∈ nb n 0 (srt L) ↔ Due n L x := by
  refine ⟨nb_srt_due hL, fun hx => ?_⟩
  obtain ⟨x12, xn, _⟩ := isN_tree (n := n) (b := x.1) (e := x.2) hx.1
  obtain ⟨y, hy, h1, h2⟩ := nb_cov (srt L) 0 x.1 hL.srt (Nat.zero_le _) (by omega) fun s hs k => by
    have := meets_has (x := x) (srt_mem.mp hs) (by omega) (by omega)
    rw [hx.2.1] at this
    cases this
  rw [due_one hx (nb_srt_due hL hy) (Nat.le_refl _) x12 h1 h2]
  exact hy
/-- the list of the due nodes -/
theorem nb_is {n : Nat} {L l : List (Nat × Nat)} (hL : Wn n L) (hu : Up 0 l) (h : ∀ x, x ∈ l ↔ Due n L x) : nb n 0 (srt L) = l :=
  up_ext _ _ 0 0 (nb_up (srt L) 0 hL.srt (Nat.zero_le _)) hu fun x => (nb_iff hL x).trans (h x).symm
theorem nb_same {n : Nat} {L M : List (Nat × Nat)} (hL : Wn n L) (hM : Wn n M) (h : ∀ x, meets x L = meets x M) : nb n 0 (srt L) = nb n 0 (srt M) :=
  nb_is hL (nb_up (srt M) 0 hM.srt (Nat.zero_le _)) fun x => (nb_iff hM x).trans ⟨due_same fun x => (h x).symm, due_same h⟩
/-- covered -/
def cov (L : List (Nat × Nat)) (i : Nat) : Prop := ∃ s ∈ L, s.1 ≤ i ∧ i < s.2
theorem cov_app {L M : List (Nat × Nat)} {i : Nat} : cov (L ++ M) i ↔ cov L i ∨ cov M i :=
  ⟨fun ⟨s, h, k⟩ => (List.mem_append.mp h).elim (fun h => .inl ⟨s, h, k⟩) (fun h => .inr ⟨s, h, k⟩), fun h => h.elim (fun ⟨s, h, k⟩ => ⟨s, List.mem_append_left _ h, k⟩) (fun ⟨s, h, k⟩ => ⟨s, List.mem_append_right _ h, k⟩)⟩
theorem meets_cov {n : Nat} {L : List (Nat × Nat)} (hL : Wn n L) {x : Nat × Nat} (hx : x.1 < x.2) : meets x L = true ↔ ∃ i, x.1 ≤ i ∧ i < x.2 ∧ cov L i := by
  rw [meets_iff]
  constructor
  · rintro ⟨s, h, h1, h2⟩
    have := (hL s h).1
    exact ⟨max x.1 s.1, by omega, by omega, s, h, by omega, by omega⟩
  · rintro ⟨i, h1, h2, s, h, h3, h4⟩
    exact ⟨s, h, by omega, by omega⟩
theorem nb_nil_iff {n : Nat} {L : List (Nat × Nat)} (hL : Wn n L) : nb n 0 (srt L) = [] ↔ ∀ i, i < n → cov L i := by
  constructor
  · intro h i hi
    by_cases c : cov L i
    · exact c
    · obtain ⟨y, hy, _⟩ := nb_cov (srt L) 0 i hL.srt (Nat.zero_le _) hi fun s hs k => c ⟨s, srt_mem.mp hs, k⟩
      rw [h] at hy
      cases hy
  · intro h
    cases e : nb n 0 (srt L) with
    | nil => rfl
    | cons y l =>
      have d := nb_srt_due hL (by rw [e]; exact List.mem_cons_self)
      obtain ⟨y12, yn, _⟩ := isN_tree (n := n) (b := y.1) (e := y.2) d.1
      obtain ⟨s, hs, k⟩ := h y.1 (by omega)
      have := meets_has (x := y) hs (by omega) (by omega)
      rw [d.2.1] at this
      cases this
theorem jgo_ne : ∀ (l : List (Nat × Nat)) (c : Nat × Nat), ∃ e r, jgo c l = (c.1, e) :: r
  | [], c => ⟨c.2, [], rfl⟩
  | x :: l, c => by
    unfold jgo
    split
    · exact jgo_ne l (c.1, max c.2 x.2)
    · exact ⟨c.2, _, rfl⟩
theorem nw_ne {n b e : Nat} (h : b < e) : nw n b e ≠ [] := by
  rw [nw_step h]
  exact List.cons_ne_nil _ _
theorem jgo_nb {n : Nat} : ∀ (l : List (Nat × Nat)) (b : Nat), b ≤ n → (∀ x ∈ l, x.2 ≤ n) → (jgo (0, b) l = [(0, n)] ↔ nb n b l = [])
  | [], b, hb, _ => by
    show [(0, b)] = [(0, n)] ↔ nw n b n = []
    constructor
    · intro h
      have h : (0, b) = (0, n) := (List.cons.inj h).1
      have := congrArg Prod.snd h
      exact nw_nil (by dsimp only at this; omega)
    · intro h
      by_cases c : b < n
      · exact absurd h (nw_ne c)
      · rw [show b = n by omega]
  | x :: l, b, hb, hw => by
    have hx := hw x List.mem_cons_self
    have ih := jgo_nb l (max b x.2) (by omega) fun y hy => hw y (List.mem_cons_of_mem _ hy)
    show (if x.1 ≤ b then jgo (0, max b x.2) l else (0, b) :: jgo x l) = [(0, n)] ↔ nw n b x.1 ++ nb n (max b x.2) l = []
    by_cases c : x.1 ≤ b
    · rw [if_pos c, nw_nil c, List.nil_append]
      exact ih
    · rw [if_neg c]
      obtain ⟨e, r, h⟩ := jgo_ne l x
      rw [h]
      exact ⟨fun z => (by cases z), fun z => absurd (List.append_eq_nil_iff.mp z).1 (nw_ne (by omega))⟩
theorem jn_nb {n : Nat} (n1 : 1 ≤ n) (S : List (Nat × Nat)) (h : ∀ x ∈ S, x.2 ≤ n) : jn S = [(0, n)] ↔ nb n 0 S = [] := by
  cases S with
  | nil =>
    show [] = [(0, n)] ↔ nw n 0 n = []
    exact ⟨fun z => by (cases z), fun z => absurd z (nw_ne (by omega))⟩
  | cons x l =>
    have hx := h x List.mem_cons_self
    show jgo x l = [(0, n)] ↔ nw n 0 x.1 ++ nb n (max 0 x.2) l = []
    by_cases c : x.1 = 0
    · have e : x = (0, x.2) := Prod.ext c rfl
      rw [e, Nat.zero_max]
      dsimp only
      rw [nw_nil (Nat.le_refl 0), List.nil_append]
      exact jgo_nb l x.2 hx fun y hy => h y (List.mem_cons_of_mem _ hy)
    · obtain ⟨e, r, k⟩ := jgo_ne l x
      rw [k]
      exact ⟨fun z => absurd (congrArg Prod.fst (List.cons.inj z).1) c, fun z => absurd (List.append_eq_nil_iff.mp z).1 (nw_ne (by omega))⟩
/-- the root comes just if all is covered -/
theorem jn_cov {n : Nat} (n1 : 1 ≤ n) {L : List (Nat × Nat)} (hL : Wn n L) : jn (srt L) = [(0, n)] ↔ ∀ i, i < n → cov L i :=
  (jn_nb n1 (srt L) fun x hx => (hL.srt x hx).2).trans (nb_nil_iff hL)
theorem jgo_in {i : Nat} : ∀ (l : List (Nat × Nat)) (c y : Nat × Nat), y ∈ jgo c l → y.1 ≤ i → i < y.2 → (c.1 ≤ i ∧ i < c.2) ∨ cov l i
  | [], c, y, h, h1, h2 => by
    rw [List.mem_singleton.mp h] at h1 h2
    exact .inl ⟨h1, h2⟩
  | x :: l, c, y, h, h1, h2 => by
    unfold jgo at h
    split at h
    · rename_i k
      rcases jgo_in l _ y h h1 h2 with ⟨a, b⟩ | ⟨s, a, b⟩
      · dsimp only at a b
        by_cases z : i < c.2
        · exact .inl ⟨a, z⟩
        · exact .inr ⟨x, List.mem_cons_self, by omega, by omega⟩
      · exact .inr ⟨s, List.mem_cons_of_mem _ a, b⟩
    · rcases List.mem_cons.mp h with rfl | h
      · exact .inl ⟨h1, h2⟩
      · rcases jgo_in l x y h h1 h2 with a | ⟨s, a, b⟩
        · exact .inr ⟨x, List.mem_cons_self, a⟩
        · exact .inr ⟨s, List.mem_cons_of_mem _ a, b⟩
theorem jn_in {i : Nat} {S : List (Nat × Nat)} {y : Nat × Nat} (h : y ∈ jn S) (h1 : y.1 ≤ i) (h2 : i < y.2) : cov S i := by
  cases S with
  | nil => cases h
  | cons x l =>
    rcases jgo_in l x y h h1 h2 with a | ⟨s, a, b⟩
    · exact ⟨x, List.mem_cons_self, a⟩
    · exact ⟨s, List.mem_cons_of_mem _ a, b⟩
end LT

namespace LT
open PySem PySem.Spec PyProof.Rows L2
/-- whether all entries lie in one stretch -/
def lies (x : Nat × Nat) (T : List (Nat × Nat)) : Bool := T.any fun s => decide (s.1 ≤ x.1) && decide (x.2 ≤ s.2)
theorem ltc (a b : Nat) : V.bl (decide ((a : Int) < (b : Int))) = V.bl (decide (a < b)) := congrArg V.bl (decide_eq_decide.mpr (by omega))
theorem lec (a b : Nat) : V.bl (decide ((a : Int) ≤ (b : Int))) = V.bl (decide (a ≤ b)) := congrArg V.bl (decide_eq_decide.mpr (by omega))
theorem any_id {α : Type} (f : α → Bool) : ∀ S : List α, (S.map f).any id = S.any f
  | [] => rfl
  | x :: S => by rw [List.map_cons, List.any_cons, List.any_cons, any_id f S]; rfl
theorem all_id {α : Type} (f : α → Bool) : ∀ S : List α, (S.map f).all id = S.all f
  | [] => rfl
  | x :: S => by rw [List.map_cons, List.all_cons, List.all_cons, all_id f S]; rfl
section
variable {P : Program} {w : World} {K : PySem.W.Frag} {mg : Str → Option Value} {base : Heap}
def spMeetsP : Sp := fun vs H Q _ => ∃ (v : V) (x : Nat × Nat) (p : Addr) (xs : List V) (S : List (Nat × Nat)), vs = [v, .ref p] ∧ Nd H v x ∧ H p = some (.lst xs) ∧ All2 (Nd H) xs S ∧ S.length ≤ 400 ∧
  ∀ (H' : Hp), Same H H' → Q (.bl (meets x S)) H'
theorem ok_meets {f : Addr} {fd : FuncData} (F : Fun K "_meets" "_meets" sMeets f fd) (z_any : mg "any" = none) : FnOk P w K mg base CX0 1 f fd ["node", "spans"] spMeetsP := by
  refine F.ok scMeets (fun vs H Q E h => ?_) (fun cdv A outer s H vs Q E hr h => ?_)
  · obtain ⟨_, _, _, _, _, rfl, _⟩ := h
    rfl
  obtain ⟨v, x, p, xs, S, rfl, hv, hp, hxs, hl, q⟩ := h
  have hlen := hxs.len
  obtain ⟨vp, rfl, hvp⟩ := hv
  refine ⟨_, (pss_cons (ps_asg (pv 0) (pg_tup (by rfl) (pgs_cons (pg_name (i := 2) scMeets.nd rfl (Or.inr rfl)) (pgs_cons (pg_name (i := 3) scMeets.nd rfl (Or.inr rfl)) pgs_nil))))
    (pss_one (ps_ret (pe_callB (cr_any rfl) (by rfl) z_any (by decide +kernel) (pa_cons (pe_lc (own := [("first", 4), ("last", 5)]) rfl scMeets.nd (pi_list (pv 1)) (blkOk_by (N := ["node", "spans", "begin", "end", "first", "last"]) (sc := defScope sMeets) (by decide +kernel)) (fun _ _ _ _ _ => (pg_tupB (n := 2) rfl (pgs_cons (pg_name (i := 4) scMeets.nd rfl (Or.inl rfl)) (pgs_cons (pg_name (i := 5) scMeets.nd rfl (Or.inl rfl)) pgs_nil)))) (fun _ _ _ _ _ => pts_nil) (fun _ _ _ _ _ => (pe_and (pe_cmpR op_lt (pv 4) (pv 3) (nomark _)) (pe_one (pe_cmpR op_lt (pv 2) (pv 5) (nomark _)))))) pa_nil))))), ?_⟩
  refine ⟨_, rfl, vp, _, rfl, SqT.of hvp, rfl, _, _, rfl, _, _, rfl, rfl, ?_⟩
  refine ⟨_, rfl, p, rfl, ⟨_, SqL.of hp⟩, fun D nD => ?_⟩
  refine lc_list (K := K) (a := p) (xs := xs) (fun j H' => Same H H' ∧ H' D = some (.lst (((S.take j).map fun s => decide (s.1 < x.2) && decide (x.1 < s.2)).map V.bl))) ⟨same_upd nD, upd_same⟩ (fun j H' _ ⟨s5, _⟩ => SqL.of (s5 _ _ hp)) ?_ ?_
  · rintro j v H1 hj ⟨s1, hD⟩
    obtain ⟨y, hyj, pv, rfl, hpv⟩ := hxs.nth hj
    have jl := (List.getElem?_eq_some_iff.mp hyj).1
    refine ⟨pv, _, rfl, SqT.of (s1 _ _ hpv), rfl, _, _, rfl, _, _, rfl, rfl, rfl, ?_⟩
    refine ⟨_, rfl, _, rfl, _, _, rfl, rfl, decide (y.1 < x.2), ltc y.1 x.2, ?_⟩
    have lt' : ∀ b : Bool, ((((S.take j).map fun s => decide (s.1 < x.2) && decide (x.1 < s.2)).map V.bl) ++ [V.bl b]).length ≤ 401 := fun b => by
      rw [List.length_append, List.length_map, List.length_map, List.length_take, List.length_singleton]; omega
    have key : ∀ (b : Bool), b = (decide (y.1 < x.2) && decide (x.1 < y.2)) → ∃ acc, H1 D = some (.lst acc) ∧ acc.length < sizeLine ∧ Same H (upd H1 D (.lst (acc ++ [V.bl b]))) ∧ (upd H1 D (.lst (acc ++ [V.bl b]))) D = some (.lst (((S.take (j + 1)).map fun s => decide (s.1 < x.2) && decide (x.1 < s.2)).map V.bl)) := fun b hb => by
      refine ⟨_, hD, szlt (by rw [List.length_map, List.length_map, List.length_take]; omega), fun u o k => by rw [upd_ne (ne_of_none k nD)]; exact s1 _ _ k, ?_⟩
      rw [take_more hyj, List.map_append, List.map_append, hb]
      exact upd_same
    cases h : decide (y.1 < x.2) with
    | true =>
      refine ⟨_, rfl, _, rfl, _, _, rfl, rfl, ?_⟩
      dsimp only
      rw [ltc x.1 y.2]
      exact key _ (by rw [h, Bool.true_and])
    | false => exact key false (by rw [h, Bool.false_and])
  · rintro H1 ⟨s1, hD⟩
    rw [hlen, List.take_length] at hD
    refine ⟨D, _, rfl, SqL.of hD, ?_⟩
    rw [any_id]
    exact q H1 s1
/-- the check of papers -/
def spCheckP : Sp := fun vs H Q _ => ∃ (n : Nat) (p1 p2 : Addr) (xs ys : List V) (S W : List (Nat × Nat)), vs = [.int n, .ref p1, .ref p2] ∧ 1 ≤ n ∧ n ≤ 10 ^ 30 ∧ H p1 = some (.lst xs) ∧ All2 (Nd H) xs S ∧ 1 ≤ S.length ∧ S.length ≤ 12 ∧ So n 0 S ∧
  H p2 = some (.lst ys) ∧ All2 (Nd H) ys W ∧ 1 ≤ W.length ∧ W.length ≤ 60 ∧ (∀ x ∈ W, isN n x) ∧ ∀ H', Same H H' → Q .non H'
theorem ok_check_papers {f g1 g2 g3 : Addr} {fd d1 d2 d3 : FuncData} {ds : List Value} (F : Fun K "_check" "_check" sCheck f fd) (GCheckSize : FnOk P w K mg base CX0 3 g1 d1 ["size"] spCheckSize) (ACheckSize : At K mg "check_size" g1 d1 ["size"])
    (GCheckSpans : FnOk P w K mg base CX0 4 g2 d2 ["size", "spans"] spCheckSpans) (ACheckSpans : At K mg "check_spans" g2 d2 ["size", "spans"])
    (GCheckNodes : FnOk P w K mg base CX0 4 g3 d3 ["size", "nodes", "least", "most"] spCheckNodes) (ACheckNodes : AtT K mg "check_nodes" g3 d3 ["size", "nodes", "least", "most"] ds [.int 1, .int 60]) : FnOk P w K mg base CX0 5 f fd ["size", "spans", "nodes"] spCheckP := by
  refine F.ok scCheck (fun vs H Q E h => ?_) (fun cdv A outer s H vs Q E hr h => ?_)
  · obtain ⟨_, _, _, _, _, _, _, rfl, _⟩ := h
    rfl
  obtain ⟨n, p1, p2, xs, ys, S, W, rfl, n1, h30, hp1, hx1, l1, l12, hS, hp2, hx2, w1, w60, hW, q⟩ := h
  refine ⟨_, (pss_cons (ps_expr (pe_call GCheckSize (hr.mono (by decide)) rfl ACheckSize.m ACheckSize.kp ACheckSize.b .nil pass0 (pa_cons (pv 0) pa_nil)))
    (pss_cons (ps_expr (pe_call GCheckSpans (hr.mono (by decide)) rfl ACheckSpans.m ACheckSpans.kp ACheckSpans.b .nil pass0 (pa_cons (pv 0) (pa_cons (pv 1) pa_nil))))
    (pss_one (ps_expr (pe_call GCheckNodes (hr.mono (by decide)) rfl ACheckNodes.m ACheckNodes.kp ACheckNodes.b ACheckNodes.v pass0 (pa_cons (pv 0) (pa_cons (pv 2) pa_nil))))))), ?_⟩
  refine ⟨_, rfl, _, rfl, by omega, by omega, _, rfl, _, rfl, n, p1, xs, S, rfl, hp1, hx1, l1, l12, hS, fun H1 s1 => ?_⟩
  refine ⟨_, rfl, _, rfl, n, p2, ys, W, rfl, n1, h30, s1 _ _ hp2, hx2.mono (fun v x (k : Nd H v x) => k.same s1), w1, w60, hW, fun H2 s2 => ?_⟩
  exact q H2 (s1.trans s2)
end
end LT

namespace LT
open PySem PySem.Spec PyProof.Rows L2
theorem cut_take (xs : List V) (b : Nat) : cutV xs none (some (b : Int)) = xs.take b := by
  unfold cutV
  rw [HT.sIx_nat, HT.sIx_none, List.drop_zero, Nat.sub_zero, ← List.take_eq_take_min]
theorem cut_mid (xs : List V) (a b : Nat) : cutV xs (some (a : Int)) (some (b : Int)) = (xs.drop a).take (b - a) := by
  unfold cutV
  rw [HT.sIx_nat, HT.sIx_nat]
  by_cases h : a ≤ xs.length
  · rw [Nat.min_eq_left h, List.take_eq_take_min (l := xs.drop a) (i := b - a), List.length_drop, List.take_eq_take_min (l := xs.drop a) (i := min b xs.length - a), List.length_drop]
    congr 1
    omega
  · rw [show min a xs.length = xs.length by omega, List.drop_length, List.drop_of_length_le (show xs.length ≤ a by omega), List.take_nil, List.take_nil]
theorem cut_drop (xs : List V) (a : Nat) : cutV xs (some (a : Int)) none = xs.drop a := by
  unfold cutV
  rw [HT.sIx_nat, HT.sIx_none]
  by_cases h : a ≤ xs.length
  · rw [Nat.min_eq_left h]
    exact List.take_of_length_le (by rw [List.length_drop]; exact Nat.le_refl _)
  · rw [Nat.min_eq_right (by omega), List.drop_length, List.drop_of_length_le (by omega), List.take_nil]
theorem All2.takeN {α : Type} {R : V → α → Prop} : ∀ {vs : List V} {xs : List α}, All2 R vs xs → ∀ k, All2 R (vs.take k) (xs.take k)
  | _, _, .nil, k => by rw [List.take_nil, List.take_nil]; exact .nil
  | _, _, .cons h t, 0 => .nil
  | _, _, .cons h t, k + 1 => .cons h (t.takeN k)
theorem All2.dropN {α : Type} {R : V → α → Prop} : ∀ {vs : List V} {xs : List α}, All2 R vs xs → ∀ k, All2 R (vs.drop k) (xs.drop k)
  | _, _, .nil, k => by rw [List.drop_nil, List.drop_nil]; exact .nil
  | _, _, .cons h t, 0 => .cons h t
  | _, _, .cons h t, k + 1 => t.dropN k
theorem So.wn {n : Nat} {S : List (Nat × Nat)} (h : So n 0 S) : Wn n S := fun x hx => (h.mem x hx).2
theorem nodes_wn {n : Nat} {W : List (Nat × Nat)} (h : ∀ x ∈ W, isN n x) : Wn n W := fun x hx => by
  have := isN_tree (n := n) (b := x.1) (e := x.2) (h x hx)
  exact ⟨this.1, this.2.1⟩
/-- the index of the first node with an entry of spans -/
def fw (S W : List (Nat × Nat)) : Option Nat := (List.range W.length).find? fun i => meets (W.getD i (0, 0)) S
def fwV (S W : List (Nat × Nat)) : V := match fw S W with
  | some i => .int (i : Int)
  | none => .non
/-- the indexes of needless nodes -/
def ndl (W : List (Nat × Nat)) (k : Nat) : List Nat := (List.range k).filter fun i => lies (W.getD i (0, 0)) (jn (srt (W.take i ++ W.drop (i + 1))))
theorem ndl_more (W : List (Nat × Nat)) (k : Nat) : ndl W (k + 1) = ndl W k ++ (if lies (W.getD k (0, 0)) (jn (srt (W.take k ++ W.drop (k + 1)))) then [k] else []) := by
  unfold ndl
  rw [List.range_succ, List.filter_append]
  congr 1
  by_cases h : lies (W.getD k (0, 0)) (jn (srt (W.take k ++ W.drop (k + 1)))) = true
  · rw [if_pos h]
    exact List.filter_cons_of_pos (l := []) h
  · rw [if_neg h]
    exact List.filter_cons_of_neg (l := []) h
theorem ndl_len (W : List (Nat × Nat)) (k : Nat) : (ndl W k).length ≤ k := by
  have := List.length_filter_le (fun i => lies (W.getD i (0, 0)) (jn (srt (W.take i ++ W.drop (i + 1))))) (List.range k)
  rw [List.length_range] at this
  exact this
theorem getD_at {W : List (Nat × Nat)} {i : Nat} {x : Nat × Nat} (h : W[i]? = some x) : W.getD i (0, 0) = x := by
  rw [List.getD_eq_getElem?_getD, h]
  rfl
section
variable {P : Program} {w : World} {K : PySem.W.Frag} {mg : Str → Option Value} {base : Heap}
def Papers (n : Nat) (p1 p2 : Addr) (xs ys : List V) (S W : List (Nat × Nat)) (H : Hp) : Prop := 1 ≤ n ∧ n ≤ 10 ^ 30 ∧ H p1 = some (.lst xs) ∧ All2 (Nd H) xs S ∧ 1 ≤ S.length ∧ S.length ≤ 12 ∧ So n 0 S ∧
  H p2 = some (.lst ys) ∧ All2 (Nd H) ys W ∧ 1 ≤ W.length ∧ W.length ≤ 60 ∧ (∀ x ∈ W, isN n x)
theorem Papers.same {n : Nat} {p1 p2 : Addr} {xs ys : List V} {S W : List (Nat × Nat)} {H H' : Hp} (h : Papers n p1 p2 xs ys S W H) (s : Same H H') : Papers n p1 p2 xs ys S W H' := by
  obtain ⟨a, b, c, d, e, f, g, i, j, k, l, m⟩ := h
  exact ⟨a, b, s _ _ c, d.mono (fun v x (k : Nd H v x) => k.same s), e, f, g, s _ _ i, j.mono (fun v x (k : Nd H v x) => k.same s), k, l, m⟩
def spLack : Sp := fun vs H Q _ => ∃ (n : Nat) (p1 p2 : Addr) (xs ys : List V) (S W : List (Nat × Nat)), vs = [.int n, .ref p1, .ref p2] ∧ Papers n p1 p2 xs ys S W H ∧
  ∀ (H' : Hp) (r : Addr) (zs : List V), Same H H' → H r = none → H' r = some (.lst zs) → All2 (Nd H') zs (nb n 0 (srt (S ++ W))) → Q (.ref r) H'
theorem ok_lacking {f g1 g2 : Addr} {fd d1 d2 : FuncData} (F : Fun K "lacking" "lacking" sLacking f fd) (GCheck : FnOk P w K mg base CX0 5 g1 d1 ["size", "spans", "nodes"] spCheckP) (ACheck : At K mg "_check" g1 d1 ["size", "spans", "nodes"])
    (GNodesBeside : FnOk P w K mg base CX0 5 g2 d2 ["size", "stretches"] spBeside) (ANodesBeside : At K mg "nodes_beside" g2 d2 ["size", "stretches"]) : FnOk P w K mg base CX0 6 f fd ["size", "spans", "nodes"] spLack := by
  refine F.ok scLacking (fun vs H Q E h => ?_) (fun cdv A outer s H vs Q E hr h => ?_)
  · obtain ⟨_, _, _, _, _, _, _, rfl, _⟩ := h
    rfl
  obtain ⟨n, p1, p2, xs, ys, S, W, rfl, hP, q⟩ := h
  refine ⟨_, (pss_cons (ps_expr (pe_call GCheck (hr.mono (by decide)) rfl ACheck.m ACheck.kp ACheck.b .nil pass0 (pa_cons (pv 0) (pa_cons (pv 1) (pa_cons (pv 2) pa_nil)))))
    (pss_one (ps_ret (pe_call GNodesBeside (hr.mono (by decide)) rfl ANodesBeside.m ANodesBeside.kp ANodesBeside.b .nil pass0 (pa_cons (pv 0) (pa_cons (pe_op op_cat (pv 1) (pv 2)) pa_nil)))))), ?_⟩
  obtain ⟨n1, h30, hp1, hx1, l1, l12, hS, hp2, hx2, w1, w60, hW⟩ := id hP
  refine ⟨_, rfl, _, rfl, _, rfl, n, p1, p2, xs, ys, S, W, rfl, n1, h30, hp1, hx1, l1, l12, hS, hp2, hx2, w1, w60, hW, fun H1 s1 => ?_⟩
  obtain ⟨_, _, kp1, kx1, _, _, _, kp2, kx2, _⟩ := hP.same s1
  refine ⟨_, rfl, _, rfl, _, rfl, p1, p2, _, _, rfl, rfl, kp1, kp2, szle (by rw [kx1.len, kx2.len]; omega), fun r nr => ?_⟩
  have w2 := same_upd (o := .lst (xs ++ ys)) nr
  refine ⟨n, r, _, S ++ W, rfl, n1, h30, upd_same, (kx1.app kx2).mono (fun v x (k : Nd H1 v x) => k.same w2), by rw [List.length_append]; omega, fun x hx => ?_, fun H3 r3 zs s3 nr3 hr3 hz => ?_⟩
  · have := (hS.wn.app (nodes_wn hW)) x hx
    omega
  · exact q H3 r3 zs (s1.trans (w2.trans s3)) ((s1.trans w2).free nr3) hr3 hz
def spFirstW : Sp := fun vs H Q _ => ∃ (n : Nat) (p1 p2 : Addr) (xs ys : List V) (S W : List (Nat × Nat)), vs = [.int n, .ref p1, .ref p2] ∧ Papers n p1 p2 xs ys S W H ∧
  ∀ (H' : Hp), Same H H' → Q (fwV S W) H'
theorem ok_first_wrong {f g1 g2 : Addr} {fd d1 d2 : FuncData} (F : Fun K "first_wrong" "first_wrong" sFirstWrong f fd) (GCheck : FnOk P w K mg base CX0 5 g1 d1 ["size", "spans", "nodes"] spCheckP) (ACheck : At K mg "_check" g1 d1 ["size", "spans", "nodes"])
    (GMeets : FnOk P w K mg base CX0 1 g2 d2 ["node", "spans"] spMeetsP) (AMeets : At K mg "_meets" g2 d2 ["node", "spans"]) (z_enumerate : mg "enumerate" = none) : FnOk P w K mg base CX0 6 f fd ["size", "spans", "nodes"] spFirstW := by
  refine F.ok scFirstWrong (fun vs H Q E h => ?_) (fun cdv A outer s H vs Q E hr h => ?_)
  · obtain ⟨_, _, _, _, _, _, _, rfl, _⟩ := h
    rfl
  obtain ⟨n, p1, p2, xs, ys, S, W, rfl, hP, q⟩ := h
  refine ⟨_, (pss_cons (ps_expr (pe_call GCheck (hr.mono (by decide)) rfl ACheck.m ACheck.kp ACheck.b .nil pass0 (pa_cons (pv 0) (pa_cons (pv 1) (pa_cons (pv 2) pa_nil)))))
    (pss_cons (ps_for PassesOwn.never rfl (pi_enum (by rfl) z_enumerate (pa_cons (pv 2) pa_nil)) (pg_tup (by rfl) (pgs_cons (pg_name (i := 3) scFirstWrong.nd rfl (Or.inl rfl)) (pgs_cons (pg_name (i := 4) scFirstWrong.nd rfl (Or.inl rfl)) pgs_nil)))
    (pss_one (ps_if (pt_val (pe_call GMeets (hr.mono (by decide)) rfl AMeets.m AMeets.kp AMeets.b .nil pass0 (pa_cons (pv 4) (pa_cons (pv 1) pa_nil))))
    (pss_one (ps_ret (pv 3)))
    pss_nil)))
    (pss_one (ps_ret pe_non)))), ?_⟩
  obtain ⟨n1, h30, hp1, hx1, l1, l12, hS, hp2, hx2, w1, w60, hW⟩ := id hP
  refine ⟨_, rfl, _, rfl, _, rfl, n, p1, p2, xs, ys, S, W, rfl, n1, h30, hp1, hx1, l1, l12, hS, hp2, hx2, w1, w60, hW, fun H1 s1 => ?_⟩
  obtain ⟨_, _, kp1, kx1, _, _, _, kp2, kx2, _⟩ := hP.same s1
  refine ⟨_, rfl, p2, ys, rfl, SqL.of kp2, ?_⟩
  refine for_enum (a := p2) (xs := ys) (fun i σ H' => ∃ (v4 v5 : Option V), σ = [some (.int (n : Int)), some (.ref p1), some (.ref p2), v4, v5] ∧ Same H1 H' ∧ ∀ j, j < i → meets (W.getD j (0, 0)) S = false)
    ⟨none, none, rfl, Same.refl _, fun j h => by omega⟩ (fun i σ H' _ ⟨_, _, _, sm, _⟩ => SqL.of (sm _ _ kp2)) ?_ ?_
  · rintro i x σ H2 T hi ⟨v4, v5, rfl, sm, hno⟩ nT
    obtain ⟨y, hyi, hy⟩ := kx2.nth hi
    have sT := same_upd (o := .tup [.int ((i : Nat) : Int), x]) nT
    have s12 := sm.trans sT
    refine ⟨T, _, rfl, SqT.of upd_same, rfl, _, _, rfl, _, _, rfl, rfl, ?_⟩
    refine ⟨_, rfl, _, rfl, x, y, p1, xs, S, rfl, hy.same s12, s12 _ _ kp1, kx1.mono (fun v x (k : Nd H1 v x) => k.same s12), by omega, fun H3 s3 => ?_⟩
    have il : i < W.length := (List.getElem?_eq_some_iff.mp hyi).1
    refine ⟨_, rfl, ite2 (fun c => ?_) (fun c => ?_)⟩
    · refine ⟨_, rfl, ?_⟩
      have e : fwV S W = .int (i : Int) := by
        have : fw S W = some i := by
          unfold fw
          rw [List.find?_range_eq_some]
          refine ⟨by rw [getD_at hyi]; exact c, by rw [List.mem_range]; exact il, fun j hj => by rw [hno j hj]; rfl⟩
        unfold fwV
        rw [this]
      rw [← e]
      exact q H3 (s1.trans (s12.trans s3))
    · refine ⟨_, _, rfl, s12.trans s3, fun j hj => ?_⟩
      by_cases z : j = i
      · subst z
        rw [getD_at hyi]
        exact Bool.eq_false_iff.mpr c
      · exact hno j (by omega)
  · rintro σ H2 ⟨v4, v5, rfl, sm, hno⟩
    have e : fwV S W = .non := by
      have : fw S W = none := by
        unfold fw
        rw [List.find?_eq_none]
        intro j hj
        rw [hno j (by rw [kx2.len]; exact List.mem_range.mp hj)]
        exact Bool.false_ne_true
      unfold fwV
      rw [this]
    have := q H2 (s1.trans sm)
    rw [e] at this
    exact this
end
end LT

namespace LT
open PySem PySem.Spec PyProof.Rows L2
section
variable {P : Program} {w : World} {K : PySem.W.Frag} {mg : Str → Option Value} {base : Heap}
def spServes : Sp := fun vs H Q _ => ∃ (n : Nat) (p1 p2 : Addr) (xs ys : List V) (S W : List (Nat × Nat)), vs = [.int n, .ref p1, .ref p2] ∧ Papers n p1 p2 xs ys S W H ∧
  ∀ (H' : Hp), Same H H' → Q (.bl (decide (fw S W = none) && decide (jn (srt (S ++ W)) = [(0, n)]))) H'
theorem fwV_non (S W : List (Nat × Nat)) : V.bl (decide (fwV S W = V.non)) = V.bl (decide (fw S W = none)) := by
  unfold fwV
  cases fw S W with
  | none => rfl
  | some i => rfl
theorem ok_serves {f g1 g2 : Addr} {fd d1 d2 : FuncData} (F : Fun K "serves" "serves" sServes f fd) (GFirstWrong : FnOk P w K mg base CX0 6 g1 d1 ["size", "spans", "nodes"] spFirstW) (AFirstWrong : At K mg "first_wrong" g1 d1 ["size", "spans", "nodes"])
    (GJoined : FnOk P w K mg base CX0 1 g2 d2 ["stretches"] spJoined) (AJoined : At K mg "joined" g2 d2 ["stretches"]) : FnOk P w K mg base CX0 7 f fd ["size", "spans", "nodes"] spServes := by
  refine F.ok scServes (fun vs H Q E h => ?_) (fun cdv A outer s H vs Q E hr h => ?_)
  · obtain ⟨_, _, _, _, _, _, _, rfl, _⟩ := h
    rfl
  obtain ⟨n, p1, p2, xs, ys, S, W, rfl, hP, q⟩ := h
  refine ⟨_, (pss_one (ps_ret (pe_and (pe_cmpR op_isN (pe_call GFirstWrong (hr.mono (by decide)) rfl AFirstWrong.m AFirstWrong.kp AFirstWrong.b .nil pass0 (pa_cons (pv 0) (pa_cons (pv 1) (pa_cons (pv 2) pa_nil)))) pe_non (nomark _)) (pe_one (pe_cmpR (op_eqD hr.units) (pe_call GJoined (hr.mono (by decide)) rfl AJoined.m AJoined.kp AJoined.b .nil pass0 (pa_cons (pe_op op_cat (pv 1) (pv 2)) pa_nil)) (pe_lst (pa_cons (pe_tup (pa_cons pe_int (pa_cons (pv 0) pa_nil))) pa_nil)) (nomark _)))))), ?_⟩
  refine ⟨_, rfl, _, rfl, _, rfl, n, p1, p2, xs, ys, S, W, rfl, hP, fun H1 s1 => ?_⟩
  refine ⟨rfl, decide (fw S W = none), fwV_non S W, ?_⟩
  cases h : decide (fw S W = none) with
  | false =>
    have := q H1 s1
    rw [h, Bool.false_and] at this
    exact this
  | true =>
    obtain ⟨n1, h30, kp1, kx1, _, l12, hS, kp2, kx2, _, w60, hW⟩ := hP.same s1
    refine ⟨_, rfl, _, rfl, p1, p2, _, _, rfl, rfl, kp1, kp2, szle (by rw [kx1.len, kx2.len]; omega), fun r nr => ?_⟩
    have w2 := same_upd (o := .lst (xs ++ ys)) nr
    refine ⟨r, xs ++ ys, S ++ W, rfl, upd_same, (kx1.app kx2).mono (fun v x (k : Nd H1 v x) => k.same w2), by rw [List.length_append]; omega, fun H3 r3 zs s3 nr3 hr3 hz => ?_⟩
    refine ⟨_, rfl, (by show 2 ≤ sizeLine; decide), fun t nt => ⟨(by show 1 ≤ sizeLine; decide), fun l nl => ?_⟩⟩
    have w4 := same_upd (o := .tup [.int 0, .int (n : Int)]) nt
    have w5 := same_upd (o := .lst [.ref t]) nl
    refine ⟨_, _, lst_dp (w5 _ _ (w4 _ _ hr3)) (hz.mono fun v x (k : Nd H3 v x) => (k.same w4).same w5), lst_dp (l := [(0, n)]) upd_same (.cons ⟨t, rfl, w5 _ _ upd_same⟩ .nil), nds_shaped _, nds_shaped _, ?_⟩
    rw [nds_eqv]
    have := q _ ((s1.trans w2).trans (s3.trans (w4.trans w5)))
    rw [h, Bool.true_and] at this
    exact this
def spShows : Sp := fun vs H Q _ => ∃ (n : Nat) (p1 p2 : Addr) (xs ys : List V) (S W : List (Nat × Nat)), vs = [.int n, .ref p1, .ref p2] ∧ 1 ≤ n ∧ n ≤ 10 ^ 30 ∧ H p1 = some (.lst xs) ∧ All2 (Nd H) xs S ∧ 1 ≤ S.length ∧ S.length ≤ 12 ∧ So n 0 S ∧
  H p2 = some (.lst ys) ∧ All2 (Nd H) ys W ∧ W.length ≤ 90000 ∧ (∀ x ∈ W, isN n x) ∧ ∀ (H' : Hp), Same H H' → Q (.bl (decide (srt W = nl n 0 S))) H'
theorem ok_shows {f g1 g2 : Addr} {fd d1 d2 : FuncData} (F : Fun K "shows_needed" "shows_needed" sShowsNeeded f fd) (GNeeded : FnOk P w K mg base CX0 6 g1 d1 ["size", "spans"] spNeeded) (ANeeded : At K mg "needed" g1 d1 ["size", "spans"])
    (GIsTreeNode : FnOk P w K mg base CX0 3 g2 d2 ["size", "value"] (spTreeV K)) (AIsTreeNode : At K mg "is_tree_node" g2 d2 ["size", "value"]) (z_isinstance : mg "isinstance" = none) (z_list : mg "list" = none) (z_all : mg "all" = none) (z_sorted : mg "sorted" = none) : FnOk P w K mg base CX0 7 f fd ["size", "spans", "value"] spShows := by
  refine F.ok scShowsNeeded (fun vs H Q E h => ?_) (fun cdv A outer s H vs Q E hr h => ?_)
  · obtain ⟨_, _, _, _, _, _, _, rfl, _⟩ := h
    rfl
  obtain ⟨n, p1, p2, xs, ys, S, W, rfl, n1, h30, hp1, hx1, l1, l12, hS, hp2, hx2, w9, hW, q⟩ := h
  refine ⟨_, (pss_cons (ps_set (i := 3) scShowsNeeded.nd rfl (Or.inl rfl) (pe_call GNeeded (hr.mono (by decide)) rfl ANeeded.m ANeeded.kp ANeeded.b .nil pass0 (pa_cons (pv 0) (pa_cons (pv 1) pa_nil))))
    (pss_cons (ps_if (PW.pt (pw_or (pt_not (pt_val (pe_callB call_isi (by rfl) z_isinstance (by decide +kernel) (pa_cons (pv 2) (pa_cons (pe_bltn (v := .ty "list") (u := .type "list") (by rfl) z_list (by decide +kernel) rfl) pa_nil))))) (pw_or1 (pt_not (pt_val (pe_callB (cr_all rfl) (by rfl) z_all (by decide +kernel) (pa_cons (pe_lc (own := [("item", 4)]) rfl scShowsNeeded.nd (pi_list (pv 2)) (blkOk_by (N := ["size", "spans", "value", "wanted", "item"]) (sc := defScope sShowsNeeded) (by decide +kernel)) (fun _ _ _ _ _ => (pg_name (i := 4) scShowsNeeded.nd rfl (Or.inl rfl))) (fun _ _ _ _ _ => pts_nil) (fun _ _ _ _ _ => (pe_call GIsTreeNode (hr.mono (by decide)) rfl AIsTreeNode.m AIsTreeNode.kp AIsTreeNode.b .nil pass0 (pa_cons (pv 0) (pa_cons (pv 4) pa_nil))))) pa_nil)))))))
    (pss_one (ps_ret pe_bl))
    pss_nil)
    (pss_one (ps_ret (pe_cmpR (op_eqD hr.units) (pe_callB cr_sortedPO (by rfl) z_sorted (by decide +kernel) (pa_cons (pv 2) pa_nil)) (pv 3) (nomark _)))))), ?_⟩
  refine ⟨_, rfl, _, rfl, n, p1, xs, S, rfl, n1, h30, hp1, hx1, l1, l12, hS, fun H1 r zs s1 nr hr1 hz => ?_⟩
  have hp2' := s1 _ _ hp2
  have hx2' := hx2.mono fun v x (k : Nd H v x) => k.same s1
  have yl := hx2.len
  refine ⟨_, rfl, _, _, _, _, true, rfl, .ty "list", .base (.lst hp2'), kit_ty (by decide +kernel), true, rfl, ?_⟩
  refine ⟨_, rfl, p2, rfl, ⟨_, SqL.of hp2'⟩, fun D nD => ?_⟩
  refine lc_list (K := K) (a := p2) (xs := ys) (fun j H' => Same H1 H' ∧ H' D = some (.lst (((W.take j).map fun _ => true).map V.bl))) ⟨same_upd nD, upd_same⟩ (fun j H' _ ⟨s5, _⟩ => SqL.of (s5 _ _ hp2')) ?_ ?_
  · rintro j v H2 hj ⟨s2, hD⟩
    obtain ⟨y, hyj, hy⟩ := hx2'.nth hj
    have jl := (List.getElem?_eq_some_iff.mp hyj).1
    refine ⟨rfl, ?_⟩
    have k100 : (10 : Nat) ^ 30 ≤ 2 ^ 100 := by decide
    obtain ⟨yp, rfl, hyp⟩ := hy.same s2
    refine ⟨_, rfl, _, rfl, n, _, true, rfl, n1, by omega, ?_, ?_⟩
    · have e : tnV n (.int (y.1 : Int)) (.int (y.2 : Int)) = true := by
        rw [tn_nat]
        exact decide_eq_true (hW y (List.mem_of_getElem? hyj))
      exact e ▸ Ask.pair (n := n) hyp (.int _) (.int _)
    refine ⟨_, hD, szlt (by rw [List.length_map, List.length_map, List.length_take]; omega), fun u o k => by rw [upd_ne (ne_of_none k nD)]; exact s2 _ _ k, ?_⟩
    rw [take_more hyj, List.map_append, List.map_append]
    exact upd_same
  rintro H2 ⟨s2, hD⟩
  rw [yl, List.take_length] at hD
  have ht : ((W.map fun _ => true).all id) = true := by
    rw [all_id]
    exact List.all_eq_true.mpr fun _ _ => rfl
  refine ⟨D, _, rfl, SqL.of hD, true, congrArg V.bl ht, ?_⟩
  have hp3 := s2 _ _ hp2'
  have hx3 := hx2'.mono fun v x (k : Nd H1 v x) => k.same s2
  refine ⟨_, rfl, p2, ys, kOf H2, rfl, SqL.of hp3, fun x hm => ?_, fun zs' so hs1 hs2 nso => ?_⟩
  · obtain ⟨y, _, pa, rfl, hpa⟩ := hx3.mem hm
    exact ⟨pa, rfl, by rw [hpa]; simp only [kOf, hpa]⟩
  have s3 := same_upd (o := .lst zs') nso
  have hy0 := (sorted_srt hx3 hs1 hs2.perm).mono (fun v x (k : Nd H2 v x) => k.same s3)
  refine ⟨_, rfl, _, _, lst_dp upd_same hy0, lst_dp (s3 _ _ (s2 _ _ hr1)) (hz.mono fun v x (k : Nd H1 v x) => (k.same s2).same s3), nds_shaped _, nds_shaped _, ?_⟩
  rw [nds_eqv]
  exact q _ ((s1.trans s2).trans s3)
end
end LT

namespace LT
open PySem PySem.Spec PyProof.Rows L2
theorem Up.filter {p : Nat × Nat → Bool} : ∀ {lo : Nat} {l : List (Nat × Nat)}, Up lo l → Up lo (l.filter p)
  | lo, [], _ => trivial
  | lo, x :: l, ⟨h1, h2, h3⟩ => by
    cases h : p x with
    | true =>
      rw [List.filter_cons_of_pos h]
      exact ⟨h1, h2, h3.filter⟩
    | false =>
      rw [List.filter_cons_of_neg (by rw [h]; decide)]
      exact h3.filter.mono (by omega)
theorem Up.pair : ∀ {lo : Nat} {l : List (Nat × Nat)}, Up lo l → l.Pairwise (fun x y => x.2 ≤ y.1)
  | lo, [], _ => .nil
  | lo, x :: l, ⟨h1, h2, h3⟩ => .cons (fun y hy => (h3.mem y hy).1) h3.pair
theorem Up.srt {lo : Nat} {l : List (Nat × Nat)} (h : Up lo l) : srt l = l := by
  refine srt_id ?_
  have p := h.pair
  have m := h.mem
  clear h
  induction l with
  | nil => exact .nil
  | cons x l ih =>
    obtain ⟨a, b⟩ := List.pairwise_cons.mp p
    refine .cons (fun y hy => leN_iff.mpr ?_) (ih b fun z hz => m z (List.mem_cons_of_mem _ hz))
    have := a y hy
    have := (m x List.mem_cons_self).2
    have := (m y (List.mem_cons_of_mem _ hy)).2
    omega
theorem nb_so {n : Nat} {S : List (Nat × Nat)} (h : So n 0 S) : nb n 0 (srt S) = nl n 0 S := by
  rw [srt_id (so_pair h), nb_nl h]
theorem due_near {n : Nat} {S T : List (Nat × Nat)} (h : ∀ x, x.1 < x.2 → meets x S = meets x T) {x : Nat × Nat} (d : Due n S x) : Due n T x := by
  have x12 := (isN_tree (n := n) (b := x.1) (e := x.2) d.1).1
  exact ⟨d.1, by rw [← h x x12]; exact d.2.1, fun B M a b c => by rw [← h (B, B + M) (by show B < B + M; omega)]; exact d.2.2 B M a b c⟩
theorem nb_near {n : Nat} {L M : List (Nat × Nat)} (hL : Wn n L) (hM : Wn n M) (h : ∀ i, cov L i ↔ cov M i) : nb n 0 (srt L) = nb n 0 (srt M) := by
  have k : ∀ x : Nat × Nat, x.1 < x.2 → meets x L = meets x M := fun x hx => by
    rw [Bool.eq_iff_iff, meets_cov hL hx, meets_cov hM hx]
    exact ⟨fun ⟨i, a, b, c⟩ => ⟨i, a, b, (h i).mp c⟩, fun ⟨i, a, b, c⟩ => ⟨i, a, b, (h i).mpr c⟩⟩
  exact nb_is hL (nb_up (srt M) 0 hM.srt (Nat.zero_le _)) fun x => (nb_iff hM x).trans ⟨due_near fun x hx => (k x hx).symm, due_near k⟩
/-- with some of the due nodes the others stay due -/
theorem due_some {n : Nat} {S sm : List (Nat × Nat)} (hS : Wn n S) (hsm : ∀ y ∈ sm, Due n S y) : nb n 0 (srt (S ++ sm)) = (nb n 0 (srt S)).filter fun x => decide (x ∉ sm) := by
  have wsm : Wn n sm := nodes_wn fun x hx => (hsm x hx).1
  refine nb_is (hS.app wsm) (nb_up (srt S) 0 hS.srt (Nat.zero_le _)).filter fun x => ?_
  rw [List.mem_filter, nb_iff hS, decide_eq_true_eq]
  have sub : ∀ {z : Nat × Nat}, meets z S = true → meets z (S ++ sm) = true := fun {z} h => by
    obtain ⟨s, a, b⟩ := meets_iff.mp h
    exact meets_iff.mpr ⟨s, List.mem_append_left _ a, b⟩
  constructor
  · rintro ⟨hx, hno⟩
    refine ⟨hx.1, ?_, fun B M a b c => sub (hx.2.2 B M a b c)⟩
    cases h : meets x (S ++ sm) with
    | false => rfl
    | true =>
      obtain ⟨s, a, b, c⟩ := meets_iff.mp h
      rcases List.mem_append.mp a with a | a
      · have := meets_has (x := x) a b c
        rw [hx.2.1] at this
        cases this
      · have x12 := (isN_tree (n := n) (b := x.1) (e := x.2) hx.1).1
        have s12 := (wsm s a).1
        have e := due_one (i := max x.1 s.1) hx (hsm s a) (by omega) (by omega) (by omega) (by omega)
        exact absurd (e ▸ a) hno
  · intro hx
    have x12 := (isN_tree (n := n) (b := x.1) (e := x.2) hx.1).1
    have xS : meets x S = false := by
      cases h : meets x S with
      | false => rfl
      | true =>
        have := hx.2.1
        rw [sub h] at this
        cases this
    refine ⟨⟨hx.1, xS, fun B M a b c => ?_⟩, fun h => ?_⟩
    · obtain ⟨s, h1, h2, h3⟩ := meets_iff.mp (hx.2.2 B M a b c)
      dsimp only at h2 h3
      rcases List.mem_append.mp h1 with h1 | h1
      · exact meets_has h1 h2 h3
      · have s12 := (wsm s h1).1
        have hsd := hsm s h1
        have xP : B ≤ x.1 ∧ x.2 ≤ B + M := by
          have g1 := gp_lt b
          have g2 := gp_pos M
          rcases c with e | e <;> rw [e] <;> constructor <;> dsimp only <;> omega
        have xs' : ¬ (s.1 < x.2 ∧ x.1 < s.2) := fun k => by
          have := meets_has (S := S ++ sm) (x := x) (List.mem_append_right _ h1) k.1 k.2
          rw [hx.2.1] at this
          cases this
        have nst := nested (i := max B s.1) a hsd.1 (by show B ≤ _; omega) (by show _ < B + M; omega) (by omega) (by omega)
        dsimp only at nst
        rcases nst with k | k
        · by_cases e : s = (B, B + M)
          · rw [e] at xs'
            exact absurd ⟨by dsimp only; omega, by dsimp only; omega⟩ xs'
          · obtain ⟨B', M', r1, r2, r3, r4, r5⟩ := par_in2 (y := (B, B + M)) hsd.1 a k.1 k.2 e
            have m := hsd.2.2 B' M' r1 r2 r3
            cases h : meets (B, B + M) S with
            | true => rfl
            | false =>
              rw [meets_sub (x := (B', B' + M')) (y := (B, B + M)) r4 r5 h] at m
              cases m
        · exact absurd ⟨by omega, by omega⟩ xs'
    · have := meets_has (S := S ++ sm) (x := x) (List.mem_append_right _ h) x12 x12
      rw [hx.2.1] at this
      cases this
theorem fw_none {S W : List (Nat × Nat)} : fw S W = none ↔ ∀ x ∈ W, meets x S = false := by
  unfold fw
  rw [List.find?_eq_none]
  constructor
  · intro h x hx
    obtain ⟨i, hi⟩ := List.getElem?_of_mem hx
    have il := (List.getElem?_eq_some_iff.mp hi).1
    have := h i (List.mem_range.mpr il)
    rw [getD_at hi] at this
    exact Bool.eq_false_iff.mpr this
  · intro h i hi
    have il := List.mem_range.mp hi
    have e := List.getElem?_eq_getElem il
    rw [getD_at e, h _ (List.getElem_mem il)]
    exact Bool.false_ne_true
end LT

namespace LT
open PySem PySem.Spec PyProof.Rows L2
/-! texts of numbers, of nodes, of lists of nodes -/
def dgS (n : Nat) : Str := Str.ofString (toString (n : Int))
theorem dg_tl (n : Nat) : TL.tl (dgS n) = TL.numL n := TL.tl_num n
theorem dg_inj {m n : Nat} (h : dgS m = dgS n) : m = n := TL.numL_inj (by rw [← dg_tl, ← dg_tl, h])
theorem dg_len {n k : Nat} (hk : 0 < k) (h : n < 10 ^ k) : (dgS n).length ≤ k := by rw [TL.len_tl, dg_tl]; exact TL.numL_len hk h
theorem dg_len1 (n : Nat) : 0 < (dgS n).length := by
  rw [TL.len_tl, dg_tl]
  exact List.length_pos_iff.mpr (TL.numL_ne n)
theorem dg_ascii (n : Nat) : Txt.isascii (dgS n) = true := by
  show (dgS n).cps.all (· < 128) = true
  rw [← Array.all_toList]
  refine List.all_eq_true.mpr fun c hc => decide_eq_true ?_
  have := TL.numL_digits n c (by rw [← dg_tl]; exact hc)
  omega
theorem dg_digit (n : Nat) : Txt.isdigit (dgS n) = true := by
  show (decide ((dgS n).length > 0) && (dgS n).cps.all Unicode.isDigit) = true
  rw [decide_eq_true (dg_len1 n), Bool.true_and, ← Array.all_toList]
  refine List.all_eq_true.mpr fun c hc => ?_
  have k : ∀ n : _root_.Fin 128, 48 ≤ n.val → n.val ≤ 57 → Unicode.isDigit n.val = true := by decide +kernel
  have := TL.numL_digits n c (by rw [← dg_tl]; exact hc)
  exact k ⟨c, by omega⟩ (by show 48 ≤ c; omega) (by show c ≤ 57; omega)
theorem num_head (n : Nat) (h : 1 ≤ n) : ∃ c l, TL.numL n = c :: l ∧ c ≠ 48 := by
  induction n using Nat.strongRecOn with
  | _ n ih =>
    by_cases z : n < 10
    · exact ⟨48 + n, [], TL.numL_lt z, by omega⟩
    · obtain ⟨c, l, e, k⟩ := ih (n / 10) (by omega) (by omega)
      refine ⟨c, l ++ [48 + n % 10], ?_, k⟩
      rw [TL.numL_step (by omega), e]
      rfl
theorem starts_zero {n : Nat} (h : Txt.startswith (dgS n) "0" = true) : n = 0 := by
  by_cases z : n = 0
  · exact z
  · exfalso
    obtain ⟨c, l, e, k⟩ := num_head n (by omega)
    have h2 : (decide (0 + ("0" : Str).length ≤ (dgS n).length) && Builtin.Str.subAt (dgS n) "0" 0) = true := h
    rw [Bool.and_eq_true, PySem.StrLaws.subAt_eq] at h2
    have h3 := h2.2
    have e2 : (dgS n).cps.toList = c :: l := by
      rw [← e, ← dg_tl]
    rw [e2] at h3
    have z1 : ("0" : Str).length = 1 := by decide +kernel
    have z2 : ("0" : Str).cps.toList = [48] := by decide +kernel
    have h4 : ([c] : List Nat) = [48] := by
      have := beq_iff_eq.mp h3
      rw [z1, z2] at this
      exact this
    exact k (List.cons.inj h4).1
/-- the text of a node -/
def nTx (y : Nat × Nat) : Str := dgS y.1 ++ "-" ++ dgS y.2
/-- the text of a list of nodes -/
def nTxs (l : List (Nat × Nat)) : Str := Txt.join ", " (l.map nTx)
theorem str_empty (x : Str) : Str.empty ++ x = x := TL.ext_tl (by rw [TL.tl_append]; rfl)
theorem tl_dash : TL.tl ("-" : Str) = [45] := by decide +kernel
theorem tl_comma : TL.tl (", " : Str) = [44, 32] := by decide +kernel
theorem nTx_tl (y : Nat × Nat) : TL.tl (nTx y) = TL.numL y.1 ++ [45] ++ TL.numL y.2 := by
  unfold nTx
  rw [TL.tl_append, TL.tl_append, dg_tl, dg_tl, tl_dash]
theorem nTx_free (y : Nat × Nat) : (44 : Nat) ∉ TL.tl (nTx y) := by
  rw [nTx_tl]
  intro h
  rcases List.mem_append.mp h with h | h
  · rcases List.mem_append.mp h with h | h
    · exact TL.numL_free (.inl (by decide)) h
    · exact absurd (List.mem_singleton.mp h) (by decide)
  · exact TL.numL_free (.inl (by decide)) h
theorem nTxs_split {l : List (Nat × Nat)} (h : l ≠ []) : Txt.split (nTxs l) ", " = l.map nTx :=
  TL.split_join tl_comma (by decide +kernel) (fun z => h (List.map_eq_nil_iff.mp z)) fun p hp => by
    obtain ⟨y, _, rfl⟩ := List.mem_map.mp hp
    exact nTx_free y
theorem nTx_part (y : Nat × Nat) : Txt.partition (nTx y) "-" = (dgS y.1, ("-" : Str), dgS y.2) :=
  TL.partition_app (y := "-") (a := dgS y.1) (b := dgS y.2) tl_dash (by rw [dg_tl]; exact TL.numL_free (.inl (by decide)))
theorem nTx_len {y : Nat × Nat} {k : Nat} (hk : 0 < k) (h1 : y.1 < 10 ^ k) (h2 : y.2 < 10 ^ k) : (nTx y).length ≤ 2 * k + 1 := by
  rw [TL.len_tl, nTx_tl, List.length_append, List.length_append]
  have a := TL.numL_len hk h1
  have b := TL.numL_len hk h2
  simp only [List.length_singleton]
  omega
theorem joinL_len (S : List Nat) (m : Nat) : ∀ l : List (List Nat), (∀ p ∈ l, p.length ≤ m) → (TL.joinL S l).length ≤ l.length * (m + S.length)
  | [], _ => Nat.zero_le _
  | [p], h => by
    show p.length ≤ 1 * (m + S.length)
    have := h p (List.mem_singleton_self _)
    omega
  | p :: q :: r, h => by
    show (p ++ (S ++ TL.joinL S (q :: r))).length ≤ (r.length + 1 + 1) * (m + S.length)
    have a := h p (List.mem_cons_self ..)
    have b := joinL_len S m (q :: r) fun z hz => h z (List.mem_cons_of_mem _ hz)
    have c : (q :: r).length = r.length + 1 := rfl
    rw [c] at b
    rw [List.length_append, List.length_append, Nat.succ_mul (r.length + 1)]
    omega
theorem nTxs_len {l : List (Nat × Nat)} (h : ∀ y ∈ l, y.1 ≤ 10 ^ 30 ∧ y.2 ≤ 10 ^ 30) : (nTxs l).length ≤ l.length * 65 := by
  have e : TL.tl (nTxs l) = TL.joinL (TL.tl ", ") ((l.map nTx).map TL.tl) := by
    unfold nTxs
    rw [TL.join_eq, TL.tl_join]
  rw [TL.len_tl, e, tl_comma]
  have d : (10 : Nat) ^ 30 < 10 ^ 31 := by decide
  have := joinL_len [44, 32] 63 ((l.map nTx).map TL.tl) (fun p hp => by
    obtain ⟨z, hz, rfl⟩ := List.mem_map.mp hp
    obtain ⟨y, hy, rfl⟩ := List.mem_map.mp hz
    rw [← TL.len_tl]
    have := h y hy
    exact nTx_len (k := 31) (by decide) (by omega) (by omega))
  rw [List.length_map, List.length_map] at this
  exact this
theorem nTx_ne (y : Nat × Nat) : 0 < (nTx y).length := by
  rw [TL.len_tl, nTx_tl, List.length_append, List.length_append]
  simp only [List.length_singleton]
  omega
theorem nTxs_ne {l : List (Nat × Nat)} (h : nTxs l = "") : l = [] := by
  cases l with
  | nil => rfl
  | cons y r =>
    exfalso
    have k := nTxs_split (l := y :: r) (by simp)
    rw [h] at k
    have e : Txt.split ("" : Str) ", " = [("" : Str)] := by decide +kernel
    rw [e] at k
    have k2 := (List.cons.inj k).1
    have := nTx_ne y
    rw [← k2] at this
    exact absurd this (by decide +kernel)
theorem nTxs_nil : nTxs [] = "" := by decide +kernel
end LT

namespace LT
open PySem PySem.Spec PyProof.Rows L2
theorem nTx_sum : ∀ l : List (Nat × Nat), (∀ y ∈ l, y.1 ≤ 10 ^ 30 ∧ y.2 ≤ 10 ^ 30) → ((l.map nTx).map (·.length)).sum ≤ l.length * 63 := by
  have d31 : (10 : Nat) ^ 30 < 10 ^ 31 := by decide
  intro l
  induction l with
  | nil => intro _; exact Nat.zero_le _
  | cons y l ih =>
    intro h
    have a := ih fun z hz => h z (List.mem_cons_of_mem _ hz)
    have b := h y List.mem_cons_self
    have c := nTx_len (y := y) (k := 31) (by decide) (by omega) (by omega)
    rw [List.map_cons, List.map_cons, List.sum_cons, List.length_cons]
    omega
section
variable {P : Program} {w : World} {K : PySem.W.Frag} {mg : Str → Option Value} {base : Heap}
theorem tn_nat37 (n b e : Nat) : tnV n (.int (b : Int)) (.int (e : Int)) = decide (isN n (b, e)) := by
  show decide (0 ≤ (b : Int) ∧ isN n ((b : Int).toNat, (e : Int).toNat)) = decide (isN n (b, e))
  rw [Int.toNat_natCast, Int.toNat_natCast]
  by_cases k : isN n (b, e)
  · rw [decide_eq_true k, decide_eq_true ⟨Int.natCast_nonneg _, k⟩]
  · rw [decide_eq_false k, decide_eq_false (fun z => k z.2)]
def spCheckNodesM : Sp := fun vs H Q _ => ∃ (n m : Nat) (p : Addr) (xs : List V) (S : List (Nat × Nat)), vs = [.int n, .ref p, .int 0, .int (m : Int)] ∧ 1 ≤ n ∧ n ≤ 10 ^ 30 ∧ H p = some (.lst xs) ∧ All2 (Nd H) xs S ∧ S.length ≤ m ∧ (∀ x ∈ S, isN n x) ∧ ∀ H', Same H H' → Q .non H'
theorem ok_check_nodesM {f g1 g2 : Addr} {fd d1 d2 : FuncData} {its : List Value} {dvs : List V} (F : FunT K "check_nodes" "check_nodes" sCheckNodes its dvs f fd) (GIsListOf : FnOk P w K mg base CX0 1 g1 d1 ["value", "least", "most"] spListOf) (AIsListOf : At K mg "is_list_of" g1 d1 ["value", "least", "most"])
    (GIsTreeNode : FnOk P w K mg base CX0 3 g2 d2 ["size", "value"] (spTreeV K)) (AIsTreeNode : At K mg "is_tree_node" g2 d2 ["size", "value"]) (z_enumerate : mg "enumerate" = none) : FnOk P w K mg base CX0 4 f fd ["size", "nodes", "least", "most"] spCheckNodesM := by
  refine F.ok scCheckNodes (fun vs H Q E h => ?_) (fun cdv A outer s H vs Q E hr h => ?_)
  · obtain ⟨_, _, _, _, _, rfl, _⟩ := h
    rfl
  obtain ⟨n, m, p, xs, S, rfl, n1, h30, hp, hx, lm, hS, q⟩ := h
  refine ⟨_, (pss_cons (ps_if (pt_not (pt_val (pe_call GIsListOf (hr.mono (by decide)) rfl AIsListOf.m AIsListOf.kp AIsListOf.b .nil pass0 (pa_cons (pv 1) (pa_cons (pv 2) (pa_cons (pv 3) pa_nil))))))
    (pss_one ps_never)
    pss_nil)
    (pss_one (ps_for PassesOwn.never rfl (pi_enum (by rfl) z_enumerate (pa_cons (pv 1) pa_nil)) (pg_tup (by rfl) (pgs_cons (pg_name (i := 4) scCheckNodes.nd rfl (Or.inl rfl)) (pgs_cons (pg_name (i := 5) scCheckNodes.nd rfl (Or.inl rfl)) pgs_nil)))
    (pss_one (ps_if (pt_not (pt_val (pe_call GIsTreeNode (hr.mono (by decide)) rfl AIsTreeNode.m AIsTreeNode.kp AIsTreeNode.b .nil pass0 (pa_cons (pv 0) (pa_cons (pv 5) pa_nil)))))
    (pss_one ps_never)
    pss_nil))))), ?_⟩
  have xl := hx.len
  refine ⟨_, rfl, _, rfl, _, rfl, p, xs, 0, m, rfl, hp, by omega, by omega, true, rfl, ?_⟩
  refine ⟨_, rfl, p, xs, rfl, SqL.of hp, ?_⟩
  refine for_enum (a := p) (xs := xs) (fun i σ H' => ∃ (v4 v5 : Option V), σ = [some (.int (n : Int)), some (.ref p), some (.int 0), some (.int (m : Int)), v4, v5] ∧ Same H H')
    ⟨none, none, rfl, Same.refl _⟩ (fun i σ H' _ ⟨_, _, _, sm⟩ => SqL.of (sm _ _ hp)) ?_ ?_
  · rintro i x σ H2 T hi ⟨v4, v5, rfl, sm⟩ nT
    obtain ⟨y, hyi, hy⟩ := hx.nth hi
    have sT := same_upd (o := .tup [.int ((i : Nat) : Int), x]) nT
    have hy2 := (hy.same sm).same sT
    obtain ⟨yp, rfl, hyp⟩ := id hy2
    refine ⟨T, _, rfl, SqT.of upd_same, rfl, _, _, rfl, _, _, rfl, rfl, ?_⟩
    refine ⟨_, rfl, _, rfl, n, _, true, rfl, n1, by omega, ?_, true, rfl, ?_⟩
    · have e : tnV n (.int (y.1 : Int)) (.int (y.2 : Int)) = true := by
        rw [tn_nat37]
        exact decide_eq_true (hS y (List.mem_of_getElem? hyi))
      exact e ▸ Ask.pair (n := n) hyp (.int _) (.int _)
    · exact ⟨_, _, rfl, sm.trans sT⟩
  · rintro σ H2 ⟨v4, v5, rfl, sm⟩
    exact q H2 sm
/-- the text of nodes -/
def spTextOf : Sp := fun vs H Q _ => ∃ (p : Addr) (xs : List V) (S : List (Nat × Nat)), vs = [.ref p] ∧ H p = some (.lst xs) ∧ All2 (Nd H) xs S ∧ S.length ≤ 5000 ∧ (∀ y ∈ S, y.1 ≤ 10 ^ 30 ∧ y.2 ≤ 10 ^ 30) ∧ ∀ H', Same H H' → Q (.str (nTxs S)) H'
theorem ok_text_of {f : Addr} {fd : FuncData} (F : Fun K "text_of" "text_of" sTextOf f fd) : FnOk P w K mg base CX0 1 f fd ["nodes"] spTextOf := by
  refine F.ok scTextOf (fun vs H Q E h => ?_) (fun cdv A outer s H vs Q E hr h => ?_)
  · obtain ⟨_, _, _, rfl, _⟩ := h
    rfl
  obtain ⟨p, xs, S, rfl, hp, hx, l5, hS, q⟩ := h
  refine ⟨_, (pss_one (ps_ret (pe_join pe_str (pe_lc (own := [("begin", 1), ("end", 2)]) rfl scTextOf.nd (pi_list (pv 0)) (blkOk_by (N := ["nodes", "begin", "end"]) (sc := defScope sTextOf) (by decide +kernel)) (fun _ _ _ _ _ => (pg_tupB (n := 2) rfl (pgs_cons (pg_name (i := 1) scTextOf.nd rfl (Or.inl rfl)) (pgs_cons (pg_name (i := 2) scTextOf.nd rfl (Or.inl rfl)) pgs_nil)))) (fun _ _ _ _ _ => pts_nil) (fun _ _ _ _ _ => (pe_joined (PJ.cons (pe_fmt (pv 1)) (PJ.cons pe_str (PJ.cons (pe_fmt (pv 2)) PJ.nil))))))))), ?_⟩
  have xl := hx.len
  have lg : ∀ m : Nat, m ≤ 10 ^ 30 → ((m : Int)).natAbs.log2 < 1920 := fun m hm => by
    show m.log2 < 1920
    by_cases z : m = 0
    · rw [z]; decide
    · exact Nat.lt_of_lt_of_le ((Nat.log2_lt (k := 100) z).mpr (Nat.lt_of_le_of_lt hm (by decide))) (by decide)
  have d31 : (10 : Nat) ^ 30 < 10 ^ 31 := by decide
  refine ⟨⟨_, rfl⟩, _, rfl, p, rfl, ⟨_, SqL.of hp⟩, fun D nD => ?_⟩
  refine lc_list (K := K) (a := p) (xs := xs) (te := fun σ H Q => tJs [tFmt (tVar 1), tC (V.str "-"), tFmt (tVar 2)] Str.empty σ H fun out H1 => Q (.str out) H1) (fun i H' => Same H H' ∧ H' D = some (.lst (((S.take i).map nTx).map V.str))) ⟨same_upd nD, upd_same⟩ (fun i H' _ ⟨k, _⟩ => SqL.of (k _ _ hp)) ?_ ?_
  · rintro i u H2 hi ⟨s2, hD⟩
    obtain ⟨y, hyi, hy⟩ := hx.nth hi
    obtain ⟨yp, rfl, hyp⟩ := hy.same s2
    have hb := hS y (List.mem_of_getElem? hyi)
    have l1 := dg_len (n := y.1) (k := 31) (by decide) (by omega)
    have l2 := dg_len (n := y.2) (k := 31) (by decide) (by omega)
    have z1 : ("-" : Str).length = 1 := by decide +kernel
    have ap : ∀ a b : Str, (a ++ b).length = a.length + b.length := fun a b => by rw [TL.len_tl, TL.tl_append, List.length_append, ← TL.len_tl, ← TL.len_tl]
    have sz : ∀ k : Nat, k ≤ 1000 → k ≤ sizeLine := fun k hk => by rw [sizeLine_eq]; omega
    refine ⟨yp, _, rfl, SqT.of hyp, rfl, _, _, rfl, _, _, rfl, rfl, rfl, ?_⟩
    refine ⟨_, rfl, .inr ⟨_, rfl, lg _ hb.1, _, rfl, ?_, _, rfl, ?_, _, rfl, .inr ⟨_, rfl, lg _ hb.2, _, rfl, ?_, ?_⟩⟩⟩
    · rw [str_empty]
      exact sz _ (Nat.le_trans l1 (by decide))
    · rw [str_empty, ap, z1]
      exact sz _ (by have : (dgS y.1).length ≤ 31 := l1; show (dgS y.1).length + 1 ≤ 1000; omega)
    · rw [str_empty, ap, ap, z1]
      exact sz _ (by show (dgS y.1).length + 1 + (dgS y.2).length ≤ 1000; omega)
    · have len : (((S.take i).map nTx).map V.str).length < sizeLine := by
        rw [List.length_map, List.length_map, List.length_take, sizeLine_eq]
        omega
      refine ⟨_, hD, len, ?_, ?_⟩
      · exact fun a o k => by rw [upd_ne (ne_of_none k nD)]; exact s2 _ _ k
      · rw [take_more hyi, List.map_append, List.map_append, str_empty]
        exact upd_same
  rintro H2 ⟨s2, hD⟩
  rw [xl, List.take_length] at hD
  refine ⟨_, D, S.map nTx, rfl, rfl, .inl (SqL.of hD), ?_, q _ s2⟩
  have a := nTx_sum S hS
  have z2 : (", " : Str).length = 2 := by decide +kernel
  rw [z2, List.length_map]
  omega
theorem ne_no37 {x y : V} (h : x = y) : V.bl (!decide (x = y)) = V.bl false := by rw [decide_eq_true h]; rfl
/-- the number that a word writes -/
def spNumberOf : Sp := fun vs H Q _ => ∃ n : Nat, vs = [.str (dgS n)] ∧ n < 10 ^ 100 ∧ Q (.int n) H
theorem ok_number_of {f : Addr} {fd : FuncData} {t : Tok} (F : Fun K "number_of" "number_of" sNumberOf f fd) (g_MOST_DIGITS : mg "MOST_DIGITS" = some (.int 100 t)) (z_len : mg "len" = none) (z_int : mg "int" = none) : FnOk P w K mg base CX0 1 f fd ["word"] spNumberOf := by
  refine F.ok scNumberOf (fun vs H Q E h => ?_) (fun cdv A outer s H vs Q E hr h => ?_)
  · obtain ⟨_, rfl, _⟩ := h
    rfl
  obtain ⟨n, rfl, hn, q⟩ := h
  refine ⟨_, (pss_cons (ps_if (PW.pt (pw_or (pt_not (pt_val (pe_m0 PySem.F.slot_str_isascii PySem.F.type_str_isascii mt_isascii (pv 0)))) (pw_or (pt_not (pt_val (pe_m0 PySem.F.slot_str_isdigit PySem.F.type_str_isdigit mt_isdigit (pv 0)))) (pw_or1 (pt_cmpR op_gt (pe_callB call_len_str (by rfl) z_len PySem.boot_len (pa_cons (pv 0) pa_nil)) (pe_glob (v := .int 100) rfl g_MOST_DIGITS ⟨_, rfl⟩) (nomark _))))))
    (pss_one (ps_ret pe_non))
    pss_nil)
    (pss_cons (ps_if (PW.pt (pw_and (pt_val (pe_m1 PySem.F.slot_str_startswith PySem.F.type_str_startswith mt_startswith (pv 0) pe_str)) (pw_and1 (pt_cmpR op_ne (pv 0) pe_str (nomark _)))))
    (pss_one (ps_ret pe_non))
    pss_nil)
    (pss_one (ps_ret (pe_callTy call_int_str (by rfl) z_int (by decide +kernel) (pa_cons (pv 0) pa_nil)))))), ?_⟩
  have l1 := dg_len (n := n) (k := 100) (by decide) hn
  refine ⟨_, rfl, ⟨_, rfl⟩, _, rfl, rfl, trivial, _, rfl, ?_⟩
  rw [dg_ascii]
  refine ⟨_, rfl, ⟨_, rfl⟩, _, rfl, rfl, trivial, _, rfl, ?_⟩
  rw [dg_digit]
  have hz : (dgS n).length ≤ sizeLine := by rw [sizeLine_eq]; omega
  refine ⟨_, rfl, _, rfl, hz, _, _, rfl, rfl, false, congrArg V.bl (decide_eq_false (by omega)), ?_⟩
  refine ⟨_, rfl, ⟨_, rfl⟩, _, _, rfl, rfl, _, rfl, ?_⟩
  by_cases hs : Txt.startswith (dgS n) "0" = true
  · have z := starts_zero hs
    subst z
    have e0 : dgS 0 = "0" := by decide +kernel
    rw [hs]
    refine ⟨_, rfl, rfl, false, ne_no37 (congrArg V.str e0), ?_⟩
    exact ⟨_, rfl, _, _, rfl, TL.int_num (n := 0) (by decide), by rw [e0]; decide +kernel, q⟩
  · rw [Bool.not_eq_true] at hs
    rw [hs]
    exact ⟨_, rfl, _, _, rfl, TL.int_num (n := n) (by have := TL.numL_len (k := 100) (by decide) hn; omega), by have : (dgS n).length ≤ 100 := l1; show (dgS n).length ≤ 640; omega, q⟩
def spShow : Sp := fun vs H Q _ => ∃ (n : Nat) (p : Addr) (xs : List V) (S : List (Nat × Nat)), vs = [.int n, .ref p] ∧ 1 ≤ n ∧ n ≤ 10 ^ 30 ∧ H p = some (.lst xs) ∧ All2 (Nd H) xs S ∧ S.length ≤ 4000 ∧ (∀ x ∈ S, isN n x) ∧ ∀ H', Same H H' → Q (.str (nTxs S)) H'
theorem ok_show_nodes {f g1 g2 g3 : Addr} {fd d1 d2 d3 : FuncData} {t : Tok} (F : Fun K "show_nodes" "show_nodes" sShowNodes f fd)
    (GCheckSize : FnOk P w K mg base CX0 3 g1 d1 ["size"] spCheckSize) (ACheckSize : At K mg "check_size" g1 d1 ["size"])
    (GCheckNodes : FnOk P w K mg base CX0 4 g2 d2 ["size", "nodes", "least", "most"] spCheckNodesM) (ACheckNodes : At K mg "check_nodes" g2 d2 ["size", "nodes", "least", "most"])
    (GTextOf : FnOk P w K mg base CX0 1 g3 d3 ["nodes"] spTextOf) (ATextOf : At K mg "text_of" g3 d3 ["nodes"]) (g_MOST_SHOWN : mg "MOST_SHOWN" = some (.int 4000 t)) : FnOk P w K mg base CX0 5 f fd ["size", "nodes"] spShow := by
  refine F.ok scShowNodes (fun vs H Q E h => ?_) (fun cdv A outer s H vs Q E hr h => ?_)
  · obtain ⟨_, _, _, _, rfl, _⟩ := h
    rfl
  obtain ⟨n, p, xs, S, rfl, n1, h30, hp, hx, l4, hS, q⟩ := h
  refine ⟨_, (pss_cons (ps_expr (pe_call GCheckSize (hr.mono (by decide)) rfl ACheckSize.m ACheckSize.kp ACheckSize.b .nil pass0 (pa_cons (pv 0) pa_nil)))
    (pss_cons (ps_expr (pe_call GCheckNodes (hr.mono (by decide)) rfl ACheckNodes.m ACheckNodes.kp ACheckNodes.b .nil pass0 (pa_cons (pv 0) (pa_cons (pv 1) (pa_cons pe_int (pa_cons (pe_glob (v := .int 4000) rfl g_MOST_SHOWN ⟨_, rfl⟩) pa_nil))))))
    (pss_one (ps_ret (pe_call GTextOf (hr.mono (by decide)) rfl ATextOf.m ATextOf.kp ATextOf.b .nil pass0 (pa_cons (pv 1) pa_nil)))))), ?_⟩
  have bd : ∀ y ∈ S, y.1 ≤ 10 ^ 30 ∧ y.2 ≤ 10 ^ 30 := fun y hy => by
    have := hS y hy
    have a := this.1
    have b := this.2.1
    exact ⟨by omega, by omega⟩
  refine ⟨_, rfl, _, rfl, by omega, by omega, ?_⟩
  refine ⟨_, rfl, _, rfl, n, 4000, p, xs, S, rfl, n1, h30, hp, hx, l4, hS, fun H1 s1 => ?_⟩
  exact ⟨_, rfl, p, xs, S, rfl, s1 _ _ hp, hx.mono fun v x k => k.same s1, by omega, bd, fun H2 s2 => q _ (s1.trans s2)⟩
/-- reading back -/
def spRead : Sp := fun vs H Q _ => ∃ (n : Nat) (S : List (Nat × Nat)), vs = [.int n, .str (nTxs S)] ∧ 1 ≤ n ∧ n ≤ 10 ^ 30 ∧ S.length ≤ 5000 ∧ (∀ x ∈ S, isN n x) ∧
  ∀ (H' : Hp) (r : Addr) (ys : List V), Same H H' → H r = none → H' r = some (.lst ys) → All2 (Nd H') ys S → Q (.ref r) H'
theorem ok_read_nodes {f g1 g2 g3 : Addr} {fd d1 d2 d3 : FuncData} (F : Fun K "read_nodes" "read_nodes" sReadNodes f fd)
    (GCheckSize : FnOk P w K mg base CX0 3 g1 d1 ["size"] spCheckSize) (ACheckSize : At K mg "check_size" g1 d1 ["size"])
    (GNumberOf : FnOk P w K mg base CX0 1 g2 d2 ["word"] spNumberOf) (ANumberOf : At K mg "number_of" g2 d2 ["word"])
    (GIsTreeNode : FnOk P w K mg base CX0 3 g3 d3 ["size", "value"] (spTreeV K)) (AIsTreeNode : At K mg "is_tree_node" g3 d3 ["size", "value"]) (z_enumerate : mg "enumerate" = none) (z_isinstance : mg "isinstance" = none) (z_str : mg "str" = none) : FnOk P w K mg base CX0 4 f fd ["size", "text"] spRead := by
  refine F.ok scReadNodes (fun vs H Q E h => ?_) (fun cdv A outer s H vs Q E hr h => ?_)
  · obtain ⟨_, _, rfl, _⟩ := h
    rfl
  obtain ⟨n, S, rfl, n1, h30, l5, hS, q⟩ := h
  refine ⟨_, (pss_cons (ps_expr (pe_call GCheckSize (hr.mono (by decide)) rfl ACheckSize.m ACheckSize.kp ACheckSize.b .nil pass0 (pa_cons (pv 0) pa_nil)))
    (pss_cons (ps_if (pt_not (pt_val (pe_callB call_isi (by rfl) z_isinstance (by decide +kernel) (pa_cons (pv 1) (pa_cons (pe_bltn (v := .ty "str") (u := .type "str") (by rfl) z_str (by decide +kernel) rfl) pa_nil)))))
    (pss_one ps_never)
    pss_nil)
    (pss_cons (ps_if (pt_cmpR op_eq (pv 1) pe_str (nomark _))
    (pss_one (ps_ret (pe_lst pa_nil)))
    pss_nil)
    (pss_cons (ps_set (i := 2) scReadNodes.nd rfl (Or.inl rfl) (pe_lst pa_nil))
    (pss_cons (ps_for PassesOwn.never rfl (pi_enum (by rfl) z_enumerate (pa_cons (pe_split (pv 1) pe_str) pa_nil)) (pg_tup (by rfl) (pgs_cons (pg_name (i := 3) scReadNodes.nd rfl (Or.inl rfl)) (pgs_cons (pg_name (i := 4) scReadNodes.nd rfl (Or.inl rfl)) pgs_nil)))
    (pss_cons (ps_asg (pe_partition (pv 4) pe_str) (pg_tup (by rfl) (pgs_cons (pg_name (i := 5) scReadNodes.nd rfl (Or.inl rfl)) (pgs_cons (pg_name (i := 6) scReadNodes.nd rfl (Or.inl rfl)) (pgs_cons (pg_name (i := 7) scReadNodes.nd rfl (Or.inl rfl)) pgs_nil)))))
    (pss_cons (ps_set (i := 8) scReadNodes.nd rfl (Or.inl rfl) (pe_tup (pa_cons (pe_call GNumberOf (hr.mono (by decide)) rfl ANumberOf.m ANumberOf.kp ANumberOf.b .nil pass0 (pa_cons (pv 5) pa_nil)) (pa_cons (pe_call GNumberOf (hr.mono (by decide)) rfl ANumberOf.m ANumberOf.kp ANumberOf.b .nil pass0 (pa_cons (pv 7) pa_nil)) pa_nil))))
    (pss_cons (ps_if (pt_not (pt_val (pe_call GIsTreeNode (hr.mono (by decide)) rfl AIsTreeNode.m AIsTreeNode.kp AIsTreeNode.b .nil pass0 (pa_cons (pv 0) (pa_cons (pv 8) pa_nil)))))
    (pss_one ps_never)
    pss_nil)
    (pss_one (ps_expr (pe_bm PySem.F.plainAttrs_list PySem.F.slot_list_append PySem.F.type_list_append mt_append (pv 2) (pa_cons (pv 8) pa_nil))))))))
    (pss_one (ps_ret (pv 2)))))))), ?_⟩
  refine ⟨_, rfl, _, rfl, by omega, by omega, ?_⟩
  refine ⟨_, rfl, _, _, _, _, true, rfl, .ty "str", .base (.str _), kit_ty (by decide +kernel), true, rfl, ?_⟩
  by_cases he : S = []
  · subst he
    have e0 : nTxs [] = "" := nTxs_nil
    refine ⟨_, rfl, rfl, true, congrArg V.bl (decide_eq_true (congrArg V.str e0)), Nat.zero_le _, fun r nr => ?_⟩
    exact q _ r [] (same_upd nr) nr upd_same .nil
  refine ⟨_, rfl, rfl, false, congrArg V.bl (decide_eq_false fun z => he (nTxs_ne (V.str.inj z))), ?_⟩
  have bd : ∀ y ∈ S, y.1 ≤ 10 ^ 30 ∧ y.2 ≤ 10 ^ 30 := fun y hy => by
    have := hS y hy
    have a := this.1
    have b := this.2.1
    exact ⟨by omega, by omega⟩
  refine ⟨Nat.zero_le _, fun r nr => ?_⟩
  have w1 := same_upd (o := .lst []) nr
  have hr1 := upd_same (H := H) (a := r) (o := .lst [])
  generalize upd H r (.lst []) = H1 at w1 hr1 ⊢
  have tl := nTxs_len bd
  refine ⟨_, rfl, ⟨_, rfl⟩, _, _, rfl, rfl, by decide +kernel, by rw [sizeLine_eq]; omega, fun p np => ?_⟩
  rw [nTxs_split he]
  have w2 := same_upd (o := .lst ((S.map nTx).map V.str)) np
  have hp2 := upd_same (H := H1) (a := p) (o := .lst ((S.map nTx).map V.str))
  have hr2 := w2 _ _ hr1
  have w12 := w1.trans w2
  generalize upd H1 p (.lst ((S.map nTx).map V.str)) = H2 at hp2 hr2 w12 ⊢
  have pr : p ≠ r := fun z => by rw [z, hr1] at np; cases np
  have xl : ((S.map nTx).map V.str).length = S.length := by rw [List.length_map, List.length_map]
  have two : 2 ≤ sizeLine := by decide
  refine ⟨p, _, rfl, SqL.of hp2, ?_⟩
  refine for_enum (a := p) (xs := (S.map nTx).map V.str) (fun i σ H' => ∃ (v3 v4 v5 v6 v7 v8 : Option V) (ys : List V), σ = [some (.int (n : Int)), some (.str (nTxs S)), some (.ref r), v3, v4, v5, v6, v7, v8] ∧ Same H H' ∧ H' p = some (.lst ((S.map nTx).map V.str)) ∧ H' r = some (.lst ys) ∧ All2 (Nd H') ys (S.take i))
    ⟨none, none, none, none, none, none, [], rfl, w12, hp2, hr2, .nil⟩ (fun i σ H' _ ⟨_, _, _, _, _, _, _, _, _, e, _⟩ => SqL.of e) ?_ ?_
  · rintro i x σ H3 T hi ⟨v3, v4, v5, v6, v7, v8, ys, rfl, sm, hp3, hr3, hys⟩ nT
    obtain ⟨y, hyi, rfl⟩ : ∃ y, S[i]? = some y ∧ x = V.str (nTx y) := by
      rw [List.getElem?_map, List.getElem?_map] at hi
      cases e : S[i]? with
      | none => rw [e] at hi; cases hi
      | some y => rw [e] at hi; exact ⟨y, rfl, (Option.some.inj hi).symm⟩
    have hb := bd y (List.mem_of_getElem? hyi)
    have d31 : (10 : Nat) ^ 30 < 10 ^ 31 := by decide
    have d100 : (10 : Nat) ^ 30 < 10 ^ 100 := by decide
    have ln := nTx_len (y := y) (k := 31) (by decide) (by omega) (by omega)
    have sT := same_upd (o := .tup [.int ((i : Nat) : Int), .str (nTx y)]) nT
    have hT := upd_same (H := H3) (a := T) (o := .tup [.int ((i : Nat) : Int), .str (nTx y)])
    have hr4 := sT _ _ hr3
    have hp4 := sT _ _ hp3
    have sm4 := sm.trans sT
    have hys4 := hys.mono fun v x (k : Nd H3 v x) => k.same sT
    generalize upd H3 T (.tup [.int ((i : Nat) : Int), .str (nTx y)]) = H4 at hT hr4 hp4 sm4 hys4 ⊢
    refine ⟨T, _, rfl, SqT.of hT, rfl, _, _, rfl, _, _, rfl, rfl, ?_⟩
    refine ⟨_, rfl, ⟨_, rfl⟩, _, _, rfl, rfl, by decide +kernel, by rw [sizeLine_eq]; omega, fun t3 nt3 => ?_⟩
    rw [nTx_part]
    have s3 := same_upd (o := .tup [.str (dgS y.1), .str "-", .str (dgS y.2)]) nt3
    refine ⟨t3, _, rfl, SqT.of upd_same, rfl, _, _, rfl, _, _, rfl, _, _, rfl, rfl, ?_⟩
    have hr5 := s3 _ _ hr4
    have hp5 := s3 _ _ hp4
    have sm5 := sm4.trans s3
    have hys5 := hys4.mono fun v x (k : Nd H4 v x) => k.same s3
    generalize upd H4 t3 (.tup [.str (dgS y.1), .str "-", .str (dgS y.2)]) = H5 at hr5 hp5 sm5 hys5 ⊢
    refine ⟨_, rfl, y.1, rfl, by omega, _, rfl, y.2, rfl, by omega, two, fun t4 nt4 => ?_⟩
    have s4 := same_upd (o := .tup [.int (y.1 : Int), .int (y.2 : Int)]) nt4
    have h4 := upd_same (H := H5) (a := t4) (o := .tup [.int (y.1 : Int), .int (y.2 : Int)])
    have hr6 := s4 _ _ hr5
    have hp6 := s4 _ _ hp5
    have sm6 := sm5.trans s4
    have hys6 := hys5.mono fun v x (k : Nd H5 v x) => k.same s4
    generalize upd H5 t4 (.tup [.int (y.1 : Int), .int (y.2 : Int)]) = H6 at h4 hr6 hp6 sm6 hys6 ⊢
    refine ⟨_, rfl, _, rfl, n, _, true, rfl, n1, Nat.le_trans h30 (by decide), ?_, true, rfl, ?_⟩
    · have e : tnV n (.int (y.1 : Int)) (.int (y.2 : Int)) = true := by
        rw [tn_nat37]
        exact decide_eq_true (hS y (List.mem_of_getElem? hyi))
      exact e ▸ Ask.pair (n := n) h4 (.int _) (.int _)
    have yl := hys6.len
    rw [List.length_take] at yl
    refine ⟨_, rfl, .inl ⟨rfl, _, SqL.of hr6⟩, _, rfl, r, ys, _, rfl, rfl, hr6, by rw [sizeLine_eq]; omega, ?_⟩
    have tr4 : t4 ≠ r := ne_of h4 hr6 (fun z => by cases z)
    have nr6 : ∀ (a : Addr) (o : HO), H a = some o → a ≠ r := fun a o k => ne_of_none k nr
    refine ⟨_, _, _, _, _, _, _, rfl, fun a o k => by rw [upd_ne (nr6 a o k)]; exact sm6 _ _ k, by rw [upd_ne pr]; exact hp6, upd_same, ?_⟩
    rw [take_more hyi]
    refine (hys6.mono fun v x (k : Nd H6 v x) => k.upd hr6).app (.cons ⟨t4, rfl, by rw [upd_ne tr4]; exact h4⟩ .nil)
  · rintro σ H3 ⟨v3, v4, v5, v6, v7, v8, ys, rfl, sm, hp3, hr3, hys⟩
    rw [xl, List.take_length] at hys
    exact ⟨_, rfl, q _ r ys sm nr hr3 hys⟩
end
end LT

namespace LT
open PySem PySem.Spec PyProof.Rows L2
/-! ### xs[j::2]: OWN RULE -/
def ev {α : Type} (j : Nat) (xs : List α) : List α := ((List.range ((xs.length + 1 - j) / 2)).map fun k => j + 2 * k).filterMap (xs[·]?)
theorem vals_pick : ∀ (L : List Nat) {xs : List V} {us : List Value}, Vals xs us → Vals (L.filterMap (xs[·]?)) (L.filterMap (us[·]?))
  | [], _, _, _ => .nil
  | i :: L, xs, us, r => by
    have ih := vals_pick L r
    cases e : xs[i]? with
    | none =>
      have e2 := r.none_of e
      rw [List.filterMap_cons_none e, List.filterMap_cons_none e2]
      exact ih
    | some x =>
      obtain ⟨u, e2, k⟩ := r.get e
      rw [List.filterMap_cons_some e, List.filterMap_cons_some e2]
      exact .cons k ih
theorem range2 (j n : Nat) (h : j ≤ n) : sliceRange (j : Int) (n : Int) 2 = (List.range ((n + 1 - j) / 2)).map fun k => j + 2 * k := by
  unfold sliceRange
  have c : (if (2 : Int) > 0 then (if (j : Int) < (n : Int) then ((n : Int) - (j : Int) + 2 - 1) / 2 else 0) else (if (j : Int) > (n : Int) then ((j : Int) - (n : Int) - 2 - 1) / (-2) else 0)).toNat = (n + 1 - j) / 2 := by
    rw [if_pos (by decide)]
    split
    · omega
    · omega
  show (List.range ((if (2 : Int) > 0 then (if (j : Int) < (n : Int) then ((n : Int) - (j : Int) + 2 - 1) / 2 else 0) else (if (j : Int) > (n : Int) then ((j : Int) - (n : Int) - 2 - 1) / (-2) else 0)).toNat)).map (fun (k : Nat) => ((j : Int) + 2 * (k : Int)).toNat) = _
  rw [c]
  refine List.map_congr_left fun k _ => ?_
  omega
theorem slice_pick2 (items : Array Value) (j : Nat) (h : j ≤ items.size) (o : Option Int) (ho : (o = none ∧ j = 0) ∨ o = some (j : Int)) : slicePick items o none (some 2) = (ev j items.toList).toArray := by
  unfold slicePick
  have e : sliceBounds o none (some 2) items.size = ((j : Int), (items.size : Int), 2) := by
    rcases ho with ⟨rfl, rfl⟩ | rfl
    · rfl
    · show ((max 0 (min (if (j : Int) < 0 then (j : Int) + (items.size : Int) else (j : Int)) (items.size : Int)) : Int), (items.size : Int), (2 : Int)) = _
      have : (max 0 (min (if (j : Int) < 0 then (j : Int) + (items.size : Int) else (j : Int)) (items.size : Int)) : Int) = (j : Int) := by
        rw [if_neg (by omega)]
        omega
      rw [this]
  rw [e]
  show ((sliceRange (j : Int) (items.size : Int) 2).filterMap (items[·]?)).toArray = _
  rw [range2 j _ h]
  unfold ev
  rw [Array.length_toList]
  simp only [Array.getElem?_toList]
section
variable {X : Cx}
def tSl2 (K : PySem.W.Frag) (te : TE) (tl : TO) : TE := fun σ H Q => te σ H fun x H1 => ∃ a xs, x = .ref a ∧ SqL K H1 a xs ∧ tl σ H1 fun o H2 => H2 = H1 ∧ ∃ j : Nat, ((o = none ∧ j = 0) ∨ o = some (j : Int)) ∧ j ≤ xs.length ∧ ∀ p, H1 p = none → Q (.ref p) (upd H1 p (.lst (ev j xs)))
theorem ev_len {α : Type} (j : Nat) (xs : List α) : (ev j xs).length ≤ xs.length := by
  unfold ev
  refine Nat.le_trans (List.length_filterMap_le _ _) ?_
  rw [List.length_map, List.length_range]
  omega
theorem pe_sl2 {e : Expr} {te : TE} {tl : TO} {lo : Option Expr} {k : Nat} {p1 p3 pos : Pos} (he : PE X e te) (hl : PO X lo tl) : PE X (.Subscript e (.Slice lo none (some (.Constant (.int 2) k p1)) p3) pos) (tSl2 X.K te tl) := by
  refine ⟨fun pins s σ H Q I h => ?_⟩
  refine Subscript_ (thn (he.run pins s σ H _ I h) fun v s1 ⟨x, H1, I1, r1, q1⟩ => ?_)
  obtain ⟨a, xs, ex, hx, q⟩ := q1
  subst ex
  cases r1
  have hst : PO X (some (.Constant (.int 2) k p1)) (tPart (tC (.int 2))) := po_some pe_int
  refine wpAny_Slice (thn (hl.run pins s1 σ H1 _ I1 q) fun vl s2 ⟨l, H2, I2, pl, eH, j, hj, jl, q⟩ => ?_)
  subst eH
  refine thn (po_none.run pins s2 σ H2 (fun o H3 => o = none ∧ H3 = H2) I2 ⟨rfl, rfl⟩) fun vu s3 ⟨u, H3, I3, pu, eu, e3⟩ => ?_
  subst eu e3
  refine thn (hst.run pins s3 σ H3 (fun o H4 => o = some 2 ∧ H4 = H3) I3 ⟨2, rfl, rfl, rfl⟩) fun vs s4 ⟨o, H4, I4, ps, eo, e4⟩ => ?_
  subst eo e4
  have I5 : Inv X pins σ H4 { s4 with heap := s4.heap.push { cls := .type "slice", data := .fields #[vl, vu, vs] } } := I4.kept (t' := s4.toks) fun b ob q => Heap.get?_push_of_some _ q
  obtain ⟨its, r, ht, hz⟩ := I5.list hx
  have hlen := r.length
  show wpAny (model X.prog X.w) X.A (subscriptTail e (.Slice lo none (some (.Constant (.int 2) k p1)) p3) (.ref a) (.ref s4.heap.objs.size)) (EP X pins σ Q) X.xe { s4 with heap := s4.heap.push { cls := .type "slice", data := .fields #[vl, vu, vs] } }
  refine tail_any (ops := [.ref a, .ref s4.heap.objs.size]) ht.isList.typeIs (PySem.slot_list_getitem.lookup) ?_ (by with_unfolding_all rfl)
  refine wpAny_getItem_list_slice ht.isList (Heap.IsSliceOf.new _ vl vu vs) pl pu ps (by decide) ?_ (by rw [List.size_toArray]; omega)
  rw [slice_pick2 _ j (by rw [List.size_toArray]; omega) l hj]
  refine ⟨.ref _, _, I5.laid (t' := s4.toks) (o := .lst (ev j xs)) (fun b ob q => Heap.get?_push_of_some _ q) (Nat.le_refl _) ?_, rfl, q _ (I5.hok.fresh (Nat.le_refl _))⟩
  refine ⟨?_, _, 0, ?_, Heap.get?_push_size _ rfl⟩
  · have := ev_len j xs
    omega
  · unfold ev
    rw [hlen]
    exact vals_pick _ r
end
end LT

namespace LT
open PySem PySem.Spec PyProof.Rows L2
section
variable {P : Program} {w : World} {A : Around} {E : Value → Shared → Prop} {s : Shared}
theorem call_set_lstI {l : Addr} {items : Array Value} (ns : List Int) {Q : Value → Shared → Prop} (hh : A.handled = none) (hl : s.heap.IsList l items) (hit : IntsAre items.toList ns) (hb : ns.length + 1 < scanBound)
    (h : ∀ (h' : Heap) (tk c : Nat), SetR w h' s.heap.objs.size (fun j => decide (j ∈ ns)) c → c ≤ ns.length → (∀ b o, s.heap.get? b = some o → h'.get? b = some o) → Q (.ref s.heap.objs.size) { s with heap := h', toks := tk }) :
    wpAny (model P w) A (call (.type "set") [.ref l]) Q E s := by
  have hisz : items.size = ns.length := by
    have q := IntsAre.length hit
    rw [Array.length_toList] at q
    exact q
  obtain ⟨c, tl, hmro⟩ := F.called_set.mro
  have hmade := F.called_set.made
  have hsub := F.called_set.sub
  refine wpAny_call (codeAny_of_tree ?_)
  show wpAny _ _ (callAny (.type "set") _) _ _ _
  refine wpAny_pure ⟨Code.quiet_builtin _ (by decide +kernel), codeAny_builtin F.entry_type_call ?_⟩
  rw [Around.under_plain (weight_type_call_type "set" [.ref l] []) rfl]
  have h1 := F.called_set.notType
  have h2 := F.called_set.canCreate
  have hct := F.typeCall_set_1 (.ref l)
  repeat (any_goals (first | assumption | wp_step))

  refine codeAny_mono (code_set_led1 (.ref l) (E := E) (Q₁ := fun obj s₁ => obj = .ref s.heap.objs.size ∧ s₁ = { s with heap := s.heap.push { cls := .type "set", dict := none, data := .set #[] 0 (.fresh 0 0 (!w.params.followText "set-order")) } }) ⟨rfl, rfl⟩) fun r s₁ hr => ?_
  cases r with
  | error e => exact hr
  | ok fl =>
    cases fl with
    | ret obj =>
      obtain ⟨rfl, rfl⟩ := hr
      have hS : (s.heap.push { cls := .type "set", dict := none, data := .set #[] 0 (.fresh 0 0 (!w.params.followText "set-order")) }).get? s.heap.objs.size = some { cls := .type "set", dict := none, data := .set #[] 0 (.fresh 0 0 (!w.params.followText "set-order")) } := Heap.get?_push_size _ rfl
      have hT : Shared.TypeIs { s with heap := s.heap.push { cls := .type "set", dict := none, data := .set #[] 0 (.fresh 0 0 (!w.params.followText "set-order")) } } (.ref s.heap.objs.size) "set" := ⟨_, hS, rfl⟩
      have hli := F.called_set.init.lookup
      have hbi := F.called_set.init.bind (.ref s.heap.objs.size)
      repeat (any_goals (first | assumption | wp_step))

      refine codeAny_mono (codeAny_call_builtin (R := wants (fun r s₂ => r = .none ∧ ∃ h' tk c, s₂ = { s with heap := h', toks := tk } ∧ SetR w h' s.heap.objs.size (fun j => decide (j ∈ ns)) c ∧ c ≤ ns.length ∧
          (∀ b o, s.heap.get? b = some o → h'.get? b = some o)) E) F.called_set.init.plain F.entry_set_init (check_set_init_1 hT ?_)) fun r₂ s₂ hr₂ => ?_
      · obtain ⟨ol, hol, hcl, nl, hdl⟩ := hl
        obtain ⟨ocls, odict, odata, oslots⟩ := ol
        simp only at hcl hdl
        subst hcl; subst hdl
        have hol' : (s.heap.push { cls := .type "set", dict := none, data := .set #[] 0 (.fresh 0 0 (!w.params.followText "set-order")) }).get? l = some { cls := .type "list", dict := odict, data := .seq items nl, slots := oslots } := Heap.get?_push_of_some _ hol
        have hsls := F.sub_list_set
        have hslf := F.sub_list_frozenset
        have hne : (Value.type "list" == Value.type "dict") = false := by decide
        have hl1 : (s.heap.push { cls := .type "set", dict := none, data := .set #[] 0 (.fresh 0 0 (!w.params.followText "set-order")) }).IsList l items := ⟨_, hol', rfl, nl, rfl⟩
        unfold Builtin.«set.__init__» noKeywords Builtin.Frozenset.updateFrom
        generalize hPI : pyIter = PI
        wp_walk
        subst hPI

        refine wpAny_pyIter_list hl1 ?_
        refine wpAny_bind (wpAny_runValue ?_)
        have hlS : l < s.heap.objs.size := Heap.lt_size hol
        have hh3 : A.in1.in1.in1.handled = none := by simp [hh]
        have hz1 : (s.heap.push { cls := .type "set", dict := none, data := .set #[] 0 (.fresh 0 0 (!w.params.followText "set-order")) }).objs.size = s.heap.objs.size + 1 := Heap.size_push ..
        have hneI : l ≠ (s.heap.push { cls := .type "set", dict := none, data := .set #[] 0 (.fresh 0 0 (!w.params.followText "set-order")) }).objs.size := by
          rw [Heap.size_push]; exact Nat.ne_of_lt (Nat.lt_succ_of_lt hlS)
        have hSf : s.heap.objs.size ∉ [(s.heap.push { cls := .type "set", dict := none, data := .set #[] 0 (.fresh 0 0 (!w.params.followText "set-order")) }).objs.size, l] := by
          rw [Heap.size_push]; simp only [List.mem_cons, List.mem_singleton, List.not_mem_nil, or_false, not_or]
          exact ⟨Nat.ne_of_lt (Nat.lt_succ_self _), Nat.ne_of_gt hlS⟩
        have hval : ∀ (i : Nat) (v : Value), items[i]? = some v → ∃ k t, ns[i]? = some k ∧ v = .int k t := fun i v hv => by
          have hi : i < ns.length := by rw [← hisz]; exact (Array.getElem?_eq_some_iff.mp hv).1
          obtain ⟨t, e⟩ := PyProof.Rows.IntsAre.int_at hit i v (by rw [Array.getElem?_toList]; exact hv)
          refine ⟨ns[i], t, List.getElem?_eq_getElem hi, ?_⟩
          rw [e, List.getD_eq_getElem?_getD, List.getElem?_eq_getElem hi] <;> rfl
        refine set_update_ints ((Walks.list hh3 _ l hneI items).toS) s.heap.objs.size
          hSf ns hisz hb hval (items.size - 0) 0 _ (by omega) (Nat.zero_le _)
          ⟨⟨_, Heap.get?_push_size _ rfl, rfl, rfl⟩, (hl1.push _)⟩ ?hS0 ?hR
        case hS0 =>
          have hget : ((s.heap.push { cls := .type "set", dict := none, data := .set #[] 0 (.fresh 0 0 (!w.params.followText "set-order")) }).push { cls := .type "list_iterator", data := .fields #[.ref l, .int 0 0] }).get? s.heap.objs.size
              = some { cls := .type "set", dict := none, data := .set #[] 0 (.fresh 0 0 (!w.params.followText "set-order")) } := Heap.get?_push_of_some _ hS
          exact ⟨0, Nat.le_refl 0, setR_new_at hget⟩
        case hR =>
          intro s' c' hm hc' hS'
          obtain ⟨h', g2, d', tk', os'⟩ := s'
          have eg : g2 = s.gens := hm.gens
          have ed : d' = s.drawn := hm.drawn
          have eo : os' = s.os := hm.os
          subst eg; subst ed; subst eo
          show wpAny _ _ _ _ _ _
          refine wpAny_pure ?_
          show wpAny _ _ (ret Value.none) _ _ _
          rw [hisz] at hc'
          refine wpAny_pure ⟨rfl, h', tk', c', rfl, hS', hc', fun b o e => ?_⟩
          have hb0 : b < s.heap.objs.size := Heap.lt_size e
          have hb1 : b ≠ s.heap.objs.size := Nat.ne_of_lt hb0
          have hb2 : b ≠ (s.heap.push { cls := .type "set", dict := none, data := .set #[] 0 (.fresh 0 0 (!w.params.followText "set-order")) }).objs.size := by
            rw [Heap.size_push]; exact Nat.ne_of_lt (Nat.lt_succ_of_lt hb0)
          exact hm.heap b o (by simp only [List.mem_cons, List.mem_singleton, List.not_mem_nil, or_false, not_or]; exact ⟨hb1, hb2⟩) (Heap.get?_push_of_some _ (Heap.get?_push_of_some _ e))

      · cases r₂ with
        | error e => exact hr₂
        | ok fl₂ =>
          cases fl₂ with
          | ret r =>
            obtain ⟨rfl, h', tk, c', rfl, hS', hc', hk'⟩ := hr₂
            repeat (any_goals (first | assumption | wp_step))
            exact h _ _ _ hS' hc' hk'
          | _ => exact hr₂.elim
    | _ => exact hr.elim
end
section
variable {X : Cx}
/-- set(xs), a list of ints -/
def rSetL (K : PySem.W.Frag) (w : World) : List V → Hp → VK → Prop := fun vs H Q => ∃ (a : Addr) (ns : List Int), vs = [V.ref a] ∧ SqL K H a (ns.map V.int) ∧ ns.length + 1 < scanBound ∧
  ∀ (p : Addr) (c : Nat), H p = none → c ≤ ns.length → Q (.ref p) (upd H p (SetO w p (fun j => decide (j ∈ ns)) c))
theorem cr_setL (hc : X.calm = true) : CallR X (.type "set") (rSetL X.K X.w) := by
  intro pins s σ H vs us Q I r h
  obtain ⟨a, ns, rfl, ha, hb, q⟩ := h
  rw [Vals.ref1 r]
  obtain ⟨its, rv, p1, _⟩ := I.list ha
  refine call_set_lstI ns (I.ok.hd hc) p1.isList (ints_of_vals rv) hb fun h' tk c R hle k => ?_
  have hn : H s.heap.objs.size = none := I.hok.fresh (Nat.le_refl _)
  exact ⟨.ref s.heap.objs.size, _, I.laid (t' := tk) k (Nat.le_refl _) (setO_new R), rfl, q _ c hn hle⟩
end
end LT

namespace LT
open PySem PySem.Spec PyProof.Rows L2
/-- zip where the second list ends first -/
theorem for_zipS {K : PySem.W.Frag} {a b : Addr} {xs ys : List V} {g : TG} {tb : TS} {D : Ends} {σ : L2.St} {H : Hp} (hl : ys.length ≤ xs.length) (J : Nat → L2.St → Hp → Prop) (start : J 0 σ H)
    (still : ∀ i σ H, J i σ H → SqL K H a xs ∧ SqL K H b ys)
    (turn : ∀ (i : Nat) (x y : V) (t : Addr) (σ : L2.St) (H : Hp), xs[i]? = some x → ys[i]? = some y → J i σ H → H t = none → g (.ref t) σ (upd H t (.tup [x, y])) fun σ2 H2 => tb { D with nx := J (i + 1), ct := J (i + 1), bk := D.nx } σ2 H2)
    (fin : ∀ σ H, J ys.length σ H → D.nx σ H) :
    ∃ W : Nat → Nat → L2.St → Hp → Prop, (∃ m, W 0 m σ H) ∧ ∀ i m σ H, W i m σ H →
      ((Itz K a b).stop i H ∧ D.nx σ H) ∨ ((Itz K a b).go i H ∧ ∃ N : L2.St → Hp → Prop, (∀ σ' H', N σ' H' → ∃ m', m' < m ∧ W (i + 1) m' σ' H') ∧ ∀ v H', (Itz K a b).yld i H v H' → g v σ H' fun σ2 H2 => tb { D with nx := N, ct := N, bk := D.nx } σ2 H2) := by
  refine ⟨fun i m σ H => i + m = ys.length ∧ J i σ H, ⟨ys.length, Nat.zero_add _, start⟩, ?_⟩
  rintro i m σ H ⟨im, j⟩
  obtain ⟨s1, s2⟩ := still i σ H j
  by_cases z : m = 0
  · have e : i = ys.length := by omega
    subst e
    exact .inl ⟨⟨xs, ys, s1, s2, .inr (Nat.le_refl _)⟩, fin σ H j⟩
  · have h1 : i < ys.length := by omega
    have h2 : i < xs.length := by omega
    refine .inr ⟨⟨xs, ys, _, _, s1, s2, List.getElem?_eq_getElem h2, List.getElem?_eq_getElem h1⟩, J (i + 1), fun σ' H' j' => ⟨m - 1, by omega, by omega, j'⟩, ?_⟩
    rintro v H' ⟨t, x, y, rfl, ht, rfl, k1, k2⟩
    exact turn i x y t σ H (k1 xs s1) (k2 ys s2) j ht
theorem cut_first (xs : List V) (h : 1 ≤ xs.length) : cutV xs (some 1) none = xs.drop 1 := by
  unfold cutV
  have e : HT.sIx xs.length 0 (some 1) = 1 := by
    show (if (1 : Int) < 0 then ((1 : Int) + (xs.length : Int)).toNat else min (1 : Int).toNat xs.length) = 1
    rw [if_neg (by decide)]
    show min 1 xs.length = 1
    omega
  rw [e, HT.sIx_none]
  exact List.take_of_length_le (by rw [List.length_drop]; omega)
/-- the same in a comprehension -/
theorem lc_zipS {K : PySem.W.Frag} {a b : Addr} {xs ys : List V} {g : TG} {tt : TT} {te : TE} {vs : List Nat} {σ : L2.St} {H1 : Hp} {D : Addr} {Qd : Hp → Prop} (hl : ys.length ≤ xs.length) (J : Nat → Hp → Prop) (start : J 0 (upd H1 D (.lst [])))
    (still : ∀ i H, J i H → SqL K H a xs ∧ SqL K H b ys)
    (turn : ∀ (i : Nat) (x y : V) (t : Addr) (H : Hp), xs[i]? = some x → ys[i]? = some y → J i H → H t = none → g (.ref t) (wipe σ vs) (upd H t (.tup [x, y])) fun σ2 H2 => wipe σ2 vs = wipe σ vs ∧ tt σ2 H2 fun b H3 =>
      if b = true then te σ2 H3 fun y H4 => ∃ acc, H4 D = some (.lst acc) ∧ acc.length < sizeLine ∧ J (i + 1) (upd H4 D (.lst (acc ++ [y]))) else J (i + 1) H3)
    (fin : ∀ H, J ys.length H → Qd H) :
    ∃ W : Nat → Nat → Hp → Prop, (∃ m, W 0 m (upd H1 D (.lst []))) ∧ ∀ i m H, W i m H →
      ((Itz K a b).stop i H ∧ Qd H) ∨ ((Itz K a b).go i H ∧ ∃ Nx : Hp → Prop, (∀ H', Nx H' → ∃ m', m' < m ∧ W (i + 1) m' H') ∧ ∀ v H', (Itz K a b).yld i H v H' → g v (wipe σ vs) H' fun σ2 H2 => wipe σ2 vs = wipe σ vs ∧ tt σ2 H2 fun b H3 =>
        if b = true then te σ2 H3 fun y H4 => ∃ acc, H4 D = some (.lst acc) ∧ acc.length < sizeLine ∧ Nx (upd H4 D (.lst (acc ++ [y]))) else Nx H3) := by
  refine ⟨fun i m H => i + m = ys.length ∧ J i H, ⟨ys.length, Nat.zero_add _, start⟩, ?_⟩
  rintro i m H ⟨im, j⟩
  obtain ⟨s1, s2⟩ := still i H j
  by_cases z : m = 0
  · have e : i = ys.length := by omega
    subst e
    exact .inl ⟨⟨xs, ys, s1, s2, .inr (Nat.le_refl _)⟩, fin H j⟩
  · have h1 : i < ys.length := by omega
    have h2 : i < xs.length := by omega
    refine .inr ⟨⟨xs, ys, _, _, s1, s2, List.getElem?_eq_getElem h2, List.getElem?_eq_getElem h1⟩, J (i + 1), fun H' j' => ⟨m - 1, by omega, by omega, j'⟩, ?_⟩
    rintro v H' ⟨t, x, y, rfl, ht, rfl, k1, k2⟩
    exact turn i x y t H (k1 xs s1) (k2 ys s2) j ht
end LT

namespace LT
open PySem PySem.Spec PyProof.Rows L2
theorem nats_of61 : ∀ (ns : List Int), (∀ x ∈ ns, 0 ≤ x) → ns.map V.int = (ns.map Int.toNat).map fun x : Nat => V.int (x : Int)
  | [], _ => rfl
  | x :: ns, h => by
    have := h x List.mem_cons_self
    show V.int x :: ns.map V.int = V.int ((x.toNat : Nat) : Int) :: (ns.map Int.toNat).map fun x : Nat => V.int (x : Int)
    rw [nats_of61 ns fun y hy => h y (List.mem_cons_of_mem _ hy), Int.toNat_of_nonneg this]
/-- neighbours two by two -/
def prs : List Nat → List (Nat × Nat)
  | a :: b :: r => (a, b) :: prs r
  | _ => []
theorem prs_len : ∀ B : List Nat, (prs B).length = B.length / 2
  | [] => rfl
  | [_] => by show 0 = 1 / 2; omega
  | a :: b :: r => by
    show (prs r).length + 1 = (r.length + 1 + 1) / 2
    rw [prs_len r]
    omega
theorem prs_at : ∀ (B : List Nat) (i x y : Nat), B[2 * i]? = some x → B[2 * i + 1]? = some y → (prs B)[i]? = some (x, y)
  | [], i, x, y, h, _ => by simp at h
  | [a], 0, x, y, _, h => by simp at h
  | [a], i + 1, x, y, h, _ => by simp at h
  | a :: b :: r, 0, x, y, h, k => by
    have h : a = x := Option.some.inj h
    have k : b = y := Option.some.inj k
    rw [← h, ← k]
    rfl
  | a :: b :: r, i + 1, x, y, h, k => by
    have e1 : (a :: b :: r)[2 * (i + 1)]? = r[2 * i]? := by rw [show 2 * (i + 1) = 2 * i + 1 + 1 by omega]; rfl
    have e2 : (a :: b :: r)[2 * (i + 1) + 1]? = r[2 * i + 1]? := by rw [show 2 * (i + 1) + 1 = 2 * i + 1 + 1 + 1 by omega]; rfl
    exact prs_at r i x y (e1 ▸ h) (e2 ▸ k)
theorem prs_so {n : Nat} : ∀ (B : List Nat) (lo : Nat), B.Pairwise (· < ·) → (∀ x ∈ B, lo ≤ x ∧ x ≤ n) → lo ≤ n → So n lo (prs B)
  | [], lo, _, _, h => h
  | [a], lo, _, _, h => h
  | a :: b :: r, lo, h, k, hl => by
    obtain ⟨h1, h2⟩ := List.pairwise_cons.mp h
    obtain ⟨h3, h4⟩ := List.pairwise_cons.mp h2
    have ka := k a List.mem_cons_self
    have kb := k b (List.mem_cons_of_mem _ List.mem_cons_self)
    have ab := h1 b List.mem_cons_self
    refine ⟨ka.1, ab, kb.2, prs_so r b h4 (fun x hx => ⟨Nat.le_of_lt (h3 x hx), (k x (List.mem_cons_of_mem _ (List.mem_cons_of_mem _ hx))).2⟩) kb.2⟩
theorem ev_at {α : Type} {j i : Nat} {xs : List α} {x : α} (h : (ev j xs)[i]? = some x) (hj : j ≤ 1) : xs[j + 2 * i]? = some x := by
  unfold ev at h
  have k : ∀ (m : Nat), j + 2 * m ≤ xs.length + 1 → ((List.range m).map fun k => j + 2 * k).filterMap (xs[·]?) = (List.range m).map fun k => xs.getD (j + 2 * k) (x) := by
    intro m
    induction m with
    | zero => intro _; rfl
    | succ m ih =>
      intro hm
      rw [List.range_succ, List.map_append, List.filterMap_append, ih (by omega), List.map_append]
      congr 1
      have lt : j + 2 * m < xs.length := by omega
      show (match xs[j + 2 * m]? with | none => [] | some b => [b]) = [xs.getD (j + 2 * m) x]
      rw [List.getD_eq_getElem?_getD, List.getElem?_eq_getElem lt]
      rfl
  rw [k _ (by omega)] at h
  rw [List.getElem?_map] at h
  by_cases c : i < (xs.length + 1 - j) / 2
  · rw [List.getElem?_range c] at h
    have h2 : xs.getD (j + 2 * i) x = x := Option.some.inj h
    have lt : j + 2 * i < xs.length := by omega
    rw [List.getD_eq_getElem?_getD, List.getElem?_eq_getElem lt] at h2
    rw [List.getElem?_eq_getElem lt]
    exact congrArg some h2
  · rw [List.getElem?_eq_none (by rw [List.length_range]; omega)] at h
    cases h
theorem ev_cnt {α : Type} (j : Nat) (xs : List α) (hj : j ≤ 1) : (ev j xs).length = (xs.length + 1 - j) / 2 := by
  unfold ev
  have k : ∀ (m : Nat), j + 2 * m ≤ xs.length + 1 → (((List.range m).map fun k => j + 2 * k).filterMap (xs[·]?)).length = m := by
    intro m
    induction m with
    | zero => intro _; rfl
    | succ m ih =>
      intro hm
      rw [List.range_succ, List.map_append, List.filterMap_append, List.length_append, ih (by omega)]
      have lt : j + 2 * m < xs.length := by omega
      show m + (match xs[j + 2 * m]? with | none => [] | some b => [b] : List α).length = m + 1
      rw [List.getElem?_eq_getElem lt]
      rfl
  exact k _ (by omega)
end LT

namespace LT
open PySem PySem.Spec PyProof.Rows L2
section
variable {P : Program} {w : World} {K : PySem.W.Frag} {mg : Str → Option Value} {base : Heap}
def spLawSpans61 : Sp := fun vs H Q _ => ∃ (bg : Addr) (n : Nat), vs = [.ref bg, .int n] ∧ BagAt H bg ∧ 1 ≤ n ∧ n ≤ 10 ^ 30 ∧
  ∀ (H' : Hp) (p : Addr) (ys : List V) (S : List (Nat × Nat)), But bg H H' → BagAt H' bg → H p = none → H' p = some (.lst ys) → All2 (Nd H') ys S → So n 0 S → 1 ≤ S.length → S.length ≤ 3 → Q (.ref p) H'
theorem ok_law_spans {f g1 : Addr} {fd d1 : FuncData} (F : Fun K "_law_spans" "_law_spans" sLawSpans f fd) (GLawPick : FnOk P w K mg base CX0 1 g1 d1 ["bag", "many"] spPick) (ALawPick : At K mg "_law_pick" g1 d1 ["bag", "many"])
    (z_range : mg "range" = none) (z_zip : mg "zip" = none) (z_set : mg "set" = none) (z_sorted : mg "sorted" = none) : FnOk P w K mg base CX0 2 f fd ["bag", "many"] spLawSpans61 := by
  refine F.ok scLawSpans (fun vs H Q E h => ?_) (fun cdv A outer s H vs Q E hr h => ?_)
  · obtain ⟨_, _, rfl, _⟩ := h
    rfl
  obtain ⟨bg, n, rfl, hb, n1, h30, q⟩ := h
  refine' ⟨_, (pss_cons (ps_set (i := 2) scLawSpans.nd rfl (Or.inl rfl) (pe_callB (cr_sortedSet rfl) (by rfl) z_sorted (by decide +kernel) (pa_cons (pe_callTy (cr_setL rfl) (by rfl) z_set (by decide +kernel) (pa_cons (pe_lc (own := [("turn", 6)]) rfl scLawSpans.nd (pi_range1 (by rfl) z_range (pa_cons (pe_op op_add pe_int (pe_call GLawPick (hr.mono (by decide)) rfl ALawPick.m ALawPick.kp ALawPick.b .nil pass0 (pa_cons (pv 0) (pa_cons pe_int pa_nil)))) pa_nil)) (blkOk_by (N := ["bag", "many", "ends", "found", "low", "high", "turn"]) (sc := defScope sLawSpans) (by decide +kernel)) (fun _ _ _ _ _ => (pg_name (i := 6) scLawSpans.nd rfl (Or.inl rfl))) (fun _ _ _ _ _ => pts_nil) (fun _ _ _ _ _ => (pe_call GLawPick (hr.mono (by decide)) rfl ALawPick.m ALawPick.kp ALawPick.b .nil pass0 (pa_cons (pv 0) (pa_cons (pe_op op_add (pv 1) pe_int) pa_nil))))) pa_nil)) pa_nil)))
    (pss_cons ?cc1
    (pss_one (ps_ret (pe_ifExp (pt_cmpR (op_neD hr.units) (pv 3) (pe_lst pa_nil) (nomark _)) (pv 3) (pe_lst (pa_cons (pe_tup (pa_cons (pe_op op_sub (pv 1) pe_int) (pa_cons (pv 1) pa_nil))) pa_nil))))))), ?_⟩
  case cc1 => exact (ps_setLc (i := 3) (own := [("low", 4), ("high", 5)]) rfl scLawSpans.nd rfl rfl (sw_true rfl rfl rfl (by decide +kernel)) (pi_zip (by rfl) z_zip (pa_cons (pe_sl2 (pv 2) po_none) (pa_cons (pe_sl2 (pv 2) (po_some pe_int)) pa_nil))) (blkOk_by (N := ["bag", "many", "ends", "found", "low", "high", "turn"]) (sc := defScope sLawSpans) (by decide +kernel)) (fun _ _ _ _ _ => (pg_tupB (n := 2) rfl (pgs_cons (pg_name (i := 4) scLawSpans.nd rfl (Or.inl rfl)) (pgs_cons (pg_name (i := 5) scLawSpans.nd rfl (Or.inl rfl)) pgs_nil)))) (fun _ _ _ _ _ => pts_nil) (fun _ _ _ _ _ => (pe_tup (pa_cons (pv 4) (pa_cons (pv 5) pa_nil)))))
  have two : 2 ≤ sizeLine := by decide
  have b30 : ((n : Int) + 1).natAbs < 2 ^ 250 := Nat.lt_of_le_of_lt (show ((n : Int) + 1).natAbs ≤ 10 ^ 30 + 1 by omega) (by decide)
  refine ⟨_, rfl, bg, 5, rfl, by decide, by decide, hb, fun r H2 r0 r6 k2 hb2 => ?_⟩
  obtain ⟨m, em⟩ : ∃ m : Nat, 2 + r = (m : Int) := ⟨(2 + r).toNat, by omega⟩
  have B2 : But bg H H2 := (But.refl bg H).pick k2
  refine ⟨_, _, rfl, rfl, (m : Int), congrArg (fun z => [V.int z]) em, by omega, by omega, fun D nD => ?_⟩
  have Db := hb2.ne nD
  refine lc_range (lo := 0) (n := m) (fun i H' => ∃ ns : List Int, But bg H H' ∧ BagAt H' bg ∧ H' D = some (.lst (ns.map V.int)) ∧ ns.length = i ∧ ∀ x ∈ ns, 0 ≤ x ∧ x ≤ n)
    ⟨[], B2.trans (But.of (same_upd nD)), hb2.upd Db, upd_same, rfl, (fun _ h => absurd h List.not_mem_nil)⟩ ?_ ?_
  · rintro j H3 hj ⟨ns, B3, hb3, hD, ln, hns⟩
    refine ⟨rfl, _, rfl, _, rfl, _, _, rfl, rfl, bg, (n : Int) + 1, rfl, by omega, b30, hb3, fun r1 H4 r10 r11 k4 hb4 => ?_⟩
    have hD4 : H4 D = some (.lst (ns.map V.int)) := by rw [k4 D Db]; exact hD
    refine ⟨_, hD4, szlt (by rw [List.length_map]; omega), ns ++ [r1], ?_, hb4.upd Db, ?_, by rw [List.length_append, ln]; rfl, ?_⟩
    · exact fun a o z k => by
        by_cases za : a = D
        · subst za
          have := B2 a o z k
          rw [nD] at this
          cases this
        · rw [upd_ne za, k4 a z]
          exact B3 a o z k
    · rw [List.map_append]
      exact upd_same
    · intro x hx
      rcases List.mem_append.mp hx with hx | hx
      · exact hns x hx
      · rw [List.mem_singleton.mp hx]
        omega
  rintro H3 ⟨ns, B3, hb3, hD, ln, hns⟩
  have sb : ns.length + 1 < scanBound := Nat.lt_of_le_of_lt (show ns.length + 1 ≤ 20 by omega) (by decide)
  refine ⟨D, ns, rfl, SqL.of hD, sb, fun p c np hc => ?_⟩
  refine ⟨p, _, c, rfl, upd_same, by omega, fun ms p2 hp hm hl np2 => ?_⟩
  have s4 := same_upd (o := SetO w p (fun j => decide (j ∈ ns)) c) np
  have s5 := same_upd (o := .lst (ms.map V.int)) np2
  have hmem : ∀ x, x ∈ ms → x ∈ ns := fun x hx => of_decide_eq_true ((hm x).mp hx)
  have hnn : ∀ x ∈ ms, 0 ≤ x := fun x hx => (hns x (hmem x hx)).1
  have pw : (ms.map Int.toNat).Pairwise (· < ·) := by
    rw [List.pairwise_map]
    refine hp.imp_of_mem fun {x y} hx hy h => ?_
    have := hnn x hx
    omega
  have bm : ∀ x ∈ ms.map Int.toNat, 0 ≤ x ∧ x ≤ n := fun x hx => by
    obtain ⟨y, hy, rfl⟩ := List.mem_map.mp hx
    have := hns y (hmem y hy)
    omega
  have hp5 := upd_same (H := upd H3 p (SetO w p (fun j => decide (j ∈ ns)) c)) (a := p2) (o := .lst (ms.map V.int))
  have en := nats_of61 ms hnn
  have ml : ms.length ≤ 6 := by omega
  have B5 : But bg H (upd (upd H3 p (SetO w p (fun j => decide (j ∈ ns)) c)) p2 (.lst (ms.map V.int))) := B3.trans (But.of (s4.trans s5))
  have hb5 : BagAt (upd (upd H3 p (SetO w p (fun j => decide (j ∈ ns)) c)) p2 (.lst (ms.map V.int))) bg := hb3.same (s4.trans s5)
  rw [show (cxOf CX0 P w K mg base ["bag", "many", "ends", "found", "low", "high", "turn"] "_law_spans" (defScope sLawSpans) f cdv A outer s H E).nox.w = w from rfl]
  generalize upd (upd H3 p (SetO w p (fun j => decide (j ∈ ns)) c)) p2 (.lst (ms.map V.int)) = H5 at hp5 B5 hb5 ⊢
  rw [en] at hp5
  have m1 : 1 ≤ (ms.map Int.toNat).length := by
    have l0 : 0 < ns.length := by omega
    have := (hm (ns[0])).mpr (decide_eq_true (List.getElem_mem l0))
    rw [List.length_map]
    exact List.length_pos_of_mem this
  have ml2 : (ms.map Int.toNat).length ≤ 6 := by rw [List.length_map]; omega
  generalize ms.map Int.toNat = B at hp5 pw bm m1 ml2
  clear hm hl hnn hmem en hp ml s4 s5 np np2 hD hb3 B3 hns
  have il : (B.map fun x : Nat => V.int (x : Int)).length = B.length := List.length_map _
  refine ⟨_, rfl, p2, _, rfl, SqL.of hp5, rfl, 0, .inl ⟨rfl, rfl⟩, Nat.zero_le _, fun e1 ne1 => ?_⟩
  have w1 := same_upd (o := .lst (ev 0 (B.map fun x : Nat => V.int (x : Int)))) ne1
  refine ⟨_, rfl, p2, _, rfl, SqL.of (w1 _ _ hp5), 1, rfl, rfl, 1, .inr rfl, by omega, fun e2 ne2 => ?_⟩
  have w2 := same_upd (o := .lst (ev 1 (B.map fun x : Nat => V.int (x : Int)))) ne2
  have h1 := w2 _ _ (upd_same (H := H5) (a := e1) (o := .lst (ev 0 (B.map fun x : Nat => V.int (x : Int)))))
  have h2 := upd_same (H := upd H5 e1 (.lst (ev 0 (B.map fun x : Nat => V.int (x : Int))))) (a := e2) (o := .lst (ev 1 (B.map fun x : Nat => V.int (x : Int))))
  have B6 := B5.trans (But.of (w1.trans w2))
  have hb6 := hb5.same (w1.trans w2)
  generalize upd (upd H5 e1 (.lst (ev 0 (B.map fun x : Nat => V.int (x : Int))))) e2 (.lst (ev 1 (B.map fun x : Nat => V.int (x : Int)))) = H6 at h1 h2 B6 hb6 ⊢
  have c0 := ev_cnt 0 (B.map fun x : Nat => V.int (x : Int)) (by decide)
  have c1 := ev_cnt 1 (B.map fun x : Nat => V.int (x : Int)) (by decide)
  have pl := prs_len B
  refine ⟨e1, e2, _, _, rfl, SqL.of h1, SqL.of h2, fun D2 nD2 => ?_⟩
  refine lc_zipS (K := K) (a := e1) (b := e2) (by rw [c0, c1]; omega) (fun j H' => ∃ ys : List V, Same H6 H' ∧ H' D2 = some (.lst ys) ∧ All2 (Nd H') ys ((prs B).take j)) ⟨[], same_upd nD2, upd_same, .nil⟩ (fun i H' ⟨_, s5, _⟩ => ⟨SqL.of (s5 _ _ h1), SqL.of (s5 _ _ h2)⟩) ?_ ?_
  · rintro i x y T H7 hx hy ⟨ys, s7, hD2, hys⟩ nT
    have hx := ev_at hx (by decide)
    have hy := ev_at hy (by decide)
    rw [List.getElem?_map] at hx hy
    obtain ⟨a, ha, rfl⟩ := Option.map_eq_some_iff.mp hx
    obtain ⟨b, hb', rfl⟩ := Option.map_eq_some_iff.mp hy
    rw [Nat.zero_add] at ha
    rw [Nat.add_comm] at hb'
    have pa := prs_at B i a b ha hb'
    have s8 := same_upd (o := .tup [.int (a : Int), .int (b : Int)]) nT
    have hT := upd_same (H := H7) (a := T) (o := .tup [.int (a : Int), .int (b : Int)])
    have hD3 := s8 _ _ hD2
    have hys3 := hys.mono fun v x (k : Nd H7 v x) => k.same s8
    have s78 := s7.trans s8
    generalize upd H7 T (.tup [.int (a : Int), .int (b : Int)]) = H8 at hT hD3 hys3 s78 ⊢
    refine ⟨T, _, rfl, SqT.of hT, rfl, _, _, rfl, _, _, rfl, rfl, rfl, ?_⟩
    refine ⟨_, rfl, _, rfl, two, fun T2 nT2 => ?_⟩
    have s9 := same_upd (o := .tup [.int (a : Int), .int (b : Int)]) nT2
    have hD4 := s9 _ _ hD3
    have yl := hys3.len
    rw [List.length_take] at yl
    refine ⟨ys, hD4, szlt (by omega), ys ++ [.ref T2], ?_, upd_same, ?_⟩
    · exact fun a o k => by rw [upd_ne (ne_of_none k nD2)]; exact s9 _ _ (s78 _ _ k)
    · rw [take_more pa]
      exact (hys3.mono fun v x (k : Nd H8 v x) => (k.same s9).upd hD4).app (.cons (Nd.upd (x := (a, b)) ⟨T2, rfl, upd_same⟩ hD4) .nil)
  rintro H7 ⟨ys, s7, hD2, hys⟩
  rw [c1, il, show (B.length + 1 - 1) / 2 = (prs B).length by omega, List.take_length] at hys
  have so := prs_so B 0 pw bm (Nat.zero_le _)
  have B7 := B6.trans (But.of s7)
  have hb7 := hb6.same s7
  have free : ∀ (H8 : Hp), But bg H H8 → BagAt H8 bg → ∀ a, H8 a = none → H a = none := fun H8 B b8 a na => by
    cases e : H a with
    | none => rfl
    | some o => rw [B a o (b8.ne na) e] at na; cases na
  have nDH := free H6 B6 hb6 D2 nD2
  refine ⟨_, rfl, Nat.zero_le _, fun em nem => ?_⟩
  have w8 := same_upd (o := .lst []) nem
  refine ⟨.list ((prs B).map nd), .list (([] : List (Nat × Nat)).map nd), lst_dp (w8 _ _ hD2) (hys.mono fun v x (k : Nd H7 v x) => k.same w8), .lst (SqL.of upd_same) .nil, nds_shaped _, nds_shaped _, ?_⟩
  rw [nds_eqv]
  have B8 := B7.trans (But.of w8)
  have hb8 := hb7.same w8
  have hD8 := w8 _ _ hD2
  have hys8 := hys.mono fun v x (k : Nd H7 v x) => k.same w8
  generalize upd H7 em (.lst []) = H8 at B8 hb8 hD8 hys8 ⊢
  by_cases hz : prs B = []
  · rw [decide_eq_true hz]
    have one1 : 1 ≤ sizeLine := by decide
    refine ⟨false, rfl, _, rfl, _, _, rfl, rfl, _, rfl, two, fun t1 nt1 => ⟨one1, fun l1 nl1 => ?_⟩⟩
    have u1 := same_upd (o := .tup [.int ((n : Int) - 1), .int (n : Int)]) nt1
    have u2 := same_upd (o := .lst [.ref t1]) nl1
    have u := u1.trans u2
    have e1 : ((n - 1 : Nat) : Int) = (n : Int) - 1 := by omega
    have ht := u2 _ _ (upd_same (H := H8) (a := t1) (o := .tup [.int ((n : Int) - 1), .int (n : Int)]))
    refine q _ l1 [.ref t1] [(n - 1, n)] (B8.trans (But.of u)) (hb8.same u) (free _ B8 hb8 l1 ?_) upd_same (.cons ⟨t1, rfl, ?_⟩ .nil) ⟨Nat.zero_le _, by show n - 1 < n; omega, Nat.le_refl _, Nat.le_refl _⟩ (Nat.le_refl 1) (show 1 ≤ 3 by decide)
    · cases e : H8 l1 with
      | none => rfl
      | some o => rw [u1 _ _ e] at nl1; cases nl1
    · rw [ht, e1]
  · rw [decide_eq_false hz]
    exact ⟨true, rfl, _, rfl, q _ D2 ys (prs B) B8 hb8 nDH hD8 hys8 so (List.length_pos_iff.mpr hz) (by rw [pl]; omega)⟩
end
end LT

namespace LT
open PySem PySem.Spec PyProof.Rows L2
theorem All2.erase {α : Type} {R : V → α → Prop} : ∀ {vs : List V} {xs : List α}, All2 R vs xs → ∀ k, All2 R (vs.eraseIdx k) (xs.eraseIdx k)
  | _, _, .nil, k => .nil
  | _, _, .cons h t, 0 => t
  | _, _, .cons h t, k + 1 => .cons h (t.erase k)
theorem erase_perm {α : Type} : ∀ {xs : List α} {k : Nat} {x : α}, xs[k]? = some x → (x :: xs.eraseIdx k).Perm xs
  | [], k, x, h => by simp at h
  | a :: xs, 0, x, h => by
    have h : a = x := Option.some.inj h
    rw [h]
    exact .refl _
  | a :: xs, k + 1, x, h => by
    have h : xs[k]? = some x := h
    exact (List.Perm.swap a x _).trans ((erase_perm h).cons a)
section
variable {P : Program} {w : World} {K : PySem.W.Frag} {mg : Str → Option Value} {base : Heap}
def spMixed : Sp := fun vs H Q _ => ∃ (bg p : Addr) (xs : List V) (W : List (Nat × Nat)), vs = [.ref bg, .ref p] ∧ BagAt H bg ∧ H p = some (.lst xs) ∧ All2 (Nd H) xs W ∧ W.length ≤ 4000 ∧
  ∀ (H' : Hp) (r : Addr) (ys : List V) (Z : List (Nat × Nat)), But bg H H' → BagAt H' bg → H r = none → H' r = some (.lst ys) → All2 (Nd H') ys Z → Z.Perm W → Q (.ref r) H'
theorem ok_law_mixed {f g1 : Addr} {fd d1 : FuncData} (F : Fun K "_law_mixed" "_law_mixed" sLawMixed f fd) (GLawPick : FnOk P w K mg base CX0 1 g1 d1 ["bag", "many"] spPick) (ALawPick : At K mg "_law_pick" g1 d1 ["bag", "many"])
    (z_list : mg "list" = none) (z_len : mg "len" = none) : FnOk P w K mg base CX0 2 f fd ["bag", "items"] spMixed := by
  refine F.ok scLawMixed (fun vs H Q E h => ?_) (fun cdv A outer s H vs Q E hr h => ?_)
  · obtain ⟨_, _, _, _, rfl, _⟩ := h
    rfl
  obtain ⟨bg, p, xs, W, rfl, hb, hp, hx, l4, q⟩ := h
  refine ⟨_, (pss_cons (ps_par (i := 2) (j := 3) (by rfl) scLawMixed.nd rfl rfl (by decide) rfl rfl (pa_cons (pe_callTy call_list_of (by rfl) z_list (by decide +kernel) (pa_cons (pv 1) pa_nil)) (pa_cons (pe_lst pa_nil) pa_nil)) (by rfl))
    (pss_cons (ps_while PassesOwn.never (pt_cmpR (op_neD hr.units) (pv 2) (pe_lst pa_nil) (nomark _))
    (pss_one (ps_expr (pe_bm PySem.F.plainAttrs_list PySem.F.slot_list_append PySem.F.type_list_append mt_append (pv 3) (pa_cons (pe_bm PySem.F.plainAttrs_list PySem.F.slot_list_pop PySem.F.type_list_pop mt_popAt (pv 2) (pa_cons (pe_call GLawPick (hr.mono (by decide)) rfl ALawPick.m ALawPick.kp ALawPick.b .nil pass0 (pa_cons (pv 0) (pa_cons (pe_callB call_len_seq (by rfl) z_len PySem.boot_len (pa_cons (pv 2) pa_nil)) pa_nil))) pa_nil)) pa_nil)))))
    (pss_one (ps_ret (pv 3))))), ?_⟩
  have xl := hx.len
  refine ⟨_, rfl, p, xs, rfl, .inl (SqL.of hp), fun lp nlp => ⟨Nat.zero_le _, fun fp nfp => ⟨_, _, rfl, ?_⟩⟩⟩
  have w1 := same_upd (o := .lst xs) nlp
  have w2 := same_upd (o := .lst []) nfp
  have hl1 := w2 _ _ (upd_same (H := H) (a := lp) (o := .lst xs))
  have hf1 := upd_same (H := upd H lp (.lst xs)) (a := fp) (o := .lst [])
  have s12 := w1.trans w2
  have hb1 := hb.same s12
  have lb := hb.ne nlp
  have fb := (hb.same w1).ne nfp
  have nfH : H fp = none := w1.free nfp
  have lf : lp ≠ fp := fun z => by rw [← z, upd_same] at nfp; cases nfp
  have hx1 := hx.mono fun v x (k : Nd H v x) => k.same s12
  have B1 := But.of (b := bg) s12
  generalize upd (upd H lp (.lst xs)) fp (.lst []) = H1 at hl1 hf1 s12 hb1 hx1 B1 ⊢
  refine ⟨fun mu σ H' => ∃ (us ys : List V) (U Z : List (Nat × Nat)), σ = [some (.ref bg), some (.ref p), some (.ref lp), some (.ref fp)] ∧ But bg H H' ∧ BagAt H' bg ∧ H' lp = some (.lst us) ∧ All2 (Nd H') us U ∧ H' fp = some (.lst ys) ∧ All2 (Nd H') ys Z ∧ (Z ++ U).Perm W ∧ mu = U.length + 0,
    ⟨_, xs, [], W, [], rfl, B1, hb1, hl1, hx1, hf1, .nil, .refl _, rfl⟩, ?_⟩
  rintro mu σ H2 ⟨us, ys, U, Z, rfl, B2, hb2, hl2, hu, hf2, hy, pm, rfl⟩
  have ul := hu.len
  have yl := hy.len
  have tl : Z.length + U.length = W.length := by rw [← List.length_append]; exact pm.length_eq
  refine ⟨_, rfl, Nat.zero_le _, fun em nem => ?_⟩
  have se := same_upd (o := .lst []) nem
  refine ⟨.list (U.map nd), .list (([] : List (Nat × Nat)).map nd), lst_dp (se _ _ hl2) (hu.mono fun v x (k : Nd H2 v x) => k.same se), .lst (SqL.of upd_same) .nil, nds_shaped _, nds_shaped _, ?_⟩
  rw [nds_eqv]
  have hb3 := hb2.same se
  have hl3 := se _ _ hl2
  have hf3 := se _ _ hf2
  have hu3 := hu.mono fun v x (k : Nd H2 v x) => k.same se
  have hy3 := hy.mono fun v x (k : Nd H2 v x) => k.same se
  have B3 := B2.trans (But.of se)
  generalize upd H2 em (.lst []) = H3 at hb3 hl3 hf3 hu3 hy3 B3 ⊢
  by_cases hz : U = []
  · rw [decide_eq_true hz]
    subst hz
    rw [List.append_nil] at pm
    exact ⟨false, rfl, _, rfl, q H3 fp ys Z B3 hb3 nfH hf3 hy3 pm⟩
  · rw [decide_eq_false hz]
    have u1 : 1 ≤ U.length := List.length_pos_iff.mpr hz
    refine ⟨true, rfl, _, fun σ' H' h => h, ?_⟩
    refine ⟨_, rfl, .inl ⟨rfl, _, SqL.of hf3⟩, _, rfl, .inl ⟨rfl, _, SqL.of hl3⟩, _, rfl, _, rfl, lp, us, rfl, .inl (SqL.of hl3), bg, ((us.length : Nat) : Int), rfl, by omega, Nat.lt_of_le_of_lt (show (((us.length : Nat) : Int)).natAbs ≤ 4000 by omega) (by decide), hb3, fun r H4 r0 r1 k4 hb4 => ?_⟩
    obtain ⟨i, rfl⟩ : ∃ i : Nat, r = (i : Int) := ⟨r.toNat, by omega⟩
    have il : i < U.length := by omega
    have hl4 : H4 lp = some (.lst us) := by rw [k4 lp lb]; exact hl3
    have hf4 : H4 fp = some (.lst ys) := by rw [k4 fp fb]; exact hf3
    have B34 : But bg H3 H4 := (But.refl bg H3).pick k4
    have nb : ∀ {v : V} {x : Nat × Nat}, Nd H3 v x → Nd H4 v x := fun {v x} ⟨t, e, ht⟩ => ⟨t, e, by
      rw [k4 t (fun z => by
        obtain ⟨_, _, _, e⟩ := hb3
        rw [z, e] at ht
        cases ht)]
      exact ht⟩
    obtain ⟨v, hv, hN⟩ := hu3.nth2 (List.getElem?_eq_getElem il)
    refine ⟨lp, us, (i : Int), i, v, rfl, rfl, hl4, by omega, by omega, by rw [PySem.seqIndex_of (Int.natCast_nonneg _) (by omega)]; exact congrArg some (Int.toNat_natCast i), hv, ?_⟩
    have hf5 : (upd H4 lp (.lst (us.eraseIdx i))) fp = some (.lst ys) := by rw [upd_ne lf.symm]; exact hf4
    have hl5 : (upd H4 lp (.lst (us.eraseIdx i))) lp = some (.lst (us.eraseIdx i)) := upd_same
    have hb5 := hb4.upd (o := .lst (us.eraseIdx i)) lb
    have hu5 : All2 (Nd (upd H4 lp (.lst (us.eraseIdx i)))) (us.eraseIdx i) (U.eraseIdx i) := (hu3.erase i).mono fun v x k => (nb k).upd hl4
    have hy5 : All2 (Nd (upd H4 lp (.lst (us.eraseIdx i)))) ys Z := hy3.mono fun v x k => (nb k).upd hl4
    have hN5 := (nb hN).upd (o := .lst (us.eraseIdx i)) hl4
    have B5 : But bg H (upd H4 lp (.lst (us.eraseIdx i))) := fun a o z k => by rw [upd_ne (ne_of_none k nlp)]; exact B34 a o z (B3 a o z k)
    generalize upd H4 lp (.lst (us.eraseIdx i)) = H5 at hf5 hl5 hb5 hu5 hy5 hN5 B5 ⊢
    refine ⟨fp, ys, v, rfl, rfl, hf5, szlt (by omega), ?_⟩
    have ep := erase_perm (List.getElem?_eq_getElem il)
    refine ⟨(U.eraseIdx i).length, ?_, us.eraseIdx i, ys ++ [v], U.eraseIdx i, Z ++ [U[i]], rfl, fun a o z k => by rw [upd_ne (ne_of_none k nfH)]; exact B5 a o z k, hb5.upd fb, by rw [upd_ne lf]; exact hl5, hu5.mono (fun v x k => k.upd hf5), upd_same, (hy5.mono fun v x k => k.upd hf5).app (.cons (hN5.upd hf5) .nil), ?_, rfl⟩
    · rw [List.length_eraseIdx_of_lt il]
      omega
    · rw [List.append_assoc]
      exact (ep.append_left Z).trans pm
end
end LT

namespace LT
open PySem PySem.Spec PyProof.Rows L2
theorem nl_mem61 {n : Nat} {S : List (Nat × Nat)} (h : So n 0 S) {x : Nat × Nat} (hx : x ∈ nl n 0 S) : Due n S x := by
  rw [← nb_so h] at hx
  exact nb_srt_due h.wn hx
theorem nl_len61 {n : Nat} {S : List (Nat × Nat)} (h : So n 0 S) (hn : n ≤ 10 ^ 30) (l : S.length ≤ 3) : (nl n 0 S).length ≤ 808 := by
  rw [← nb_so h]
  have := nb_len (n := n) (Nat.le_trans hn (by decide)) (srt S) 0 (fun x hx => by
    have := h.wn x (srt_mem.mp hx)
    omega)
  rw [srt_len] at this
  have : 202 * (S.length + 1) ≤ 808 := by omega
  omega
/-- what is needed, in any sequence -/
theorem lack_none61 {n : Nat} {S Z : List (Nat × Nat)} (h : So n 0 S) (hz : Z.Perm (nl n 0 S)) : nb n 0 (srt (S ++ Z)) = [] := by
  rw [due_some h.wn fun y hy => nl_mem61 h (hz.mem_iff.mp hy), nb_so h]
  refine List.filter_eq_nil_iff.mpr fun x hx => ?_
  rw [decide_eq_false fun k => k (hz.mem_iff.mpr hx)]
  exact Bool.false_ne_true
theorem wn61 {n : Nat} {W : List (Nat × Nat)} (h : ∀ x ∈ W, isN n x) : Wn n W := nodes_wn h
theorem root61 {n : Nat} (n1 : 1 ≤ n) {L : List (Nat × Nat)} (hL : Wn n L) : jn (srt L) = [(0, n)] ↔ nb n 0 (srt L) = [] := (jn_cov n1 hL).trans (nb_nil_iff hL).symm
theorem without61 : ∀ {l : List (Nat × Nat)}, l.Nodup → ∀ {i : Nat} {x : Nat × Nat}, l[i]? = some x → (l.filter fun y => decide (y ∉ l.take i ++ l.drop (i + 1))) = [x]
  | [], _, i, x, h => by simp at h
  | a :: l, hd, 0, x, h => by
    have h : a = x := Option.some.inj h
    subst h
    obtain ⟨h1, h2⟩ := List.nodup_cons.mp hd
    show ((a :: l).filter fun y => decide (y ∉ l)) = [a]
    rw [List.filter_cons, if_pos (decide_eq_true h1)]
    congr 1
    refine List.filter_eq_nil_iff.mpr fun y hy => ?_
    rw [decide_eq_false fun k => k hy]
    exact Bool.false_ne_true
  | a :: l, hd, i + 1, x, h => by
    have h : l[i]? = some x := h
    obtain ⟨h1, h2⟩ := List.nodup_cons.mp hd
    have ih := without61 h2 h
    show ((a :: l).filter fun y => decide (y ∉ a :: (l.take i ++ l.drop (i + 1)))) = [x]
    rw [List.filter_cons_of_neg (by simp), ← ih]
    refine List.filter_congr fun y hy => ?_
    have ya : y ≠ a := fun z => h1 (z ▸ hy)
    rw [decide_eq_decide]
    simp [ya]
theorem up_nodup61 : ∀ {lo : Nat} {l : List (Nat × Nat)}, Up lo l → l.Nodup := fun {lo l} h => by
  have p := h.pair
  have m := h.mem
  refine List.Pairwise.imp_of_mem ?_ p
  intro x y hx hy k e
  subst e
  have := (m x hx).2
  omega
theorem rest61 {l : List (Nat × Nat)} {i : Nat} {x : Nat × Nat} (h : l[i]? = some x) {y : Nat × Nat} : y ∈ l ↔ y = x ∨ y ∈ l.take i ++ l.drop (i + 1) := by
  have il := (List.getElem?_eq_some_iff.mp h).1
  have e : l = l.take i ++ x :: l.drop (i + 1) := by
    have := List.getElem_cons_drop il
    have hx : l[i] = x := (List.getElem?_eq_some_iff.mp h).2
    rw [← hx, this, List.take_append_drop]
  constructor
  · intro hy
    rw [e] at hy
    rcases List.mem_append.mp hy with hy | hy
    · exact .inr (List.mem_append_left _ hy)
    · rcases List.mem_cons.mp hy with hy | hy
      · exact .inl hy
      · exact .inr (List.mem_append_right _ hy)
  · rintro (rfl | hy)
    · exact List.mem_of_getElem? h
    · rcases List.mem_append.mp hy with hy | hy
      · exact List.mem_of_mem_take hy
      · exact List.mem_of_mem_drop hy
/-- with one less, just this one lacks -/
theorem lack_one61 {n : Nat} {S : List (Nat × Nat)} (h : So n 0 S) {i : Nat} {x : Nat × Nat} (hx : (nl n 0 S)[i]? = some x) : nb n 0 (srt (S ++ ((nl n 0 S).take i ++ (nl n 0 S).drop (i + 1)))) = [x] := by
  rw [due_some h.wn fun y hy => nl_mem61 h ((rest61 hx).mpr (.inr hy)), nb_so h]
  exact without61 (up_nodup61 (nl_up S 0 h)) hx
/-- halves in its place -/
theorem cov_parts61 {n : Nat} {S : List (Nat × Nat)} (h : So n 0 S) {i c : Nat} {x : Nat × Nat} (hx : (nl n 0 S)[i]? = some x) (h1 : x.1 < c) (h2 : c < x.2) (hn : ∀ y ∈ nl n 0 S, isN n y) :
    nb n 0 (srt (S ++ (((nl n 0 S).take i ++ (nl n 0 S).drop (i + 1)) ++ [(x.1, c), (c, x.2)]))) = [] := by
  have xm := List.mem_of_getElem? hx
  have x2 := isN_tree (n := n) (b := x.1) (e := x.2) (hn x xm)
  have wR : Wn n ((nl n 0 S).take i ++ (nl n 0 S).drop (i + 1)) := wn61 fun y hy => hn y ((rest61 hx).mpr (.inr hy))
  have wT : Wn n (S ++ (((nl n 0 S).take i ++ (nl n 0 S).drop (i + 1)) ++ [(x.1, c), (c, x.2)])) := h.wn.app (wR.app fun y hy => by
    rcases List.mem_cons.mp hy with rfl | hy
    · exact ⟨h1, by show c ≤ n; omega⟩
    · rw [List.mem_singleton.mp hy]
      exact ⟨h2, x2.2.1⟩)
  have w0 : Wn n (S ++ nl n 0 S) := h.wn.app (wn61 hn)
  refine (nb_nil_iff wT).mpr fun j hj => ?_
  have k := (nb_nil_iff w0).mp (lack_none61 h (.refl _)) j hj
  rcases cov_app.mp k with k | ⟨s, hs, k1, k2⟩
  · exact cov_app.mpr (.inl k)
  · refine cov_app.mpr (.inr (cov_app.mpr ?_))
    rcases (rest61 hx).mp hs with rfl | hs
    · by_cases jc : j < c
      · exact .inr ⟨(s.1, c), List.mem_cons_self, k1, jc⟩
      · exact .inr ⟨(c, s.2), List.mem_cons_of_mem _ (List.mem_singleton_self _), by show c ≤ j; omega, k2⟩
    · exact .inl ⟨s, hs, k1, k2⟩
theorem parts_ne61 {l : List (Nat × Nat)} {i : Nat} {x a b : Nat × Nat} (hx : l[i]? = some x) : srt ((l.take i ++ l.drop (i + 1)) ++ [a, b]) ≠ l := fun z => by
  have il := (List.getElem?_eq_some_iff.mp hx).1
  have := congrArg List.length z
  rw [srt_len, List.length_append, List.length_append, List.length_take, List.length_drop] at this
  simp only [List.length_cons, List.length_nil] at this
  omega
end LT

namespace LT
open PySem PySem.Spec PyProof.Rows L2
/-- the digits 1 -/
def ones (n : Nat) : Nat := if h : n = 0 then 0 else n % 2 + ones (n / 2)
termination_by n
decreasing_by omega
theorem ones_zero : ones 0 = 0 := by rw [ones]; rfl
theorem ones_step (n : Nat) : ones n = n % 2 + ones (n / 2) := by
  by_cases h : n = 0
  · subst h; rw [Nat.zero_mod, Nat.zero_div, ones_zero]
  · rw [ones, dif_neg h]
theorem ones_one : ones 1 = 1 := by rw [ones_step]; show 1 + ones 0 = 1; rw [ones_zero]
theorem ones_dbl (n : Nat) : ones (2 * n) = ones n := by rw [ones_step, Nat.mul_mod_right, Nat.zero_add, Nat.mul_div_cancel_left _ (by decide)]
theorem ones_dbl1 (n : Nat) : ones (2 * n + 1) = ones n + 1 := by
  rw [ones_step, show (2 * n + 1) % 2 = 1 by omega, show (2 * n + 1) / 2 = n by omega]; omega
theorem ones_pos {n : Nat} (h : 1 ≤ n) : 1 ≤ ones n := by
  induction n using Nat.strongRecOn with
  | ind n ih =>
    rw [ones_step]
    by_cases c : n % 2 = 1
    · omega
    · have := ih (n / 2) (by omega) (by omega)
      omega
theorem ones_split : ∀ (i a r : Nat), r < 2 ^ i → ones (2 ^ i * a + r) = ones a + ones r
  | 0, a, r, h => by
    have : r = 0 := by simp at h; omega
    subst this
    rw [Nat.pow_zero, Nat.one_mul, Nat.add_zero, ones_zero, Nat.add_zero]
  | i + 1, a, r, h => by
    rw [Nat.pow_succ] at h
    have e : 2 ^ (i + 1) * a + r = 2 * (2 ^ i * a + r / 2) + r % 2 := by
      rw [Nat.pow_succ, Nat.mul_right_comm]
      omega
    have ih := ones_split i a (r / 2) (by omega)
    have s := ones_step r
    have c : r % 2 = 0 ∨ r % 2 = 1 := by omega
    rcases c with c | c
    · rw [e, c, Nat.add_zero, ones_dbl, ih]; omega
    · rw [e, c, ones_dbl1, ih]; omega
theorem ones_pow (i : Nat) : ones (2 ^ i) = 1 := by
  have := ones_split i 1 0 (Nat.pow_pos (by decide))
  rw [Nat.mul_one, Nat.add_zero, ones_one, ones_zero] at this
  exact this
theorem ones_le (i n : Nat) (h : n < 2 ^ i) : ones n ≤ i := by
  induction i generalizing n with
  | zero => have : n = 0 := by simp at h; omega
            subst this; rw [ones_zero]; exact Nat.le_refl _
  | succ i ih =>
    rw [Nat.pow_succ] at h
    have := ih (n / 2) (by omega)
    rw [ones_step]
    omega
theorem ones_le_self (n : Nat) : ones n ≤ n := by
  induction n using Nat.strongRecOn with
  | ind n ih =>
    by_cases c : n = 0
    · subst c; rw [ones_zero]; exact Nat.le_refl _
    · have := ih (n / 2) (by omega)
      rw [ones_step]
      omega
theorem pk_ones : ∀ (i n b : Nat), (pk i n b).length = ones (n % 2 ^ i)
  | 0, n, b => by rw [Nat.pow_zero, Nat.mod_one, ones_zero]; rfl
  | i + 1, n, b => by
    rw [mod_succ]
    have ml := Nat.mod_lt n (Nat.pow_pos (a := 2) (n := i) (by decide))
    by_cases t : n.testBit i = true
    · show (if n.testBit i = true then (b, i) :: pk i n (b + 2 ^ i) else pk i n b).length = _
      rw [if_pos t, if_pos t, List.length_cons, pk_ones i n _]
      have := ones_split i 1 (n % 2 ^ i) ml
      rw [Nat.mul_one, ones_one] at this
      omega
    · show (if n.testBit i = true then (b, i) :: pk i n (b + 2 ^ i) else pk i n b).length = _
      rw [if_neg t, if_neg t, pk_ones i n _, Nat.zero_add]
end LT

namespace LT
open PySem PySem.Spec PyProof.Rows L2
theorem ne_no {x y : V} (h : x = y) : V.bl (!decide (x = y)) = V.bl false := by rw [decide_eq_true h]; rfl
section
variable {P : Program} {w : World} {K : PySem.W.Frag} {mg : Str → Option Value} {base : Heap}
def spOnes : Sp := fun vs H Q _ => ∃ (n : Nat), vs = [.int n] ∧ n < 2 ^ 200 ∧ Q (.int ((ones n : Nat) : Int)) H
theorem ok_law_ones {f : Addr} {fd : FuncData} (F : Fun K "_law_ones" "_law_ones" sLawOnes f fd) : FnOk P w K mg base CX0 1 f fd ["number"] spOnes := by
  refine F.ok scLawOnes (fun vs H Q E h => ?_) (fun cdv A outer s H vs Q E hr h => ?_)
  · obtain ⟨_, rfl, _⟩ := h
    rfl
  obtain ⟨n, rfl, hn, q⟩ := h
  refine ⟨_, (pss_cons (ps_set (i := 1) scLawOnes.nd rfl (Or.inl rfl) pe_int)
    (pss_cons (ps_while PassesOwn.never (pt_cmpR op_gt (pv 0) pe_int (nomark _))
    (pss_one (ps_par (i := 1) (j := 0) (by rfl) scLawOnes.nd rfl rfl (by decide) rfl rfl (pa_cons (pe_op op_add (pv 1) (pe_op op_modN (pv 0) pe_int)) (pa_cons (pe_op op_fdivW (pv 0) pe_int) pa_nil)) (by rfl))))
    (pss_one (ps_ret (pv 1))))), ?_⟩
  refine ⟨fun mu σ H' => ∃ (d l : Nat), σ = [some (.int (l : Int)), some (.int (d : Int))] ∧ H' = H ∧ d + ones l = ones n ∧ l ≤ n ∧ mu = l + 0, ⟨n, 0, n, rfl, rfl, Nat.zero_add _, Nat.le_refl _, rfl⟩, ?_⟩
  rintro m σ H1 ⟨d, l, rfl, rfl, hd, hl, hm⟩
  refine ⟨_, rfl, _, _, rfl, rfl, _, rfl, ite2 (fun c1 => ?_) (fun c1 => ?_)⟩
  · have c2 : (l : Int) > 0 := of_decide_eq_true c1
    have st := ones_step l
    have dv : CDivW (l : Int) 2 := ⟨by decide, by decide⟩
    refine ⟨_, fun σ' H' h => h, _, rfl, _, rfl, _, _, rfl, rfl, (by show (2 : Int) ≠ 0; decide), _, _, rfl, rfl, _, rfl, _, _, rfl, rfl, dv, _, _, rfl, ?_⟩
    have e1 : (d : Int) + (l : Int).fmod 2 = ((d + l % 2 : Nat) : Int) := by
      rw [Int.fmod_eq_emod_of_nonneg _ (by decide)]
      omega
    have e2 : (l : Int) / 2 = ((l / 2 : Nat) : Int) := by omega
    refine ⟨l / 2, by omega, d + l % 2, l / 2, ?_, rfl, by omega, by omega, rfl⟩
    rw [← e1, ← e2]
    rfl
  · have c2 : l = 0 := by
      have : ¬ (l : Int) > 0 := of_decide_eq_false (Bool.eq_false_iff.mpr c1)
      omega
    subst c2
    rw [ones_zero, Nat.add_zero] at hd
    rw [← hd] at q
    exact ⟨_, rfl, q⟩
end
end LT

namespace LT
open PySem PySem.Spec PyProof.Rows L2
theorem ol_isN61 {n e : Nat} (h1 : 1 ≤ e) (h2 : e ≤ n) (h30 : n ≤ 10 ^ 30) (x : Nat × Nat) (hx : x ∈ ol n e) : isN n x := by
  by_cases he : e = n
  · unfold ol at hx
    rw [if_pos he] at hx
    cases hx
  · unfold ol at hx
    rw [if_neg he] at hx
    have b30 : (10 : Nat) ^ 30 < 2 ^ 101 := by decide
    have em : 0 + e % 2 ^ 101 = e := by rw [Nat.mod_eq_of_lt (by omega), Nat.zero_add]
    rcases List.mem_append.mp hx with k | k
    · have k2 : x ∈ (pk 101 e 0).map full := by
        by_cases c : (pk 101 e 0).length = 1
        · rw [if_pos c] at k; cases k
        · rw [if_neg c] at k; exact k
      exact ((pk_ch (n := n) (e := e) (by omega) 101 0 (Nat.dvd_zero _) em).mem x k2).1
    · exact ((nw_ch (n := n) (e := n) (Nat.le_refl _) e (by omega)).mem x k).1
theorem ol_len61 {n e : Nat} (h : n ≤ 2 ^ 100) : (ol n e).length ≤ 303 := by
  unfold ol
  split
  · exact Nat.zero_le _
  · have a := nw_len (n := n) (b := e) (e := n) h
    have b := pk_len 101 e 0
    split
    · rw [List.nil_append]; omega
    · rw [List.length_append, List.length_map]; omega
theorem sib_isN61 {n : Nat} : ∀ (m b e : Nat), 1 ≤ m → tree n b m → b + m ≤ n → ∀ x ∈ sib b m e, isN n x := by
  intro m
  induction m using Nat.strongRecOn with
  | _ m ih =>
    intro b e m1 t hn x hx
    by_cases h : m ≤ 1
    · rw [sib_one h] at hx
      cases hx
    · have h2 : 2 ≤ m := by omega
      have g1 := gp_lt h2
      have g3 := gp_pos m
      by_cases c : e < b + gp m
      · rw [sib_low h2 c] at hx
        rcases List.mem_cons.mp hx with rfl | hx
        · exact half_high_isN h2 t hn
        · exact ih (gp m) g1 b e g3 (tree_low h2 t) (by omega) x hx
      · rw [sib_high h2 c] at hx
        rcases List.mem_cons.mp hx with rfl | hx
        · exact half_low_isN h2 t hn
        · exact ih (m - gp m) (by omega) (b + gp m) e (by omega) (tree_high h2 t) (by omega) x hx
theorem sib_len61 {n e : Nat} (he : e < n) (h30 : n ≤ 10 ^ 30) : (sib 0 n e).length ≤ 101 := by
  have := sib_len_le n 0 e (Nat.zero_le _) (by omega)
  have h : lb n ≤ 101 := by
    unfold lb
    split
    · omega
    · rename_i c
      have := (Nat.log2_lt (n := n - 1) (k := 100) (by omega)).mpr (Nat.lt_of_le_of_lt (show n - 1 ≤ 10 ^ 30 by omega) (by decide))
      omega
  omega
theorem nTx_inj {x y : Nat × Nat} (h : nTx x = nTx y) : x = y := by
  have a := nTx_part x
  rw [h, nTx_part y] at a
  have h1 := dg_inj (Prod.mk.inj a).1
  have h2 := dg_inj (Prod.mk.inj (Prod.mk.inj a).2).2
  exact (Prod.ext h1 h2).symm
theorem map_inj61 {α β : Type} {f : α → β} (h : ∀ {x y}, f x = f y → x = y) : ∀ {l k : List α}, l.map f = k.map f → l = k
  | [], [], _ => rfl
  | [], _ :: _, e => by cases e
  | _ :: _, [], e => by cases e
  | a :: l, b :: k, e => by
    have e1 := (List.cons.inj e).1
    have e2 := (List.cons.inj e).2
    rw [h e1, map_inj61 h e2]
theorem nTxs_inj {l k : List (Nat × Nat)} (h : nTxs l = nTxs k) : l = k := by
  by_cases hl : l = []
  · subst hl
    rw [nTxs_nil] at h
    exact (nTxs_ne h.symm).symm
  · by_cases hk : k = []
    · subst hk
      rw [nTxs_nil] at h
      exact nTxs_ne h
    · have a := nTxs_split hl
      rw [h, nTxs_split hk] at a
      exact map_inj61 nTx_inj a.symm
theorem ones_none61 (n : Nat) (h : ones n = 0) : n = 0 := by
  induction n using Nat.strongRecOn with
  | _ n ih =>
    by_cases z : n = 0
    · exact z
    · rw [ones_step] at h
      have := ih (n / 2) (by omega) (by omega)
      omega
theorem ones_one61 (n : Nat) (h : ones n = 1) : ∃ k, n = 2 ^ k := by
  induction n using Nat.strongRecOn with
  | _ n ih =>
    have hs := ones_step n
    rw [h] at hs
    by_cases c : n % 2 = 0
    · have nz : n ≠ 0 := fun z => by
        rw [z, ones_zero] at h
        cases h
      obtain ⟨k, hk⟩ := ih (n / 2) (by omega) (by omega)
      exact ⟨k + 1, by rw [Nat.pow_succ]; omega⟩
    · have := ones_none61 (n / 2) (by omega)
      exact ⟨0, by show n = 1; omega⟩
theorem lb_pow61 (k : Nat) : lb (2 ^ k) = k := by
  unfold lb
  have p := Nat.pow_pos (n := k) (show 0 < 2 by decide)
  split
  · rename_i c
    cases k with
    | zero => rfl
    | succ k =>
      have := Nat.pow_pos (n := k) (show 0 < 2 by decide)
      rw [Nat.pow_succ] at c
      omega
  · rename_i c
    have h : Nat.log2 (2 ^ k - 1) = k - 1 := by
      cases k with
      | zero => exact absurd (Nat.le_refl 1) c
      | succ k =>
        have := Nat.pow_pos (n := k) (show 0 < 2 by decide)
        refine (Nat.log2_eq_iff (by rw [Nat.pow_succ]; omega)).mpr ⟨?_, ?_⟩
        · rw [Nat.pow_succ, Nat.add_sub_cancel]; omega
        · rw [Nat.add_sub_cancel]; omega
    rw [h]
    cases k with
    | zero => exact absurd (Nat.le_refl 1) c
    | succ k => rfl
theorem full_more61 {n : Nat} {x : Nat × Nat} (h : isN n x) (k : ones (x.2 - x.1) = 1) : isN (n + 1) x := by
  obtain ⟨a, b, c, d⟩ := h
  obtain ⟨j, hj⟩ := ones_one61 _ k
  refine ⟨a, by omega, c, .inl ?_⟩
  rw [hj, lb_pow61]
theorem bools_lay61 : ∀ bs : List Bool, PyData.canLayAll0 (bs.map PyData.bool) = true
  | [] => by simp [PyData.canLayAll0]
  | b :: bs => by simp [PyData.canLayAll0, PyData.canLay0, bools_lay61 bs]
theorem bools_depth61 : ∀ bs : List Bool, PyData.depthAll (bs.map PyData.bool) ≤ 1
  | [] => by simp [PyData.depthAll]
  | b :: bs => by
    have := bools_depth61 bs
    simp only [List.map_cons, PyData.depthAll, PyData.depth]
    omega
theorem bools_shaped61 (bs : List Bool) : SeqAt.shaped (.list (bs.map PyData.bool)) = true := by
  have h := bools_depth61 bs
  have h2 : PyData.depth (.list (bs.map PyData.bool)) ≤ 64 := by
    simp only [PyData.depth]
    omega
  show (PyData.canLay0 (.list (bs.map PyData.bool)) && decide (PyData.depth (.list (bs.map PyData.bool)) ≤ 64)) = true
  rw [Bool.and_eq_true]
  exact ⟨by simp only [PyData.canLay0]; exact bools_lay61 bs, decide_eq_true h2⟩
theorem bools_refl61 (bs : List Bool) : PyData.eqv (.list (bs.map PyData.bool)) (.list (bs.map PyData.bool)) = true := by
  have h : ∀ bs : List Bool, PyData.eqvAll (bs.map PyData.bool) (bs.map PyData.bool) = true := by
    intro bs
    induction bs with
    | nil => simp [PyData.eqvAll]
    | cons b bs ih => cases b <;> simp [PyData.eqvAll, PyData.eqv, ih]
  simp only [PyData.eqv]
  exact h bs
end LT

namespace LT
open PySem PySem.Spec PyProof.Rows L2
theorem Nd.but61 {b : Addr} {H H' : Hp} {v : V} {x : Nat × Nat} (h : Nd H v x) (B : But b H H') (hb : BagAt H b) : Nd H' v x := by
  obtain ⟨p, e, hp⟩ := h
  refine ⟨p, e, B p _ (fun z => ?_) hp⟩
  obtain ⟨_, _, _, k⟩ := hb
  rw [← z, hp] at k
  cases k
theorem nds_ne61 {H : Hp} {p b : Addr} {xs : List V} {S : List (Nat × Nat)} (h : H p = some (.lst xs)) (k : All2 (Nd H) xs S) (hb : BagAt H b) : p ≠ b := fun z => by
  obtain ⟨x, y, z', e⟩ := hb
  rw [z, e] at h
  have h := HO.lst.inj (Option.some.inj h)
  subst h
  cases k with
  | cons hd _ =>
    obtain ⟨t, e, _⟩ := hd
    cases e
/-- one continuation for both ways of an if -/
theorem two_ways {T : Hp → Prop} {G : Prop} {H : Hp} (k : (∀ Hx, Same H Hx → T Hx) → G) (h : ∀ Hx, Same H Hx → T Hx) : G := k h
def HvAt (H : Hp) (pv : V) (b m : Nat) : Prop := (m = 1 ∧ pv = .non) ∨ (2 ≤ m ∧ ∃ (q : Addr) (l h : V), pv = .ref q ∧ H q = some (.tup [l, h]) ∧ Nd H l (b, b + gp m) ∧ Nd H h (b + gp m, b + m))
theorem HvAt.same {H H' : Hp} {pv : V} {b m : Nat} (h : HvAt H pv b m) (s : Same H H') : HvAt H' pv b m := by
  rcases h with ⟨e, k⟩ | ⟨e, q, l, h, k, a, b, c⟩
  · exact .inl ⟨e, k⟩
  · exact .inr ⟨e, q, l, h, k, s _ _ a, b.same s, c.same s⟩
def spHalvesJ : Sp := fun vs H Q _ => ∃ (n b m : Nat) (v : V), vs = [.int n, v] ∧ Nd H v (b, b + m) ∧ 1 ≤ m ∧ b + m ≤ n ∧ n ≤ 10 ^ 30 ∧ tree n b m ∧ ∀ (H' : Hp) (pv : V), Same H H' → HvAt H' pv b m → Q pv H'
section
variable {P : Program} {w : World} {K : PySem.W.Frag} {mg : Str → Option Value} {base : Heap}
theorem halves_J {k : Nat} {f : Addr} {fd : FuncData} (F : FnOk P w K mg base CX0 k f fd ["size", "node"] spHalvesL) : FnOk P w K mg base CX0 k f fd ["size", "node"] spHalvesJ :=
  F.imp fun vs H Q E h => by
    obtain ⟨n, b, m, v, rfl, hv, hm, hn, h30, ht, q⟩ := h
    exact ⟨n, b, m, v, rfl, hv, hm, hn, h30, ht, fun e => q H .non (Same.refl _) (.inl ⟨e, rfl⟩), fun e H' qa l h s _ hq hl hh => q H' (.ref qa) s (.inr ⟨e, qa, l, h, rfl, hq, hl, hh⟩)⟩
def spPaper : Sp := fun vs H Q _ => ∃ (bg p1 p2 : Addr) (n : Nat) (xs ys : List V) (S : List (Nat × Nat)), vs = [.ref bg, .int n, .ref p1, .ref p2] ∧ BagAt H bg ∧ 1 ≤ n ∧ n ≤ 10 ^ 30 ∧ H p1 = some (.lst xs) ∧ All2 (Nd H) xs S ∧ 1 ≤ S.length ∧ S.length ≤ 3 ∧ So n 0 S ∧
  H p2 = some (.lst ys) ∧ All2 (Nd H) ys (nl n 0 S) ∧ ∀ H', But bg H H' → BagAt H' bg → Q (.bl true) H'
theorem ok_law_paper_right {f g1 g2 g3 g4 g5 g6 g7 g8 : Addr} {fd d1 d2 d3 d4 d5 d6 d7 d8 : FuncData} (F : Fun K "_law_paper_right" "_law_paper_right" sLawPaperRight f fd)
    (GLawPick : FnOk P w K mg base CX0 1 g1 d1 ["bag", "many"] spPick) (ALawPick : At K mg "_law_pick" g1 d1 ["bag", "many"])
    (GLawMixed : FnOk P w K mg base CX0 2 g2 d2 ["bag", "items"] spMixed) (ALawMixed : At K mg "_law_mixed" g2 d2 ["bag", "items"])
    (GShowNodes : FnOk P w K mg base CX0 5 g3 d3 ["size", "nodes"] spShow) (AShowNodes : At K mg "show_nodes" g3 d3 ["size", "nodes"])
    (GReadNodes : FnOk P w K mg base CX0 4 g4 d4 ["size", "text"] spRead) (AReadNodes : At K mg "read_nodes" g4 d4 ["size", "text"])
    (GShowsNeeded : FnOk P w K mg base CX0 7 g5 d5 ["size", "spans", "value"] spShows) (AShowsNeeded : At K mg "shows_needed" g5 d5 ["size", "spans", "value"])
    (GServes : FnOk P w K mg base CX0 7 g6 d6 ["size", "spans", "nodes"] spServes) (AServes : At K mg "serves" g6 d6 ["size", "spans", "nodes"])
    (GLacking : FnOk P w K mg base CX0 6 g7 d7 ["size", "spans", "nodes"] spLack) (ALacking : At K mg "lacking" g7 d7 ["size", "spans", "nodes"])
    (GHalves : FnOk P w K mg base CX0 5 g8 d8 ["size", "node"] spHalvesJ) (AHalves : At K mg "halves" g8 d8 ["size", "node"])
    (z_sorted : mg "sorted" = none) (z_len : mg "len" = none) (z_list : mg "list" = none) : FnOk P w K mg base CX0 8 f fd ["bag", "many", "spans", "paper"] spPaper := by
  refine F.ok scLawPaperRight (fun vs H Q E h => ?_) (fun cdv A outer s H vs Q E hr h => ?_)
  · obtain ⟨_, _, _, _, _, _, _, rfl, _⟩ := h
    rfl
  obtain ⟨bg, p1, p2, n, xs, ys, S, rfl, hb, n1, h30, hp1, hx, l1, l3, hS, hp2, hy, q⟩ := h
  refine ⟨_, (pss_cons (ps_set (i := 4) scLawPaperRight.nd rfl (Or.inl rfl) (pe_call GReadNodes (hr.mono (by decide)) rfl AReadNodes.m AReadNodes.kp AReadNodes.b .nil pass0 (pa_cons (pv 1) (pa_cons (pe_call GShowNodes (hr.mono (by decide)) rfl AShowNodes.m AShowNodes.kp AShowNodes.b .nil pass0 (pa_cons (pv 1) (pa_cons (pe_call GLawMixed (hr.mono (by decide)) rfl ALawMixed.m ALawMixed.kp ALawMixed.b .nil pass0 (pa_cons (pv 0) (pa_cons (pv 3) pa_nil))) pa_nil))) pa_nil))))
    (pss_cons (ps_if (PW.pt (pw_or (pt_cmpR (op_neD hr.units) (pe_callB cr_sortedPO (by rfl) z_sorted (by decide +kernel) (pa_cons (pv 4) pa_nil)) (pv 3) (nomark _)) (pw_or1 (pt_not (pt_val (pe_call GShowsNeeded (hr.mono (by decide)) rfl AShowsNeeded.m AShowsNeeded.kp AShowsNeeded.b .nil pass0 (pa_cons (pv 1) (pa_cons (pv 2) (pa_cons (pv 4) pa_nil)))))))))
    (pss_one (ps_ret pe_bl))
    pss_nil)
    (pss_cons (ps_if (PW.pt (pw_or (pt_cmpR (op_eqD hr.units) (pv 3) (pe_lst pa_nil) (nomark _)) (pw_or1 (pt_cmpR op_gt (pe_callB call_len_seq (by rfl) z_len PySem.boot_len (pa_cons (pv 3) pa_nil)) pe_int (nomark _)))))
    (pss_one (ps_ret pe_bl))
    pss_nil)
    (pss_cons (ps_if (PW.pt (pw_or (pt_not (pt_val (pe_call GServes (hr.mono (by decide)) rfl AServes.m AServes.kp AServes.b .nil pass0 (pa_cons (pv 1) (pa_cons (pv 2) (pa_cons (pv 4) pa_nil)))))) (pw_or1 (pt_cmpR (op_neD hr.units) (pe_call GLacking (hr.mono (by decide)) rfl ALacking.m ALacking.kp ALacking.b .nil pass0 (pa_cons (pv 1) (pa_cons (pv 2) (pa_cons (pv 4) pa_nil)))) (pe_lst pa_nil) (nomark _)))))
    (pss_one (ps_ret pe_bl))
    pss_nil)
    (pss_cons (ps_set (i := 5) scLawPaperRight.nd rfl (Or.inl rfl) (pe_call GLawPick (hr.mono (by decide)) rfl ALawPick.m ALawPick.kp ALawPick.b .nil pass0 (pa_cons (pv 0) (pa_cons (pe_callB call_len_seq (by rfl) z_len PySem.boot_len (pa_cons (pv 3) pa_nil)) pa_nil))))
    (pss_cons (ps_par (i := 6) (j := 7) (by rfl) scLawPaperRight.nd rfl rfl (by decide) rfl rfl (pa_cons (pe_op op_cat (pe_slice sl_list (pv 3) po_none (po_some (pv 5))) (pe_slice sl_list (pv 3) (po_some (pe_op op_add (pv 5) pe_int)) po_none)) (pa_cons (pe_call GHalves (hr.mono (by decide)) rfl AHalves.m AHalves.kp AHalves.b .nil pass0 (pa_cons (pv 1) (pa_cons (pe_ix ix_list (pv 3) (pv 5) (fun _ _ => rfl)) pa_nil))) pa_nil)) (by rfl))
    (pss_cons (ps_if (PW.pt (pw_and (pt_cmpR (op_neD hr.units) (pv 6) (pe_lst pa_nil) (nomark _)) (pw_and1 (pt_val (pe_call GServes (hr.mono (by decide)) rfl AServes.m AServes.kp AServes.b .nil pass0 (pa_cons (pv 1) (pa_cons (pv 2) (pa_cons (pv 6) pa_nil))))))))
    (pss_one (ps_ret pe_bl))
    pss_nil)
    (pss_cons (ps_if (PW.pt (pw_and (pt_cmpR (op_neD hr.units) (pv 6) (pe_lst pa_nil) (nomark _)) (pw_and1 (pt_cmpR (op_neD hr.units) (pe_call GLacking (hr.mono (by decide)) rfl ALacking.m ALacking.kp ALacking.b .nil pass0 (pa_cons (pv 1) (pa_cons (pv 2) (pa_cons (pv 6) pa_nil)))) (pe_lst (pa_cons (pe_ix ix_list (pv 3) (pv 5) (fun _ _ => rfl)) pa_nil)) (nomark _)))))
    (pss_one (ps_ret pe_bl))
    pss_nil)
    (pss_cons (ps_if (pt_cmpR op_isN (pv 7) pe_non (nomark _))
    (pss_one (ps_ret pe_bl))
    pss_nil)
    (pss_one (ps_ret (pe_and (pe_call GServes (hr.mono (by decide)) rfl AServes.m AServes.kp AServes.b .nil pass0 (pa_cons (pv 1) (pa_cons (pv 2) (pa_cons (pe_op op_cat (pv 6) (pe_callTy call_list_of (by rfl) z_list (by decide +kernel) (pa_cons (pv 7) pa_nil))) pa_nil)))) (pe_one (pe_not (pe_call GShowsNeeded (hr.mono (by decide)) rfl AShowsNeeded.m AShowsNeeded.kp AShowsNeeded.b .nil pass0 (pa_cons (pv 1) (pa_cons (pv 2) (pa_cons (pe_op op_cat (pv 6) (pe_callTy call_list_of (by rfl) z_list (by decide +kernel) (pa_cons (pv 7) pa_nil))) pa_nil)))))))))))))))))), ?_⟩
  have hN : ∀ y ∈ nl n 0 S, isN n y := fun y hy => (nl_mem61 hS hy).1
  have hD : ∀ y ∈ nl n 0 S, meets y S = false := fun y hy => (nl_mem61 hS hy).2.1
  have lN := nl_len61 hS h30 l3
  have hsrt : srt (nl n 0 S) = nl n 0 S := (nl_up S 0 hS).srt
  have lack1 := fun (Z : List (Nat × Nat)) => lack_none61 (Z := Z) hS
  have lack2 := fun (i : Nat) (x : Nat × Nat) => lack_one61 (i := i) (x := x) hS
  have lack3 := fun (i c : Nat) (x : Nat × Nat) (h : (nl n 0 S)[i]? = some x) (h1 : x.1 < c) (h2 : c < x.2) => cov_parts61 hS h h1 h2 hN
  have yl := hy.len
  have p1b := nds_ne61 hp1 hx hb
  have p2b := nds_ne61 hp2 hy hb
  refine ⟨_, rfl, _, rfl, _, rfl, _, rfl, bg, p2, ys, nl n 0 S, rfl, hb, hp2, hy, by omega, fun H1 r1 zs1 Z1 B1 hb1 nr1 hr1 hz1 pm1 => ?_⟩
  have zl1 : Z1.length = (nl n 0 S).length := pm1.length_eq
  have zN : ∀ y ∈ Z1, isN n y := fun y hy => hN y (pm1.mem_iff.mp hy)
  refine ⟨n, r1, zs1, Z1, rfl, n1, h30, hr1, hz1, by omega, zN, fun H2 s2 => ?_⟩
  refine ⟨n, Z1, rfl, n1, h30, by omega, zN, fun H3 r3 zs3 s3 nr3 hr3 hz3 => ?_⟩
  have B3 := B1.trans (But.of (s2.trans s3))
  have hb3 := hb1.same (s2.trans s3)
  have hp13 := B3 _ _ p1b hp1
  have hp23 := B3 _ _ p2b hp2
  have hx3 := hx.mono fun v x (k : Nd H v x) => k.but61 B3 hb
  have hy3 := hy.mono fun v x (k : Nd H v x) => k.but61 B3 hb
  clear hr1 hz1 nr1 hb1 B1 s2 s3 nr3
  refine ⟨_, rfl, r3, zs3, kOf H3, rfl, SqL.of hr3, fun x hm => ?_, fun zs' so hs1 hs2 nso => ?_⟩
  · obtain ⟨y, _, pa, rfl, hpa⟩ := hz3.mem hm
    exact ⟨pa, rfl, by rw [hpa]; simp only [kOf, hpa]⟩
  have s4 := same_upd (o := .lst zs') nso
  have es : srt Z1 = nl n 0 S := (srt_eq pm1).trans hsrt
  have hz4 := (sorted_srt hz3 hs1 hs2.perm).mono (fun v x (k : Nd H3 v x) => k.same s4)
  rw [es] at hz4
  refine ⟨_, rfl, _, _, lst_dp upd_same hz4, lst_dp (s4 _ _ hp23) (hy3.mono fun v x (k : Nd H3 v x) => k.same s4), nds_shaped _, nds_shaped _, ?_⟩
  rw [nds_eqv, decide_eq_true rfl]
  refine ⟨false, rfl, ?_⟩
  have hp14 := s4 _ _ hp13
  have hp24 := s4 _ _ hp23
  have hr4 := s4 _ _ hr3
  have hx4 := hx3.mono fun v x (k : Nd H3 v x) => k.same s4
  have hy4 := hy3.mono fun v x (k : Nd H3 v x) => k.same s4
  have hz5 := hz3.mono fun v x (k : Nd H3 v x) => k.same s4
  have B4 := B3.trans (But.of s4)
  have hb4 := hb3.same s4
  generalize upd H3 so (.lst zs') = H4 at hp14 hp24 hr4 hx4 hy4 hz5 B4 hb4 ⊢
  clear hz4 hp13 hp23 hr3 hx3 hy3 hz3 s4 hs1 hs2 nso B3 hb3
  refine ⟨_, rfl, _, rfl, _, rfl, n, p1, r3, xs, zs3, S, Z1, rfl, n1, h30, hp14, hx4, l1, by omega, hS, hr4, hz5, by omega, zN, fun H5 s5 => ?_⟩
  rw [decide_eq_true es]
  refine ⟨true, rfl, ?_⟩
  have hp25 := s5 _ _ hp24
  have hy5 := hy4.mono fun v x (k : Nd H4 v x) => k.same s5
  have B5 := B4.trans (But.of s5)
  have hb5 := hb4.same s5
  refine ⟨_, rfl, Nat.zero_le _, fun em nem => ?_⟩
  have s6 := same_upd (o := .lst []) nem
  refine ⟨.list ((nl n 0 S).map nd), .list (([] : List (Nat × Nat)).map nd), lst_dp (s6 _ _ hp25) (hy5.mono fun v x (k : Nd H5 v x) => k.same s6), .lst (SqL.of upd_same) .nil, nds_shaped _, nds_shaped _, ?_⟩
  rw [nds_eqv]
  have s56 := s5.trans s6
  have B6 := B5.trans (But.of s6)
  have hb6 := hb5.same s6
  have hp16 := s56 _ _ hp14
  have hp26 := s56 _ _ hp24
  have hr6 := s56 _ _ hr4
  have hx6 := hx4.mono fun v x (k : Nd H4 v x) => k.same s56
  have hy6 := hy4.mono fun v x (k : Nd H4 v x) => k.same s56
  have hz6 := hz5.mono fun v x (k : Nd H4 v x) => k.same s56
  generalize upd H5 em (.lst []) = H6 at B6 hb6 hp16 hp26 hr6 hx6 hy6 hz6 ⊢
  clear hp14 hp24 hr4 hx4 hy4 hz5 B4 hb4 hp25 hy5 B5 hb5 s5 s6 s56 nem
  by_cases c0 : nl n 0 S = []
  · rw [decide_eq_true c0]
    exact ⟨true, rfl, q _ B6 hb6⟩
  rw [decide_eq_false c0]
  refine ⟨false, rfl, ?_⟩
  have N1 : 1 ≤ (nl n 0 S).length := List.length_pos_iff.mpr c0
  refine ⟨_, rfl, p2, ys, rfl, .inl (SqL.of hp26), _, _, rfl, rfl, ?_⟩
  by_cases c1 : 59 < ys.length
  · exact ⟨true, congrArg V.bl (decide_eq_true (by omega)), q _ B6 hb6⟩
  refine ⟨false, congrArg V.bl (decide_eq_false (by omega)), ?_⟩
  have pz : Papers n p1 r3 xs zs3 S Z1 H6 := ⟨n1, h30, hp16, hx6, l1, by omega, hS, hr6, hz6, by omega, by omega, zN⟩
  have fz : fw S Z1 = none := fw_none.mpr fun y hy => hD y (pm1.mem_iff.mp hy)
  have wZ : Wn n (S ++ Z1) := hS.wn.app (wn61 zN)
  have lz : nb n 0 (srt (S ++ Z1)) = [] := lack1 Z1 pm1
  have jz : jn (srt (S ++ Z1)) = [(0, n)] := (root61 n1 wZ).mpr lz
  refine ⟨_, rfl, _, rfl, _, rfl, n, p1, r3, xs, zs3, S, Z1, rfl, pz, fun H7 s7 => ?_⟩
  rw [decide_eq_true fz, decide_eq_true jz]
  refine ⟨true, rfl, ?_⟩
  refine ⟨_, rfl, _, rfl, _, rfl, n, p1, r3, xs, zs3, S, Z1, rfl, pz.same s7, fun H8 r8 ws8 s8 nr8 hr8 hw8 => ⟨Nat.zero_le _, fun em nem => ?_⟩⟩
  rw [lz] at hw8
  have s9 := same_upd (o := .lst []) nem
  refine ⟨.list (([] : List (Nat × Nat)).map nd), .list (([] : List (Nat × Nat)).map nd), lst_dp (s9 _ _ hr8) (hw8.mono fun v x (k : Nd H8 v x) => k.same s9), .lst (SqL.of upd_same) .nil, nds_shaped _, nds_shaped _, ?_⟩
  rw [nds_eqv, decide_eq_true rfl]
  refine ⟨false, rfl, ?_⟩
  have s79 := s7.trans (s8.trans s9)
  have B9 := B6.trans (But.of s79)
  have hb9 := hb6.same s79
  have hp19 := s79 _ _ hp16
  have hp29 := s79 _ _ hp26
  have hx9 := hx6.mono fun v x (k : Nd H6 v x) => k.same s79
  have hy9 := hy6.mono fun v x (k : Nd H6 v x) => k.same s79
  generalize upd H8 em (.lst []) = H9 at B9 hb9 hp19 hp29 hx9 hy9 ⊢
  clear hp16 hp26 hr6 hx6 hy6 hz6 B6 hb6 s7 s8 s9 s79 nem hr8 hw8 nr8 pz
  refine ⟨_, rfl, _, rfl, p2, ys, rfl, .inl (SqL.of hp29), bg, ((ys.length : Nat) : Int), rfl, by omega, Nat.lt_of_le_of_lt (show (((ys.length : Nat) : Int)).natAbs ≤ 4000 by omega) (by decide), hb9, fun r H10 r0 r1' k10 hb10 => ?_⟩
  obtain ⟨i, rfl⟩ : ∃ i : Nat, r = (i : Int) := ⟨r.toNat, by omega⟩
  have B910 : But bg H9 H10 := (But.refl bg H9).pick k10
  have B10 := B9.trans B910
  have hp1a := B910 _ _ p1b hp19
  have hp2a := B910 _ _ p2b hp29
  have hxa := hx9.mono fun v x (k : Nd H9 v x) => k.but61 B910 hb9
  have hya := hy9.mono fun v x (k : Nd H9 v x) => k.but61 B910 hb9
  clear hp19 hp29 hx9 hy9 B9 hb9 k10 B910
  have il : i < (nl n 0 S).length := by omega
  obtain ⟨x, hxi⟩ : ∃ x, (nl n 0 S)[i]? = some x := ⟨_, List.getElem?_eq_getElem il⟩
  obtain ⟨v, hv, hNv⟩ := hya.nth2 hxi
  have hxn := hN x (List.mem_of_getElem? hxi)
  obtain ⟨x12, x2n, xt⟩ := isN_tree (n := n) (b := x.1) (e := x.2) hxn
  have e1 : cutV ys none (some (i : Int)) = ys.take i := cut_take ys i
  have e2 : cutV ys (some ((i : Int) + 1)) none = ys.drop (i + 1) := by
    have := cut_drop ys (i + 1)
    rw [← this]
    congr 2
  refine ⟨_, rfl, _, rfl, _, rfl, p2, ys, rfl, SqL.of hp2a, fun c1' nc1 => ?_⟩
  rw [e1]
  have u1 := same_upd (o := .lst (ys.take i)) nc1
  refine ⟨_, rfl, _, rfl, _, _, rfl, rfl, _, rfl, p2, ys, rfl, SqL.of (u1 _ _ hp2a), fun c2' nc2 => ?_⟩
  rw [e2]
  have u2 := same_upd (o := .lst (ys.drop (i + 1))) nc2
  have hc1 := u2 _ _ (upd_same (H := H10) (a := c1') (o := .lst (ys.take i)))
  have hc2 := upd_same (H := upd H10 c1' (.lst (ys.take i))) (a := c2') (o := .lst (ys.drop (i + 1)))
  refine ⟨c1', c2', _, _, rfl, rfl, hc1, hc2, szle (by rw [List.length_take, List.length_drop]; omega), fun rr nrr => ?_⟩
  have u3 := same_upd (o := .lst (ys.take i ++ ys.drop (i + 1))) nrr
  have hrr := upd_same (H := upd (upd H10 c1' (.lst (ys.take i))) c2' (.lst (ys.drop (i + 1)))) (a := rr) (o := .lst (ys.take i ++ ys.drop (i + 1)))
  have u := u1.trans (u2.trans u3)
  have hp1b := u _ _ hp1a
  have hp2b := u _ _ hp2a
  have hxb := hxa.mono fun v x (k : Nd H10 v x) => k.same u
  have hyb := hya.mono fun v x (k : Nd H10 v x) => k.same u
  have hNb := hNv.same u
  have B11 := B10.trans (But.of u)
  have hb11 := hb10.same u
  generalize upd (upd (upd H10 c1' (.lst (ys.take i))) c2' (.lst (ys.drop (i + 1)))) rr (.lst (ys.take i ++ ys.drop (i + 1))) = H11 at hrr hp1b hp2b hxb hyb hNb B11 hb11 ⊢
  clear hc1 hc2 u1 u2 u3 u nc1 nc2 nrr hp1a hp2a hxa hya hNv B10 hb10 e1 e2
  have hR : All2 (Nd H11) (ys.take i ++ ys.drop (i + 1)) ((nl n 0 S).take i ++ (nl n 0 S).drop (i + 1)) := (hyb.takeN i).app (hyb.dropN (i + 1))
  have rN : ∀ y ∈ (nl n 0 S).take i ++ (nl n 0 S).drop (i + 1), isN n y := fun y hy => hN y ((rest61 hxi).mpr (.inr hy))
  have rl : ((nl n 0 S).take i ++ (nl n 0 S).drop (i + 1)).length + 1 = (nl n 0 S).length := by
    rw [List.length_append, List.length_take, List.length_drop]
    omega
  have fR : fw S ((nl n 0 S).take i ++ (nl n 0 S).drop (i + 1)) = none := fw_none.mpr fun y hy => hD y ((rest61 hxi).mpr (.inr hy))
  have lR := lack2 i x hxi
  have wR : Wn n (S ++ ((nl n 0 S).take i ++ (nl n 0 S).drop (i + 1))) := hS.wn.app (wn61 rN)
  have jR : ¬ jn (srt (S ++ ((nl n 0 S).take i ++ (nl n 0 S).drop (i + 1)))) = [(0, n)] := fun z => by
    have := (root61 n1 wR).mp z
    rw [lR] at this
    cases this
  have pT := fun a b => parts_ne61 (a := a) (b := b) hxi
  have cT := fun c => lack3 i c x hxi
  have dT : ∀ y : Nat × Nat, x.1 ≤ y.1 → y.2 ≤ x.2 → meets y S = false := fun y h1 h2 => meets_sub h1 h2 (hD x (List.mem_of_getElem? hxi))
  refine ⟨_, rfl, _, rfl, _, rfl, p2, _, _, _, rfl, rfl, SqL.of hp2b, atI_nat (j := i) hv, n, x.1, x.2 - x.1, v, rfl, by rw [show x.1 + (x.2 - x.1) = x.2 by omega]; exact hNb, by omega, by omega, h30, xt, fun H12 pv s12 hpv => ⟨_, _, rfl, ?_⟩⟩
  have hrr2 := s12 _ _ hrr
  have hp1c := s12 _ _ hp1b
  have hp2c := s12 _ _ hp2b
  have hxc := hxb.mono fun v x (k : Nd H11 v x) => k.same s12
  have hRc := hR.mono fun v x (k : Nd H11 v x) => k.same s12
  have hNc := hNb.same s12
  have B12 := B11.trans (But.of s12)
  have hb12 := hb11.same s12
  clear hrr hp1b hp2b hxb hyb hNb B11 hb11 hR s12
  generalize (nl n 0 S).take i ++ (nl n 0 S).drop (i + 1) = R at *
  generalize ys.take i ++ ys.drop (i + 1) = zs at *
  have lz2 := hRc.len
  have ndsR : ∀ (Hx : Hp), Same H12 Hx → ∀ em, Hx em = none → (upd Hx em (.lst [])) rr = some (.lst zs) := fun Hx s em ne => same_upd ne _ _ (s _ _ hrr2)
  apply two_ways (H := H12)
  · intro tail
    refine ⟨_, rfl, Nat.zero_le _, fun em nem => ?_⟩
    have s1 := same_upd (o := .lst []) nem
    refine ⟨.list (R.map nd), .list (([] : List (Nat × Nat)).map nd), lst_dp (s1 _ _ hrr2) (hRc.mono fun v x (k : Nd H12 v x) => k.same s1), .lst (SqL.of upd_same) .nil, nds_shaped _, nds_shaped _, ?_⟩
    rw [nds_eqv]
    have hrr3 := s1 _ _ hrr2
    have hRd := hRc.mono fun v x (k : Nd H12 v x) => k.same s1
    have hp1d := s1 _ _ hp1c
    have hxd := hxc.mono fun v x (k : Nd H12 v x) => k.same s1
    generalize upd H12 em (.lst []) = H13 at s1 hrr3 hRd hp1d hxd ⊢
    by_cases z : R = []
    · rw [decide_eq_true z]
      exact ⟨false, rfl, tail H13 s1⟩
    · rw [decide_eq_false z]
      have R1 : 1 ≤ R.length := List.length_pos_iff.mpr z
      refine ⟨true, rfl, _, rfl, _, rfl, _, rfl, n, p1, rr, xs, zs, S, R, rfl, ⟨n1, h30, hp1d, hxd, l1, by omega, hS, hrr3, hRd, R1, by omega, rN⟩, fun H14 s14 => ?_⟩
      rw [decide_eq_true fR, decide_eq_false jR]
      exact ⟨false, rfl, tail H14 (s1.trans s14)⟩
  intro H13 s13
  have hrr3 := s13 _ _ hrr2
  have hp1d := s13 _ _ hp1c
  have hp2d := s13 _ _ hp2c
  have hxd := hxc.mono fun v x (k : Nd H12 v x) => k.same s13
  have hRd := hRc.mono fun v x (k : Nd H12 v x) => k.same s13
  have hNd := hNc.same s13
  have hpvd := hpv.same s13
  have B13 := B12.trans (But.of s13)
  have hb13 := hb12.same s13
  clear hrr2 hp1c hp2c hxc hRc hNc hpv B12 hb12 s13 ndsR
  have one1 : 1 ≤ sizeLine := by decide
  apply two_ways (H := H13)
  · intro tail
    refine ⟨_, rfl, Nat.zero_le _, fun em nem => ?_⟩
    have s1 := same_upd (o := .lst []) nem
    refine ⟨.list (R.map nd), .list (([] : List (Nat × Nat)).map nd), lst_dp (s1 _ _ hrr3) (hRd.mono fun v x (k : Nd H13 v x) => k.same s1), .lst (SqL.of upd_same) .nil, nds_shaped _, nds_shaped _, ?_⟩
    rw [nds_eqv]
    have hrr4 := s1 _ _ hrr3
    have hRe := hRd.mono fun v x (k : Nd H13 v x) => k.same s1
    have hp1e := s1 _ _ hp1d
    have hp2e := s1 _ _ hp2d
    have hxe := hxd.mono fun v x (k : Nd H13 v x) => k.same s1
    have hNe := hNd.same s1
    generalize upd H13 em (.lst []) = H14 at s1 hrr4 hRe hp1e hp2e hxe hNe ⊢
    by_cases z : R = []
    · rw [decide_eq_true z]
      exact ⟨false, rfl, tail H14 s1⟩
    · rw [decide_eq_false z]
      have R1 : 1 ≤ R.length := List.length_pos_iff.mpr z
      refine ⟨true, rfl, _, rfl, _, rfl, _, rfl, n, p1, rr, xs, zs, S, R, rfl, ⟨n1, h30, hp1e, hxe, l1, by omega, hS, hrr4, hRe, R1, by omega, rN⟩, fun H15 r15 ws15 s15 nr15 hr15 hw15 => ?_⟩
      rw [lR] at hw15
      refine ⟨_, rfl, _, rfl, p2, _, _, _, rfl, rfl, SqL.of (s15 _ _ hp2e), atI_nat (j := i) hv, one1, fun l1' nl1 => ?_⟩
      have s16 := same_upd (o := .lst [v]) nl1
      refine ⟨.list (([x] : List (Nat × Nat)).map nd), .list (([x] : List (Nat × Nat)).map nd), lst_dp (s16 _ _ hr15) (hw15.mono fun v x (k : Nd H15 v x) => k.same s16), lst_dp upd_same (.cons ((hNe.same s15).same s16) .nil), nds_shaped _, nds_shaped _, ?_⟩
      rw [nds_eqv, decide_eq_true rfl]
      exact ⟨false, rfl, tail _ (s1.trans (s15.trans s16))⟩
  intro H14 s14
  have hrr4 := s14 _ _ hrr3
  have hp1e := s14 _ _ hp1d
  have hxe := hxd.mono fun v x (k : Nd H13 v x) => k.same s14
  have hRe := hRd.mono fun v x (k : Nd H13 v x) => k.same s14
  have hpve := hpvd.same s14
  have B14 := B13.trans (But.of s14)
  have hb14 := hb13.same s14
  clear hrr3 hp1d hp2d hxd hRd hNd hpvd B13 hb13 s14
  rcases hpve with ⟨_, rfl⟩ | ⟨m2, qa, lw, hg, rfl, hqa, hlw, hhg⟩
  · exact ⟨_, rfl, rfl, true, rfl, q _ B14 hb14⟩
  have ep : x.1 + (x.2 - x.1) = x.2 := by omega
  rw [ep] at hhg
  have gl := gp_lt m2
  have gg := gp_pos (x.2 - x.1)
  have il1 : isN n (x.1, x.1 + gp (x.2 - x.1)) := half_low_isN (m := x.2 - x.1) m2 xt (by omega)
  have il2 : isN n (x.1 + gp (x.2 - x.1), x.2) := by
    have := half_high_isN (n := n) (b := x.1) (m := x.2 - x.1) m2 xt (by omega)
    rwa [ep] at this
  have c1x : x.1 < x.1 + gp (x.2 - x.1) := by omega
  have c2x : x.1 + gp (x.2 - x.1) < x.2 := by omega
  generalize x.1 + gp (x.2 - x.1) = c at hlw hhg il1 il2 c1x c2x
  have lT := cT c c1x c2x
  have sT := pT (x.1, c) (c, x.2)
  have tN : ∀ y ∈ R ++ [(x.1, c), (c, x.2)], isN n y := fun y hy => by
    rcases List.mem_append.mp hy with hy | hy
    · exact rN y hy
    · rcases List.mem_cons.mp hy with rfl | hy
      · exact il1
      · rw [List.mem_singleton.mp hy]
        exact il2
  have fT : fw S (R ++ [(x.1, c), (c, x.2)]) = none := fw_none.mpr fun y hy => by
    rcases List.mem_append.mp hy with hy | hy
    · exact fw_none.mp fR y hy
    · rcases List.mem_cons.mp hy with rfl | hy
      · exact dT _ (Nat.le_refl _) (Nat.le_of_lt c2x)
      · rw [List.mem_singleton.mp hy]
        exact dT _ (Nat.le_of_lt c1x) (Nat.le_refl _)
  have jT : jn (srt (S ++ (R ++ [(x.1, c), (c, x.2)]))) = [(0, n)] := (root61 n1 (hS.wn.app (wn61 tN))).mpr lT
  have tl : (R ++ [(x.1, c), (c, x.2)]).length = R.length + 2 := by rw [List.length_append]; rfl
  have hT14 : All2 (Nd H14) (zs ++ [lw, hg]) (R ++ [(x.1, c), (c, x.2)]) := hRe.app (.cons hlw (.cons hhg .nil))
  refine ⟨_, rfl, rfl, false, congrArg V.bl (decide_eq_false fun z => by cases z), ?_⟩
  refine ⟨_, rfl, _, rfl, _, rfl, _, rfl, qa, _, rfl, .inr (SqT.of hqa), fun lq nlq => ?_⟩
  have v1 := same_upd (o := .lst [lw, hg]) nlq
  refine ⟨rr, lq, zs, [lw, hg], rfl, rfl, v1 _ _ hrr4, upd_same, szle (by rw [lz2]; simp only [List.length_cons, List.length_nil]; omega), fun r5 nr5 => ?_⟩
  have v2 := same_upd (o := .lst (zs ++ [lw, hg])) nr5
  have v12 := v1.trans v2
  refine ⟨n, p1, r5, xs, zs ++ [lw, hg], S, _, rfl, ⟨n1, h30, v12 _ _ hp1e, hxe.mono (fun v x (k : Nd H14 v x) => k.same v12), l1, by omega, hS, upd_same, hT14.mono (fun v x (k : Nd H14 v x) => k.same v12), by omega, by omega, tN⟩, fun H15 s15 => ?_⟩
  rw [decide_eq_true fT, decide_eq_true jT]
  have s145 := v12.trans s15
  refine ⟨true, rfl, ?_⟩
  have hp1f := s145 _ _ hp1e
  have hrr5 := s145 _ _ hrr4
  have hqa5 := s145 _ _ hqa
  have hxf := hxe.mono fun v x (k : Nd H14 v x) => k.same s145
  have hTf := hT14.mono fun v x (k : Nd H14 v x) => k.same s145
  have B15 := B14.trans (But.of s145)
  have hb15 := hb14.same s145
  refine ⟨_, rfl, _, rfl, _, rfl, _, rfl, qa, _, rfl, .inr (SqT.of hqa5), fun lq' nlq' => ?_⟩
  have v3 := same_upd (o := .lst [lw, hg]) nlq'
  refine ⟨rr, lq', zs, [lw, hg], rfl, rfl, v3 _ _ hrr5, upd_same, szle (by rw [lz2]; simp only [List.length_cons, List.length_nil]; omega), fun r6 nr6 => ?_⟩
  have v4 := same_upd (o := .lst (zs ++ [lw, hg])) nr6
  have v34 := v3.trans v4
  refine ⟨n, p1, r6, xs, zs ++ [lw, hg], S, _, rfl, n1, h30, v34 _ _ hp1f, hxf.mono (fun v x (k : Nd H15 v x) => k.same v34), l1, by omega, hS, upd_same, hTf.mono (fun v x (k : Nd H15 v x) => k.same v34), by omega, tN, fun H16 s16 => ?_⟩
  rw [decide_eq_false sT]
  exact ⟨_, rfl, q _ (B15.trans (But.of (v34.trans s16))) (hb15.same (v34.trans s16))⟩
end
end LT

namespace LT
open PySem PySem.Spec PyProof.Rows L2
/-- check_nodes called with all four -/
theorem check_all {K : PySem.W.Frag} {its : List Value} {v1 v2 : V} {f : Addr} {fd : FuncData} (F : FunT K "check_nodes" "check_nodes" sCheckNodes its [v1, v2] f fd) : Binds K fd ["size", "nodes", "least", "most"] [] := by
  obtain ⟨oc, od, T, kV, doc, pm, an, cdv, ct, osl, o, n, rfl, lk, hcd, lT, oT⟩ := F.ex
  have e := F.v.length
  intro s us X hl
  rw [List.append_nil] at hl ⊢
  match us, hl, its, e, oT with
  | [a, b, c, d], _, [x, y], _, oT =>
    refine BindsTo.of_looks fun M => ?_
    have h : ∃ k, bindArgs (PySem.W.fnOf "check_nodes" "check_nodes" (defArgs sCheckNodes) (defBody sCheckNodes) (defScope sCheckNodes) (.ref T) kV doc pm an cdv ct) ⟨[a, b, c, d], []⟩ = seqItems? (.ref T) >>= k ∧ k (some [x, y].toArray) = pure ((["size", "nodes", "least", "most"] : List Str).zip [a, b, c, d]) := ⟨_, rfl, rfl⟩
    obtain ⟨k, e1, e2⟩ := h
    rw [e1]
    exact looks_items X lT oT (.of_pure e2)
end LT

namespace LT
open PySem PySem.Spec PyProof.Rows L2
theorem script_at {ns : List Int} {lo hi : Option Int} {i : Nat} {x : V} (h : (cutV (ns.map V.int) lo hi ++ [.int 0])[i]? = some x) : ∃ c : Int, x = .int c := by
  have m := List.mem_of_getElem? h
  rcases List.mem_append.mp m with m | m
  · unfold cutV at m
    have m2 := List.mem_of_mem_drop (List.mem_of_mem_take m)
    obtain ⟨c, _, e⟩ := List.mem_map.mp m2
    exact ⟨c, e.symm⟩
  · exact ⟨0, List.mem_singleton.mp m⟩
theorem sqSame {K : PySem.W.Frag} {H H' : Hp} {a : Addr} {xs : List V} (h : SqL K H a xs) (e : Same H H') : SqL K H' a xs :=
  h.elim (fun h => .inl (h.elim (fun h => .inl (e _ _ h)) fun ⟨o, h⟩ => .inr ⟨o, e _ _ h⟩)) fun h => .inr h
def spLaw (K : PySem.W.Frag) : Sp := fun vs H Q _ => ∃ (a : Addr) (ns : List Int), vs = [.ref a] ∧ SqL K H a (ns.map V.int) ∧ ns.length ≤ 63 ∧ ∀ H', Q (.bl true) H'
end LT

namespace LT
open PySem PySem.Spec PyProof.Rows L2
/-- a list of nodes, as a value -/
def NL (H : Hp) (v : V) (l : List (Nat × Nat)) : Prop := ∃ (p : Addr) (xs : List V), v = .ref p ∧ H p = some (.lst xs) ∧ All2 (Nd H) xs l
theorem NL.same {H H' : Hp} {v : V} {l : List (Nat × Nat)} (h : NL H v l) (s : Same H H') : NL H' v l := by
  obtain ⟨p, xs, e, a, b⟩ := h
  exact ⟨p, xs, e, s _ _ a, b.mono fun v x (k : Nd H v x) => k.same s⟩
theorem NL.but {H H' : Hp} {b : Addr} {v : V} {l : List (Nat × Nat)} (h : NL H v l) (B : But b H H') (hb : BagAt H b) : NL H' v l := by
  obtain ⟨p, xs, e, a, k⟩ := h
  exact ⟨p, xs, e, B _ _ (nds_ne61 a k hb) a, k.mono fun v x (k : Nd H v x) => k.but61 B hb⟩
theorem NL.dp {K : PySem.W.Frag} {H : Hp} {v : V} {l : List (Nat × Nat)} (h : NL H v l) : Dp K H v (.list (l.map nd)) := by
  obtain ⟨p, xs, rfl, a, k⟩ := h
  exact lst_dp a k
theorem NL.upd {H : Hp} {v : V} {l : List (Nat × Nat)} {s : Addr} {us : List V} {o : HO} (h : NL H v l) (hs : H s = some (.lst us)) (n : ∀ p, v = .ref p → p ≠ s) : NL (upd H s o) v l := by
  obtain ⟨p, xs, rfl, a, k⟩ := h
  exact ⟨p, xs, rfl, by rw [upd_ne (n p rfl)]; exact a, k.mono fun v x (k : Nd H v x) => k.upd hs⟩
theorem NL.upd2 {H : Hp} {v : V} {l l' : List (Nat × Nat)} {s a : Addr} {us : List V} {o : HO} (h : NL H v l) (hs : H s = some (.lst (.ref a :: us))) (h0 : NL H (.ref a) l') : NL (L2.upd H s o) v l := by
  refine h.upd hs fun p e z => ?_
  obtain ⟨p', xs, e', a1, k⟩ := h
  obtain rfl : p' = p := V.ref.inj (e'.symm.trans e)
  rw [z, hs] at a1
  have x := HO.lst.inj (Option.some.inj a1)
  subst x
  cases k with
  | cons hd _ =>
    obtain ⟨t, e, ht⟩ := hd
    obtain rfl : a = t := V.ref.inj e
    obtain ⟨p2, ys, e2, b, _⟩ := h0
    obtain rfl : a = p2 := V.ref.inj e2
    rw [ht] at b
    cases b
theorem nds_neL {H : Hp} {p b a : Addr} {xs : List V} (h : H p = some (.lst (.ref a :: xs))) (hb : BagAt H b) : p ≠ b := fun z => by
  obtain ⟨x, y, z', e⟩ := hb
  rw [z, e] at h
  have h := HO.lst.inj (Option.some.inj h)
  cases h
section
variable {P : Program} {w : World} {K : PySem.W.Frag} {mg : Str → Option Value} {base : Heap}
theorem ok_law {f g1 g2 g3 g4 g5 g6 g7 g8 g9 g10 : Addr} {fd d1 d2 d3 d4 d5 d6 d7 d8 d9 d10 : FuncData} (F : Fun K "law" "law" sLaw f fd)
    (GLawBag : FnOk P w K mg base CX0 1 g1 d1 ["cell"] spBag) (ALawBag : At K mg "_law_bag" g1 d1 ["cell"])
    (GLawPick : FnOk P w K mg base CX0 1 g2 d2 ["bag", "many"] spPick) (ALawPick : At K mg "_law_pick" g2 d2 ["bag", "many"])
    (GLawSpans : FnOk P w K mg base CX0 2 g3 d3 ["bag", "many"] spLawSpans61) (ALawSpans : At K mg "_law_spans" g3 d3 ["bag", "many"])
    (GNeeded : FnOk P w K mg base CX0 6 g4 d4 ["size", "spans"] spNeeded) (ANeeded : At K mg "needed" g4 d4 ["size", "spans"])
    (GOlderList : FnOk P w K mg base CX0 5 g5 d5 ["size", "older"] spOlderList) (AOlderList : At K mg "older_list" g5 d5 ["size", "older"])
    (GPath : FnOk P w K mg base CX0 6 g6 d6 ["size", "entry"] spPath) (APath : At K mg "path" g6 d6 ["size", "entry"])
    (GShowNodes : FnOk P w K mg base CX0 5 g7 d7 ["size", "nodes"] spShow) (AShowNodes : At K mg "show_nodes" g7 d7 ["size", "nodes"])
    (GReadNodes : FnOk P w K mg base CX0 4 g8 d8 ["size", "text"] spRead) (AReadNodes : At K mg "read_nodes" g8 d8 ["size", "text"])
    (GLawPaperRight : FnOk P w K mg base CX0 8 g9 d9 ["bag", "many", "spans", "paper"] spPaper) (ALawPaperRight : At K mg "_law_paper_right" g9 d9 ["bag", "many", "spans", "paper"])
    (GLawOnes : FnOk P w K mg base CX0 1 g10 d10 ["number"] spOnes) (ALawOnes : At K mg "_law_ones" g10 d10 ["number"])
    (z_zip : mg "zip" = none) : FnOk P w K mg base CX0 9 f fd ["script"] (spLaw K) := by
  refine F.ok scLaw (fun vs H Q E h => ?_) (fun cdv A outer s H vs Q E hr h => ?_)
  · obtain ⟨_, _, rfl, _⟩ := h
    rfl
  obtain ⟨a, ns, rfl, hs, hn, q⟩ := h
  refine ⟨_, (pss_cons (ps_for PassesOwn.never rfl (pi_list (pe_op op_cat (pe_slice sl_list (pv 0) po_none (po_some pe_int)) (pe_lst (pa_cons pe_int pa_nil)))) (pg_name (i := 1) scLaw.nd rfl (Or.inl rfl))
    (pss_cons (ps_set (i := 2) scLaw.nd rfl (Or.inl rfl) (pe_call GLawBag (hr.mono (by decide)) rfl ALawBag.m ALawBag.kp ALawBag.b .nil pass0 (pa_cons (pv 1) pa_nil)))
    (pss_one (ps_for PassesOwn.never rfl (pi_tup (pe_tup (pa_cons (pe_op op_add pe_int (pe_call GLawPick (hr.mono (by decide)) rfl ALawPick.m ALawPick.kp ALawPick.b .nil pass0 (pa_cons (pv 2) (pa_cons pe_int pa_nil)))) (pa_cons (pe_op op_add pe_int (pe_call GLawPick (hr.mono (by decide)) rfl ALawPick.m ALawPick.kp ALawPick.b .nil pass0 (pa_cons (pv 2) (pa_cons (pe_op op_pow pe_int pe_int) pa_nil)))) pa_nil)))) (pg_name (i := 3) scLaw.nd rfl (Or.inr rfl))
    (pss_cons (ps_set (i := 4) scLaw.nd rfl (Or.inl rfl) (pe_call GLawSpans (hr.mono (by decide)) rfl ALawSpans.m ALawSpans.kp ALawSpans.b .nil pass0 (pa_cons (pv 2) (pa_cons (pv 3) pa_nil))))
    (pss_cons (ps_set (i := 5) scLaw.nd rfl (Or.inl rfl) (pe_lst (pa_cons (pe_call GNeeded (hr.mono (by decide)) rfl ANeeded.m ANeeded.kp ANeeded.b .nil pass0 (pa_cons (pv 3) (pa_cons (pv 4) pa_nil))) (pa_cons (pe_call GOlderList (hr.mono (by decide)) rfl AOlderList.m AOlderList.kp AOlderList.b .nil pass0 (pa_cons (pv 3) (pa_cons (pe_op op_add pe_int (pe_call GLawPick (hr.mono (by decide)) rfl ALawPick.m ALawPick.kp ALawPick.b .nil pass0 (pa_cons (pv 2) (pa_cons (pv 3) pa_nil)))) pa_nil))) (pa_cons (pe_lst pa_nil) pa_nil)))))
    (pss_cons (ps_expr (pe_bm PySem.F.plainAttrs_list PySem.F.slot_list_append PySem.F.type_list_append mt_append (pv 5) (pa_cons (pe_call GPath (hr.mono (by decide)) rfl APath.m APath.kp APath.b .nil pass0 (pa_cons (pv 3) (pa_cons (pe_call GLawPick (hr.mono (by decide)) rfl ALawPick.m ALawPick.kp ALawPick.b .nil pass0 (pa_cons (pv 2) (pa_cons (pv 3) pa_nil))) pa_nil))) pa_nil)))
    (pss_cons (ps_setLc (i := 7) (own := [("one", 6)]) rfl scLaw.nd rfl rfl (sw_true rfl rfl rfl (by decide +kernel)) (pi_list (pv 5)) (blkOk_by (N := ["script", "cell", "bag", "many", "spans", "lists_here", "one", "texts", "text", "whole", "node", "other"]) (sc := defScope sLaw) (by decide +kernel)) (fun _ _ _ _ _ => (pg_name (i := 6) scLaw.nd rfl (Or.inl rfl))) (fun _ _ _ _ _ => pts_nil) (fun _ _ _ _ _ => (pe_call GShowNodes (hr.mono (by decide)) rfl AShowNodes.m AShowNodes.kp AShowNodes.b .nil pass0 (pa_cons (pv 3) (pa_cons (pv 6) pa_nil)))))
    (pss_cons (ps_for PassesOwn.never rfl (pi_zip (by rfl) z_zip (pa_cons (pv 5) (pa_cons (pv 7) pa_nil))) (pg_tup (by rfl) (pgs_cons (pg_name (i := 6) scLaw.nd rfl (Or.inr rfl)) (pgs_cons (pg_name (i := 8) scLaw.nd rfl (Or.inr rfl)) pgs_nil)))
    (pss_cons (ps_if (PW.pt (pw_or (pt_cmpR (op_neD hr.units) (pe_call GReadNodes (hr.mono (by decide)) rfl AReadNodes.m AReadNodes.kp AReadNodes.b .nil pass0 (pa_cons (pv 3) (pa_cons (pv 8) pa_nil))) (pv 6) (nomark _)) (pw_or1 (pt_cmpR op_ne (pe_call GShowNodes (hr.mono (by decide)) rfl AShowNodes.m AShowNodes.kp AShowNodes.b .nil pass0 (pa_cons (pv 3) (pa_cons (pe_call GReadNodes (hr.mono (by decide)) rfl AReadNodes.m AReadNodes.kp AReadNodes.b .nil pass0 (pa_cons (pv 3) (pa_cons (pv 8) pa_nil))) pa_nil))) (pv 8) (nomark _)))))
    (pss_one (ps_ret pe_bl))
    pss_nil)
    (pss_one (ps_if (pt_cmpR (op_neD hr.units) (pe_lc (own := [("other", 11)]) rfl scLaw.nd (pi_list (pv 7)) (blkOk_by (N := ["script", "cell", "bag", "many", "spans", "lists_here", "one", "texts", "text", "whole", "node", "other"]) (sc := defScope sLaw) (by decide +kernel)) (fun _ _ _ _ _ => (pg_name (i := 11) scLaw.nd rfl (Or.inl rfl))) (fun _ _ _ _ _ => pts_nil) (fun _ _ _ _ _ => (pe_cmpR op_eq (pv 8) (pv 11) (nomark _)))) (pe_lc (own := [("other", 11)]) rfl scLaw.nd (pi_list (pv 5)) (blkOk_by (N := ["script", "cell", "bag", "many", "spans", "lists_here", "one", "texts", "text", "whole", "node", "other"]) (sc := defScope sLaw) (by decide +kernel)) (fun _ _ _ _ _ => (pg_name (i := 11) scLaw.nd rfl (Or.inl rfl))) (fun _ _ _ _ _ => pts_nil) (fun _ _ _ _ _ => (pe_cmpR (op_eqDB hr.units) (pv 6) (pv 11) (nomark _)))) (nomark _))
    (pss_one (ps_ret pe_bl))
    pss_nil))))
    (pss_cons (ps_if (pt_not (pt_val (pe_call GLawPaperRight (hr.mono (by decide)) rfl ALawPaperRight.m ALawPaperRight.kp ALawPaperRight.b .nil pass0 (pa_cons (pv 2) (pa_cons (pv 3) (pa_cons (pv 4) (pa_cons (pe_ix ix_list (pv 5) pe_int (fun _ _ => rfl)) pa_nil)))))))
    (pss_one (ps_ret pe_bl))
    pss_nil)
    (pss_cons (ps_setLc (i := 9) (own := [("node", 10)]) rfl scLaw.nd rfl rfl (sw_true rfl rfl rfl (by decide +kernel)) (pi_list (pe_ix ix_list (pv 5) pe_int (fun _ _ => rfl))) (blkOk_by (N := ["script", "cell", "bag", "many", "spans", "lists_here", "one", "texts", "text", "whole", "node", "other"]) (sc := defScope sLaw) (by decide +kernel)) (fun _ _ _ _ _ => (pg_name (i := 10) scLaw.nd rfl (Or.inl rfl))) (fun _ _ _ _ _ => pts_one (pt_cmpR op_eq (pe_call GLawOnes (hr.mono (by decide)) rfl ALawOnes.m ALawOnes.kp ALawOnes.b .nil pass0 (pa_cons (pe_op op_sub (pe_ix ix_tupB (pv 10) pe_int (fun _ _ => rfl)) (pe_ix ix_tupB (pv 10) pe_int (fun _ _ => rfl))) pa_nil)) pe_int (nomark _))) (fun _ _ _ _ _ => (pv 10)))
    (pss_one (ps_if (PW.pt (pw_and (pt_cmpR op_lt (pv 3) (pe_op op_pow pe_int pe_int) (nomark _)) (pw_and1 (pt_cmpR (op_neD hr.units) (pe_call GReadNodes (hr.mono (by decide)) rfl AReadNodes.m AReadNodes.kp AReadNodes.b .nil pass0 (pa_cons (pe_op op_add (pv 3) pe_int) (pa_cons (pe_call GShowNodes (hr.mono (by decide)) rfl AShowNodes.m AShowNodes.kp AShowNodes.b .nil pass0 (pa_cons (pv 3) (pa_cons (pv 9) pa_nil))) pa_nil))) (pv 9) (nomark _)))))
    (pss_one (ps_ret pe_bl))
    pss_nil)))))))))))))
    (pss_one (ps_ret pe_bl))), ?_⟩
  have one1 : 1 ≤ sizeLine := by decide
  have two : 2 ≤ sizeLine := by decide
  have three : 3 ≤ sizeLine := by decide
  have p28 : 1 ≤ (10 : Nat) ^ 30 := by decide
  have e30 : (10 : Int) ^ Int.toNat 30 = ((10 ^ 30 : Nat) : Int) := by decide
  refine ⟨_, rfl, 6, rfl, a, _, rfl, hs, fun c nc => ⟨one1, fun z nz => ?_⟩⟩
  have s1 := same_upd (o := .lst (cutV (ns.map V.int) none (some 6))) nc
  have s2 := same_upd (o := .lst [.int 0]) nz
  have hcl := cutV_length (ns.map V.int) none (some 6)
  rw [List.length_map] at hcl
  refine ⟨c, z, _, _, rfl, rfl, s2 _ _ upd_same, upd_same, szle (by rw [List.length_singleton]; omega), fun r nr => ?_⟩
  have hr0 : (upd (upd (upd H c (.lst (cutV (ns.map V.int) none (some 6)))) z (.lst [.int 0])) r (.lst (cutV (ns.map V.int) none (some 6) ++ [.int 0]))) r = some (.lst (cutV (ns.map V.int) none (some 6) ++ [.int 0])) := upd_same
  generalize upd (upd (upd H c (.lst (cutV (ns.map V.int) none (some 6)))) z (.lst [.int 0])) r (.lst (cutV (ns.map V.int) none (some 6) ++ [.int 0])) = H0 at hr0
  refine ⟨r, rfl, ⟨_, SqL.of hr0⟩, for_list (K := K) (a := r) (xs := cutV (ns.map V.int) none (some 6) ++ [.int 0]) (fun i σ H' => ∃ v1 v2 v3 v4 v5 v6 v7 v8 v9 : Option V, σ = [some (.ref a), v1, v2, v3, v4, v5, v6, v7, v8, v9, none, none] ∧ Same H0 H')
    ⟨none, none, none, none, none, none, none, none, none, rfl, Same.refl _⟩ (fun i σ H' _ ⟨_, _, _, _, _, _, _, _, _, _, s5⟩ => SqL.of (s5 _ _ hr0)) ?_ ?_⟩
  · rintro i x σ H1 hi ⟨v1, v2, v3, v4, v5, v6, v7, v8, v9, rfl, sm1⟩
    obtain ⟨cell, rfl⟩ := script_at hi
    refine ⟨_, rfl, cell, rfl, fun H2 b sm2 nb hb => ?_⟩
    have nb0 : H0 b = none := sm1.free nb
    have B2 : But b H0 H2 := But.of (sm1.trans sm2)
    refine ⟨_, rfl, b, 30, rfl, by decide, by decide, hb, fun r1 H3 r10 r11 k3 hb3 => ⟨_, _, rfl, rfl, ?_⟩⟩
    have B3 := B2.pick k3
    refine ⟨_, rfl, _, _, rfl, rfl, ⟨by decide, by decide, by decide⟩, b, _, rfl, by decide, by decide, hb3, fun r2 H4 r20 r21 k4 hb4 => ⟨_, _, rfl, rfl, two, fun t nt => ?_⟩⟩
    have B4 := B3.pick k4
    obtain ⟨m1, em1⟩ : ∃ j : Nat, 1 + r1 = (j : Int) := ⟨(1 + r1).toNat, by omega⟩
    obtain ⟨m2, em2⟩ : ∃ j : Nat, 1 + r2 = (j : Int) := ⟨(1 + r2).toNat, by omega⟩
    rw [e30] at r21
    have s4 := same_upd (o := .tup [.int (1 + r1), .int (1 + r2)]) nt
    have tb := hb4.ne nt
    have h5 : (upd H4 t (.tup [.int (1 + r1), .int (1 + r2)])) t = some (.tup ([m1, m2].map fun x : Nat => V.int (x : Int))) := by
      rw [upd_same, em1, em2]
      rfl
    have hl : ∀ x ∈ [m1, m2], 1 ≤ x ∧ x ≤ 10 ^ 30 := by
      intro x hx
      rcases List.mem_cons.mp hx with rfl | hx
      · exact ⟨by omega, by omega⟩
      · rw [List.mem_singleton.mp hx]
        exact ⟨by omega, by omega⟩
    have B5 := B4.trans (But.of s4)
    have b5 := hb4.same s4
    generalize upd H4 t (.tup [.int (1 + r1), .int (1 + r2)]) = H5 at h5 B5 b5 ⊢
    generalize [m1, m2] = L at h5 hl
    clear hr0 sm1 sm2 hb B2 hb3 B3 hb4 B4 s4 nt k3 k4 em1 em2 s1 s2 nr nz nc
    refine ⟨t, rfl, ⟨_, SqT.of h5⟩, for_tup (K := K) (a := t) (xs := L.map fun x : Nat => V.int (x : Int)) (fun j σ H' => ∃ v3 v4 v5 v6 v7 v8 v9 : Option V, σ = [some (.ref a), some (.int cell), some (.ref b), v3, v4, v5, v6, v7, v8, v9, none, none] ∧ But b H0 H' ∧ But b H5 H' ∧ BagAt H' b)
      ⟨v3, v4, v5, v6, v7, v8, v9, rfl, B5, But.refl _ _, b5⟩ (fun i σ H' _ ⟨_, _, _, _, _, _, _, _, _, k, _⟩ => SqT.of (k _ _ tb h5)) ?_ ?_⟩
    · rintro j x σ H6 hj ⟨v3, v4, v5, v6, v7, v8, v9, rfl, B6, C6, b6⟩
      rw [List.getElem?_map] at hj
      obtain ⟨n, ht, rfl⟩ := Option.map_eq_some_iff.mp hj
      obtain ⟨n1, n30⟩ := hl n (List.mem_of_getElem? ht)
      refine ⟨_, rfl, _, rfl, b, n, rfl, b6, n1, n30, fun H7 sp ss S B7 b7 nsp hsp hss hS l1 l3 => ?_⟩
      refine ⟨_, rfl, _, rfl, n, sp, ss, S, rfl, n1, n30, hsp, hss, l1, by omega, hS, fun H8 a0 z0 s8 na0 ha0 hz0 => ?_⟩
      have b8 := b7.same s8
      have nb250 : ((n : Int)).natAbs < 2 ^ 250 := Nat.lt_of_le_of_lt (show ((n : Int)).natAbs ≤ 10 ^ 30 by omega) (by decide)
      refine ⟨_, rfl, _, rfl, _, rfl, b, (n : Int), rfl, by omega, nb250, b8, fun r3 H9 r30 r31 k9 b9 => ?_⟩
      obtain ⟨e, he⟩ : ∃ e : Nat, 1 + r3 = (e : Int) := ⟨(1 + r3).toNat, by omega⟩
      refine ⟨_, _, rfl, rfl, n, e, congrArg (fun z => [V.int (n : Int), V.int z]) he, by omega, by omega, n30, fun H10 a1 z1 s10 na1 ha1 hz1 => ⟨Nat.zero_le _, fun a2 na2 => ⟨three, fun La nLa => ?_⟩⟩⟩
      have B89 : But b H8 H9 := (But.refl b H8).pick k9
      have B78 : But b H7 H8 := But.of s8
      have w2 := same_upd (o := .lst []) na2
      have w3 := same_upd (o := .lst [.ref a0, .ref a1, .ref a2]) nLa
      have B8L := B89.trans (But.of (s10.trans (w2.trans w3)))
      have nLH6 : H6 La = none := by
        cases ee : H6 La with
        | none => rfl
        | some o =>
          have k : upd H10 a2 (.lst []) La = some o := ((B7.trans B78).trans (B89.trans (But.of (s10.trans w2)))) La o (((b9.same s10).same w2).ne nLa) ee
          rw [nLa] at k
          cases k
      have q0 := NL.but ⟨a0, z0, rfl, ha0, hz0⟩ B8L b8
      have q1 := NL.same ⟨a1, z1, rfl, ha1, hz1⟩ (w2.trans w3)
      have q2 : NL _ (.ref a2) [] := NL.same ⟨a2, [], rfl, upd_same, .nil⟩ w3
      have hLa := upd_same (H := upd H10 a2 (.lst [])) (a := La) (o := .lst [.ref a0, .ref a1, .ref a2])
      have BL := (B7.trans B78).trans B8L
      have qs := NL.but (NL.but ⟨sp, ss, rfl, hsp, hss⟩ B78 b7) B8L b8
      have bL := (b9.same s10).same (w2.trans w3)
      generalize upd (upd H10 a2 (.lst [])) La (.lst [.ref a0, .ref a1, .ref a2]) = H11 at q0 q1 q2 hLa BL qs bL ⊢
      clear w2 w3 B8L s10 s8 B78 B89 ha0 hz0 ha1 hz1 hsp hss b7 b8 b9 B7 k9 na0 na1 na2
      have Lab : La ≠ b := nds_neL hLa bL
      refine ⟨_, rfl, .inl ⟨rfl, _, SqL.of hLa⟩, _, rfl, _, rfl, _, rfl, b, (n : Int), rfl, by omega, nb250, bL, fun r4 H12 r40 r41 k12 b12 => ?_⟩
      obtain ⟨en, rfl⟩ : ∃ e : Nat, r4 = (e : Int) := ⟨r4.toNat, by omega⟩
      have B12 : But b H11 H12 := (But.refl b H11).pick k12
      refine ⟨n, en, rfl, by omega, n30, fun H13 a3 z3 s13 na3 ha3 hz3 => ?_⟩
      have B13 := B12.trans (But.of s13)
      have hL13 := B13 _ _ Lab hLa
      refine ⟨La, _, _, rfl, rfl, hL13, (show 3 < sizeLine by decide), ?_⟩
      have q0' := q0.but B13 bL
      have q1' := q1.but B13 bL
      have q2' := q2.but B13 bL
      have qs' := qs.but B13 bL
      have q3' : NL H13 (.ref a3) (sib 0 n en).reverse := ⟨a3, z3, rfl, ha3, hz3⟩
      have b13 := (b12.same s13)
      have hQ : All2 (NL (upd H13 La (.lst ([.ref a0, .ref a1, .ref a2] ++ [.ref a3])))) ([.ref a0, .ref a1, .ref a2] ++ [.ref a3]) [nl n 0 S, ol n e, [], (sib 0 n en).reverse] :=
        .cons (q0'.upd2 hL13 q0') (.cons (q1'.upd2 hL13 q0') (.cons (q2'.upd2 hL13 q0') (.cons (q3'.upd2 hL13 q0') .nil)))
      have hqs := qs'.upd2 (o := .lst ([.ref a0, .ref a1, .ref a2] ++ [.ref a3])) hL13 q0'
      have hL14 := upd_same (H := H13) (a := La) (o := .lst ([.ref a0, .ref a1, .ref a2] ++ [.ref a3]))
      have B14 : But b H6 (upd H13 La (.lst ([.ref a0, .ref a1, .ref a2] ++ [.ref a3]))) := fun u o z k => by rw [upd_ne (ne_of_none k nLH6)]; exact B13 u o z (BL u o z k)
      have b14 := b13.upd (o := .lst ([.ref a0, .ref a1, .ref a2] ++ [.ref a3])) Lab
      generalize upd H13 La (.lst ([.ref a0, .ref a1, .ref a2] ++ [.ref a3])) = H14 at hQ hqs hL14 B14 b14 ⊢
      have hq0 : NL H14 (.ref a0) (nl n 0 S) := by
        cases hQ with
        | cons h _ => exact h
      have hu0 : ([.ref a0, .ref a1, .ref a2] ++ [.ref a3] : List V)[0]? = some (.ref a0) := rfl
      have hI : ∀ l ∈ [nl n 0 S, ol n e, [], (sib 0 n en).reverse], (∀ x ∈ l, isN n x) ∧ l.length ≤ 4000 := by
        intro l hl
        rcases List.mem_cons.mp hl with rfl | hl
        · exact ⟨fun y hy => (nl_mem61 hS hy).1, Nat.le_trans (nl_len61 hS n30 l3) (by decide)⟩
        rcases List.mem_cons.mp hl with rfl | hl
        · exact ⟨fun y hy => ol_isN61 (by omega) (by omega) n30 y hy, Nat.le_trans (ol_len61 (Nat.le_trans n30 (by decide))) (by decide)⟩
        rcases List.mem_cons.mp hl with rfl | hl
        · exact ⟨fun y hy => absurd hy List.not_mem_nil, Nat.zero_le _⟩
        · rw [List.mem_singleton.mp hl]
          refine ⟨fun y hy => sib_isN61 n 0 en n1 (tree_root n) (by omega) y (List.mem_reverse.mp hy), ?_⟩
          rw [List.length_reverse]
          have := sib_len61 (n := n) (e := en) (by omega) n30
          omega
      have lL : [nl n 0 S, ol n e, [], (sib 0 n en).reverse].length = 4 := rfl
      clear q0 q1 q2 q0' q1' q2' q3' qs qs' hL13 b13 hLa bL BL B12 B13 ha3 hz3 s13 b12 k12 na3 nLa
      generalize ([.ref a0, .ref a1, .ref a2] ++ [.ref a3] : List V) = us at hQ hL14 hu0
      generalize [nl n 0 S, ol n e, [], (sib 0 n en).reverse] = Ls at hQ hI lL
      have ul := hQ.len
      refine ⟨_, rfl, La, rfl, ⟨_, SqL.of hL14⟩, fun D nD => ?_⟩
      have Db := b14.ne nD
      refine lc_list (K := K) (a := La) (xs := us) (fun i H' => Same H14 H' ∧ H' D = some (.lst (((Ls.take i).map nTxs).map V.str))) ⟨same_upd nD, upd_same⟩ (fun i H' _ ⟨k, _⟩ => SqL.of (k _ _ hL14)) ?_ ?_
      · rintro i v H15 hi ⟨s15, hD⟩
        obtain ⟨l, hli, hv⟩ := hQ.nth hi
        obtain ⟨hIl, ll⟩ := hI l (List.mem_of_getElem? hli)
        obtain ⟨p, xs, rfl, hp, hx⟩ := hv.same s15
        refine ⟨rfl, _, rfl, _, rfl, n, p, xs, l, rfl, n1, n30, hp, hx, ll, hIl, fun H16 s16 => ?_⟩
        refine ⟨_, s16 _ _ hD, szlt (by rw [List.length_map, List.length_map, List.length_take]; omega), fun u o k => by rw [upd_ne (ne_of_none k nD)]; exact s16 _ _ (s15 _ _ k), ?_⟩
        rw [take_more hli, List.map_append, List.map_append]
        exact upd_same
      rintro H15 ⟨s15, hD⟩
      rw [ul, List.take_length] at hD
      have hL15 := s15 _ _ hL14
      have hQ15 := hQ.mono fun v l (k : NL H14 v l) => k.same s15
      have B15 := B14.trans (But.of s15)
      have b15 := b14.same s15
      have hqs15 := hqs.same s15
      have hq015 := hq0.same s15
      clear hQ hL14 B14 b14 hqs hq0 s15 nD
      have Lb : La ≠ b := Lab
      have tlen : ((Ls.map nTxs).map V.str).length = Ls.length := by rw [List.length_map, List.length_map]
      refine ⟨_, rfl, _, rfl, La, D, _, _, rfl, SqL.of hL15, SqL.of hD, ?_⟩
      refine for_zipS (K := K) (a := La) (b := D) (xs := us) (ys := (Ls.map nTxs).map V.str) (by omega) (fun i σ H' => ∃ v6 v8 : Option V, σ = [some (.ref a), some (.int cell), some (.ref b), some (.int (n : Int)), some (.ref sp), some (.ref La), v6, some (.ref D), v8, v9, none, none] ∧ Same H15 H')
        ⟨v6, v8, rfl, Same.refl _⟩ (fun i σ H' ⟨_, _, _, k⟩ => ⟨SqL.of (k _ _ hL15), SqL.of (k _ _ hD)⟩) ?_ ?_
      · rintro i x y T σ H16 hx hy ⟨v6, v8, rfl, s16⟩ nT
        have xm := (List.getElem?_eq_some_iff.mp hx).1
        obtain ⟨l, hli, hv⟩ := hQ15.nth hx
        obtain ⟨hIl, ll⟩ := hI l (List.mem_of_getElem? hli)
        have ey : y = .str (nTxs l) := by
          rw [List.getElem?_map, List.getElem?_map, hli] at hy
          exact (Option.some.inj hy).symm
        subst ey
        have sT := same_upd (o := .tup [x, .str (nTxs l)]) nT
        have hT := upd_same (H := H16) (a := T) (o := .tup [x, .str (nTxs l)])
        have s17 := s16.trans sT
        generalize upd H16 T (.tup [x, .str (nTxs l)]) = H17 at hT s17 ⊢
        refine ⟨T, _, rfl, SqT.of hT, rfl, _, _, rfl, _, _, rfl, rfl, ?_⟩
        have ee : PyData.eqv (.list (l.map nd)) (.list (l.map nd)) = true := by rw [nds_eqv, decide_eq_true rfl]
        clear hT sT s16 nT
        refine ⟨_, rfl, _, rfl, n, l, rfl, n1, n30, by omega, hIl, fun H18 r18 ys18 s18 nr18 hr18 hy18 => ⟨_, rfl, _, _, lst_dp hr18 hy18, (hv.same (s17.trans s18)).dp, nds_shaped _, nds_shaped _, ?_⟩⟩
        rw [ee]
        refine ⟨false, rfl, ?_⟩
        refine ⟨_, rfl, _, rfl, _, rfl, n, l, rfl, n1, n30, by omega, hIl, fun H19 r19 ys19 s19 nr19 hr19 hy19 => ?_⟩
        refine ⟨n, r19, ys19, l, rfl, n1, n30, hr19, hy19, ll, hIl, fun H20 s20 => ⟨_, rfl, rfl, false, ne_no37 rfl, ?_⟩⟩
        have s1520 := s17.trans (s18.trans (s19.trans s20))
        clear s17 s18 s19 s20 hr18 hy18 hr19 hy19 nr18 nr19
        have hD20 := s1520 _ _ hD
        have hL20 := s1520 _ _ hL15
        have hQ20 := hQ15.mono fun v l (k : NL H15 v l) => k.same s1520
        have hv20 := hv.same s1520
        refine ⟨_, rfl, D, rfl, ⟨_, SqL.of hD20⟩, fun D1 nD1 => ?_⟩
        refine lc_list (K := K) (a := D) (xs := (Ls.map nTxs).map V.str) (fun i H' => Same H20 H' ∧ H' D1 = some (.lst (((Ls.take i).map fun k => decide (l = k)).map V.bl))) ⟨same_upd nD1, upd_same⟩ (fun i H' _ ⟨k, _⟩ => SqL.of (k _ _ hD20)) ?_ ?_
        · rintro i v H21 hi ⟨s21, hD1⟩
          obtain ⟨k, hk, rfl⟩ : ∃ k, Ls[i]? = some k ∧ v = .str (nTxs k) := by
            rw [List.getElem?_map, List.getElem?_map] at hi
            cases ek : Ls[i]? with
            | none => rw [ek] at hi; cases hi
            | some k => rw [ek] at hi; exact ⟨k, rfl, (Option.some.inj hi).symm⟩
          have ec : decide (V.str (nTxs l) = V.str (nTxs k)) = decide (l = k) := decide_eq_decide.mpr ⟨fun z => nTxs_inj (V.str.inj z), fun z => by rw [z]⟩
          refine ⟨rfl, _, rfl, _, rfl, rfl, _, hD1, szlt (by rw [List.length_map, List.length_map, List.length_take]; omega), fun u o k => by rw [upd_ne (ne_of_none k nD1)]; exact s21 _ _ k, ?_⟩
          rw [take_more hk, List.map_append, List.map_append, ec]
          exact upd_same
        rintro H21 ⟨s21, hD1⟩
        rw [tlen, List.take_length] at hD1
        have hL21 := s21 _ _ hL20
        refine ⟨_, rfl, La, rfl, ⟨_, SqL.of hL21⟩, fun D2 nD2 => ?_⟩
        refine lc_list (K := K) (a := La) (xs := us) (fun i H' => Same H21 H' ∧ H' D2 = some (.lst (((Ls.take i).map fun k => decide (l = k)).map V.bl))) ⟨same_upd nD2, upd_same⟩ (fun i H' _ ⟨k, _⟩ => SqL.of (k _ _ hL21)) ?_ ?_
        · rintro i v H22 hi ⟨s22, hD2⟩
          obtain ⟨k, hk, hvk⟩ := hQ20.nth hi
          refine ⟨rfl, _, rfl, _, rfl, _, _, (hv20.same (s21.trans s22)).dp, (hvk.same (s21.trans s22)).dp, nds_shaped _, nds_shaped _, ?_⟩
          rw [nds_eqv]
          refine ⟨_, hD2, szlt (by rw [List.length_map, List.length_map, List.length_take]; omega), fun u o k => by rw [upd_ne (ne_of_none k nD2)]; exact s22 _ _ k, ?_⟩
          rw [take_more hk, List.map_append, List.map_append]
          exact upd_same
        rintro H22 ⟨s22, hD2⟩
        rw [ul, List.take_length] at hD2
        refine ⟨_, _, .lst (SqL.of (s22 _ _ hD1)) (bools_dp _), .lst (SqL.of hD2) (bools_dp _), bools_shaped61 _, bools_shaped61 _, ?_⟩
        rw [bools_refl61]
        exact ⟨false, rfl, _, _, rfl, s1520.trans (s21.trans s22)⟩
      · rintro σ H16 ⟨v6, v8, rfl, s16⟩
        have hL16 := s16 _ _ hL15
        have hq016 := hq015.same s16
        have hqs16 := hqs15.same s16
        have B16 := B15.trans (But.of s16)
        have b16 := b15.same s16
        clear hL15 hQ15 hq015 hqs15 B15 b15 s16 hD hI
        obtain ⟨sp', ss', esp, hsp, hss⟩ := hqs16
        obtain rfl : sp = sp' := V.ref.inj esp
        obtain ⟨a0', z0', ea0, ha0, hz0⟩ := hq016
        obtain rfl : a0 = a0' := V.ref.inj ea0
        refine ⟨_, rfl, _, rfl, _, rfl, _, rfl, La, _, _, _, rfl, rfl, SqL.of hL16, atI_nat (j := 0) hu0, b, sp, a0, n, ss', z0', S, rfl, b16, n1, n30, hsp, hss, l1, l3, hS, ha0, hz0, fun H17 B17 b17 => ⟨true, rfl, ?_⟩⟩
        have hL17 := B17 _ _ Lb hL16
        have ha17 := B17 _ _ (nds_ne61 ha0 hz0 b16) ha0
        have hz17 := hz0.mono fun v x (k : Nd H16 v x) => k.but61 B17 b16
        have B617 := B16.trans B17
        clear hL16 ha0 hz0 hsp hss b16 B16 B17
        have zl := hz17.len
        have Nl := nl_len61 hS n30 l3
        have hN : ∀ y ∈ nl n 0 S, isN n y := fun y hy => (nl_mem61 hS hy).1
        refine ⟨_, rfl, La, _, _, _, rfl, rfl, SqL.of hL17, atI_nat (j := 0) hu0, a0, rfl, ⟨_, SqL.of ha17⟩, fun D nD => ?_⟩
        have Db2 := b17.ne nD
        refine lc_list (K := K) (a := a0) (xs := z0') (fun i H' => ∃ ws : List V, Same H17 H' ∧ H' D = some (.lst ws) ∧ All2 (Nd H') ws (((nl n 0 S).take i).filter fun x => decide (ones (x.2 - x.1) = 1))) ⟨[], same_upd nD, upd_same, .nil⟩ (fun i H' _ ⟨_, k, _⟩ => SqL.of (k _ _ ha17)) ?_ ?_
        · rintro i v H18 hi ⟨ws, s18, hD, hws⟩
          obtain ⟨y, hyi, hy⟩ := hz17.nth hi
          obtain ⟨y1, y2, _⟩ := isN_tree (n := n) (b := y.1) (e := y.2) (hN y (List.mem_of_getElem? hyi))
          obtain ⟨p, rfl, hp⟩ := hy.same s18
          have ed : (y.2 : Int) - (y.1 : Int) = ((y.2 - y.1 : Nat) : Int) := by omega
          refine ⟨rfl, _, rfl, p, _, _, _, rfl, rfl, SqT.of hp, atI_nat (j := 1) rfl, _, rfl, p, _, _, _, rfl, rfl, SqT.of hp, atI_nat (j := 0) rfl, _, _, rfl, rfl, y.2 - y.1, congrArg (fun z => [V.int z]) ed, Nat.lt_of_le_of_lt (show y.2 - y.1 ≤ 10 ^ 30 by omega) (by decide), rfl, ?_⟩
          have wl := hws.len
          have fl := List.length_filter_le (fun x : Nat × Nat => decide (ones (x.2 - x.1) = 1)) ((nl n 0 S).take i)
          rw [List.length_take] at fl
          by_cases c : ones (y.2 - y.1) = 1
          · refine ⟨true, congrArg V.bl (decide_eq_true (congrArg (fun z : Nat => V.int (z : Int)) c)), _, rfl, ws, hD, szlt (by omega), ws ++ [.ref p], fun u o k => by rw [upd_ne (ne_of_none k nD)]; exact s18 _ _ k, upd_same, ?_⟩
            rw [take_more hyi, List.filter_append, List.filter_cons, if_pos (decide_eq_true c)]
            exact (hws.mono fun v x (k : Nd H18 v x) => k.upd hD).app (.cons (Nd.upd ⟨p, rfl, hp⟩ hD) .nil)
          · refine ⟨false, congrArg V.bl (decide_eq_false fun z => c (by have := V.int.inj z; omega)), ws, s18, hD, ?_⟩
            rw [take_more hyi, List.filter_append, List.filter_cons, if_neg (by rw [decide_eq_false c]; exact Bool.false_ne_true)]
            rw [List.filter_nil, List.append_nil]
            exact hws
        rintro H18 ⟨ws, s18, hD, hws⟩
        rw [zl, List.take_length] at hws
        have hW : ∀ y ∈ (nl n 0 S).filter (fun x => decide (ones (x.2 - x.1) = 1)), isN n y ∧ isN (n + 1) y := fun y hy => by
          obtain ⟨h1, h2⟩ := List.mem_filter.mp hy
          exact ⟨hN y h1, full_more61 (hN y h1) (of_decide_eq_true h2)⟩
        have Wl := List.length_filter_le (fun x : Nat × Nat => decide (ones (x.2 - x.1) = 1)) (nl n 0 S)
        generalize (nl n 0 S).filter (fun x => decide (ones (x.2 - x.1) = 1)) = W at hws hW Wl
        have B18 := B617.trans (But.of s18)
        have b18 := b17.same s18
        refine ⟨_, rfl, _, _, rfl, rfl, ⟨by decide, by decide, by decide⟩, _, _, rfl, rfl, ?_⟩
        by_cases c : n < 10 ^ 30
        · refine ⟨true, congrArg V.bl (decide_eq_true (by rw [e30]; omega)), ?_⟩
          refine ⟨_, rfl, _, _, rfl, rfl, _, rfl, _, rfl, n, D, ws, W, rfl, n1, n30, hD, hws, by omega, (fun y hy => (hW y hy).1), fun H19 s19 => ?_⟩
          refine ⟨n + 1, W, rfl, by omega, by omega, by omega, (fun y hy => (hW y hy).2), fun H20 r20 ys20 s20 nr20 hr20 hy20 => ?_⟩
          refine ⟨_, rfl, _, _, lst_dp hr20 hy20, lst_dp (s20 _ _ (s19 _ _ hD)) (hws.mono fun v x (k : Nd H18 v x) => (k.same s19).same s20), nds_shaped _, nds_shaped _, ?_⟩
          rw [nds_eqv, decide_eq_true rfl]
          have s192 := s19.trans s20
          exact ⟨false, rfl, _, _, _, _, _, _, _, rfl, (B6.trans B18).trans (But.of s192), (C6.trans B18).trans (But.of s192), b18.same s192⟩
        · refine ⟨false, congrArg V.bl (decide_eq_false (by rw [e30]; omega)), ?_⟩
          exact ⟨_, _, _, _, _, _, _, rfl, B6.trans B18, C6.trans B18, b18⟩
    · rintro σ H6 ⟨v3, v4, v5, v6, v7, v8, v9, rfl, B6, C6, b6⟩
      exact ⟨_, _, _, _, _, _, _, _, _, rfl, fun u o k => B6 u o (ne_of_none k nb0) k⟩
  · rintro σ H1 ⟨v1, v2, v3, v4, v5, v6, v7, v8, v9, rfl, sm1⟩
    exact q _
end
end LT

namespace LT
open PySem PySem.Spec PyProof.Rows L2
theorem all_mk {l : PySem.W.OpenLaw} {w : World} {K : PySem.W.Frag} {h : Heap} {mg : Str → Option Value} {fa f0 f1 f2 f3 f4 f5 f6 f7 f8 f9 f10 f11 f12 f13 f14 f15 f16 f17 f18 f19 f20 f21 f22 f23 f24 f25 f26 f27 f28 f29 f30 f31 f32 f33 f34 f35 f36 f37 : Addr} (X : K.In h) (G : h.Ns mainGlobals mg) (hfa : mg "law" = some (.ref fa))
    {od0 an0 od1 an1 od2 an2 od3 an3 od4 an4 od5 an5 od6 an6 od7 an7 od8 an8 od9 an9 od10 an10 od11 an11 od12 an12 od13 an13 od14 an14 od15 an15 od16 an16 od17 an17 od18 an18 od19 an19 od20 an20 od21 an21 od22 an22 od23 an23 od24 an24 od25 an25 od26 an26 od27 an27 od28 an28 od29 an29 od30 an30 od31 an31 od32 an32 od33 an33 od34 an34 od35 an35 od36 an36 od37 an37 : Option Addr} {sl0 sl1 sl2 sl3 sl4 sl5 sl6 sl7 sl8 sl9 sl10 sl11 sl12 sl13 sl14 sl15 sl16 sl17 sl18 sl19 sl20 sl21 sl22 sl23 sl24 sl25 sl26 sl27 sl28 sl29 sl30 sl31 sl32 sl33 sl34 sl35 sl36 sl37 : Array (Option Value)} {oc0 kV0 dc0 pm0 cd0 ct0 oc1 kV1 dc1 pm1 cd1 ct1 oc2 kV2 dc2 pm2 cd2 ct2 oc3 kV3 dc3 pm3 cd3 ct3 oc4 kV4 dc4 pm4 cd4 ct4 oc5 kV5 dc5 pm5 cd5 ct5 oc6 kV6 dc6 pm6 cd6 ct6 oc7 kV7 dc7 pm7 cd7 ct7 oc8 kV8 dc8 pm8 cd8 ct8 oc9 kV9 dc9 pm9 cd9 ct9 oc10 kV10 dc10 pm10 cd10 ct10 oc11 kV11 dc11 pm11 cd11 ct11 oc12 kV12 dc12 pm12 cd12 ct12 oc13 kV13 dc13 pm13 cd13 ct13 oc14 kV14 dc14 pm14 cd14 ct14 oc15 kV15 dc15 pm15 cd15 ct15 oc16 kV16 dc16 pm16 cd16 ct16 oc17 kV17 dc17 pm17 cd17 ct17 oc18 kV18 dc18 pm18 cd18 ct18 oc19 kV19 dc19 pm19 cd19 ct19 oc20 kV20 dc20 pm20 cd20 ct20 oc21 kV21 dc21 pm21 cd21 ct21 oc22 kV22 dc22 pm22 cd22 ct22 oc23 kV23 dc23 pm23 cd23 ct23 oc24 kV24 dc24 pm24 cd24 ct24 oc25 kV25 dc25 pm25 cd25 ct25 oc26 kV26 dc26 pm26 cd26 ct26 oc27 kV27 dc27 pm27 cd27 ct27 oc28 kV28 dc28 pm28 cd28 ct28 oc29 kV29 dc29 pm29 cd29 ct29 oc30 kV30 dc30 pm30 cd30 ct30 oc31 kV31 dc31 pm31 cd31 ct31 oc32 kV32 dc32 pm32 cd32 ct32 oc33 kV33 dc33 pm33 cd33 ct33 oc34 kV34 dc34 pm34 cd34 ct34 oc35 kV35 dc35 pm35 cd35 ct35 oc36 kV36 dc36 pm36 cd36 ct36 oc37 kV37 dc37 pm37 cd37 ct37 : Value}
    (a0 : PySem.W.nsIn K mainGlobals "is_whole" = some (some (.ref f0))) (l0 : K.lookup f0 = some ⟨oc0, od0, .func (PySem.W.fnOf "is_whole" "is_whole" (defArgs sIsWhole) (defBody sIsWhole) (defScope sIsWhole) .none kV0 dc0 pm0 an0 cd0 ct0), sl0⟩) (c0 : PySem.W.codeIn K cd0 "is_whole" = true) (k0 : PySem.W.keepIn K (.ref f0) = true)
    (a1 : PySem.W.nsIn K mainGlobals "is_between" = some (some (.ref f1))) (l1 : K.lookup f1 = some ⟨oc1, od1, .func (PySem.W.fnOf "is_between" "is_between" (defArgs sIsBetween) (defBody sIsBetween) (defScope sIsBetween) .none kV1 dc1 pm1 an1 cd1 ct1), sl1⟩) (c1 : PySem.W.codeIn K cd1 "is_between" = true) (k1 : PySem.W.keepIn K (.ref f1) = true)
    (a2 : PySem.W.nsIn K mainGlobals "is_tree_node" = some (some (.ref f2))) (l2 : K.lookup f2 = some ⟨oc2, od2, .func (PySem.W.fnOf "is_tree_node" "is_tree_node" (defArgs sIsTreeNode) (defBody sIsTreeNode) (defScope sIsTreeNode) .none kV2 dc2 pm2 an2 cd2 ct2), sl2⟩) (c2 : PySem.W.codeIn K cd2 "is_tree_node" = true) (k2 : PySem.W.keepIn K (.ref f2) = true)
    (a3 : PySem.W.nsIn K mainGlobals "is_list_of" = some (some (.ref f3))) (l3 : K.lookup f3 = some ⟨oc3, od3, .func (PySem.W.fnOf "is_list_of" "is_list_of" (defArgs sIsListOf) (defBody sIsListOf) (defScope sIsListOf) .none kV3 dc3 pm3 an3 cd3 ct3), sl3⟩) (c3 : PySem.W.codeIn K cd3 "is_list_of" = true) (k3 : PySem.W.keepIn K (.ref f3) = true)
    (a4 : PySem.W.nsIn K mainGlobals "is_span_from" = some (some (.ref f4))) (l4 : K.lookup f4 = some ⟨oc4, od4, .func (PySem.W.fnOf "is_span_from" "is_span_from" (defArgs sIsSpanFrom) (defBody sIsSpanFrom) (defScope sIsSpanFrom) .none kV4 dc4 pm4 an4 cd4 ct4), sl4⟩) (c4 : PySem.W.codeIn K cd4 "is_span_from" = true) (k4 : PySem.W.keepIn K (.ref f4) = true)
    (a5 : PySem.W.nsIn K mainGlobals "check_size" = some (some (.ref f5))) (l5 : K.lookup f5 = some ⟨oc5, od5, .func (PySem.W.fnOf "check_size" "check_size" (defArgs sCheckSize) (defBody sCheckSize) (defScope sCheckSize) .none kV5 dc5 pm5 an5 cd5 ct5), sl5⟩) (c5 : PySem.W.codeIn K cd5 "check_size" = true) (k5 : PySem.W.keepIn K (.ref f5) = true)
    (a6 : PySem.W.nsIn K mainGlobals "check_entry" = some (some (.ref f6))) (l6 : K.lookup f6 = some ⟨oc6, od6, .func (PySem.W.fnOf "check_entry" "check_entry" (defArgs sCheckEntry) (defBody sCheckEntry) (defScope sCheckEntry) .none kV6 dc6 pm6 an6 cd6 ct6), sl6⟩) (c6 : PySem.W.codeIn K cd6 "check_entry" = true) (k6 : PySem.W.keepIn K (.ref f6) = true)
    (a7 : PySem.W.nsIn K mainGlobals "check_node" = some (some (.ref f7))) (l7 : K.lookup f7 = some ⟨oc7, od7, .func (PySem.W.fnOf "check_node" "check_node" (defArgs sCheckNode) (defBody sCheckNode) (defScope sCheckNode) .none kV7 dc7 pm7 an7 cd7 ct7), sl7⟩) (c7 : PySem.W.codeIn K cd7 "check_node" = true) (k7 : PySem.W.keepIn K (.ref f7) = true)
    (a8 : PySem.W.nsIn K mainGlobals "check_spans" = some (some (.ref f8))) (l8 : K.lookup f8 = some ⟨oc8, od8, .func (PySem.W.fnOf "check_spans" "check_spans" (defArgs sCheckSpans) (defBody sCheckSpans) (defScope sCheckSpans) .none kV8 dc8 pm8 an8 cd8 ct8), sl8⟩) (c8 : PySem.W.codeIn K cd8 "check_spans" = true) (k8 : PySem.W.keepIn K (.ref f8) = true)
    {dT9 : Addr} {tc9 : Value} {td9 : Option Addr} {tits9 : Array Value} {tn9 : Nat} {tsl9 : Array (Option Value)}
    (a9 : PySem.W.nsIn K mainGlobals "check_nodes" = some (some (.ref f9))) (l9 : K.lookup f9 = some ⟨oc9, od9, .func (PySem.W.fnOf "check_nodes" "check_nodes" (defArgs sCheckNodes) (defBody sCheckNodes) (defScope sCheckNodes) (.ref dT9) kV9 dc9 pm9 an9 cd9 ct9), sl9⟩) (c9 : PySem.W.codeIn K cd9 "check_nodes" = true) (k9 : PySem.W.keepIn K (.ref f9) = true)
    (lT9 : K.lookup dT9 = some ⟨tc9, td9, .seq tits9 tn9, tsl9⟩) (vT9 : Vals [.int 1, .int 60] tits9.toList)
    (a10 : PySem.W.nsIn K mainGlobals "check_older" = some (some (.ref f10))) (l10 : K.lookup f10 = some ⟨oc10, od10, .func (PySem.W.fnOf "check_older" "check_older" (defArgs sCheckOlder) (defBody sCheckOlder) (defScope sCheckOlder) .none kV10 dc10 pm10 an10 cd10 ct10), sl10⟩) (c10 : PySem.W.codeIn K cd10 "check_older" = true) (k10 : PySem.W.keepIn K (.ref f10) = true)
    (a11 : PySem.W.nsIn K mainGlobals "text_of" = some (some (.ref f11))) (l11 : K.lookup f11 = some ⟨oc11, od11, .func (PySem.W.fnOf "text_of" "text_of" (defArgs sTextOf) (defBody sTextOf) (defScope sTextOf) .none kV11 dc11 pm11 an11 cd11 ct11), sl11⟩) (c11 : PySem.W.codeIn K cd11 "text_of" = true) (k11 : PySem.W.keepIn K (.ref f11) = true)
    (a12 : PySem.W.nsIn K mainGlobals "number_of" = some (some (.ref f12))) (l12 : K.lookup f12 = some ⟨oc12, od12, .func (PySem.W.fnOf "number_of" "number_of" (defArgs sNumberOf) (defBody sNumberOf) (defScope sNumberOf) .none kV12 dc12 pm12 an12 cd12 ct12), sl12⟩) (c12 : PySem.W.codeIn K cd12 "number_of" = true) (k12 : PySem.W.keepIn K (.ref f12) = true)
    (a13 : PySem.W.nsIn K mainGlobals "show_nodes" = some (some (.ref f13))) (l13 : K.lookup f13 = some ⟨oc13, od13, .func (PySem.W.fnOf "show_nodes" "show_nodes" (defArgs sShowNodes) (defBody sShowNodes) (defScope sShowNodes) .none kV13 dc13 pm13 an13 cd13 ct13), sl13⟩) (c13 : PySem.W.codeIn K cd13 "show_nodes" = true) (k13 : PySem.W.keepIn K (.ref f13) = true)
    (a14 : PySem.W.nsIn K mainGlobals "read_nodes" = some (some (.ref f14))) (l14 : K.lookup f14 = some ⟨oc14, od14, .func (PySem.W.fnOf "read_nodes" "read_nodes" (defArgs sReadNodes) (defBody sReadNodes) (defScope sReadNodes) .none kV14 dc14 pm14 an14 cd14 ct14), sl14⟩) (c14 : PySem.W.codeIn K cd14 "read_nodes" = true) (k14 : PySem.W.keepIn K (.ref f14) = true)
    (a15 : PySem.W.nsIn K mainGlobals "power_within" = some (some (.ref f15))) (l15 : K.lookup f15 = some ⟨oc15, od15, .func (PySem.W.fnOf "power_within" "power_within" (defArgs sPowerWithin) (defBody sPowerWithin) (defScope sPowerWithin) .none kV15 dc15 pm15 an15 cd15 ct15), sl15⟩) (c15 : PySem.W.codeIn K cd15 "power_within" = true) (k15 : PySem.W.keepIn K (.ref f15) = true)
    (a16 : PySem.W.nsIn K mainGlobals "_first_full" = some (some (.ref f16))) (l16 : K.lookup f16 = some ⟨oc16, od16, .func (PySem.W.fnOf "_first_full" "_first_full" (defArgs sFirstFull) (defBody sFirstFull) (defScope sFirstFull) .none kV16 dc16 pm16 an16 cd16 ct16), sl16⟩) (c16 : PySem.W.codeIn K cd16 "_first_full" = true) (k16 : PySem.W.keepIn K (.ref f16) = true)
    (a17 : PySem.W.nsIn K mainGlobals "nodes_within" = some (some (.ref f17))) (l17 : K.lookup f17 = some ⟨oc17, od17, .func (PySem.W.fnOf "nodes_within" "nodes_within" (defArgs sNodesWithin) (defBody sNodesWithin) (defScope sNodesWithin) .none kV17 dc17 pm17 an17 cd17 ct17), sl17⟩) (c17 : PySem.W.codeIn K cd17 "nodes_within" = true) (k17 : PySem.W.keepIn K (.ref f17) = true)
    (a18 : PySem.W.nsIn K mainGlobals "nodes_beside" = some (some (.ref f18))) (l18 : K.lookup f18 = some ⟨oc18, od18, .func (PySem.W.fnOf "nodes_beside" "nodes_beside" (defArgs sNodesBeside) (defBody sNodesBeside) (defScope sNodesBeside) .none kV18 dc18 pm18 an18 cd18 ct18), sl18⟩) (c18 : PySem.W.codeIn K cd18 "nodes_beside" = true) (k18 : PySem.W.keepIn K (.ref f18) = true)
    (a19 : PySem.W.nsIn K mainGlobals "peaks" = some (some (.ref f19))) (l19 : K.lookup f19 = some ⟨oc19, od19, .func (PySem.W.fnOf "peaks" "peaks" (defArgs sPeaks) (defBody sPeaks) (defScope sPeaks) .none kV19 dc19 pm19 an19 cd19 ct19), sl19⟩) (c19 : PySem.W.codeIn K cd19 "peaks" = true) (k19 : PySem.W.keepIn K (.ref f19) = true)
    (a20 : PySem.W.nsIn K mainGlobals "halves" = some (some (.ref f20))) (l20 : K.lookup f20 = some ⟨oc20, od20, .func (PySem.W.fnOf "halves" "halves" (defArgs sHalves) (defBody sHalves) (defScope sHalves) .none kV20 dc20 pm20 an20 cd20 ct20), sl20⟩) (c20 : PySem.W.codeIn K cd20 "halves" = true) (k20 : PySem.W.keepIn K (.ref f20) = true)
    (a21 : PySem.W.nsIn K mainGlobals "path" = some (some (.ref f21))) (l21 : K.lookup f21 = some ⟨oc21, od21, .func (PySem.W.fnOf "path" "path" (defArgs sPath) (defBody sPath) (defScope sPath) .none kV21 dc21 pm21 an21 cd21 ct21), sl21⟩) (c21 : PySem.W.codeIn K cd21 "path" = true) (k21 : PySem.W.keepIn K (.ref f21) = true)
    (a22 : PySem.W.nsIn K mainGlobals "needed" = some (some (.ref f22))) (l22 : K.lookup f22 = some ⟨oc22, od22, .func (PySem.W.fnOf "needed" "needed" (defArgs sNeeded) (defBody sNeeded) (defScope sNeeded) .none kV22 dc22 pm22 an22 cd22 ct22), sl22⟩) (c22 : PySem.W.codeIn K cd22 "needed" = true) (k22 : PySem.W.keepIn K (.ref f22) = true)
    (a23 : PySem.W.nsIn K mainGlobals "older_list" = some (some (.ref f23))) (l23 : K.lookup f23 = some ⟨oc23, od23, .func (PySem.W.fnOf "older_list" "older_list" (defArgs sOlderList) (defBody sOlderList) (defScope sOlderList) .none kV23 dc23 pm23 an23 cd23 ct23), sl23⟩) (c23 : PySem.W.codeIn K cd23 "older_list" = true) (k23 : PySem.W.keepIn K (.ref f23) = true)
    (a24 : PySem.W.nsIn K mainGlobals "joined" = some (some (.ref f24))) (l24 : K.lookup f24 = some ⟨oc24, od24, .func (PySem.W.fnOf "joined" "joined" (defArgs sJoined) (defBody sJoined) (defScope sJoined) .none kV24 dc24 pm24 an24 cd24 ct24), sl24⟩) (c24 : PySem.W.codeIn K cd24 "joined" = true) (k24 : PySem.W.keepIn K (.ref f24) = true)
    (a25 : PySem.W.nsIn K mainGlobals "shows_needed" = some (some (.ref f25))) (l25 : K.lookup f25 = some ⟨oc25, od25, .func (PySem.W.fnOf "shows_needed" "shows_needed" (defArgs sShowsNeeded) (defBody sShowsNeeded) (defScope sShowsNeeded) .none kV25 dc25 pm25 an25 cd25 ct25), sl25⟩) (c25 : PySem.W.codeIn K cd25 "shows_needed" = true) (k25 : PySem.W.keepIn K (.ref f25) = true)
    (a26 : PySem.W.nsIn K mainGlobals "_check" = some (some (.ref f26))) (l26 : K.lookup f26 = some ⟨oc26, od26, .func (PySem.W.fnOf "_check" "_check" (defArgs sCheck) (defBody sCheck) (defScope sCheck) .none kV26 dc26 pm26 an26 cd26 ct26), sl26⟩) (c26 : PySem.W.codeIn K cd26 "_check" = true) (k26 : PySem.W.keepIn K (.ref f26) = true)
    (a27 : PySem.W.nsIn K mainGlobals "serves" = some (some (.ref f27))) (l27 : K.lookup f27 = some ⟨oc27, od27, .func (PySem.W.fnOf "serves" "serves" (defArgs sServes) (defBody sServes) (defScope sServes) .none kV27 dc27 pm27 an27 cd27 ct27), sl27⟩) (c27 : PySem.W.codeIn K cd27 "serves" = true) (k27 : PySem.W.keepIn K (.ref f27) = true)
    (a28 : PySem.W.nsIn K mainGlobals "_meets" = some (some (.ref f28))) (l28 : K.lookup f28 = some ⟨oc28, od28, .func (PySem.W.fnOf "_meets" "_meets" (defArgs sMeets) (defBody sMeets) (defScope sMeets) .none kV28 dc28 pm28 an28 cd28 ct28), sl28⟩) (c28 : PySem.W.codeIn K cd28 "_meets" = true) (k28 : PySem.W.keepIn K (.ref f28) = true)
    (a29 : PySem.W.nsIn K mainGlobals "first_wrong" = some (some (.ref f29))) (l29 : K.lookup f29 = some ⟨oc29, od29, .func (PySem.W.fnOf "first_wrong" "first_wrong" (defArgs sFirstWrong) (defBody sFirstWrong) (defScope sFirstWrong) .none kV29 dc29 pm29 an29 cd29 ct29), sl29⟩) (c29 : PySem.W.codeIn K cd29 "first_wrong" = true) (k29 : PySem.W.keepIn K (.ref f29) = true)
    (a30 : PySem.W.nsIn K mainGlobals "lacking" = some (some (.ref f30))) (l30 : K.lookup f30 = some ⟨oc30, od30, .func (PySem.W.fnOf "lacking" "lacking" (defArgs sLacking) (defBody sLacking) (defScope sLacking) .none kV30 dc30 pm30 an30 cd30 ct30), sl30⟩) (c30 : PySem.W.codeIn K cd30 "lacking" = true) (k30 : PySem.W.keepIn K (.ref f30) = true)
    (a31 : PySem.W.nsIn K mainGlobals "_law_bag" = some (some (.ref f31))) (l31 : K.lookup f31 = some ⟨oc31, od31, .func (PySem.W.fnOf "_law_bag" "_law_bag" (defArgs sLawBag) (defBody sLawBag) (defScope sLawBag) .none kV31 dc31 pm31 an31 cd31 ct31), sl31⟩) (c31 : PySem.W.codeIn K cd31 "_law_bag" = true) (k31 : PySem.W.keepIn K (.ref f31) = true)
    (a32 : PySem.W.nsIn K mainGlobals "_law_pick" = some (some (.ref f32))) (l32 : K.lookup f32 = some ⟨oc32, od32, .func (PySem.W.fnOf "_law_pick" "_law_pick" (defArgs sLawPick) (defBody sLawPick) (defScope sLawPick) .none kV32 dc32 pm32 an32 cd32 ct32), sl32⟩) (c32 : PySem.W.codeIn K cd32 "_law_pick" = true) (k32 : PySem.W.keepIn K (.ref f32) = true)
    (a33 : PySem.W.nsIn K mainGlobals "_law_ones" = some (some (.ref f33))) (l33 : K.lookup f33 = some ⟨oc33, od33, .func (PySem.W.fnOf "_law_ones" "_law_ones" (defArgs sLawOnes) (defBody sLawOnes) (defScope sLawOnes) .none kV33 dc33 pm33 an33 cd33 ct33), sl33⟩) (c33 : PySem.W.codeIn K cd33 "_law_ones" = true) (k33 : PySem.W.keepIn K (.ref f33) = true)
    (a34 : PySem.W.nsIn K mainGlobals "_law_spans" = some (some (.ref f34))) (l34 : K.lookup f34 = some ⟨oc34, od34, .func (PySem.W.fnOf "_law_spans" "_law_spans" (defArgs sLawSpans) (defBody sLawSpans) (defScope sLawSpans) .none kV34 dc34 pm34 an34 cd34 ct34), sl34⟩) (c34 : PySem.W.codeIn K cd34 "_law_spans" = true) (k34 : PySem.W.keepIn K (.ref f34) = true)
    (a35 : PySem.W.nsIn K mainGlobals "_law_mixed" = some (some (.ref f35))) (l35 : K.lookup f35 = some ⟨oc35, od35, .func (PySem.W.fnOf "_law_mixed" "_law_mixed" (defArgs sLawMixed) (defBody sLawMixed) (defScope sLawMixed) .none kV35 dc35 pm35 an35 cd35 ct35), sl35⟩) (c35 : PySem.W.codeIn K cd35 "_law_mixed" = true) (k35 : PySem.W.keepIn K (.ref f35) = true)
    (a36 : PySem.W.nsIn K mainGlobals "_law_paper_right" = some (some (.ref f36))) (l36 : K.lookup f36 = some ⟨oc36, od36, .func (PySem.W.fnOf "_law_paper_right" "_law_paper_right" (defArgs sLawPaperRight) (defBody sLawPaperRight) (defScope sLawPaperRight) .none kV36 dc36 pm36 an36 cd36 ct36), sl36⟩) (c36 : PySem.W.codeIn K cd36 "_law_paper_right" = true) (k36 : PySem.W.keepIn K (.ref f36) = true)
    (a37 : PySem.W.nsIn K mainGlobals "law" = some (some (.ref f37))) (l37 : K.lookup f37 = some ⟨oc37, od37, .func (PySem.W.fnOf "law" "law" (defArgs sLaw) (defBody sLaw) (defScope sLaw) .none kV37 dc37 pm37 an37 cd37 ct37), sl37⟩) (c37 : PySem.W.codeIn K cd37 "law" = true) (k37 : PySem.W.keepIn K (.ref f37) = true)
    (z_all : PySem.W.nsIn K mainGlobals "all" = some none)
    (z_any : PySem.W.nsIn K mainGlobals "any" = some none)
    (z_bool : PySem.W.nsIn K mainGlobals "bool" = some none)
    (z_enumerate : PySem.W.nsIn K mainGlobals "enumerate" = some none)
    (z_int : PySem.W.nsIn K mainGlobals "int" = some none)
    (z_isinstance : PySem.W.nsIn K mainGlobals "isinstance" = some none)
    (z_len : PySem.W.nsIn K mainGlobals "len" = some none)
    (z_list : PySem.W.nsIn K mainGlobals "list" = some none)
    (z_max : PySem.W.nsIn K mainGlobals "max" = some none)
    (z_min : PySem.W.nsIn K mainGlobals "min" = some none)
    (z_range : PySem.W.nsIn K mainGlobals "range" = some none)
    (z_set : PySem.W.nsIn K mainGlobals "set" = some none)
    (z_sorted : PySem.W.nsIn K mainGlobals "sorted" = some none)
    (z_str : PySem.W.nsIn K mainGlobals "str" = some none)
    (z_tuple : PySem.W.nsIn K mainGlobals "tuple" = some none)
    (z_zip : PySem.W.nsIn K mainGlobals "zip" = some none)
    {t_MOST_DIGITS : Tok} (g_MOST_DIGITS : PySem.W.nsIn K mainGlobals "MOST_DIGITS" = some (some (.int 100 t_MOST_DIGITS)))
    {t_MOST_ENTRIES : Tok} (g_MOST_ENTRIES : PySem.W.nsIn K mainGlobals "MOST_ENTRIES" = some (some (.int 1000000000000000000000000000000 t_MOST_ENTRIES)))
    {t_MOST_SHOWN : Tok} (g_MOST_SHOWN : PySem.W.nsIn K mainGlobals "MOST_SHOWN" = some (some (.int 4000 t_MOST_SHOWN)))
    {t_MOST_SPANS : Tok} (g_MOST_SPANS : PySem.W.nsIn K mainGlobals "MOST_SPANS" = some (some (.int 12 t_MOST_SPANS)))
    : ∃ fd : FuncData, (∀ (s : Shared) (v : Value), BindsTo s fd ⟨[v], []⟩ [("script", v)]) ∧ ∀ base : Heap, K.In base → base.Ns mainGlobals mg → FnOk l.prog w K mg base CX0 9 fa fd ["script"] (spLaw K) := by
  have e := hfa.symm.trans (PySem.W.mg_of X G a37)
  cases e
  have FIsWhole := fun_mk (st := sIsWhole) l0 c0 k0
  have FIsBetween := fun_mk (st := sIsBetween) l1 c1 k1
  have FIsTreeNode := fun_mk (st := sIsTreeNode) l2 c2 k2
  have FIsListOf := fun_mk (st := sIsListOf) l3 c3 k3
  have FIsSpanFrom := fun_mk (st := sIsSpanFrom) l4 c4 k4
  have FCheckSize := fun_mk (st := sCheckSize) l5 c5 k5
  have FCheckEntry := fun_mk (st := sCheckEntry) l6 c6 k6
  have FCheckNode := fun_mk (st := sCheckNode) l7 c7 k7
  have FCheckSpans := fun_mk (st := sCheckSpans) l8 c8 k8
  have FCheckNodes := funT_mk (st := sCheckNodes) l9 c9 k9 lT9 vT9
  have FCheckOlder := fun_mk (st := sCheckOlder) l10 c10 k10
  have FTextOf := fun_mk (st := sTextOf) l11 c11 k11
  have FNumberOf := fun_mk (st := sNumberOf) l12 c12 k12
  have FShowNodes := fun_mk (st := sShowNodes) l13 c13 k13
  have FReadNodes := fun_mk (st := sReadNodes) l14 c14 k14
  have FPowerWithin := fun_mk (st := sPowerWithin) l15 c15 k15
  have FFirstFull := fun_mk (st := sFirstFull) l16 c16 k16
  have FNodesWithin := fun_mk (st := sNodesWithin) l17 c17 k17
  have FNodesBeside := fun_mk (st := sNodesBeside) l18 c18 k18
  have FPeaks := fun_mk (st := sPeaks) l19 c19 k19
  have FHalves := fun_mk (st := sHalves) l20 c20 k20
  have FPath := fun_mk (st := sPath) l21 c21 k21
  have FNeeded := fun_mk (st := sNeeded) l22 c22 k22
  have FOlderList := fun_mk (st := sOlderList) l23 c23 k23
  have FJoined := fun_mk (st := sJoined) l24 c24 k24
  have FShowsNeeded := fun_mk (st := sShowsNeeded) l25 c25 k25
  have FCheck := fun_mk (st := sCheck) l26 c26 k26
  have FServes := fun_mk (st := sServes) l27 c27 k27
  have FMeets := fun_mk (st := sMeets) l28 c28 k28
  have FFirstWrong := fun_mk (st := sFirstWrong) l29 c29 k29
  have FLacking := fun_mk (st := sLacking) l30 c30 k30
  have FLawBag := fun_mk (st := sLawBag) l31 c31 k31
  have FLawPick := fun_mk (st := sLawPick) l32 c32 k32
  have FLawOnes := fun_mk (st := sLawOnes) l33 c33 k33
  have FLawSpans := fun_mk (st := sLawSpans) l34 c34 k34
  have FLawMixed := fun_mk (st := sLawMixed) l35 c35 k35
  have FLawPaperRight := fun_mk (st := sLawPaperRight) l36 c36 k36
  have FLaw := fun_mk (st := sLaw) l37 c37 k37
  have AIsWhole : At K mg "is_whole" f0 (PySem.W.fnOf "is_whole" "is_whole" (defArgs sIsWhole) (defBody sIsWhole) (defScope sIsWhole) .none kV0 dc0 pm0 an0 cd0 ct0) ["value"] := ⟨PySem.W.mg_of X G a0, k0, FIsWhole.binds (ps := ["value"]) fun _ _ _ _ _ _ us hl => match us, hl with | [_], _ => rfl⟩
  have AIsBetween : At K mg "is_between" f1 (PySem.W.fnOf "is_between" "is_between" (defArgs sIsBetween) (defBody sIsBetween) (defScope sIsBetween) .none kV1 dc1 pm1 an1 cd1 ct1) ["value", "low", "high"] := ⟨PySem.W.mg_of X G a1, k1, FIsBetween.binds (ps := ["value", "low", "high"]) fun _ _ _ _ _ _ us hl => match us, hl with | [_, _, _], _ => rfl⟩
  have AIsTreeNode : At K mg "is_tree_node" f2 (PySem.W.fnOf "is_tree_node" "is_tree_node" (defArgs sIsTreeNode) (defBody sIsTreeNode) (defScope sIsTreeNode) .none kV2 dc2 pm2 an2 cd2 ct2) ["size", "value"] := ⟨PySem.W.mg_of X G a2, k2, FIsTreeNode.binds (ps := ["size", "value"]) fun _ _ _ _ _ _ us hl => match us, hl with | [_, _], _ => rfl⟩
  have AIsListOf : At K mg "is_list_of" f3 (PySem.W.fnOf "is_list_of" "is_list_of" (defArgs sIsListOf) (defBody sIsListOf) (defScope sIsListOf) .none kV3 dc3 pm3 an3 cd3 ct3) ["value", "least", "most"] := ⟨PySem.W.mg_of X G a3, k3, FIsListOf.binds (ps := ["value", "least", "most"]) fun _ _ _ _ _ _ us hl => match us, hl with | [_, _, _], _ => rfl⟩
  have AIsSpanFrom : At K mg "is_span_from" f4 (PySem.W.fnOf "is_span_from" "is_span_from" (defArgs sIsSpanFrom) (defBody sIsSpanFrom) (defScope sIsSpanFrom) .none kV4 dc4 pm4 an4 cd4 ct4) ["size", "value", "least"] := ⟨PySem.W.mg_of X G a4, k4, FIsSpanFrom.binds (ps := ["size", "value", "least"]) fun _ _ _ _ _ _ us hl => match us, hl with | [_, _, _], _ => rfl⟩
  have ACheckSize : At K mg "check_size" f5 (PySem.W.fnOf "check_size" "check_size" (defArgs sCheckSize) (defBody sCheckSize) (defScope sCheckSize) .none kV5 dc5 pm5 an5 cd5 ct5) ["size"] := ⟨PySem.W.mg_of X G a5, k5, FCheckSize.binds (ps := ["size"]) fun _ _ _ _ _ _ us hl => match us, hl with | [_], _ => rfl⟩
  have ACheckEntry : At K mg "check_entry" f6 (PySem.W.fnOf "check_entry" "check_entry" (defArgs sCheckEntry) (defBody sCheckEntry) (defScope sCheckEntry) .none kV6 dc6 pm6 an6 cd6 ct6) ["size", "entry"] := ⟨PySem.W.mg_of X G a6, k6, FCheckEntry.binds (ps := ["size", "entry"]) fun _ _ _ _ _ _ us hl => match us, hl with | [_, _], _ => rfl⟩
  have ACheckNode : At K mg "check_node" f7 (PySem.W.fnOf "check_node" "check_node" (defArgs sCheckNode) (defBody sCheckNode) (defScope sCheckNode) .none kV7 dc7 pm7 an7 cd7 ct7) ["size", "node"] := ⟨PySem.W.mg_of X G a7, k7, FCheckNode.binds (ps := ["size", "node"]) fun _ _ _ _ _ _ us hl => match us, hl with | [_, _], _ => rfl⟩
  have ACheckSpans : At K mg "check_spans" f8 (PySem.W.fnOf "check_spans" "check_spans" (defArgs sCheckSpans) (defBody sCheckSpans) (defScope sCheckSpans) .none kV8 dc8 pm8 an8 cd8 ct8) ["size", "spans"] := ⟨PySem.W.mg_of X G a8, k8, FCheckSpans.binds (ps := ["size", "spans"]) fun _ _ _ _ _ _ us hl => match us, hl with | [_, _], _ => rfl⟩
  have ACheckNodes : AtT K mg "check_nodes" f9 _ ["size", "nodes", "least", "most"] tits9.toList [.int 1, .int 60] := ⟨PySem.W.mg_of X G a9, k9, FCheckNodes.binds (n := 2) (m := 2) rfl (fun _ _ _ _ _ _ _ us its hl hi => match us, hl, its, hi with | [_, _], _, [_, _], _ => ⟨_, rfl, rfl⟩) , vT9⟩
  have ACheckOlder : At K mg "check_older" f10 (PySem.W.fnOf "check_older" "check_older" (defArgs sCheckOlder) (defBody sCheckOlder) (defScope sCheckOlder) .none kV10 dc10 pm10 an10 cd10 ct10) ["size", "older"] := ⟨PySem.W.mg_of X G a10, k10, FCheckOlder.binds (ps := ["size", "older"]) fun _ _ _ _ _ _ us hl => match us, hl with | [_, _], _ => rfl⟩
  have ATextOf : At K mg "text_of" f11 (PySem.W.fnOf "text_of" "text_of" (defArgs sTextOf) (defBody sTextOf) (defScope sTextOf) .none kV11 dc11 pm11 an11 cd11 ct11) ["nodes"] := ⟨PySem.W.mg_of X G a11, k11, FTextOf.binds (ps := ["nodes"]) fun _ _ _ _ _ _ us hl => match us, hl with | [_], _ => rfl⟩
  have ANumberOf : At K mg "number_of" f12 (PySem.W.fnOf "number_of" "number_of" (defArgs sNumberOf) (defBody sNumberOf) (defScope sNumberOf) .none kV12 dc12 pm12 an12 cd12 ct12) ["word"] := ⟨PySem.W.mg_of X G a12, k12, FNumberOf.binds (ps := ["word"]) fun _ _ _ _ _ _ us hl => match us, hl with | [_], _ => rfl⟩
  have AShowNodes : At K mg "show_nodes" f13 (PySem.W.fnOf "show_nodes" "show_nodes" (defArgs sShowNodes) (defBody sShowNodes) (defScope sShowNodes) .none kV13 dc13 pm13 an13 cd13 ct13) ["size", "nodes"] := ⟨PySem.W.mg_of X G a13, k13, FShowNodes.binds (ps := ["size", "nodes"]) fun _ _ _ _ _ _ us hl => match us, hl with | [_, _], _ => rfl⟩
  have AReadNodes : At K mg "read_nodes" f14 (PySem.W.fnOf "read_nodes" "read_nodes" (defArgs sReadNodes) (defBody sReadNodes) (defScope sReadNodes) .none kV14 dc14 pm14 an14 cd14 ct14) ["size", "text"] := ⟨PySem.W.mg_of X G a14, k14, FReadNodes.binds (ps := ["size", "text"]) fun _ _ _ _ _ _ us hl => match us, hl with | [_, _], _ => rfl⟩
  have APowerWithin : At K mg "power_within" f15 (PySem.W.fnOf "power_within" "power_within" (defArgs sPowerWithin) (defBody sPowerWithin) (defScope sPowerWithin) .none kV15 dc15 pm15 an15 cd15 ct15) ["number"] := ⟨PySem.W.mg_of X G a15, k15, FPowerWithin.binds (ps := ["number"]) fun _ _ _ _ _ _ us hl => match us, hl with | [_], _ => rfl⟩
  have AFirstFull : At K mg "_first_full" f16 (PySem.W.fnOf "_first_full" "_first_full" (defArgs sFirstFull) (defBody sFirstFull) (defScope sFirstFull) .none kV16 dc16 pm16 an16 cd16 ct16) ["begin", "end"] := ⟨PySem.W.mg_of X G a16, k16, FFirstFull.binds (ps := ["begin", "end"]) fun _ _ _ _ _ _ us hl => match us, hl with | [_, _], _ => rfl⟩
  have ANodesWithin : At K mg "nodes_within" f17 (PySem.W.fnOf "nodes_within" "nodes_within" (defArgs sNodesWithin) (defBody sNodesWithin) (defScope sNodesWithin) .none kV17 dc17 pm17 an17 cd17 ct17) ["size", "begin", "end"] := ⟨PySem.W.mg_of X G a17, k17, FNodesWithin.binds (ps := ["size", "begin", "end"]) fun _ _ _ _ _ _ us hl => match us, hl with | [_, _, _], _ => rfl⟩
  have ANodesBeside : At K mg "nodes_beside" f18 (PySem.W.fnOf "nodes_beside" "nodes_beside" (defArgs sNodesBeside) (defBody sNodesBeside) (defScope sNodesBeside) .none kV18 dc18 pm18 an18 cd18 ct18) ["size", "stretches"] := ⟨PySem.W.mg_of X G a18, k18, FNodesBeside.binds (ps := ["size", "stretches"]) fun _ _ _ _ _ _ us hl => match us, hl with | [_, _], _ => rfl⟩
  have APeaks : At K mg "peaks" f19 (PySem.W.fnOf "peaks" "peaks" (defArgs sPeaks) (defBody sPeaks) (defScope sPeaks) .none kV19 dc19 pm19 an19 cd19 ct19) ["size"] := ⟨PySem.W.mg_of X G a19, k19, FPeaks.binds (ps := ["size"]) fun _ _ _ _ _ _ us hl => match us, hl with | [_], _ => rfl⟩
  have AHalves : At K mg "halves" f20 (PySem.W.fnOf "halves" "halves" (defArgs sHalves) (defBody sHalves) (defScope sHalves) .none kV20 dc20 pm20 an20 cd20 ct20) ["size", "node"] := ⟨PySem.W.mg_of X G a20, k20, FHalves.binds (ps := ["size", "node"]) fun _ _ _ _ _ _ us hl => match us, hl with | [_, _], _ => rfl⟩
  have APath : At K mg "path" f21 (PySem.W.fnOf "path" "path" (defArgs sPath) (defBody sPath) (defScope sPath) .none kV21 dc21 pm21 an21 cd21 ct21) ["size", "entry"] := ⟨PySem.W.mg_of X G a21, k21, FPath.binds (ps := ["size", "entry"]) fun _ _ _ _ _ _ us hl => match us, hl with | [_, _], _ => rfl⟩
  have ANeeded : At K mg "needed" f22 (PySem.W.fnOf "needed" "needed" (defArgs sNeeded) (defBody sNeeded) (defScope sNeeded) .none kV22 dc22 pm22 an22 cd22 ct22) ["size", "spans"] := ⟨PySem.W.mg_of X G a22, k22, FNeeded.binds (ps := ["size", "spans"]) fun _ _ _ _ _ _ us hl => match us, hl with | [_, _], _ => rfl⟩
  have AOlderList : At K mg "older_list" f23 (PySem.W.fnOf "older_list" "older_list" (defArgs sOlderList) (defBody sOlderList) (defScope sOlderList) .none kV23 dc23 pm23 an23 cd23 ct23) ["size", "older"] := ⟨PySem.W.mg_of X G a23, k23, FOlderList.binds (ps := ["size", "older"]) fun _ _ _ _ _ _ us hl => match us, hl with | [_, _], _ => rfl⟩
  have AJoined : At K mg "joined" f24 (PySem.W.fnOf "joined" "joined" (defArgs sJoined) (defBody sJoined) (defScope sJoined) .none kV24 dc24 pm24 an24 cd24 ct24) ["stretches"] := ⟨PySem.W.mg_of X G a24, k24, FJoined.binds (ps := ["stretches"]) fun _ _ _ _ _ _ us hl => match us, hl with | [_], _ => rfl⟩
  have AShowsNeeded : At K mg "shows_needed" f25 (PySem.W.fnOf "shows_needed" "shows_needed" (defArgs sShowsNeeded) (defBody sShowsNeeded) (defScope sShowsNeeded) .none kV25 dc25 pm25 an25 cd25 ct25) ["size", "spans", "value"] := ⟨PySem.W.mg_of X G a25, k25, FShowsNeeded.binds (ps := ["size", "spans", "value"]) fun _ _ _ _ _ _ us hl => match us, hl with | [_, _, _], _ => rfl⟩
  have ACheck : At K mg "_check" f26 (PySem.W.fnOf "_check" "_check" (defArgs sCheck) (defBody sCheck) (defScope sCheck) .none kV26 dc26 pm26 an26 cd26 ct26) ["size", "spans", "nodes"] := ⟨PySem.W.mg_of X G a26, k26, FCheck.binds (ps := ["size", "spans", "nodes"]) fun _ _ _ _ _ _ us hl => match us, hl with | [_, _, _], _ => rfl⟩
  have AServes : At K mg "serves" f27 (PySem.W.fnOf "serves" "serves" (defArgs sServes) (defBody sServes) (defScope sServes) .none kV27 dc27 pm27 an27 cd27 ct27) ["size", "spans", "nodes"] := ⟨PySem.W.mg_of X G a27, k27, FServes.binds (ps := ["size", "spans", "nodes"]) fun _ _ _ _ _ _ us hl => match us, hl with | [_, _, _], _ => rfl⟩
  have AMeets : At K mg "_meets" f28 (PySem.W.fnOf "_meets" "_meets" (defArgs sMeets) (defBody sMeets) (defScope sMeets) .none kV28 dc28 pm28 an28 cd28 ct28) ["node", "spans"] := ⟨PySem.W.mg_of X G a28, k28, FMeets.binds (ps := ["node", "spans"]) fun _ _ _ _ _ _ us hl => match us, hl with | [_, _], _ => rfl⟩
  have AFirstWrong : At K mg "first_wrong" f29 (PySem.W.fnOf "first_wrong" "first_wrong" (defArgs sFirstWrong) (defBody sFirstWrong) (defScope sFirstWrong) .none kV29 dc29 pm29 an29 cd29 ct29) ["size", "spans", "nodes"] := ⟨PySem.W.mg_of X G a29, k29, FFirstWrong.binds (ps := ["size", "spans", "nodes"]) fun _ _ _ _ _ _ us hl => match us, hl with | [_, _, _], _ => rfl⟩
  have ALacking : At K mg "lacking" f30 (PySem.W.fnOf "lacking" "lacking" (defArgs sLacking) (defBody sLacking) (defScope sLacking) .none kV30 dc30 pm30 an30 cd30 ct30) ["size", "spans", "nodes"] := ⟨PySem.W.mg_of X G a30, k30, FLacking.binds (ps := ["size", "spans", "nodes"]) fun _ _ _ _ _ _ us hl => match us, hl with | [_, _, _], _ => rfl⟩
  have ALawBag : At K mg "_law_bag" f31 (PySem.W.fnOf "_law_bag" "_law_bag" (defArgs sLawBag) (defBody sLawBag) (defScope sLawBag) .none kV31 dc31 pm31 an31 cd31 ct31) ["cell"] := ⟨PySem.W.mg_of X G a31, k31, FLawBag.binds (ps := ["cell"]) fun _ _ _ _ _ _ us hl => match us, hl with | [_], _ => rfl⟩
  have ALawPick : At K mg "_law_pick" f32 (PySem.W.fnOf "_law_pick" "_law_pick" (defArgs sLawPick) (defBody sLawPick) (defScope sLawPick) .none kV32 dc32 pm32 an32 cd32 ct32) ["bag", "many"] := ⟨PySem.W.mg_of X G a32, k32, FLawPick.binds (ps := ["bag", "many"]) fun _ _ _ _ _ _ us hl => match us, hl with | [_, _], _ => rfl⟩
  have ALawOnes : At K mg "_law_ones" f33 (PySem.W.fnOf "_law_ones" "_law_ones" (defArgs sLawOnes) (defBody sLawOnes) (defScope sLawOnes) .none kV33 dc33 pm33 an33 cd33 ct33) ["number"] := ⟨PySem.W.mg_of X G a33, k33, FLawOnes.binds (ps := ["number"]) fun _ _ _ _ _ _ us hl => match us, hl with | [_], _ => rfl⟩
  have ALawSpans : At K mg "_law_spans" f34 (PySem.W.fnOf "_law_spans" "_law_spans" (defArgs sLawSpans) (defBody sLawSpans) (defScope sLawSpans) .none kV34 dc34 pm34 an34 cd34 ct34) ["bag", "many"] := ⟨PySem.W.mg_of X G a34, k34, FLawSpans.binds (ps := ["bag", "many"]) fun _ _ _ _ _ _ us hl => match us, hl with | [_, _], _ => rfl⟩
  have ALawMixed : At K mg "_law_mixed" f35 (PySem.W.fnOf "_law_mixed" "_law_mixed" (defArgs sLawMixed) (defBody sLawMixed) (defScope sLawMixed) .none kV35 dc35 pm35 an35 cd35 ct35) ["bag", "items"] := ⟨PySem.W.mg_of X G a35, k35, FLawMixed.binds (ps := ["bag", "items"]) fun _ _ _ _ _ _ us hl => match us, hl with | [_, _], _ => rfl⟩
  have ALawPaperRight : At K mg "_law_paper_right" f36 (PySem.W.fnOf "_law_paper_right" "_law_paper_right" (defArgs sLawPaperRight) (defBody sLawPaperRight) (defScope sLawPaperRight) .none kV36 dc36 pm36 an36 cd36 ct36) ["bag", "many", "spans", "paper"] := ⟨PySem.W.mg_of X G a36, k36, FLawPaperRight.binds (ps := ["bag", "many", "spans", "paper"]) fun _ _ _ _ _ _ us hl => match us, hl with | [_, _, _, _], _ => rfl⟩
  have z_all := PySem.W.mg_none_of X G z_all
  have z_any := PySem.W.mg_none_of X G z_any
  have z_bool := PySem.W.mg_none_of X G z_bool
  have z_enumerate := PySem.W.mg_none_of X G z_enumerate
  have z_int := PySem.W.mg_none_of X G z_int
  have z_isinstance := PySem.W.mg_none_of X G z_isinstance
  have z_len := PySem.W.mg_none_of X G z_len
  have z_list := PySem.W.mg_none_of X G z_list
  have z_max := PySem.W.mg_none_of X G z_max
  have z_min := PySem.W.mg_none_of X G z_min
  have z_range := PySem.W.mg_none_of X G z_range
  have z_set := PySem.W.mg_none_of X G z_set
  have z_sorted := PySem.W.mg_none_of X G z_sorted
  have z_str := PySem.W.mg_none_of X G z_str
  have z_tuple := PySem.W.mg_none_of X G z_tuple
  have z_zip := PySem.W.mg_none_of X G z_zip
  have g_MOST_DIGITS := PySem.W.mg_of X G g_MOST_DIGITS
  have g_MOST_ENTRIES := PySem.W.mg_of X G g_MOST_ENTRIES
  have g_MOST_SHOWN := PySem.W.mg_of X G g_MOST_SHOWN
  have g_MOST_SPANS := PySem.W.mg_of X G g_MOST_SPANS
  refine ⟨PySem.W.fnOf "law" "law" (defArgs sLaw) (defBody sLaw) (defScope sLaw) .none kV37 dc37 pm37 an37 cd37 ct37, fun s v => .of_eq rfl, fun base _ _ => ?_⟩
  have GIsWholeV := ok_is_wholeV (P := l.prog) (w := w) (base := base) FIsWhole z_isinstance z_int z_bool
  have GIsWhole := ok_is_whole (P := l.prog) (w := w) (base := base) FIsWhole z_isinstance z_int z_bool
  have GIsBetweenV := ok_is_betweenV FIsBetween GIsWholeV AIsWhole
  have GIsBetween := ok_is_between FIsBetween GIsWhole AIsWhole
  have GTree := ok_is_tree_node FIsTreeNode GIsBetween AIsBetween z_isinstance z_tuple z_len
  have GIsTreeNode := ok_is_tree_nodeV FIsTreeNode GIsBetweenV AIsBetween z_isinstance z_tuple z_len
  have GIsListOf := ok_is_list_of (P := l.prog) (w := w) (base := base) FIsListOf z_isinstance z_list z_len
  have GIsSpanFrom := ok_is_span_from FIsSpanFrom GIsBetween AIsBetween z_isinstance z_tuple z_len
  have GCheckSize := ok_check_size FCheckSize GIsBetween AIsBetween g_MOST_ENTRIES
  have GCheckEntry := ok_check_entry FCheckEntry GIsBetween AIsBetween
  have GCheckNode := ok_check_node FCheckNode GTree AIsTreeNode
  have GCheckOlder := ok_check_older FCheckOlder GIsBetween AIsBetween
  have GCheckSpans := ok_check_spans FCheckSpans GIsListOf AIsListOf GIsSpanFrom AIsSpanFrom g_MOST_SPANS z_enumerate
  have GCheckNodes := ok_check_nodes (P := l.prog) (w := w) (base := base) FCheckNodes GIsListOf AIsListOf GIsTreeNode AIsTreeNode z_enumerate
  have GCheckNodesM := ok_check_nodesM (P := l.prog) (w := w) (base := base) FCheckNodes GIsListOf AIsListOf GIsTreeNode AIsTreeNode z_enumerate
  have ACheckNodesAll : At K mg "check_nodes" _ _ ["size", "nodes", "least", "most"] := ⟨ACheckNodes.m, ACheckNodes.kp, check_all FCheckNodes⟩
  have GTextOf := ok_text_of (P := l.prog) (w := w) (mg := mg) (base := base) FTextOf
  have GNumberOf := ok_number_of (P := l.prog) (w := w) (base := base) FNumberOf g_MOST_DIGITS z_len z_int
  have GShowNodes := ok_show_nodes FShowNodes GCheckSize ACheckSize GCheckNodesM ACheckNodesAll GTextOf ATextOf g_MOST_SHOWN
  have GReadNodes := ok_read_nodes FReadNodes GCheckSize ACheckSize GNumberOf ANumberOf GIsTreeNode AIsTreeNode z_enumerate z_isinstance z_str
  have GPowerWithin := ok_power_within (P := l.prog) (w := w) (mg := mg) (base := base) FPowerWithin
  have GFirstFull := ok_first_full FFirstFull GPowerWithin APowerWithin z_min
  have GNodesWithinX := ok_nodes_withinX FNodesWithin GIsTreeNode AIsTreeNode GFirstFull AFirstFull
  have GNodesWithin := within_of GNodesWithinX
  have GNodesBeside := ok_nodes_beside FNodesBeside GNodesWithinX ANodesWithin z_sorted z_max
  have GPeaks := ok_peaks FPeaks GCheckSize ACheckSize GPowerWithin APowerWithin
  have GHalves := ok_halves FHalves GCheckSize ACheckSize GCheckNode ACheckNode GPowerWithin APowerWithin
  have GPath := ok_path FPath GCheckSize ACheckSize GCheckEntry ACheckEntry GHalves AHalves
  have GNeeded := ok_needed FNeeded GCheckSize ACheckSize GCheckSpans ACheckSpans GNodesBeside ANodesBeside
  have GOlderList := ok_older_list FOlderList GCheckSize ACheckSize GCheckOlder ACheckOlder GPeaks APeaks GNodesWithin ANodesWithin z_len
  have GJoined := ok_joined (P := l.prog) (w := w) (base := base) FJoined z_sorted z_max
  have GShowsNeeded := ok_shows FShowsNeeded GNeeded ANeeded GIsTreeNode AIsTreeNode z_isinstance z_list z_all z_sorted
  have GCheck := ok_check_papers FCheck GCheckSize ACheckSize GCheckSpans ACheckSpans GCheckNodes ACheckNodes
  have GMeets := ok_meets (P := l.prog) (w := w) (base := base) FMeets z_any
  have GFirstWrong := ok_first_wrong FFirstWrong GCheck ACheck GMeets AMeets z_enumerate
  have GServes := ok_serves FServes GFirstWrong AFirstWrong GJoined AJoined
  have GLacking := ok_lacking FLacking GCheck ACheck GNodesBeside ANodesBeside
  have GLawBag := ok_law_bag (P := l.prog) (w := w) (base := base) FLawBag z_max
  have GLawPick := ok_law_pick (P := l.prog) (w := w) (base := base) FLawPick z_int
  have GLawOnes := ok_law_ones (P := l.prog) (w := w) (mg := mg) (base := base) FLawOnes
  have GLawSpans := ok_law_spans FLawSpans GLawPick ALawPick z_range z_zip z_set z_sorted
  have GLawMixed := ok_law_mixed FLawMixed GLawPick ALawPick z_list z_len
  have GLawPaperRight := ok_law_paper_right FLawPaperRight GLawPick ALawPick GLawMixed ALawMixed GShowNodes AShowNodes GReadNodes AReadNodes GShowsNeeded AShowsNeeded GServes AServes GLacking ALacking (halves_J GHalves) AHalves z_sorted z_len z_list
  exact ok_law FLaw GLawBag ALawBag GLawPick ALawPick GLawSpans ALawSpans GNeeded ANeeded GOlderList AOlderList GPath APath GShowNodes AShowNodes GReadNodes AReadNodes GLawPaperRight ALawPaperRight GLawOnes ALawOnes z_zip
end LT
open PySem PySem.W PyProof.Rows
set_option maxRecDepth 100000 in
set_option maxHeartbeats 0 in
theorem PySem.Challenge.cw_logtrees_k61_whole_texts_and_papers_holds : PySem.Challenge.rw_logtrees_k61_whole_texts_and_papers.Holds := by
  w_on; o_law; k_head; (case hw => w_witness2)
  k_fill
  refine L2.walk_of (l := PySem.Challenge.rw_logtrees_k61_whole_texts_and_papers) (n := 63) (k := 9) (x := "script") (CX := fun _ => L2.CX0) (sp := fun w => LT.spLaw _) rfl (by decide) rfl ⟨rfl, by decide, by decide⟩ (fun w h Y => PySem.W.kIn_of Y) ?F (fun _ _ a ns hl _ hS => ⟨a, ns, rfl, hS, hl, fun _ => rfl⟩) (fun _ _ _ _ _ h => h)
  case F =>
    intro w mg fa h KX G hmg
    refine' LT.all_mk KX G hmg ?a0 ?l0 ?c0 ?k0 ?a1 ?l1 ?c1 ?k1 ?a2 ?l2 ?c2 ?k2 ?a3 ?l3 ?c3 ?k3 ?a4 ?l4 ?c4 ?k4 ?a5 ?l5 ?c5 ?k5 ?a6 ?l6 ?c6 ?k6 ?a7 ?l7 ?c7 ?k7 ?a8 ?l8 ?c8 ?k8 ?a9 ?l9 ?c9 ?k9 ?lT9 ?vT9 ?a10 ?l10 ?c10 ?k10 ?a11 ?l11 ?c11 ?k11 ?a12 ?l12 ?c12 ?k12 ?a13 ?l13 ?c13 ?k13 ?a14 ?l14 ?c14 ?k14 ?a15 ?l15 ?c15 ?k15 ?a16 ?l16 ?c16 ?k16 ?a17 ?l17 ?c17 ?k17 ?a18 ?l18 ?c18 ?k18 ?a19 ?l19 ?c19 ?k19 ?a20 ?l20 ?c20 ?k20 ?a21 ?l21 ?c21 ?k21 ?a22 ?l22 ?c22 ?k22 ?a23 ?l23 ?c23 ?k23 ?a24 ?l24 ?c24 ?k24 ?a25 ?l25 ?c25 ?k25 ?a26 ?l26 ?c26 ?k26 ?a27 ?l27 ?c27 ?k27 ?a28 ?l28 ?c28 ?k28 ?a29 ?l29 ?c29 ?k29 ?a30 ?l30 ?c30 ?k30 ?a31 ?l31 ?c31 ?k31 ?a32 ?l32 ?c32 ?k32 ?a33 ?l33 ?c33 ?k33 ?a34 ?l34 ?c34 ?k34 ?a35 ?l35 ?c35 ?k35 ?a36 ?l36 ?c36 ?k36 ?a37 ?l37 ?c37 ?k37 ?z_all ?z_any ?z_bool ?z_enumerate ?z_int ?z_isinstance ?z_len ?z_list ?z_max ?z_min ?z_range ?z_set ?z_sorted ?z_str ?z_tuple ?z_zip ?g_MOST_DIGITS ?g_MOST_ENTRIES ?g_MOST_SHOWN ?g_MOST_SPANS
    (case a0 => k_is)
    (case l0 => k_is)
    (case c0 => k_is)
    (case k0 => k_is)
    (case a1 => k_is)
    (case l1 => k_is)
    (case c1 => k_is)
    (case k1 => k_is)
    (case a2 => k_is)
    (case l2 => k_is)
    (case c2 => k_is)
    (case k2 => k_is)
    (case a3 => k_is)
    (case l3 => k_is)
    (case c3 => k_is)
    (case k3 => k_is)
    (case a4 => k_is)
    (case l4 => k_is)
    (case c4 => k_is)
    (case k4 => k_is)
    (case a5 => k_is)
    (case l5 => k_is)
    (case c5 => k_is)
    (case k5 => k_is)
    (case a6 => k_is)
    (case l6 => k_is)
    (case c6 => k_is)
    (case k6 => k_is)
    (case a7 => k_is)
    (case l7 => k_is)
    (case c7 => k_is)
    (case k7 => k_is)
    (case a8 => k_is)
    (case l8 => k_is)
    (case c8 => k_is)
    (case k8 => k_is)
    (case a9 => k_is)
    (case l9 => k_is)
    (case c9 => k_is)
    (case k9 => k_is)
    (case lT9 => k_is)
    (case vT9 => exact .cons ⟨_, rfl⟩ (.cons ⟨_, rfl⟩ (.nil)))
    (case a10 => k_is)
    (case l10 => k_is)
    (case c10 => k_is)
    (case k10 => k_is)
    (case a11 => k_is)
    (case l11 => k_is)
    (case c11 => k_is)
    (case k11 => k_is)
    (case a12 => k_is)
    (case l12 => k_is)
    (case c12 => k_is)
    (case k12 => k_is)
    (case a13 => k_is)
    (case l13 => k_is)
    (case c13 => k_is)
    (case k13 => k_is)
    (case a14 => k_is)
    (case l14 => k_is)
    (case c14 => k_is)
    (case k14 => k_is)
    (case a15 => k_is)
    (case l15 => k_is)
    (case c15 => k_is)
    (case k15 => k_is)
    (case a16 => k_is)
    (case l16 => k_is)
    (case c16 => k_is)
    (case k16 => k_is)
    (case a17 => k_is)
    (case l17 => k_is)
    (case c17 => k_is)
    (case k17 => k_is)
    (case a18 => k_is)
    (case l18 => k_is)
    (case c18 => k_is)
    (case k18 => k_is)
    (case a19 => k_is)
    (case l19 => k_is)
    (case c19 => k_is)
    (case k19 => k_is)
    (case a20 => k_is)
    (case l20 => k_is)
    (case c20 => k_is)
    (case k20 => k_is)
    (case a21 => k_is)
    (case l21 => k_is)
    (case c21 => k_is)
    (case k21 => k_is)
    (case a22 => k_is)
    (case l22 => k_is)
    (case c22 => k_is)
    (case k22 => k_is)
    (case a23 => k_is)
    (case l23 => k_is)
    (case c23 => k_is)
    (case k23 => k_is)
    (case a24 => k_is)
    (case l24 => k_is)
    (case c24 => k_is)
    (case k24 => k_is)
    (case a25 => k_is)
    (case l25 => k_is)
    (case c25 => k_is)
    (case k25 => k_is)
    (case a26 => k_is)
    (case l26 => k_is)
    (case c26 => k_is)
    (case k26 => k_is)
    (case a27 => k_is)
    (case l27 => k_is)
    (case c27 => k_is)
    (case k27 => k_is)
    (case a28 => k_is)
    (case l28 => k_is)
    (case c28 => k_is)
    (case k28 => k_is)
    (case a29 => k_is)
    (case l29 => k_is)
    (case c29 => k_is)
    (case k29 => k_is)
    (case a30 => k_is)
    (case l30 => k_is)
    (case c30 => k_is)
    (case k30 => k_is)
    (case a31 => k_is)
    (case l31 => k_is)
    (case c31 => k_is)
    (case k31 => k_is)
    (case a32 => k_is)
    (case l32 => k_is)
    (case c32 => k_is)
    (case k32 => k_is)
    (case a33 => k_is)
    (case l33 => k_is)
    (case c33 => k_is)
    (case k33 => k_is)
    (case a34 => k_is)
    (case l34 => k_is)
    (case c34 => k_is)
    (case k34 => k_is)
    (case a35 => k_is)
    (case l35 => k_is)
    (case c35 => k_is)
    (case k35 => k_is)
    (case a36 => k_is)
    (case l36 => k_is)
    (case c36 => k_is)
    (case k36 => k_is)
    (case a37 => k_is)
    (case l37 => k_is)
    (case c37 => k_is)
    (case k37 => k_is)
    (case z_all => k_is)
    (case z_any => k_is)
    (case z_bool => k_is)
    (case z_enumerate => k_is)
    (case z_int => k_is)
    (case z_isinstance => k_is)
    (case z_len => k_is)
    (case z_list => k_is)
    (case z_max => k_is)
    (case z_min => k_is)
    (case z_range => k_is)
    (case z_set => k_is)
    (case z_sorted => k_is)
    (case z_str => k_is)
    (case z_tuple => k_is)
    (case z_zip => k_is)
    (case g_MOST_DIGITS => k_is)
    (case g_MOST_ENTRIES => k_is)
    (case g_MOST_SHOWN => k_is)
    (case g_MOST_SPANS => k_is)
