import PyProof.Rows.All
import Wide.All
import OpenK.AllK
import Wide.FinOn
import HandS.TryOnly
import HandS.ForMost
import HandS.Wide
import HandS.WideBits
import HandS.IsInst
import HandS.Style
import HandS.Deep
import HandS.RaiseMore
import HandS.Conv
import HandS.Flow
import HandS.SortRule
import HandS.Exc
import HandS.ExcOwn
import HandS.ExcValue
import HandS.ExcIs
import HandS.WordsExc
import HandS.NoneIn
import KE.DataMinMax
import KE.SortData
import HandS.FStr
import HandS.ExcInit
import HandS.ExcSuper
import HandS.ExcField
import HandS.ClsMeth
import KE.KExcSuper
import PyProof.ReprRoads
import PyProof.Rows.NestShow
import HandS.TupLen
import HandS.Set
import HandS.SetFor
import HandS.Strs
import HandS.Defaults
import KE.DataAny
import HandS.TupSets
import HandS.Text
import HandS.StrMore
import HandS.Property
import HandS.TupAny
import HandS.OwnEq
import PySem.Challenge.RW_logtrees_k34_judged_papers
set_option Elab.async false
set_option linter.all false
set_option maxRecDepth 100000
set_option maxHeartbeats 4000000
namespace LT
/-- the greatest power of two less than m (m from 2) -/
def gp (m : Nat) : Nat := 2 ^ Nat.log2 (m - 1)
theorem gp_pos (m : Nat) : 0 < gp m := Nat.pow_pos (by decide)
theorem gp_lt {m : Nat} (h : 2 ≤ m) : gp m < m := by
  have := Nat.log2_self_le (n := m - 1) (by omega)
  unfold gp; omega
theorem gp_ge {m : Nat} (h : 2 ≤ m) : m ≤ 2 * gp m := by
  have := Nat.lt_log2_self (n := m - 1)
  unfold gp; rw [Nat.pow_succ] at this; omega
theorem pow_eq_of {i j : Nat} {m : Nat} (h1 : 2 ^ i < m) (h2 : m ≤ 2 * 2 ^ i) (h3 : 2 ^ j < m) (h4 : m ≤ 2 * 2 ^ j) : i = j := by
  have a : 2 ^ i < 2 ^ (j + 1) := by rw [Nat.pow_succ]; omega
  have b : 2 ^ j < 2 ^ (i + 1) := by rw [Nat.pow_succ]; omega
  have a' := (Nat.pow_lt_pow_iff_right (by decide : 1 < 2)).mp a
  have b' := (Nat.pow_lt_pow_iff_right (by decide : 1 < 2)).mp b
  omega
theorem gp_eq {i m : Nat} (h1 : 2 ^ i < m) (h2 : m ≤ 2 * 2 ^ i) : gp m = 2 ^ i := by
  have h : 2 ≤ m := by have := Nat.pow_pos (a := 2) (n := i) (by decide); omega
  have := pow_eq_of (gp_lt h) (gp_ge h) h1 h2
  unfold gp; rw [this]
theorem gp_pow (i : Nat) : gp (2 ^ (i + 1)) = 2 ^ i := gp_eq (by rw [Nat.pow_succ]; have := Nat.pow_pos (a := 2) (n := i) (by decide); omega) (by rw [Nat.pow_succ]; omega)

/-- siblings from the root's half down to the leaf's: nodes as (begin, length-end) pairs -/
def sib (b m e : Nat) : List (Nat × Nat) :=
  if h : m ≤ 1 then [] else
    if e < b + gp m then (b + gp m, b + m) :: sib b (gp m) e
    else (b, b + gp m) :: sib (b + gp m) (m - gp m) e
termination_by m
decreasing_by
  · exact gp_lt (by omega)
  · have := gp_pos m; omega
theorem sib_one {b m e : Nat} (h : m ≤ 1) : sib b m e = [] := by rw [sib]; simp [h]
theorem sib_low {b m e : Nat} (h : 2 ≤ m) (k : e < b + gp m) : sib b m e = (b + gp m, b + m) :: sib b (gp m) e := by
  rw [sib]; rw [dif_neg (by omega), if_pos k]
theorem sib_high {b m e : Nat} (h : 2 ≤ m) (k : ¬ e < b + gp m) : sib b m e = (b, b + gp m) :: sib (b + gp m) (m - gp m) e := by
  rw [sib]; rw [dif_neg (by omega), if_neg k]

/-! ### joining up again -/
def join (x y : Nat × Nat) : Nat × Nat := (min x.1 y.1, max x.2 y.2)
/-- the halves of a node -/
def halv (x : Nat × Nat) : (Nat × Nat) × (Nat × Nat) := ((x.1, x.1 + gp (x.2 - x.1)), (x.1 + gp (x.2 - x.1), x.2))
def ok1 (x y : Nat × Nat) : Prop := (join x y).1 + 2 ≤ (join x y).2 ∧ (halv (join x y) = (x, y) ∨ halv (join x y) = (y, x))
def oks : Nat × Nat → List (Nat × Nat) → Prop
  | _, [] => True
  | x, y :: r => ok1 x y ∧ oks (join x y) r
def top : Nat × Nat → List (Nat × Nat) → Nat × Nat
  | x, [] => x
  | x, y :: r => top (join x y) r
theorem oks_append : ∀ (x : Nat × Nat) (l r : List (Nat × Nat)), oks x l → oks (top x l) r → oks x (l ++ r)
  | _, [], _, _, h => h
  | x, y :: l, r, h1, h2 => ⟨h1.1, oks_append (join x y) l r h1.2 h2⟩
theorem top_append : ∀ (x : Nat × Nat) (l r : List (Nat × Nat)), top x (l ++ r) = top (top x l) r
  | _, [], _ => rfl
  | x, y :: l, r => top_append (join x y) l r
theorem sib_up : ∀ (m b e : Nat), b ≤ e → e < b + m → oks (e, e + 1) (sib b m e).reverse ∧ top (e, e + 1) (sib b m e).reverse = (b, b + m) := by
  intro m
  induction m using Nat.strongRecOn with
  | ind m ih =>
    intro b e h1 h2
    by_cases hm : m ≤ 1
    · have : m = 1 := by omega
      subst this
      rw [sib_one (by omega)]
      have : e = b := by omega
      subst this
      exact ⟨True.intro, rfl⟩
    · have g1 := gp_lt (m := m) (by omega)
      have g2 := gp_pos m
      by_cases k : e < b + gp m
      · rw [sib_low (by omega) k, List.reverse_cons]
        obtain ⟨p, q⟩ := ih (gp m) g1 b e h1 k
        have j : join (b, b + gp m) (b + gp m, b + m) = (b, b + m) := by
          unfold join; simp only []; rw [Nat.min_eq_left (by omega), Nat.max_eq_right (by omega)]
        refine ⟨oks_append _ _ _ p ?_, ?_⟩
        · rw [q]
          refine ⟨⟨?_, .inl ?_⟩, True.intro⟩
          · rw [j]; simp only []; omega
          · rw [j]; unfold halv; simp only []; rw [Nat.add_sub_cancel_left]
        · rw [top_append, q]; exact j
      · rw [sib_high (by omega) k, List.reverse_cons]
        obtain ⟨p, q⟩ := ih (m - gp m) (by omega) (b + gp m) e (by omega) (by omega)
        have e2 : b + gp m + (m - gp m) = b + m := by omega
        rw [e2] at q
        have j : join (b + gp m, b + m) (b, b + gp m) = (b, b + m) := by
          unfold join; simp only []; rw [Nat.min_eq_right (by omega), Nat.max_eq_left (by omega)]
        refine ⟨oks_append _ _ _ p ?_, ?_⟩
        · rw [q]
          refine ⟨⟨?_, .inr ?_⟩, True.intro⟩
          · rw [j]; simp only []; omega
          · rw [j]; unfold halv; simp only []; rw [Nat.add_sub_cancel_left]
        · rw [top_append, q]; exact j
theorem sib_len_pow (i : Nat) : ∀ (b e : Nat), b ≤ e → e < b + 2 ^ i → (sib b (2 ^ i) e).length = i := by
  induction i with
  | zero => intro b e h1 h2; rw [sib_one (by simp)]; rfl
  | succ i ih =>
    intro b e h1 h2
    have h3 : 2 ≤ 2 ^ (i + 1) := by rw [Nat.pow_succ]; have := Nat.pow_pos (a := 2) (n := i) (by decide); omega
    have g := gp_pow i
    have e2 : 2 ^ (i + 1) - 2 ^ i = 2 ^ i := by rw [Nat.pow_succ]; omega
    by_cases k : e < b + gp (2 ^ (i + 1))
    · rw [sib_low h3 k, List.length_cons, g, ih b e h1 (by omega)]
    · rw [sib_high h3 k, List.length_cons, g, e2, ih (b + 2 ^ i) e (by omega) (by rw [Nat.pow_succ] at h2; omega)]
/-! ### the peaks by digits: (begin, height) -/
def pk : Nat → Nat → Nat → List (Nat × Nat)
  | 0, _, _ => []
  | i + 1, n, b => if n.testBit i then (b, i) :: pk i n (b + 2 ^ i) else pk i n b
theorem mod_succ (n i : Nat) : n % 2 ^ (i + 1) = (if n.testBit i then 2 ^ i else 0) + n % 2 ^ i := by
  rw [Nat.mod_pow_succ, Nat.testBit_eq_decide_div_mod_eq, Nat.add_comm]
  have h : n / 2 ^ i % 2 = 0 ∨ n / 2 ^ i % 2 = 1 := by omega
  rcases h with h | h <;> rw [h] <;> simp
theorem pk_nil : ∀ (i n b : Nat), n % 2 ^ i = 0 → pk i n b = []
  | 0, _, _, _ => rfl
  | i + 1, n, b, h => by
    rw [mod_succ] at h
    have p := Nat.pow_pos (a := 2) (n := i) (by decide)
    unfold pk
    cases t : n.testBit i with
    | true => rw [t] at h; simp at h
    | false => rw [t] at h; simp at h; simp; exact pk_nil i n b h
theorem pk_ne : ∀ (i n b : Nat), n % 2 ^ i ≠ 0 → pk i n b ≠ []
  | 0, _, _, h => by simp [Nat.mod_one] at h
  | i + 1, n, b, h => by
    rw [mod_succ] at h
    unfold pk
    cases t : n.testBit i with
    | true => simp
    | false => rw [t] at h; simp at h; simp; exact pk_ne i n b (by omega)
theorem pk_begin : ∀ (i n b : Nat) (x : Nat × Nat), x ∈ pk i n b → b ≤ x.1 ∧ x.2 < i
  | 0, _, _, _, h => by simp [pk] at h
  | i + 1, n, b, x, h => by
    unfold pk at h
    cases t : n.testBit i with
    | true =>
      rw [t] at h; simp at h
      rcases h with h | h
      · subst h; exact ⟨Nat.le_refl _, Nat.lt_succ_self _⟩
      · have := pk_begin i n _ x h; have p := Nat.pow_pos (a := 2) (n := i) (by decide); omega
    | false =>
      rw [t] at h; simp at h
      have := pk_begin i n _ x h; omega
/-- what the law says of the levels: s the place of the first row, of t rows in all -/
def lev (t : Nat) : Nat → List (Nat × Nat) → List (Nat × Nat × Nat)
  | _, [] => []
  | s, x :: r => (x.1, x.1 + 2 ^ x.2, x.2 + min (s + 1) (t - 1)) :: lev t (s + 1) r
def due (e : Nat) (l : List (Nat × Nat × Nat)) : List Nat := (l.filter fun x => decide (x.1 ≤ e) && decide (e < x.2.1)).map fun x => x.2.2
theorem due_none (t e : Nat) : ∀ (l : List (Nat × Nat)) (s : Nat), (∀ x ∈ l, e < x.1) → due e (lev t s l) = []
  | [], _, _ => rfl
  | x :: r, s, h => by
    have h1 := h x (List.mem_cons_self)
    have ih := due_none t e r (s + 1) fun y hy => h y (List.mem_cons_of_mem _ hy)
    show List.map _ (List.filter _ ((x.1, x.1 + 2 ^ x.2, x.2 + min (s + 1) (t - 1)) :: lev t (s + 1) r)) = []
    rw [List.filter_cons, if_neg (by simp; omega)]
    exact ih
theorem due_is (n e : Nat) : ∀ (i b s : Nat), b ≤ e → e < b + n % 2 ^ i → due e (lev (s + (pk i n b).length) s (pk i n b)) = [(sib b (n % 2 ^ i) e).length + min s (s + (pk i n b).length - 1)] := by
  intro i
  induction i with
  | zero => intro b s h1 h2; simp [Nat.mod_one] at h2; omega
  | succ i ih =>
    intro b s h1 h2
    have p := Nat.pow_pos (a := 2) (n := i) (by decide)
    have ml := Nat.mod_lt n p
    cases t : n.testBit i with
    | false =>
      have e1 : n % 2 ^ (i + 1) = n % 2 ^ i := by rw [mod_succ, t]; simp
      have e2 : pk (i + 1) n b = pk i n b := by show (if n.testBit i = true then _ else _) = _; rw [t]; simp
      rw [e1] at h2
      rw [e1, e2]; exact ih b s h1 h2
    | true =>
      have e1 : n % 2 ^ (i + 1) = 2 ^ i + n % 2 ^ i := by rw [mod_succ, t]; simp
      have e2 : pk (i + 1) n b = (b, i) :: pk i n (b + 2 ^ i) := by show (if n.testBit i = true then _ else _) = _; rw [t]; simp
      rw [e1] at h2
      rw [e1, e2, List.length_cons]
      by_cases r0 : n % 2 ^ i = 0
      · rw [pk_nil i n _ r0, r0]
        rw [r0] at h2
        rw [Nat.add_zero] at h2
        rw [Nat.add_zero (2 ^ i), sib_len_pow i b e h1 h2]
        show List.map _ (List.filter _ [(b, b + 2 ^ i, i + min (s + 1) (s + (0 + 1) - 1))]) = _
        rw [List.filter_cons, if_pos (by simp; omega)]
        simp
      · have hne : 1 ≤ (pk i n (b + 2 ^ i)).length := by
          have := pk_ne i n (b + 2 ^ i) r0
          cases hh : pk i n (b + 2 ^ i) with
          | nil => exact absurd hh this
          | cons _ _ => rw [List.length_cons]; omega
        have g : gp (2 ^ i + n % 2 ^ i) = 2 ^ i := gp_eq (by omega) (by omega)
        by_cases k : e < b + 2 ^ i
        · rw [sib_low (by omega) (by rw [g]; exact k), g, List.length_cons, sib_len_pow i b e h1 k]
          have d := due_none (s + ((pk i n (b + 2 ^ i)).length + 1)) e (pk i n (b + 2 ^ i)) (s + 1) fun x hx => by have := pk_begin _ _ _ x hx; omega
          show List.map _ (List.filter _ ((b, b + 2 ^ i, i + min (s + 1) (s + ((pk i n (b + 2 ^ i)).length + 1) - 1)) :: lev (s + ((pk i n (b + 2 ^ i)).length + 1)) (s + 1) (pk i n (b + 2 ^ i)))) = _
          rw [List.filter_cons, if_pos (by simp; omega), List.map_cons]
          have d' : List.map (fun x => x.2.2) (List.filter (fun x => decide (x.1 ≤ e) && decide (e < x.2.1)) (lev (s + ((pk i n (b + 2 ^ i)).length + 1)) (s + 1) (pk i n (b + 2 ^ i)))) = [] := d
          rw [d']
          simp
          omega
        · rw [sib_high (by omega) (by rw [g]; exact k), g, List.length_cons, Nat.add_sub_cancel_left]
          have q := ih (b + 2 ^ i) (s + 1) (by omega) (by omega)
          have e3 : s + 1 + (pk i n (b + 2 ^ i)).length = s + ((pk i n (b + 2 ^ i)).length + 1) := by omega
          rw [e3] at q
          show List.map _ (List.filter _ ((b, b + 2 ^ i, i + min (s + 1) (s + ((pk i n (b + 2 ^ i)).length + 1) - 1)) :: lev (s + ((pk i n (b + 2 ^ i)).length + 1)) (s + 1) (pk i n (b + 2 ^ i)))) = _
          rw [List.filter_cons, if_neg (by simp; omega)]
          refine Eq.trans q ?_
          congr 1
          omega
/-! ### which pairs are nodes -/
/-- the bits of m - 1 -/
def lb (m : Nat) : Nat := if m ≤ 1 then 0 else Nat.log2 (m - 1) + 1
theorem lb_le {x i : Nat} (h : x ≤ 2 ^ i) : lb x ≤ i := by
  unfold lb
  by_cases k : x ≤ 1
  · rw [if_pos k]; omega
  · rw [if_neg k]
    have h1 := Nat.log2_self_le (n := x - 1) (by omega)
    have h2 : 2 ^ Nat.log2 (x - 1) < 2 ^ i := by omega
    exact (Nat.pow_lt_pow_iff_right (by decide : 1 < 2)).mp h2
theorem lb_ge (x : Nat) : x ≤ 2 ^ lb x := by
  unfold lb
  by_cases k : x ≤ 1
  · rw [if_pos k]; omega
  · rw [if_neg k]
    have := Nat.lt_log2_self (n := x - 1)
    omega
theorem lb_pow (i : Nat) : lb (2 ^ i) = i := by
  have h1 := lb_le (Nat.le_refl (2 ^ i))
  have h2 := (Nat.pow_le_pow_iff_right (by decide : 1 < 2)).mp (lb_ge (2 ^ i))
  omega
theorem lb_gp {m : Nat} (h : 2 ≤ m) : 2 ^ lb m = 2 * gp m := by
  unfold lb gp; rw [if_neg (by omega), Nat.pow_succ]; omega
def tree (n b m : Nat) : Prop := 2 ^ lb m ∣ b ∧ (m = 2 ^ lb m ∨ b + m = n)
theorem tree_root (n : Nat) : tree n 0 n := ⟨Nat.dvd_zero _, .inr (Nat.zero_add _)⟩
theorem tree_low {n b m : Nat} (h : 2 ≤ m) (t : tree n b m) : tree n b (gp m) := by
  obtain ⟨d, _⟩ := t
  rw [lb_gp h] at d
  have e : 2 ^ lb (gp m) = gp m := by unfold gp; rw [lb_pow]
  exact ⟨by rw [e]; exact Nat.dvd_trans (Nat.dvd_mul_left _ _) d, .inl e.symm⟩
theorem tree_high {n b m : Nat} (h : 2 ≤ m) (t : tree n b m) : tree n (b + gp m) (m - gp m) := by
  obtain ⟨d, k⟩ := t
  rw [lb_gp h] at d k
  have g1 := gp_lt h
  have g2 := gp_ge h
  have dg : 2 ^ lb (m - gp m) ∣ gp m := by
    have : lb (m - gp m) ≤ Nat.log2 (m - 1) := lb_le (by unfold gp at g1 g2 ⊢; omega)
    exact Nat.pow_dvd_pow 2 this
  refine ⟨Nat.dvd_add (Nat.dvd_trans dg (Nat.dvd_trans (Nat.dvd_mul_left _ _) d)) dg, ?_⟩
  rcases k with k | k
  · left
    have e : m - gp m = gp m := by omega
    rw [e]
    unfold gp; rw [lb_pow]
  · right; omega
theorem sib_len_le : ∀ (m b e : Nat), b ≤ e → e < b + m → (sib b m e).length ≤ lb m := by
  intro m
  induction m using Nat.strongRecOn with
  | ind m ih =>
    intro b e h1 h2
    by_cases hm : m ≤ 1
    · rw [sib_one hm]; exact Nat.zero_le _
    · have g1 := gp_lt (m := m) (by omega)
      have g2 := gp_ge (m := m) (by omega)
      have g3 := gp_pos m
      have e1 : lb m = Nat.log2 (m - 1) + 1 := by unfold lb; rw [if_neg hm]
      by_cases k : e < b + gp m
      · rw [sib_low (by omega) k, List.length_cons]
        have := ih (gp m) g1 b e h1 k
        have e2 : lb (gp m) = Nat.log2 (m - 1) := by unfold gp; rw [lb_pow]
        omega
      · rw [sib_high (by omega) k, List.length_cons]
        have := ih (m - gp m) (by omega) (b + gp m) e (by omega) (by omega)
        have e2 : lb (m - gp m) ≤ Nat.log2 (m - 1) := lb_le (by unfold gp at g1 g2 ⊢; omega)
        omega
end LT
namespace LT
open PySem PySem.Spec PyProof.Rows L2
def topS (i : Nat) : Stmt := PySem.Challenge.pw_logtrees_k34_judged_papers.main.body.getD i (.Pass ⟨0, 0, 0, 0⟩)
abbrev sIsWhole : Stmt := topS 9
theorem scIsWhole : FnScope ["value"] ["value"] (defScope sIsWhole) := ⟨rfl, rfl, rfl, by decide +kernel, rfl, by decide +kernel, by decide +kernel⟩
abbrev sIsBetween : Stmt := topS 10
theorem scIsBetween : FnScope ["value", "low", "high"] ["value", "low", "high"] (defScope sIsBetween) := ⟨rfl, rfl, rfl, by decide +kernel, rfl, by decide +kernel, by decide +kernel⟩
abbrev sIsTreeNode : Stmt := topS 11
theorem scIsTreeNode : FnScope ["size", "value", "begin", "end", "room"] ["size", "value"] (defScope sIsTreeNode) := ⟨rfl, rfl, rfl, by decide +kernel, rfl, by decide +kernel, by decide +kernel⟩
abbrev sIsListOf : Stmt := topS 12
theorem scIsListOf : FnScope ["value", "least", "most"] ["value", "least", "most"] (defScope sIsListOf) := ⟨rfl, rfl, rfl, by decide +kernel, rfl, by decide +kernel, by decide +kernel⟩
abbrev sIsSpanFrom : Stmt := topS 13
theorem scIsSpanFrom : FnScope ["size", "value", "least", "first", "end"] ["size", "value", "least"] (defScope sIsSpanFrom) := ⟨rfl, rfl, rfl, by decide +kernel, rfl, by decide +kernel, by decide +kernel⟩
abbrev sCheckSize : Stmt := topS 14
theorem scCheckSize : FnScope ["size"] ["size"] (defScope sCheckSize) := ⟨rfl, rfl, rfl, by decide +kernel, rfl, by decide +kernel, by decide +kernel⟩
abbrev sCheckSpans : Stmt := topS 15
theorem scCheckSpans : FnScope ["size", "spans", "behind", "item", "span"] ["size", "spans"] (defScope sCheckSpans) := ⟨rfl, rfl, rfl, by decide +kernel, rfl, by decide +kernel, by decide +kernel⟩
abbrev sCheckNodes : Stmt := topS 16
theorem scCheckNodes : FnScope ["size", "nodes", "least", "most", "item", "node"] ["size", "nodes", "least", "most"] (defScope sCheckNodes) := ⟨rfl, rfl, rfl, by decide +kernel, rfl, by decide +kernel, by decide +kernel⟩
abbrev sPowerWithin : Stmt := topS 18
theorem scPowerWithin : FnScope ["number"] ["number"] (defScope sPowerWithin) := ⟨rfl, rfl, rfl, by decide +kernel, rfl, by decide +kernel, by decide +kernel⟩
abbrev sFirstFull : Stmt := topS 19
theorem scFirstFull : FnScope ["begin", "end", "room"] ["begin", "end"] (defScope sFirstFull) := ⟨rfl, rfl, rfl, by decide +kernel, rfl, by decide +kernel, by decide +kernel⟩
abbrev sNodesWithin : Stmt := topS 20
theorem scNodesWithin : FnScope ["size", "begin", "end", "found", "node"] ["size", "begin", "end"] (defScope sNodesWithin) := ⟨rfl, rfl, rfl, by decide +kernel, rfl, by decide +kernel, by decide +kernel⟩
abbrev sNodesBeside : Stmt := topS 21
theorem scNodesBeside : FnScope ["size", "stretches", "found", "behind", "begin", "end"] ["size", "stretches"] (defScope sNodesBeside) := ⟨rfl, rfl, rfl, by decide +kernel, rfl, by decide +kernel, by decide +kernel⟩
abbrev sJoined : Stmt := topS 23
theorem scJoined : FnScope ["stretches", "found", "begin", "end", "first", "last"] ["stretches"] (defScope sJoined) := ⟨rfl, rfl, rfl, by decide +kernel, rfl, by decide +kernel, by decide +kernel⟩
abbrev sNeeded : Stmt := topS 25
theorem scNeeded : FnScope ["size", "spans"] ["size", "spans"] (defScope sNeeded) := ⟨rfl, rfl, rfl, by decide +kernel, rfl, by decide +kernel, by decide +kernel⟩
abbrev sShowsNeeded : Stmt := topS 27
theorem scShowsNeeded : FnScope ["size", "spans", "value", "wanted", "item"] ["size", "spans", "value"] (defScope sShowsNeeded) := ⟨rfl, rfl, rfl, by decide +kernel, rfl, by decide +kernel, by decide +kernel⟩
abbrev sCheck : Stmt := topS 28
theorem scCheck : FnScope ["size", "spans", "nodes"] ["size", "spans", "nodes"] (defScope sCheck) := ⟨rfl, rfl, rfl, by decide +kernel, rfl, by decide +kernel, by decide +kernel⟩
abbrev sServes : Stmt := topS 29
theorem scServes : FnScope ["size", "spans", "nodes"] ["size", "spans", "nodes"] (defScope sServes) := ⟨rfl, rfl, rfl, by decide +kernel, rfl, by decide +kernel, by decide +kernel⟩
abbrev sMeets : Stmt := topS 30
theorem scMeets : FnScope ["node", "spans", "begin", "end", "first", "last"] ["node", "spans"] (defScope sMeets) := ⟨rfl, rfl, rfl, by decide +kernel, rfl, by decide +kernel, by decide +kernel⟩
abbrev sFirstWrong : Stmt := topS 31
theorem scFirstWrong : FnScope ["size", "spans", "nodes", "index", "node"] ["size", "spans", "nodes"] (defScope sFirstWrong) := ⟨rfl, rfl, rfl, by decide +kernel, rfl, by decide +kernel, by decide +kernel⟩
abbrev sLacking : Stmt := topS 32
theorem scLacking : FnScope ["size", "spans", "nodes"] ["size", "spans", "nodes"] (defScope sLacking) := ⟨rfl, rfl, rfl, by decide +kernel, rfl, by decide +kernel, by decide +kernel⟩
abbrev sLawBag : Stmt := topS 34
theorem scLawBag : FnScope ["cell"] ["cell"] (defScope sLawBag) := ⟨rfl, rfl, rfl, by decide +kernel, rfl, by decide +kernel, by decide +kernel⟩
abbrev sLawPick : Stmt := topS 35
theorem scLawPick : FnScope ["bag", "many", "told", "seed", "turn", "first", "second", "drawn"] ["bag", "many"] (defScope sLawPick) := ⟨rfl, rfl, rfl, by decide +kernel, rfl, by decide +kernel, by decide +kernel⟩
abbrev sLawSize : Stmt := topS 36
theorem scLawSize : FnScope ["bag", "most", "way", "powers", "turn"] ["bag", "most"] (defScope sLawSize) := ⟨rfl, rfl, rfl, by decide +kernel, rfl, by decide +kernel, by decide +kernel⟩
abbrev sLawParted : Stmt := topS 37
theorem scLawParted : FnScope ["node", "wide"] ["node"] (defScope sLawParted) := ⟨rfl, rfl, rfl, by decide +kernel, rfl, by decide +kernel, by decide +kernel⟩
abbrev sLawTree : Stmt := topS 38
theorem scLawTree : FnScope ["size", "found", "left", "node", "above", "half"] ["size"] (defScope sLawTree) := ⟨rfl, rfl, rfl, by decide +kernel, rfl, by decide +kernel, by decide +kernel⟩
abbrev sLawSpans : Stmt := topS 39
theorem scLawSpans : FnScope ["bag", "size", "most", "found", "at", "turn", "first", "more"] ["bag", "size", "most"] (defScope sLawSpans) := ⟨rfl, rfl, rfl, by decide +kernel, rfl, by decide +kernel, by decide +kernel⟩
abbrev sLawMixed : Stmt := topS 40
theorem scLawMixed : FnScope ["bag", "items", "left", "found", "at"] ["bag", "items"] (defScope sLawMixed) := ⟨rfl, rfl, rfl, by decide +kernel, rfl, by decide +kernel, by decide +kernel⟩
abbrev sLawMarked : Stmt := topS 41
theorem scLawMarked : FnScope ["size", "spans", "found", "first", "end", "entry"] ["size", "spans"] (defScope sLawMarked) := ⟨rfl, rfl, rfl, by decide +kernel, rfl, by decide +kernel, by decide +kernel⟩
abbrev sLawSmallRight : Stmt := topS 42
theorem scLawSmallRight : FnScope ["bag", "size", "node", "above", "spans", "some", "mine", "nodes", "turn", "wrong", "due", "first", "both", "lacks", "told", "spot"] ["bag"] (defScope sLawSmallRight) := ⟨rfl, rfl, rfl, by decide +kernel, rfl, by decide +kernel, by decide +kernel⟩
abbrev sLawShownRight : Stmt := topS 43
theorem scLawShownRight : FnScope ["bag", "size", "spans", "due", "some", "near", "node", "spot", "value", "truth", "kept"] ["bag", "size", "spans"] (defScope sLawShownRight) := ⟨rfl, rfl, rfl, by decide +kernel, rfl, by decide +kernel, by decide +kernel⟩
abbrev sLaw : Stmt := topS 44
theorem scLaw : FnScope ["script", "cell", "bag", "turn", "most", "size", "told"] ["script"] (defScope sLaw) := ⟨rfl, rfl, rfl, by decide +kernel, rfl, by decide +kernel, by decide +kernel⟩
/-- a def as it stands behind the top -/
structure At (K : PySem.W.Frag) (mg : Str → Option Value) (x : Str) (f : Addr) (fd : FuncData) (ps : List Str) : Prop where
  m : mg x = some (.ref f)
  kp : PySem.W.keepIn K (.ref f) = true
  b : Binds K fd ps []
theorem units1 {k : Nat} {A : Around} (r : Room k A) : A.units + 65 < cLine := by have := r.un; omega
/-- all but b as it was -/
def But (b : Addr) (H H' : Hp) : Prop := ∀ a o, a ≠ b → H a = some o → H' a = some o
theorem But.refl (b : Addr) (H : Hp) : But b H H := fun _ _ _ h => h
theorem But.trans {b : Addr} {H H1 H2 : Hp} (x : But b H H1) (y : But b H1 H2) : But b H H2 := fun a o n h => y a o n (x a o n h)
theorem But.of {b : Addr} {H H1 : Hp} (x : Same H H1) : But b H H1 := fun a o _ h => x a o h
theorem same_upd {H : Hp} {p : Addr} {o : HO} (h : H p = none) : Same H (upd H p o) := fun b x e => by
  rw [upd_ne (ne_of_none e h)]
  exact e
def BagAt (H : Hp) (b : Addr) : Prop := ∃ x y z : Int, H b = some (.lst [.int x, .int y, .int z])
theorem BagAt.same {H H' : Hp} {b : Addr} (h : BagAt H b) (s : Same H H') : BagAt H' b := by
  obtain ⟨x, y, z, e⟩ := h
  exact ⟨x, y, z, s _ _ e⟩
/-- a pair of ints -/
def Nd (H : Hp) (v : V) (x : Nat × Nat) : Prop := ∃ p, v = .ref p ∧ H p = some (.tup [.int x.1, .int x.2])
theorem Nd.same {H H' : Hp} {v : V} {x : Nat × Nat} (h : Nd H v x) (s : Same H H') : Nd H' v x := by
  obtain ⟨p, e, q⟩ := h
  exact ⟨p, e, s _ _ q⟩
theorem Nd.dp {K : PySem.W.Frag} {H : Hp} {v : V} {x : Nat × Nat} (h : Nd H v x) : Dp K H v (.tuple [.int x.1, .int x.2]) := by
  obtain ⟨p, rfl, q⟩ := h
  exact .tup (SqT.of q) (.cons (.int _) (.cons (.int _) .nil))
theorem nd_shaped (a b : Int) : SeqAt.shaped (.tuple [.int a, .int b]) = true := by
  show (PyData.canLay0 _ && decide (PyData.depth _ ≤ 64)) = true
  simp [PyData.canLay0, PyData.canLayAll0, PyData.depth, PyData.depthAll]
theorem nd_eqv (a b c d : Int) : PyData.eqv (.tuple [.int a, .int b]) (.tuple [.int c, .int d]) = (decide (a = c) && decide (b = d)) := by
  have e : PyData.eqv (.tuple [.int a, .int b]) (.tuple [.int c, .int d]) = ((a == c) && ((b == d) && true)) := by simp only [PyData.eqv, PyData.eqvAll]
  rw [e, Bool.and_true]
  by_cases h1 : a = c <;> by_cases h2 : b = d <;> simp [h1, h2]
/-- lists of values and what they stand for -/
inductive All2 {α : Type} (R : V → α → Prop) : List V → List α → Prop
  | nil : All2 R [] []
  | cons {v : V} {x : α} {vs : List V} {xs : List α} : R v x → All2 R vs xs → All2 R (v :: vs) (x :: xs)
section
variable {α : Type} {R R' : V → α → Prop}
theorem All2.mono (f : ∀ v x, R v x → R' v x) : ∀ {vs : List V} {xs : List α}, All2 R vs xs → All2 R' vs xs
  | _, _, .nil => .nil
  | _, _, .cons h t => .cons (f _ _ h) (All2.mono f t)
theorem All2.len : ∀ {vs : List V} {xs : List α}, All2 R vs xs → vs.length = xs.length
  | _, _, .nil => rfl
  | _, _, .cons _ t => by rw [List.length_cons, List.length_cons, All2.len t]
theorem All2.app : ∀ {vs : List V} {xs : List α} {us : List V} {ys : List α}, All2 R vs xs → All2 R us ys → All2 R (vs ++ us) (xs ++ ys)
  | _, _, _, _, .nil, h => h
  | _, _, _, _, .cons h t, k => .cons h (All2.app t k)
theorem All2.rev : ∀ {vs : List V} {xs : List α}, All2 R vs xs → All2 R vs.reverse xs.reverse
  | _, _, .nil => .nil
  | _, _, .cons h t => by
    rw [List.reverse_cons, List.reverse_cons]
    exact All2.app (All2.rev t) (.cons h .nil)
theorem All2.nth : ∀ {vs : List V} {xs : List α} {i : Nat} {v : V}, All2 R vs xs → vs[i]? = some v → ∃ x, xs[i]? = some x ∧ R v x
  | _, _, _, _, .nil, h => by simp at h
  | _, _, 0, _, .cons h t, e => by
    have := Option.some.inj e
    subst this
    exact ⟨_, rfl, h⟩
  | _, _, i + 1, _, .cons h t, e => by
    rw [List.getElem?_cons_succ] at e ⊢
    exact All2.nth t e
theorem All2.nth2 : ∀ {vs : List V} {xs : List α} {i : Nat} {x : α}, All2 R vs xs → xs[i]? = some x → ∃ v, vs[i]? = some v ∧ R v x
  | _, _, _, _, .nil, h => by simp at h
  | _, _, 0, _, .cons h t, e => by
    have := Option.some.inj e
    subst this
    exact ⟨_, rfl, h⟩
  | _, _, i + 1, _, .cons h t, e => by
    rw [List.getElem?_cons_succ] at e ⊢
    exact All2.nth2 t e
end

/-! ### rules within a comprehension: what they say of the written part is said of the def's -/
section
open PySem L2
variable {X : Cx} {s : Shared} {H : Hp} {sc : Scope} {ce : Env} {fp : List Addr}
theorem pg_tupB {es : List Expr} {k : Nat} {pos : Pos} {t : TGs} {n : Nat} (hc : X.calm = true) (h : PGs (X.blk s H sc ce fp) es t)
    (hn : (assignEach es (X.blk s H sc ce fp).env).length = n := by rfl) (hst : (assignEach es (X.blk s H sc ce fp).env).findIdx? (·.1) = none := by rfl) : PG (X.blk s H sc ce fp) (.Tuple es k pos) (gTup X.K n t) := pg_tup hc h hn hst
theorem ix_listB : IxR (X.blk s H sc ce fp) (rIxL X.K) := ix_list
theorem ix_tupB : IxR (X.blk s H sc ce fp) (rIxT X.K) := ix_tup
theorem call_len_seqB : CallR (X.blk s H sc ce fp) (.builtin "len") (fun xs H Q => ∃ p ys, xs = [.ref p] ∧ (SqL X.K H p ys ∨ SqT X.K H p ys) ∧ Q (.int ys.length) H) := call_len_seq
theorem op_eqDB (hu : X.A.units + 64 < cLine) : OpR (X.blk s H sc ce fp) (compareOp .Eq) (rEqD X.K) := op_eqD (X := X.blk s H sc ce fp) hu
theorem op_neDB (hu : X.A.units + 64 < cLine) : OpR (X.blk s H sc ce fp) (compareOp .NotEq) (rNeD X.K) := op_neD (X := X.blk s H sc ce fp) hu
theorem op_inDB (hu : X.A.units + 65 < cLine) : OpR (X.blk s H sc ce fp) (compareOp .In) (rInD X.K) := op_inD (X := X.blk s H sc ce fp) hu
theorem op_notInDB (hu : X.A.units + 65 < cLine) : OpR (X.blk s H sc ce fp) (compareOp .NotIn) (rNotInD X.K) := op_notInD (X := X.blk s H sc ce fp) hu
end
theorem Nd.upd {H : Hp} {v : V} {x : Nat × Nat} {s : Addr} {xs : List V} {o : HO} (h : Nd H v x) (hs : H s = some (.lst xs)) : Nd (upd H s o) v x := by
  obtain ⟨p, e, q⟩ := h
  exact ⟨p, e, by rw [upd_ne (ne_of q hs (by intro z; cases z))]; exact q⟩
def full (x : Nat × Nat) : Nat × Nat := (x.1, x.1 + 2 ^ x.2)
theorem pk_len : ∀ (i n b : Nat), (pk i n b).length ≤ i
  | 0, _, _ => Nat.le_refl _
  | i + 1, n, b => by
    show (if n.testBit i = true then (b, i) :: pk i n (b + 2 ^ i) else pk i n b).length ≤ i + 1
    by_cases t : n.testBit i = true
    · rw [if_pos t, List.length_cons]
      exact Nat.succ_le_succ (pk_len i n _)
    · rw [if_neg t]
      exact Nat.le_succ_of_le (pk_len i n b)
theorem take_more {α : Type} : ∀ {l : List α} {i : Nat} {x : α}, l[i]? = some x → l.take (i + 1) = l.take i ++ [x]
  | [], i, x, h => by simp at h
  | a :: l, 0, x, h => by
    have e : a = x := Option.some.inj h
    subst e
    rfl
  | a :: l, i + 1, x, h => by
    have ih := take_more (l := l) (i := i) (x := x) h
    show a :: l.take (i + 1) = a :: l.take i ++ [x]
    rw [ih]
    rfl
theorem szle {n : Nat} (h : n ≤ 100000) : n ≤ sizeLine := Nat.le_trans h (by decide)
theorem szlt {n : Nat} (h : n < 100000) : n < sizeLine := Nat.lt_of_lt_of_le h (by decide)
end LT

namespace LT
open PySem PySem.Spec PyProof.Rows L2
/-! ### a caught exception that is kept behind its suite -/
/-- an exception of the class cls at a, its own dict at d, if any -/
def ExK (cls : Value) (d : Option Addr) (a : Addr) : HO := .ext fun h => ∃ (ob : Obj) (fs : Array Value), h.get? a = some ob ∧ Zc cls d ob ∧ ob.data = .fields fs
theorem exK_ok {P : Program} {w : World} {H : Hp} {h : Heap} {a : Addr} {cls : Value} {d : Option Addr} {ob : Obj} {fs : Array Value} (e : h.get? a = some ob) (z : Zc cls d ob) (df : ob.data = .fields fs) : ObjOk P w H h a (ExK cls d a) :=
  ⟨⟨ob, fs, e, z, df⟩, ⟨ob, e⟩, fun _ _ ⟨o, v, q, r⟩ k => ⟨o, v, k o q, r⟩⟩
section
variable {X : Cx} {pins : List (Addr × Obj)} {σ : L2.St} {H : Hp} {s : Shared}
/-- it is told of from now on -/
theorem Inv.adopt {a : Addr} {cls : Value} {d : Option Addr} {ob : Obj} {fs : Array Value} (I : Inv X pins σ H s) (e : s.heap.get? a = some ob) (z : Zc cls d ob) (df : ob.data = .fields fs) (na : H a = none) (n0 : X.s_0.heap.get? a = none)
    (nL : a ≠ X.env.locals) (np : ∀ p ∈ X.pn ++ pins, p.1 ≠ a) : Inv X pins σ (upd H a (ExK cls d a)) s := by
  have ne0 : ∀ b o, X.s_0.heap.get? b = some o → b ≠ a := fun b o q y => by
    rw [y, n0] at q
    cases q
  refine ⟨I.ok, I.os, I.bare, ⟨I.base.keep, I.base.slot, ?_, I.base.there, ?_, ?_, ?_⟩, I.loc, I.cell, ?_, ?_, ?_, ?_, I.len⟩
  · intro b o q n hx
    rw [upd_ne (ne0 b o q)]
    exact I.base.free b o q n hx
  · intro b xs q
    have y := I.base.tups b xs q
    rw [upd_ne (ne_of_none y na)]
    exact y
  · intro b o u q
    have y := I.base.frzs b o u q
    rw [upd_ne (ne_of_none y na)]
    exact y
  · intro b ps q
    obtain ⟨m, y⟩ := I.base.tbls b ps q
    exact ⟨m, by rw [upd_ne (ne_of_none y na)]; exact y⟩
  · rw [upd_ne (fun y => nL y.symm)]
    exact I.free
  · intro x c q
    obtain ⟨v, o, ho, hd⟩ := I.cell x c q
    rw [upd_ne (fun y => by rw [y, e] at ho; cases ho; rw [df] at hd; cases hd)]
    exact I.freeC x c q
  · intro p hp
    obtain ⟨q1, q2, q3⟩ := I.pin p hp
    exact ⟨q1, by rw [upd_ne (np p hp)]; exact q2, q3⟩
  · exact HOk.laidN I.hok (fun _ _ q => q) na (exK_ok e z df)
end
/-- what the ends of a suite say, once the name of its clause has gone and the exception is told of -/
def endsK (i : Nat) (a : Addr) (cls : Value) (d : Option Addr) (D : Ends) : Ends :=
  { nx := fun σ' H' => H' a = none → D.nx (σ'.set i none) (upd H' a (ExK cls d a)), rt := fun v H' => H' a = none → D.rt v (upd H' a (ExK cls d a)),
    bk := fun σ' H' => H' a = none → D.bk (σ'.set i none) (upd H' a (ExK cls d a)), ct := fun σ' H' => H' a = none → D.ct (σ'.set i none) (upd H' a (ExK cls d a)) }
def wKeep (K : PySem.W.Frag) (c : Value) (i : Nat) (ts : Addr → Value → Option Addr → TS) (Wout : WX) (D : Ends) : WX := fun cls d σ H =>
  ∃ b, PySem.W.exmOne K cls c = some b ∧ (b = true → ∀ a, H a = none → ts a cls d (endsK i a cls d D) (σ.set i (some (.ref a))) H) ∧ (b = false → Wout cls d σ H)
section
variable {X : Cx} {x n : Str} {c : Value} {i : Nat} {body suite : List Stmt} {st0 : Stmt} {p1 p2 p3 : Pos} {tb : WX → TS} {ts : Addr → Value → Option Addr → TS} {Wout : WX}
theorem ps_try_keep (hst : X.stack = X.env :: X.outer) (hex : X.ex = []) (hfr : X.env.frame = some X.env.locals) (nod : X.N.Nodup) (slot : X.N[i]? = some n) (own : X.env.kindOf n = some .local) (hc : Names X x c) (tk : Takes X Wout)
    (hb : ∀ (W : WX) (pn : List (Addr × Obj)) (xe : Value → Shared → Prop), Takes (X.tr pn xe) W → PassesOwn (model X.prog X.w) X.A X.env xe → PSs (X.tr pn xe) body (tb W))
    (hsu : ∀ (a : Addr) (ob : Obj) (cls : Value) (d : Option Addr) (pn : List (Addr × Obj)), Zc cls d ob → (∃ fs, ob.data = .fields fs) → PSs (X.suite a ((a, ob) :: pn)) (st0 :: suite) (ts a cls d)) :
    PS X (.Try body [.ExceptHandler (some (.Name x p1)) (some n) (st0 :: suite) p2] [] [] p3) (fun D σ H => tb (wKeep X.K c i ts Wout D) D σ H) := by
  refine ⟨?_⟩
  intro pins s σ H D I h
  have okX := I.ok
  have frms : X.A.frames = some (X.env :: X.outer) := okX.frames.trans (congrArg some hst)
  have locn : Loc X.env.scope n := .inl own
  refine wpAny_Try_except ?_
  let land : Value → Shared → Prop := fun e u1 => wpAny (model X.prog X.w) X.A (noteFrame e X.env) (fun _ u2 => wpAny (model X.prog X.w) X.A (setFlight e none)
    (fun _ u3 => wpAny (model X.prog X.w) X.A (handleBy e X.env [.ExceptHandler (some (.Name x p1)) (some n) (st0 :: suite) p2]) (SP X pins D) X.xe u3) X.xe u2) X.xe u1
  have catch_ : Takes (X.tr (X.pn ++ pins) land) (wKeep X.K c i ts Wout D) := by
    rintro u s' ⟨a, B, sI, pins', τ, G, cls, d, rfl, J', ground, up, sky, na, os, ag, b, hb1, yes, no⟩
    have J : Inv X pins τ G sI := J'.ofTry okX
    have sky1 : Sky B (X.env :: X.outer) a (Zc cls d) X.env.locals s'.heap := hst ▸ sky
    show wpAny (model X.prog X.w) X.A (noteFrame (.ref a) X.env) _ _ _
    refine Sky.land Zc.steady frms hfr sky1 fun ha fa upa => ?_
    have Ja : Inv X pins τ G { s' with heap := ha } := J.landed ground fa.1 (up.trans upa) os ag
    obtain ⟨oa, va, geta, za, da⟩ := fa.there
    have offStack : a ∉ frs (X.env :: X.outer) := fun hm => by
      obtain ⟨_, o', e', hnf⟩ := Heap.FunFrames.mem fa.2.2.1 hm
      rw [geta] at e'
      cases e'
      exact hnf _ da
    have nL : a ≠ X.env.locals := fun y => offStack (List.mem_filterMap.mpr ⟨X.env, List.mem_cons_self, by rw [hfr, y]⟩)
    have nF : a ∉ X.fs := fun hm => by
      obtain ⟨e, he, q⟩ := List.mem_filterMap.mp hm
      exact offStack (List.mem_filterMap.mpr ⟨e, List.mem_cons_of_mem _ he, q⟩)
    -- it was not there before
    have newI : sI.heap.get? a = none := by
      cases q : sI.heap.get? a with
      | none => rfl
      | some o =>
        have y := ground a o q (by rw [hst]; exact offStack)
        rw [fa.2.1] at y
        cases y
    have new0 : X.s_0.heap.get? a = none := by
      cases q : X.s_0.heap.get? a with
      | none => rfl
      | some o =>
        obtain ⟨o', y⟩ := J.base.there a o q (by rw [hex]; exact List.not_mem_nil)
        rw [newI] at y
        cases y
    have npin : ∀ p ∈ X.pn ++ pins, p.1 ≠ a := fun p hp y => by
      have q := (J.pin p hp).1
      rw [y, newI] at q
      cases q
    have Sa := Ja.suite geta da na nL nF
    refine wpAny_handleBy_cons (codeAny_handlers_test ?_) (fun q => by cases q)
    have tyA : PySem.W.Looks (model X.prog X.w) ha (typeOf (.ref a)) cls := fun A Q E s k q => wpAny_typeOf_ref (k _ _ geta) (by rw [za.1]; exact q)
    have asked := PySem.W.exm_one (M := model X.prog X.w) (Ja.kIn) tyA hb1
    have named : ∀ {Q : Value → Shared → Prop} {E : Value → Shared → Prop}, Q c { s' with heap := ha } → wpAny (model X.prog X.w) (X.A.mark (some (.ref a))) (eval (.Name x p1) X.env) Q E { s' with heap := ha } := by
      intro Q E q
      obtain ⟨hg, hdbg, hm | ⟨hm, hv, hnn⟩⟩ := hc
      · exact ld_glob (X := X.suite a ((a, oa) :: (X.pn ++ pins))) Sa hg hm q hdbg
      · exact ld_blt (X := X.suite a ((a, oa) :: (X.pn ++ pins))) Sa hg hm hv q hnn hdbg
    refine named (asked.here ?_)
    cases b with
    | true =>
      refine codeAny_handlers_suite_as ?_
      refine HandSPX.lands_againZ fa fun hz fz upz => ?_
      have Jz : Inv X pins τ G { s' with heap := hz } := J.landed ground fz.1 ((up.trans upa).trans upz) os ag
      obtain ⟨oz, vz, getz, zz, dz⟩ := fz.there
      have Sz := Jz.suite getz dz na nL nF
      refine store_ok (X := X.suite a ((a, oz) :: (X.pn ++ pins))) (v := .ref a) Sz nod slot locn rfl ?_ (.inr own)
      intro s5 S5
      refine wpAny_mono ((hsu a oz cls d (X.pn ++ pins) zz ⟨_, dz⟩).run [] s5 _ G _ S5 (yes rfl a na)) ?_ (fun _ _ y => False.elim y)
      intro fl s6 sp
      have fin : ∀ {σ6 : L2.St} {H6 : Hp} {Q : Shared → Prop}, Inv (X.suite a ((a, oz) :: (X.pn ++ pins))) [] σ6 H6 s6 → H6 a = none ∧ ((∀ s7, Inv X pins (σ6.set i none) (upd H6 a (ExK cls d a)) s7 → Q s7) →
          wpAny (model X.prog X.w) X.A (do bindName X.env n .none; unbindBehindTheSuite X.env n p2) (fun _ s7 => Q s7) X.xe s6) := by
        intro σ6 H6 Q S6
        refine ⟨(S6.pin (a, oz) (List.mem_append_left _ List.mem_cons_self)).2.1, fun hq => ?_⟩
        refine gone_ok (X := X.suite a ((a, oz) :: (X.pn ++ pins))) S6 nod slot own fun s7 S7 => hq s7 ?_
        have pa := S7.pin (a, oz) (List.mem_append_left _ List.mem_cons_self)
        exact Inv.adopt (S7.unsuite okX) pa.1 zz dz pa.2.1 new0 nL npin
      cases fl with
      | next =>
        obtain ⟨σ6, H6, S6, q6⟩ := sp
        exact (fin S6).2 fun s7 J7 => ⟨_, _, J7, q6 (fin (Q := fun _ => True) S6).1⟩
      | brk =>
        obtain ⟨σ6, H6, S6, q6⟩ := sp
        exact (fin S6).2 fun s7 J7 => ⟨_, _, J7, q6 (fin (Q := fun _ => True) S6).1⟩
      | cont =>
        obtain ⟨σ6, H6, S6, q6⟩ := sp
        exact (fin S6).2 fun s7 J7 => ⟨_, _, J7, q6 (fin (Q := fun _ => True) S6).1⟩
      | ret u =>
        obtain ⟨v6, σ6, H6, S6, r6, q6⟩ := sp
        exact (fin S6).2 fun s7 J7 => ⟨_, _, _, J7, r6, q6 (fin (Q := fun _ => True) S6).1⟩
    | false =>
      show wpAny _ X.A (handleBy (.ref a) X.env []) _ _ _
      refine wpAny_handleBy_nil ?_
      obtain ⟨_, _, _, ob, fv, T, oT, ts', he, hz, hd, h1, hr⟩ := id fa
      unfold PySem.passOn
      refine wpAny_bind (wpAny_field he hd h1 ?_)
      rw [if_neg (show ¬ ((Value.ref T == Value.none) = true) from by simp)]
      have on_ : wpAny (model X.prog X.w) X.A (setFlight (.ref a) X.env.frame) (fun _ u4 => wpAny (model X.prog X.w) X.A (throw (.ref a) : Sem Flow) (SP X pins D) X.xe u4) X.xe { s' with heap := ha } := by
        rw [hfr]
        refine HandSPX.setFlight_upZ fa fun h4 hh4 up4 => wpAny_throw (tk _ _ ?_)
        exact ⟨a, B, sI, pins, τ, G, cls, d, rfl, J, ground, (up.trans upa).trans up4, .inr (.inr (by rw [hst]; exact hh4)), na, os, ag, no rfl⟩
      first
        | exact wpAny_bind (wpAny_pure (wpAny_bind on_))
        | exact wpAny_bind on_
  refine wpAny_mono ((hb (wKeep X.K c i ts Wout D) (X.pn ++ pins) land catch_ PassesOwn.looking).run [] s σ H D (I.toTry _) h) ?_ (fun e s1 he => he)
  intro fl s1 sp
  cases fl with
  | next =>
    obtain ⟨σ', H', J', q⟩ := sp
    exact wpAny_execs_nil ⟨σ', H', J'.ofTry okX, q⟩
  | brk =>
    obtain ⟨σ', H', J', q⟩ := sp
    exact ⟨σ', H', J'.ofTry okX, q⟩
  | cont =>
    obtain ⟨σ', H', J', q⟩ := sp
    exact ⟨σ', H', J'.ofTry okX, q⟩
  | ret u =>
    obtain ⟨v, σ', H', J', r, q⟩ := sp
    exact ⟨v, σ', H', J'.ofTry okX, r, q⟩
end
section
variable {X : Cx}
/-- isinstance(e, c), e an exception that is kept, without a dict of its own -/
def rIsK (K : PySem.W.Frag) : List V → Hp → VK → Prop := fun xs H Q => ∃ (a D : Addr) (c : V) (cv : Value) (b : Bool), xs = [.ref a, c] ∧ H a = some (ExK (.ref D) none a) ∧ ExcC K D ∧ (∀ u, RelV c u → u = cv) ∧ PySem.W.kitOne K (.ref D) cv = some b ∧ Q (.bl b) H
theorem call_isK : CallR X (.builtin "isinstance") (rIsK X.K) := by
  intro pins s σ H xs us Q I r h
  obtain ⟨a, D, c, cv, b, rfl, ha, C, hcv, e, q⟩ := h
  obtain ⟨u1, us1, rfl, r1, r2⟩ : ∃ u us', us = u :: us' ∧ RelV (.ref a) u ∧ Vals [c] us' := by
    cases r with | cons h t => exact ⟨_, _, rfl, h, t⟩
  obtain ⟨u2, rfl, r3⟩ := vals1 r2
  cases r1
  have ec := hcv _ r3
  subst ec
  obtain ⟨⟨ob, fs, hget, hz, hd⟩, _, _⟩ := I.hok a _ ha
  have J : PySem.W.InstAt s.heap a ob D none := by
    obtain ⟨oc, od, oda, osl⟩ := ob
    obtain ⟨z1, z2⟩ := hz
    dsimp only at z1 z2 hd
    subst z1 z2 hd
    exact ⟨hget, rfl, rfl, trivial⟩
  refine PySem.W.kia_one (PySem.W.handS_kitx_exc C.hg C.hk C.hs C.hd C.ha C.hn C.ht C.hm) I.kIn J e (fun z => nomatch z) ?_
  intro tk
  exact ⟨.bl b, H, I.kept (t' := tk) fun _ _ z => z, rfl, q⟩
end
end LT

namespace LT
open PySem PySem.Spec PyProof.Rows L2
section
variable {X : Cx}
/-- {x}: nothing or an int, as a text -/
def tFmtN (te : TE) : TE := fun σ H Q => te σ H fun x H1 => (x = .non ∧ Q (.str "None") H1) ∨ ∃ i : Int, x = .int i ∧ i.natAbs.log2 < 1920 ∧ Q (.str (toString i)) H1
theorem pe_fmtN {e : Expr} {te : TE} {pos : Pos} (he : PE X e te) : PE X (.FormattedValue e (-1) none pos) (tFmtN te) := by
  refine ⟨fun pins s σ H Q I h => ?_⟩
  refine wpAny_FormattedValue_plain (thn (he.run pins s σ H _ I h) fun v s1 hv => ?_)
  obtain ⟨x, H1, I1, r1, q⟩ := hv
  rcases q with ⟨rfl, q⟩ | ⟨i, rfl, hz, q⟩
  · cases (show v = Value.none from r1)
    exact wpAny_formatField_none ⟨.str "None", H1, I1.tok _, ⟨_, rfl⟩, q⟩
  · obtain ⟨t, rfl⟩ := r1
    exact wpAny_formatField_int hz ⟨.str (toString i), H1, I1.tok _, ⟨_, rfl⟩, q⟩
end
/-- the scope of an __init__ that says super() -/
structure SScope (x : Str) (sc : Scope) : Prop where
  kind : sc.kind = .function
  co : sc.isCoroutine = false
  gen : sc.isGenerator = false
  self : sc.names.lookup ("self" : Str) = some .local
  par : sc.names.lookup x = some .local
  cls : sc.names.lookup ("__class__" : Str) = some .free
  sup : sc.names.lookup ("super" : Str) = some .globalImplicit
  nocell : ∀ y ∈ sc.names, y.2 ≠ .cell
  free : ∀ y ∈ sc.names, y.2 = .free → y.1 = "__class__"
  ne : x ≠ ("self" : Str)
  nd : (x == ("__debug__" : Str)) = false
  nc : (x == ("__classdict__" : Str)) = false
/-- the context of its body -/
def cxS (CX : CXT) (P : Program) (w : World) (K : PySem.W.Frag) (mg : Str → Option Value) (base : Heap) (N : List Str) (qual : Str) (scope : Scope) (f cda cc : Addr) (A : Around) (outer : List Env) (s : Shared) (H : Hp) (E : XK) : Cx where
  prog := P
  w := w
  K := K
  mg := mg
  base := base
  A := A.deeper (PySem.W.ksEnv qual scope s.heap.objs.size f (.ref cda) cc)
  N := N
  s_0 := s
  H_0 := H
  env := PySem.W.ksEnv qual scope s.heap.objs.size f (.ref cda) cc
  outer := outer
  stack := PySem.W.ksEnv qual scope s.heap.objs.size f (.ref cda) cc :: outer
  ex := []
  calm := true
  fn := fun y => y != "__class__"
  pn := []
  xe := fun e s' => wpAny (model P w) (A.deeper (PySem.W.ksEnv qual scope s.heap.objs.size f (.ref cda) cc)) (leaving (PySem.W.ksEnv qual scope s.heap.objs.size f (.ref cda) cc) e) (fun _ s'' => CX outer H s E e s'') (fun e' s'' => CX outer H s E e' s'') s'
/-- what the top says of a class whose __init__ says super().__init__(..) -/
structure Sup (P : Program) (K : PySem.W.Frag) (mg : Str → Option Value) (C cda cc : Addr) (fld : Str) : Prop where
  ex : OexC K C
  nofld : PySem.W.findIn K (.ref C) fld = some none
  sup : PySem.W.ks_superIn K C C "__init__" = some (some (.builtin "ValueError.__init__"))
  ve : PySem.W.subIn K (.ref C) (.type "ValueError") = some true
  own : PySem.W.mroIn K C (.ref C) = some true
  opq : PySem.W.nsIn K cStatics "thirdparty.any" = some none
  cell : ∃ cl cld csl, K.lookup cc = some ⟨cl, cld, .cell (some (.ref C)), csl⟩
  code : ∃ ccl cdd ccs, ∃ vs : Array Value, ∃ (file : Str) (tf : Tok), K.lookup cda = some ⟨ccl, cdd, .fields vs, ccs⟩ ∧ vs[2]? = some (.str file tf) ∧ ((P.main.file : Str) == file) = true
  top : (P.main.scope.names.lookup ("super" : Str)).isSome = false
  z : mg "super" = none
def spInit (C : Addr) (fld : Str) : Sp := fun vs H Q _ => ∃ (a : Addr) (y : V), vs = [.ref a, y] ∧ H a = some (exo a C none) ∧ (y = .non ∨ ∃ i : Int, y = .int i ∧ i.natAbs < 10 ^ 66) ∧
  ∀ dx, H dx = none → dx ≠ a → Q .non (upd (upd H dx (exd dx [(fld, y)])) a (exo a C (some dx)))
section
open PySem.W PySem.HandSPX
variable {prog : Program} {w : World} {A : Around} {E : Value → Shared → Prop} {h : Heap} {g : Array GenState} {d : Drawn} {t : Nat} {os : OsState}
variable {nm q : Str} {C N : Addr} {bs bm : List Value} {hdct : Bool} {sn : List Str} {sub : List Value} {ab : Bool} {col : Option Bool} {dd : Option Addr} {k0 k1 k2 k3 k5 : Option Value}
theorem call_mwV {u e t0 : Addr} {rest : List Value} {Q : Value → Shared → Prop}
    (hC : h.get? C = some (excClassObj nm q C N bs bm hdct sn sub ab col dd k0 k1 k2 k3 k5 "ValueError.__new__")) (he : h.get? e = some (HandSPX.excO C t0)) (hu : h.get? u = some (kxs_mw "ValueError.__init__" e)) (hrest : rest.length ≤ sizeLine)
    (hq : ∀ h' t1, (∀ b o, b ≠ e → h.get? b = some o → h'.get? b = some o) → h'.get? e = some (HandSPX.excO C t1) → Q .none ⟨h', g, d, t, os⟩) :
    wpAny (model prog w) A (call (.ref u) rest) Q E ⟨h, g, d, t, os⟩ := by
  refine wpAny_call (codeAny_of_tree ?_)
  show wpAny _ A.in1 (callAny (.ref u) ⟨rest, []⟩) _ _ _
  simp only [callAny]
  refine wpAny_bind (wpAny_load hu ?_)
  simp only [kxs_mw, show (Value.type "method-wrapper" == Value.type "method" || Value.type "method-wrapper" == Value.type "builtin_function_or_method" || Value.type "method-wrapper" == Value.type "method-wrapper") = true by decide, if_true]
  refine W.KFB.if_so (by decide) ?_
  refine wpAny_bind (ESX.check_bound F.excBase_ValueError hC he rfl ?_)
  refine wpAny_bind (wpAny_pure (wpAny_pure ?_))
  refine ⟨Code.quiet_builtin _ (by decide +kernel), codeAny_builtin F.excBase_ValueError.initEntry ?_⟩
  rw [Around.under_plainId F.excBase_ValueError.init.plain _]
  wp_walk
  refine hq _ h.objs.size (fun b o hb ho => ?_) ?_
  · rw [Heap.get?_update_other _ _ (Ne.symm hb)]
    exact Heap.get?_push_of_some _ ho
  · rw [Heap.get?_update_self _ (Heap.get?_push_of_some _ he) rfl]
    rfl
end
section
variable {CX : CXT} {P : Program} {w : World} {K : PySem.W.Frag} {mg : Str → Option Value} {base : Heap} {k : Nat}
theorem sup_inv {qual x : Str} {scope : Scope} {f cda cc C : Addr} {fld : Str} {A : Around} {outer : List Env} {s : Shared} {H : Hp} {E : XK} {h1 : Heap} {tk : Nat} {u0 u1 : Value} {v0 v1 : V} (S : SScope x scope) (T : Sup P K mg C cda cc fld) (hd : A.handled = none)
    (e0 : Env0 P w K mg base A outer s H) (r0 : RelV v0 u0) (r1 : RelV v1 u1) (hns : h1.Ns s.heap.objs.size (fun y => [(x, u1), ("self", u0)].lookup y)) (hk : ∀ b o, s.heap.get? b = some o → h1.get? b = some o) :
    Inv (cxS CX P w K mg base ["self", x] qual scope f cda cc A outer s H E) [] [some v0, some v1] H { s with heap := h1, toks := tk } := by
  have noA : ∀ b : Addr, b ∉ (cxS CX P w K mg base ["self", x] qual scope f cda cc A outer s H E).ex := fun b z => absurd (show b ∈ ([] : List Addr) from z) (by simp)
  have cl : ∀ {y : Str} {c : Addr}, (cxS CX P w K mg base ["self", x] qual scope f cda cc A outer s H E).env.cells.lookup y = some c → y = "__class__" ∧ c = cc := by
    intro y c h
    have h' : List.lookup y [(("__class__" : Str), cc)] = some c := h
    by_cases hy : y = "__class__"
    · subst hy
      simp [List.lookup] at h'
      exact ⟨rfl, h'.symm⟩
    · have : (y == ("__class__" : Str)) = false := by simpa using hy
      simp [List.lookup, this] at h'
  obtain ⟨ccl, ccd, ccs, hcc⟩ := T.cell
  have hbc := e0.mod.kin _ _ hcc
  refine ⟨⟨e0.mod, S.kind, rfl, rfl, Nat.le_refl _, fun y z c a b => ?_, fun y hy => ?_, fun y c hy a => ?_, fun _ => hd, Around.frames_deeper e0.frames, .inr ⟨rfl, rfl⟩, fun b z => absurd z (noA b), e0.bs, e0.bsz, fun b _ _ => noA b, fun b z => absurd z (noA b), e0.funs, e0.frf⟩,
    rfl, e0.bare, Un.kept hk, ⟨_, hns, fun i y v a b c => ?_⟩, fun y c a => ?_, e0.hok.fresh (Nat.le_refl _), fun y c a => ?_, fun p hp => absurd (show p ∈ ([] : List (Addr × Obj)) from hp) (by simp), e0.hok.kept hk, rfl⟩
  · rw [(cl a).1, (cl b).1]
  · have hy : scope.names.lookup y = some .cell ∨ scope.names.lookup y = some .free := hy
    rcases hy with hy | hy
    · exact absurd rfl (S.nocell _ (PySem.mem_of_lookup hy))
    · have e := S.free _ (PySem.mem_of_lookup hy) rfl
      have e : y = "__class__" := e
      subst e
      exact ⟨cc, by show List.lookup _ [(("__class__" : Str), cc)] = some cc; simp [List.lookup]⟩
  · rw [(cl a).1] at hy
    exact absurd (show (("__class__" : Str) != "__class__") = true from hy) (by simp)
  · match i, a, b with
    | 0, a, b =>
      have ey : "self" = y := Option.some.inj a
      have ev : v0 = v := Option.some.inj (Option.some.inj b)
      subst ey; subst ev
      refine ⟨u0, r0, .inl ⟨S.self, ?_⟩⟩
      have : ((("self" : Str)) == x) = false := by simpa using fun z => S.ne z.symm
      simp [List.lookup, this]
    | 1, a, b =>
      have ey : x = y := Option.some.inj a
      have ev : v1 = v := Option.some.inj (Option.some.inj b)
      subst ey; subst ev
      exact ⟨u1, r1, .inl ⟨S.par, by simp [List.lookup]⟩⟩
    | i + 2, a, b => exact absurd a (by show ¬ ([] : List Str)[i]? = some y; simp)
  · rw [(cl a).2]
    exact ⟨_, _, hk _ _ ((e0.bs _ _ hbc).1), rfl⟩
  · rw [(cl a).2]
    exact (e0.bs _ _ hbc).2
theorem sup_len {i : Int} (h : i.natAbs < 10 ^ 66) : (Str.ofString (toString i)).length ≤ 100 := by
  have e := int_text_length_le10 (a := i) (k := 66) (by decide) h
  rw [PySem.ofString_length]
  omega
theorem sup_sz {n : Nat} (h : n ≤ 5000) : n ≤ sizeLine := by rw [sizeLine_eq]; omega
theorem sup_log {i : Int} (h : i.natAbs < 10 ^ 66) : i.natAbs.log2 < 1920 := by
  by_cases z : i.natAbs = 0
  · rw [z]; decide
  · exact Nat.lt_of_lt_of_le ((Nat.log2_lt (k := 250) z).mpr (Nat.lt_of_lt_of_le h (by decide))) (by decide)
/-- super().__init__(e, ..) in the __init__ of an exception class over ValueError -/
theorem sup_call {X : Cx} {body : List Stmt} {f cda cc C a : Addr} {fld : Str} {fd : FuncData} {ar : Arg} {oc : Value} {od : Option Addr} {osl : Array (Option Value)} {e : Expr} {es : List Expr} {ta : TA} {p0 p1 p2 p7 : Pos} {σ : L2.St} {H : Hp} {s1 : Shared} {Q : Hp → Prop} {pl : Sem Bool}
    (T : Sup X.prog X.K X.mg C cda cc fld) (hks : X.env.kindOf "super" = some .globalImplicit) (hkc : X.env.kindOf "__class__" = some .free) (hka : X.env.kindOf "self" = some .local) (hcell : X.env.cells.lookup ("__class__" : Str) = some cc) (hfu : X.env.func = some f) (hco : X.env.code = .ref cda)
    (lk : X.K.lookup f = some ⟨oc, od, .func fd, osl⟩) (har : (fd.params.posonlyargs ++ fd.params.args).head? = some ar) (hself : ar.arg = "self") (I : Inv X [] σ H s1) (ea : H a = some (exo a C none)) (hN : X.N[0]? = some ("self" : Str)) (hσ : σ[0]? = some (some (V.ref a)))
    (ha : PA X (e :: es) ta)
    (hat : eval (.Call (.Attribute (.Call (.Name "super" p0) [] [] p1) "__init__" p2) (e :: es) [] p7) X.env = (do
      let ov ← attributeBase (.Call (.Name "super" p0) [] [] p1) "__init__" X.env (eval (.Call (.Name "super" p0) [] [] p1) X.env)
      standAt p2.atName
      let (f, first) ← holding [ov] (getMethod ov "__init__" pl)
      callWith p7 f first (backTo p7 (starEach (e :: es) X.env)) []) := by rfl)
    (he : starEach (e :: es) X.env = (false, eval e X.env) :: starEach es X.env := by rfl) (hpl : (backTo p7 (starEach es X.env)).any (·.1) = false := by rfl)
    (h : ta σ H fun vs H1 => vs.length ≤ 1000 ∧ H1 a = some (exo a C none) ∧ Q H1) :
    PySem.wpAt (model X.prog X.w) X.A (.func body X.env) (eval (.Call (.Attribute (.Call (.Name "super" p0) [] [] p1) "__init__" p2) (e :: es) [] p7) X.env) (fun _ s' => ∃ H1, Inv X [] σ H1 s' ∧ Q H1) X.xe s1 := by
  obtain ⟨nm, q, N, bs, bm, sn, sub, ab, col, dd, k0, k1, k2, k3, k5, hC, hbm⟩ := T.ex.cls
  have hcl : PySem.W.clsIn X.K C = some { name := nm, bases := bs, mro := .ref C :: bm, ns := N, qualname := q, hasDict := true, slotNames := sn, subclasses := sub, abstract := ab, collection := col, hasDel := false } := by unfold PySem.W.clsIn; rw [hC] <;> rfl
  obtain ⟨cl, cld, csl, hcc⟩ := T.cell
  obtain ⟨ccl, cdd, ccs, vs, file, tf, hcode, hvs, hfile⟩ := T.code
  have KX := I.kIn
  obtain ⟨t1, ho⟩ := exo_at I.hok ea
  obtain ⟨m, hns, hl⟩ := I.loc
  obtain ⟨u, ru, hu⟩ := hl 0 "self" (.ref a) hN hσ (.inl hka)
  obtain rfl : u = Value.ref a := ru
  have hm : m ("self" : Str) = some (Value.ref a) := by
    rcases hu with ⟨_, e⟩ | ⟨e, _⟩
    · exact e
    · rcases e with e | e <;> rw [hka] at e <;> cases e
  have hCs := KX _ _ hC
  refine ks_wpAt_MethodCall (pl := pl) ?_ hat
  refine ks_wpAt_super_base hks hkc (by decide) hfu (KX _ _ lk) rfl har hco (KX _ _ hcode) rfl hvs hfile T.top ?_
  obtain ⟨mb, hb1, hb2⟩ := I.mod.blt
  refine PySem.W.ks_loadName_global I.ok.kind hks (Calls.loadGlobal_builtin (by rw [I.ok.glob]; exact I.mod.glob.keeps I.bk) T.z (by rw [I.ok.blt]; exact hb1.keeps I.bk) ((hb2 "super" (by decide)).trans (by rfl)) ⟨rfl, ?_⟩)
  refine wpAny_loadName_free I.ok.kind hkc hcell ⟨_, KX _ _ hcc, rfl⟩ ?_
  rw [hself]
  refine wpAny_loadName_local I.ok.kind hka hns hm ?_
  obtain ⟨hh, g, d, t, os⟩ := s1
  refine ks_wpAny_isType_cls hCs rfl ⟨rfl, ?_⟩
  have IA : PySem.W.InstAt hh a { cls := .ref C, dict := none, data := .fields #[.ref t1, .none, .none, .none, .bool false, .none] } C none := ⟨ho, rfl, rfl, trivial⟩
  refine ks_wpAny_call_super hCs rfl ho rfl (fun c => by intro z; cases z) (PySem.W.looks_mroIn KX T.own) (fun h' e1 k1 => ?_)
  have KX' : X.K.In h' := KX.keeps k1
  have IA' : PySem.W.InstAt h' a { cls := .ref C, dict := none, data := .fields #[.ref t1, .none, .none, .none, .bool false, .none] } C none := ⟨k1 _ _ ho, rfl, rfl, trivial⟩
  have hmr : PySem.W.Looks (model X.prog X.w) h' (mroOf (.ref C)) (.ref C :: bm) := (PySem.W.looks_clsIn KX' hcl).andThen .now
  have hal : PySem.W.alongIn X.K "__init__" (((Value.ref C :: bm).dropWhile (· != .ref C)).drop 1) = some (some (.builtin "ValueError.__init__")) := by
    have z := T.sup
    unfold PySem.W.ks_superIn at z
    rw [hcl] at z
    exact z
  have hne : a ≠ C := fun z => by
    rw [z, hCs] at ho
    cases ho
  refine PySem.W.kxs_getMethod PySem.W.kxs_ValueError e1 (PySem.W.looks_opaque KX' T.opq) hmr rfl KX' hal (IA'.type.andThen (PySem.W.looks_subIn KX' T.ve)) hne (by decide) ?_
  have kk : ∀ b o, hh.get? b = some o → (h'.push (PySem.W.kxs_mw "ValueError.__init__" a)).get? b = some o := fun b o z => Heap.get?_push_of_some _ (k1 _ _ z)
  have sz : hh.objs.size ≤ h'.objs.size := Nat.le_of_lt (Heap.lt_size e1)
  have I2 : Inv X [(h'.objs.size, PySem.W.kxs_mw "ValueError.__init__" a)] σ H ⟨h'.push (PySem.W.kxs_mw "ValueError.__init__" a), g, d, t + 1, os⟩ :=
    ClX.pin_new (t' := t + 1) I kk sz (Heap.get?_push_size _ rfl) (fun v => by intro z; cases z)
  show wpAny _ _ (callWith p7 (Value.ref h'.objs.size) [] (backTo p7 (starEach (e :: es) X.env)) []) _ _ _
  have hA := ha.run p7 _ _ σ H _ I2 h
  rw [he] at hA ⊢
  refine PySem.W.kxs_callWith (i := "ValueError.__init__") (x := a) (by show (false || (backTo p7 (starEach es X.env)).any (·.1)) = false; rw [hpl]; rfl) ?_
  refine Calls.evalArgs_plain (thn hA fun us s2 ⟨vs2, H1, I3, rv, hlen, ea1, q⟩ => ?_)
  have hpin := ClX.pin_at I3
  refine ⟨hpin, ?_⟩
  obtain ⟨t2, ho2⟩ := exo_at I3.hok ea1
  obtain ⟨h2, g2, d2, tk2, os2⟩ := s2
  have hlu : us.length ≤ sizeLine := by
    rw [← Paired.length rv, sizeLine_eq]
    omega
  refine call_mwV (I3.kIn _ _ hC) ho2 hpin hlu fun h3 t3 k3 hx => ?_
  have J := I3.write (t' := tk2) (x := a) (e := a) (o := exo a C none) (by rw [ea1]; exact True.intro) (.inl rfl) k3 ⟨_, hx⟩ (exo_ok hx)
  have eu : upd H1 a (exo a C none) = H1 := by
    funext b
    by_cases hb : b = a
    · rw [hb, upd_same, ea1]
    · rw [upd_ne hb]
  rw [eu] at J
  exact ⟨H1, ClX.unpin J, q⟩
theorem ok_init_super {name qual x fld lit : Str} {params : Arguments} {scope : Scope} {dV kV doc pm ct oc : Value} {an od : Option Addr} {osl : Array (Option Value)} {f cda cc C : Addr} {p0 p1 p2 p3 p4 p5 p6 p7 p8 q0 q1 q2 q3 : Pos} {ar : Arg} {kk}
    (lk : K.lookup f = some ⟨oc, od, .func (PySem.W.ksFn name qual params [.Expr (.Call (.Attribute (.Call (.Name "super" p0) [] [] p1) "__init__" p2) [.JoinedStr [.Constant (.str lit) kk p3, .FormattedValue (.Name x p4) (-1) none p5] p6] [] p7) p8, .Assign [.Attribute (.Name "self" q0) fld q1] (.Name x q2) q3] scope dV kV doc pm an (.ref cda) ct cc), osl⟩)
    (hcd : PySem.W.codeIn K (.ref cda) qual = true) (S : SScope x scope) (T : Sup P K mg C cda cc fld) (hlit : lit.length ≤ 1000) (har : (params.posonlyargs ++ params.args).head? = some ar) (hself : ar.arg = "self")
    (hat : ∀ env : Env, ∃ pl : Sem Bool, eval (.Call (.Attribute (.Call (.Name "super" p0) [] [] p1) "__init__" p2) [.JoinedStr [.Constant (.str lit) kk p3, .FormattedValue (.Name x p4) (-1) none p5] p6] [] p7) env = (do
      let ov ← attributeBase (.Call (.Name "super" p0) [] [] p1) "__init__" env (eval (.Call (.Name "super" p0) [] [] p1) env)
      standAt p2.atName
      let (f, first) ← holding [ov] (getMethod ov "__init__" pl)
      callWith p7 f first (backTo p7 (starEach [.JoinedStr [.Constant (.str lit) kk p3, .FormattedValue (.Name x p4) (-1) none p5] p6] env)) []))
    (hsw1 : ∀ env : Env, swapsWith (.Call (.Attribute (.Call (.Name "super" p0) [] [] p1) "__init__" p2) [.JoinedStr [.Constant (.str lit) kk p3, .FormattedValue (.Name x p4) (-1) none p5] p6] [] p7) none p8.line env = pure false)
    (hsw2 : ∀ env : Env, swapsWith (.Name x q2) (some (.Attribute (.Name "self" q0) fld q1)) q3.line env = pure false) :
    FnOk P w K mg base CX (k + 1) f (PySem.W.ksFn name qual params [.Expr (.Call (.Attribute (.Call (.Name "super" p0) [] [] p1) "__init__" p2) [.JoinedStr [.Constant (.str lit) kk p3, .FormattedValue (.Name x p4) (-1) none p5] p6] [] p7) p8, .Assign [.Attribute (.Name "self" q0) fld q1] (.Name x q2) q3] scope dV kV doc pm an (.ref cda) ct cc) ["self", x] (spInit C fld) := by
  refine ⟨fun vs H Q E h => by obtain ⟨_, _, rfl, _⟩ := h; rfl, fun A outer s H args us vs Q E hr e0 hb r hsp => ?_⟩
  obtain ⟨a, y, rfl, ea, hy, hQ⟩ := hsp
  match us, r with
  | [u0, u1], .cons r0 (.cons r1 .nil) =>
  obtain rfl : u0 = Value.ref a := r0
  have KX : K.In s.heap := e0.mod.kin.keeps fun b o e => (e0.bs b o e).1
  have lim : s.heap.NoLimit := e0.mod.nolimit.keeps fun b o e => (e0.bs b o e).1
  refine ks_codeAny_call_defAt hr.depth (KX _ _ lk) rfl lim (PySem.W.codeRec_of KX hcd) rfl hb S.nocell (fun z hz => ?_) (fun h1 hns hk => ?_) S.co S.gen S.kind
  · rcases List.mem_cons.mp hz with e | e
    · rw [e]; exact S.self
    · rcases List.mem_cons.mp e with e | e
      · rw [e]; exact S.par
      · exact absurd e (by simp)
  show PySem.wpAt (model P w) (A.deeper (PySem.W.ksEnv qual scope s.heap.objs.size f (.ref cda) cc)) (.func _ (PySem.W.ksEnv qual scope s.heap.objs.size f (.ref cda) cc)) (execs _ (PySem.W.ksEnv qual scope s.heap.objs.size f (.ref cda) cc)) _ _ _
  have I : Inv (cxS CX P w K mg base ["self", x] qual scope f cda cc A outer s H E) [] [some (.ref a), some y] H { s with heap := h1, toks := s.toks + ((["self", x] : List Str).zip [Value.ref a, u1]).length } := sup_inv S T hr.hd e0 rfl r1 hns hk
  generalize hs1 : ({ s with heap := h1, toks := s.toks + ((["self", x] : List Str).zip [Value.ref a, u1]).length } : Shared) = s1 at I ⊢
  generalize hX : cxS CX P w K mg base ["self", x] qual scope f cda cc A outer s H E = X at I
  have pv : PE X (.Name x q2) (tVar 1) := by rw [← hX]; exact pe_var rfl (.inl S.par) S.nd S.nc
  have pv4 : PE X (.Name x p4) (tVar 1) := by rw [← hX]; exact pe_var rfl (.inl S.par) S.nd S.nc
  have ps : PE X (.Name "self" q0) (tVar 0) := by rw [← hX]; exact pe_var rfl (.inl S.self)
  have pj : PE X (.JoinedStr [.Constant (.str lit) kk p3, .FormattedValue (.Name x p4) (-1) none p5] p6) _ := pe_joined (.cons pe_str (.cons (pe_fmtN pv4) .nil))
  have po : PS X (.Assign [.Attribute (.Name "self" q0) fld q1] (.Name x q2) q3) _ := ps_ost ps pv (by rw [← hX]; exact hsw2 _)
  have pa : PA X [.JoinedStr [.Constant (.str lit) kk p3, .FormattedValue (.Name x p4) (-1) none p5] p6] _ := pa_cons pj pa_nil
  have hargs : (tCons (fun σ H Q => tJs [tC (.str lit), tFmtN (tVar 1)] Str.empty σ H fun out H1 => Q (.str out) H1) tNil) [some (.ref a), some y] H fun vs H1 => vs.length ≤ 1000 ∧ H1 a = some (exo a C none) ∧ H1 = H := by
    have a0 : (Str.empty ++ lit).length ≤ 1000 := by
      rw [PySem.Str.length_append]
      have : Str.empty.length = 0 := rfl
      omega
    refine ⟨lit, rfl, sup_sz (by omega), _, rfl, ?_⟩
    rcases hy with rfl | ⟨i, rfl, hi⟩
    · refine .inl ⟨rfl, _, rfl, ?_, by simp, ea, rfl⟩
      rw [PySem.Str.length_append]
      have : ("None" : Str).length = 4 := rfl
      exact sup_sz (by omega)
    · refine .inr ⟨i, rfl, sup_log hi, _, rfl, ?_, by simp, ea, rfl⟩
      rw [PySem.Str.length_append]
      have := sup_len hi
      exact sup_sz (by omega)
  subst hX
  obtain ⟨pl, hpl⟩ := hat (PySem.W.ksEnv qual scope s.heap.objs.size f (.ref cda) cc)
  refine ks_wpAt_execs_cons (ks_wpAt_Expr_any ?_ (by show (scope.kind == _ && _) = false; rw [S.kind]; rfl) (hsw1 _))
  refine ks_wpAt_mono (sup_call (X := cxS CX P w K mg base ["self", x] qual scope f cda cc A outer s H E) T S.sup S.cls S.self (by show List.lookup _ [(("__class__" : Str), cc)] = some cc; simp [List.lookup]) rfl rfl lk har hself I ea rfl rfl pa (hat := hpl) (h := hargs)) (fun _ s2 hq => ?_) (fun _ _ z => z)
  obtain ⟨H2, I2, rfl⟩ := hq
  have hrun := (pss_one po).run [] s2 [some (.ref a), some y] H2 { nx := fun _ H' => Q .non H', rt := Q } I2 ⟨y, rfl, .ref a, rfl, a, C, rfl, T.ex, T.nofld, .inl ⟨ea, fun dx n1 n2 => hQ dx n1 n2⟩⟩
  refine PySem.wpAt_of_wpAny (wpAny_mono hrun (fun fl s' hs => ?_) fun e s' hs => hs)
  cases fl with
  | ret u =>
    obtain ⟨v, σ', H', J, rv, q⟩ := hs
    exact ⟨v, H', J.os, J.bare, J.base, J.hok, rv, q⟩
  | next =>
    obtain ⟨σ', H', J, q⟩ := hs
    exact ⟨V.non, H', J.os, J.bare, J.base, J.hok, rfl, q⟩
  | brk =>
    obtain ⟨_, _, _, q⟩ := hs
    exact False.elim q
  | cont =>
    obtain ⟨_, _, _, q⟩ := hs
    exact False.elim q
end
end LT

namespace LT
open PySem PySem.Spec PyProof.Rows L2
section
open PySem.W
variable {prog : Program} {w : World} {A : Around} {E : Value → Shared → Prop} {s : Shared} {K : Frag} {x D : Addr} {ox : Obj} {od : Option Obj}
/-- a data descriptor of the class comes first, whatever the instance's own dict has -/
theorem findObj_dataD {C : Addr} {name : Str} {a g : Value} (hc : (clsIn K C).isSome = true) (ha : findIn K (.ref C) name = some (some a)) (hg : specialIn K a "__get__" = some (some g)) (ht : takesIn K a = some true) : findObj K C od name = some (.bind g a) := by
  obtain ⟨cd, hc⟩ := Option.isSome_iff_exists.mp hc
  unfold findObj
  rw [hc, Option.bind_some, ha, Option.bind_some]
  simp [hg, ht]
theorem kin_classD {Q : Option Value → Shared → Prop} (T : ExcC K D) (X : K.In s.heap) (I : InstAt s.heap x ox D od) (h : Q (some (.ref D)) { s with toks := s.toks + 1 }) : wpAny (model prog w) A (getAttr? (.ref x) "__class__") Q E s := by
  have hf : findObj K D od "__class__" = some (.bind (.builtin "getset_descriptor.__get__") (.builtin "object.__class__")) := findObj_dataD (by obtain ⟨cd, hc, _⟩ := any_some T.hd; rw [hc]; rfl) T.ha T.hn T.ht
  obtain ⟨hp, g, d, t, os⟩ := s
  have L0 := I.type (M := model prog w)
  have L1 := looks_findIn (M := model prog w) X T.hg
  have L2 := looks_findIn (M := model prog w) X T.hk
  have L3 := looks_find (M := model prog w) X I hf
  have sub : Looks (model prog w) hp (isInstance (.ref x) (.type "BaseException")) true := L0.andThen (looks_subIn X T.hs)
  have hx0 : (false && onTheHeap (Value.builtin "BaseException.__getattribute__")) = false := rfl
  have hx2 : (Value.builtin "BaseException.__getattribute__" == Value.builtin "object.__getattribute__") = false := by decide +kernel
  have hx1 : (onTheHeap (Value.ref D) && Value.builtin "BaseException.__getattribute__" == Value.builtin "object.__getattribute__") = false := by rw [hx2]; rfl
  unfold getAttr? getAttrBy? getAttrBy
  refine wpAny_bind (wpAny_mkText (wpAny_bind (wpAny_attempt (wpAny_holding (wpAny_bind (L0.at (wpAny_bind (L1.at ?_))))))))
  show wpAny _ _ (if (onTheHeap (Value.ref D) && Value.builtin "BaseException.__getattribute__" == Value.builtin "object.__getattribute__") = true then _ else _) _ _ _
  rw [hx1, if_neg Bool.false_ne_true]
  unfold getAttrByItsOwn hookBefore
  refine wpAny_bind ?_
  rw [if_pos (show onTheHeap (Value.ref D) = true from rfl)]
  refine L2.at ?_
  refine wpAny_bind (wpAny_attempt (wpAny_holding ?_))
  unfold callGetattribute
  rw [hx0, if_neg Bool.false_ne_true]
  unfold boundAndCalled
  rw [PySem.F.excAttr_ValueError.ga.bind (.ref x)]
  refine wpAny_bind (wpAny_pure ?_)
  show wpAny _ _ (call (.builtin "BaseException.__getattribute__") [.ref x, .str "__class__" t]) _ _ _
  refine wpAny_call (codeAny_call_builtin PySem.F.excAttr_ValueError.ga.plain PySem.F.entry_bexc_ga ?_)
  refine @check_slot (model prog w) _ _ ⟨hp, g, d, t + 1, os⟩ "BaseException.__getattribute__" "BaseException" "__getattribute__" (.ref x) [.str "__class__" t] [] _ (by decide +kernel) (by decide +kernel) sub (PySem.F.args_bexc_ga (.ref x) (.str "__class__" t)) ?_
  unfold Builtin.«object.__getattribute__»
  refine wpAny_bind (wpAny_of_eq (a := ((Value.ref x : Value), [Value.str "__class__" t])) (by first | rfl | (simp only [slotArgs]; rfl)) ?_)
  refine wpAny_bind (wpAny_pure (wpAny_bind (L0.at (wpAny_bind (L3.at ?_)))))
  show wpAny _ _ (holding [Value.builtin "object.__class__"] (call (.builtin "getset_descriptor.__get__") [.builtin "object.__class__", .ref x, .ref D]) >>= ret) _ _ _
  refine wpAny_bind (wpAny_holding (wpAny_call (class_get (s := ⟨hp, g, d, t + 1, os⟩) (ox := ox) (od := od) X I T.hm ?_)))
  refine wpAny_pure ?_
  show wpAny _ _ (handedOut (.ref D)) _ _ _
  rw [handedOut_of (v := .ref D) rfl]
  first
    | exact wpAny_pure (wpAny_pure h)
    | exact wpAny_pure h
    | exact wpAny_pure (wpAny_bind (wpAny_pure (wpAny_pure h)))
theorem kitx_excD (T : ExcC K D) : KitX K (.ref x) (.ref D) (fun h => InstAt h x ox D od) where
  ty := fun _ _ _ I => I.type
  it := fun _ _ X _ => by
    obtain ⟨cdD, hcD, _⟩ := any_some T.hd
    unfold clsIn at hcD
    split at hcD
    · rename_i c' d' cd' sl' ho
      intro A' Q' E' s' k q
      unfold isType loadHead
      exact wpAny_bind (wpAny_loadPart (k _ _ (X _ _ ho)) (wpAny_pure q))
    · cases hcD
  ne := fun h tp dd its n sl X htp => by
    obtain ⟨cdD, hcD, _⟩ := any_some T.hd
    refine Bool.eq_false_iff.mpr fun q => ?_
    have e : D = tp := Value.ref.inj (beq_iff_eq.mp q)
    subst e
    unfold clsIn at hcD
    split at hcD
    · rename_i c' d' cd' sl' ho
      have z := (X _ _ ho).symm.trans htp
      cases z
    · cases hcD
  ca := fun X I k => kin_classD T X I k
end
/-- at a an exception of the class C, and its fields, if any -/
def Exc (H : Hp) (a C : Addr) (fs : Option (List (Str × V))) : Prop := (fs = none ∧ H a = some (ExK (.ref C) none a)) ∨ ∃ (d : Addr) (l : List (Str × V)), fs = some l ∧ H a = some (ExK (.ref C) (some d) a) ∧ H d = some (.xd l)
theorem Exc.same {H H' : Hp} {a C : Addr} {fs : Option (List (Str × V))} (h : Exc H a C fs) (s : ∀ b o, H b = some o → H' b = some o) : Exc H' a C fs := by
  rcases h with ⟨e, h⟩ | ⟨d, l, e, h1, h2⟩
  · exact .inl ⟨e, s _ _ h⟩
  · exact .inr ⟨d, l, e, s _ _ h1, s _ _ h2⟩
section
variable {X : Cx} {pins : List (Addr × Obj)} {σ : L2.St} {H : Hp} {s : Shared}
theorem Exc.inst {a C : Addr} {fs : Option (List (Str × V))} (I : Inv X pins σ H s) (h : Exc H a C fs) : ∃ (ob : Obj) (od : Option Obj), PySem.W.InstAt s.heap a ob C od ∧ ∀ l, fs = some l → ∃ (o : Obj) (mA : Str → Option Value), od = some o ∧ (∀ n, PySem.W.lookIn n o = some (mA n)) ∧ ∀ n, RelO (l.lookup n) (mA n) := by
  rcases h with ⟨rfl, h⟩ | ⟨d, l, rfl, h1, h2⟩
  · obtain ⟨⟨ob, fs, hget, hz, hd⟩, _, _⟩ := I.hok a _ h
    obtain ⟨oc, od, oda, osl⟩ := ob
    obtain ⟨z1, z2⟩ := hz
    dsimp only at z1 z2 hd
    subst z1 z2 hd
    exact ⟨_, none, ⟨hget, rfl, rfl, trivial⟩, fun l e => nomatch e⟩
  · obtain ⟨⟨ob, fs, hget, hz, hd⟩, _, _⟩ := I.hok a _ h1
    have hx : ObjOk X.prog X.w H s.heap d (.xd l) := I.hok d _ h2
    obtain ⟨mA, hns, hr⟩ := hx
    obtain ⟨o, ho, hl⟩ := lookIn_ns hns
    obtain ⟨oc, od, oda, osl⟩ := ob
    obtain ⟨z1, z2⟩ := hz
    dsimp only at z1 z2 hd
    subst z1 z2 hd
    refine ⟨_, some o, ⟨hget, rfl, rfl, ho⟩, fun l' e => ?_⟩
    cases e
    exact ⟨o, mA, rfl, hl, hr⟩
end
section
variable {X : Cx}
/-- isinstance(e, c), e an exception that is held -/
def rIsX (K : PySem.W.Frag) : List V → Hp → VK → Prop := fun xs H Q => ∃ (a D : Addr) (fs : Option (List (Str × V))) (c : V) (cv : Value) (b : Bool), xs = [.ref a, c] ∧ Exc H a D fs ∧ ExcC K D ∧ (∀ u, RelV c u → u = cv) ∧ PySem.W.kitOne K (.ref D) cv = some b ∧ Q (.bl b) H
theorem call_isX : CallR X (.builtin "isinstance") (rIsX X.K) := by
  intro pins s σ H xs us Q I r h
  obtain ⟨a, D, fs, c, cv, b, rfl, ha, C, hcv, e, q⟩ := h
  obtain ⟨u1, us1, rfl, r1, r2⟩ : ∃ u us', us = u :: us' ∧ RelV (.ref a) u ∧ Vals [c] us' := by
    cases r with | cons h t => exact ⟨_, _, rfl, h, t⟩
  obtain ⟨u2, rfl, r3⟩ := vals1 r2
  cases r1
  have ec := hcv _ r3
  subst ec
  obtain ⟨ob, od, J, _⟩ := ha.inst I
  refine PySem.W.kia_one (kitx_excD C) I.kIn J e (fun z => nomatch z) ?_
  intro tk
  exact ⟨.bl b, H, I.kept (t' := tk) fun _ _ z => z, rfl, q⟩
/-- e.f, e an exception that is held -/
theorem pe_fldX {e : Expr} {te : TE} {pos : Pos} {n : Str} (he : PE X e te) (hb : attributeBase e n X.env (eval e X.env) = eval e X.env := by rfl) :
    PE X (.Attribute e n pos) (fun σ H Q => te σ H fun x H1 => ∃ (a C : Addr) (l : List (Str × V)) (v : V), x = .ref a ∧ Exc H1 a C (some l) ∧ XfC X.K C ∧ PySem.W.findIn X.K (.ref C) n = some none ∧ l.lookup n = some v ∧ Q v H1) := by
  refine ⟨fun pins s σ H Q I h => ?_⟩
  refine attr_of hb (thn (he.run pins s σ H _ I h) fun u s1 hh => ?_)
  obtain ⟨x, H1, I1, rx, a, C, l, v, rfl, hx, T, hno, hl, q⟩ := hh
  obtain rfl : u = Value.ref a := rx
  obtain ⟨ob, od, J, hf⟩ := hx.inst I1
  obtain ⟨o, mA, rfl, ho, hr⟩ := hf l rfl
  obtain ⟨u, hu, ru⟩ := RelO.some_of (v := v) (o := mA n) (by rw [← hl]; exact hr n)
  exact HandSPX.exc_get I1.kIn J T.ga T.gg T.exC (PySem.W.findObj_own T.hdC hno rfl (by rw [ho, hu])) (handed_of ru) ⟨v, H1, I1.tok _, ru, q⟩
end
/-- what the top says of an own class of errors whose __init__ keeps one field -/
structure SX (P : Program) (w : World) (K : PySem.W.Frag) (mg : Str → Option Value) (base : Heap) (x : Str) (C : Addr) (fld : Str) : Prop where
  g : mg x = some (.ref C)
  ex : OexC K C
  init : ∃ (fI : Addr) (fd : FuncData) (ps : List Str), PySem.W.findIn K (.ref C) "__init__" = some (some (.ref fI)) ∧ PySem.W.typeIn K (.ref fI) = some (.type "function") ∧ FnOk P w K mg base CX0 1 fI fd ps (spInit C fld) ∧ Binds K fd ps []
section
variable {X : Cx} {x fld : Str} {C : Addr} {e : Expr} {ta : TA} {p pos : Pos}
/-- what may be kept in the field: nothing, or a number that is not too great -/
def Held (y : V) : Prop := y = .non ∨ ∃ i : Int, y = .int i ∧ i.natAbs < 10 ^ 66
theorem pa_mono {es : List Expr} (ha : PA X es ta) : PA X es (fun σ H Q => ∃ Q1 : List V → Hp → Prop, ta σ H Q1 ∧ ∀ vs H1, Q1 vs H1 → Q vs H1) :=
  ⟨fun pos pins s σ H Q I ⟨Q1, h, m⟩ => thn (ha.run pos pins s σ H Q1 I h) fun us s' ⟨vs, H1, I1, r, q⟩ => ⟨vs, H1, I1, r, m vs H1 q⟩⟩
/-- raise C(e) -/
theorem pmk_sup (T : SX X.prog X.w X.K X.mg X.base x C fld) (hr : Room 2 X.A) (hg : Gl X x) (ha : PA X [e] ta) (hdb : (x == ("__debug__" : Str)) = false := by decide)
    (he : starEach [e] X.env = (false, eval e X.env) :: starEach [] X.env := by rfl) (hpl : (backTo pos (starEach [] X.env)).any (·.1) = false := by rfl) :
    PMk X (.Call (.Name x p) [e] [] pos) (fun σ H Q => ta σ H fun vs H1 => ∃ y, vs = [y] ∧ Held y ∧ ∀ d, H1 d = none → Q (.ref C) (some d) (upd H1 d (.xd [(fld, y)]))) := by
  obtain ⟨fI, fd, ps, i1, i2, F, B⟩ := T.init
  intro pins s σ H Q I h
  refine pmk_oex T.ex i1 i2 F hr B .nil pass0 hg T.g (pa_mono ha) hdb he hpl pins s σ H Q I ⟨_, h, fun vs H1 hh => ?_⟩
  obtain ⟨y, rfl, hy, hq⟩ := hh
  refine ⟨by simp, fun a na => ⟨a, y, rfl, upd_same, hy, fun dx n1 n2 => ⟨rfl, dx, [(fld, y)], upd_same, ?_, ?_, ?_⟩⟩⟩
  · rw [upd_ne n2, upd_same]
  · rw [upd_ne n2] at n1
    exact n1
  · rw [upd_ne n2] at n1
    have e : upd (del (upd (upd (upd H1 a (exo a C none)) dx (exd dx [(fld, y)])) a (exo a C (some dx))) a) dx (.xd [(fld, y)]) = upd H1 dx (.xd [(fld, y)]) := by
      funext b
      by_cases hb : b = dx
      · rw [hb, upd_same, upd_same]
      · rw [upd_ne hb, upd_ne hb]
        by_cases hc : b = a
        · rw [hc, del_same, na]
        · rw [del_ne hc, upd_ne hc, upd_ne hb, upd_ne hc]
    rw [e]
    exact hq dx n1
/-- C(e), as a value -/
theorem pe_sup (T : SX X.prog X.w X.K X.mg X.base x C fld) (hr : Room 2 X.A) (hg : Gl X x) (ha : PA X [e] ta) (hdb : (x == ("__debug__" : Str)) = false := by decide)
    (he : starEach [e] X.env = (false, eval e X.env) :: starEach [] X.env := by rfl) (hpl : (backTo pos (starEach [] X.env)).any (·.1) = false := by rfl) :
    PE X (.Call (.Name x p) [e] [] pos) (fun σ H Q => ta σ H fun vs H1 => ∃ y, vs = [y] ∧ Held y ∧ ∀ a d, H1 a = none → H1 d = none → d ≠ a → Q (.ref a) (upd (upd H1 d (.xd [(fld, y)])) a (ExK (.ref C) (some d) a))) := by
  refine ⟨fun pins s σ H Q I h => ?_⟩
  refine wpAny_mono (pmk_sup T hr hg (pa_mono ha) hdb he hpl pins s σ H (fun cls d G => ∃ H1 y dd, cls = .ref C ∧ d = some dd ∧ G = upd H1 dd (.xd [(fld, y)]) ∧ H1 dd = none ∧ ∀ a, H1 a = none → dd ≠ a → Q (.ref a) (upd (upd H1 dd (.xd [(fld, y)])) a (ExK (.ref C) (some dd) a))) I ?_) (fun u s' hu => ?_) fun _ _ z => z
  · refine ⟨_, h, fun vs H1 hh => ?_⟩
    obtain ⟨y, rfl, hy, hq⟩ := hh
    exact ⟨y, rfl, hy, fun d n => ⟨H1, y, d, rfl, rfl, rfl, n, fun a na ne => hq a d na n ne⟩⟩
  · obtain ⟨a, oe, vs, sI, G, cls, d, rfl, J, k, n0, ga, hz, hd, h1, na, os, bare, _, H1, y, dd, rfl, rfl, rfl, nd, q⟩ := hu
    have ne : dd ≠ a := fun z => by
      rw [z, upd_same] at na
      cases na
    have J2 := J.laidN (h' := s'.heap) (t' := s'.toks) k n0 na (exK_ok (cls := .ref C) (d := some dd) ga hz hd)
    rw [upd_ne (Ne.symm ne)] at na
    exact ⟨.ref a, _, ⟨J2.ok, os.trans J2.os, bare, J2.base, J2.loc, J2.cell, J2.free, J2.freeC, J2.pin, J2.hok, J2.len⟩, rfl, q a na ne⟩
/-- C(e), C without an __init__ of its own, as a value -/
theorem pe_exV {bmB : List Value} {B newId initId : String} {te : TE} (F : ExcBaseFacts B newId initId bmB) (q : PySem.W.excIn X.K C bmB newId = true) (gC : X.mg x = some (.ref C)) (kC : PySem.W.keepIn X.K (.ref C) = true) (hg : Gl X x)
    (he : PE X e te) (hs : starEach [e] X.env = (false, eval e X.env) :: starEach [] X.env := by rfl) (hdb : (x == ("__debug__" : Str)) = false := by decide) :
    PE X (.Call (.Name x p) [e] [] pos) (fun σ H Q => te σ H fun _ H1 => ∀ a, H1 a = none → Q (.ref a) (upd H1 a (ExK (.ref C) none a))) := by
  refine ⟨fun pins s σ H Q I h => ?_⟩
  refine wpAny_Call_Name_kw (ld_glob I hg gC ?_ hdb)
  refine PySem.W.callWith_K (h₀ := X.base) I.ok.mod.kin kC ?_ hs (by rfl)
  rw [hs]
  show wpAny _ _ (spliced ((false, eval e X.env) :: backTo pos (starEach [] X.env))) _ _ s
  refine Calls.spliced_cons (thn (he.run pins s σ H _ I h) fun u s1 ⟨v, H1, I1, r1, q1⟩ => ?_)
  refine Calls.spliced_nil ⟨I1.kIn, ?_⟩
  show wpAny _ _ (call (.ref C) [u]) _ _ _
  obtain ⟨bm, N, nm, qn, bs, hdct, sn, sub, ab, col, dd, k0, k1, k2, k3, k5, mN, hC, hN, hni, T⟩ := exc_obj I1.kIn q
  refine wpAny_call_exc_subT F T hC hN hni (fun h' a hm => ?_) (by show 1 ≤ sizeLine; rw [sizeLine_eq]; omega)
  have hn : H1 a = none := I1.hok.gone hm.new
  obtain ⟨t, ht, _, _⟩ := hm.there
  exact ⟨.ref a, upd H1 a (ExK (.ref C) none a), I1.laidN hm.keeps hm.new hn (exK_ok ht ⟨rfl, rfl⟩ rfl), rfl, q1 a hn⟩end
end LT

namespace LT
open PySem PySem.Spec PyProof.Rows L2
/-- what the top says of an own class of errors without an __init__ -/
structure XF (K : PySem.W.Frag) (mg : Str → Option Value) (x : Str) (C : Addr) : Prop where
  g : mg x = some (.ref C)
  k : PySem.W.keepIn K (.ref C) = true
  q : PySem.W.excIn K C [.type "ValueError", .type "Exception", .type "BaseException", .type "object"] "ValueError.__new__" = true
  b : PySem.W.subIn K (.ref C) (.type "BaseException") = some true
  t : PySem.W.typeIn K (.ref C) = some (.type "type")
end LT

namespace LT
open PySem PySem.Spec PyProof.Rows L2
theorem bools_dp {K : PySem.W.Frag} {H : Hp} : ∀ bs : List Bool, DpAll K H (bs.map V.bl) (bs.map PyData.bool)
  | [] => .nil
  | b :: bs => .cons (.bl b) (bools_dp bs)
theorem bools_plain : ∀ bs : List Bool, PyData.plainAll (bs.map PyData.bool) = true
  | [] => rfl
  | b :: bs => by
    show (PyData.plain (.bool b) && PyData.plainAll (bs.map PyData.bool)) = true
    rw [bools_plain bs]
    rfl
theorem bools_fits (bs : List Bool) : ∀ x ∈ bs.map PyData.bool, x.fits63 := by
  intro x hx
  obtain ⟨b, _, rfl⟩ := List.mem_map.mp hx
  exact trivial
theorem bools_any : ∀ bs : List Bool, (bs.map PyData.bool).any PyData.truthy = bs.any id
  | [] => rfl
  | b :: bs => by
    rw [List.map_cons, List.any_cons, List.any_cons, bools_any bs]
    rfl
theorem bools_all : ∀ bs : List Bool, (bs.map PyData.bool).all PyData.truthy = bs.all id
  | [] => rfl
  | b :: bs => by
    rw [List.map_cons, List.all_cons, List.all_cons, bools_all bs]
    rfl
section
variable {X : Cx}
/-- any(xs), all(xs), a list of truth values -/
def rAny (K : PySem.W.Frag) : List V → Hp → VK → Prop := fun vs H Q => ∃ (a : Addr) (bs : List Bool), vs = [V.ref a] ∧ SqL K H a (bs.map V.bl) ∧ Q (.bl (bs.any id)) H
def rAll (K : PySem.W.Frag) : List V → Hp → VK → Prop := fun vs H Q => ∃ (a : Addr) (bs : List Bool), vs = [V.ref a] ∧ SqL K H a (bs.map V.bl) ∧ Q (.bl (bs.all id)) H
theorem cr_any (hc : X.calm = true) : CallR X (.builtin "any") (rAny X.K) := by
  intro pins s σ H vs us Q I r h
  obtain ⟨a, bs, rfl, hs, q⟩ := h
  obtain ⟨its, rv, hl, _⟩ := I.list hs
  rw [Vals.ref1 r]
  obtain ⟨as, hr⟩ := Dp.readsAll I _ _ _ (bools_dp bs) rv
  refine PySem.W.any_list_data (I.ok.hd hc) hl.isList hr (bools_plain bs) (bools_fits bs) fun h' tk hk => ⟨.bl (bs.any id), H, I.kept hk, ?_, q⟩
  rw [bools_any]
  exact rfl
theorem cr_all (hc : X.calm = true) : CallR X (.builtin "all") (rAll X.K) := by
  intro pins s σ H vs us Q I r h
  obtain ⟨a, bs, rfl, hs, q⟩ := h
  obtain ⟨its, rv, hl, _⟩ := I.list hs
  rw [Vals.ref1 r]
  obtain ⟨as, hr⟩ := Dp.readsAll I _ _ _ (bools_dp bs) rv
  refine PySem.W.all_list_data (I.ok.hd hc) hl.isList hr (bools_plain bs) (bools_fits bs) fun h' tk hk => ⟨.bl (bs.all id), H, I.kept hk, ?_, q⟩
  rw [bools_all]
  exact rfl
end
end LT

namespace LT
open PySem PySem.Spec PyProof.Rows L2
section
variable {P : Program} {w : World} {K : PySem.W.Frag} {mg : Str → Option Value} {base : Heap}
def spWhole : Sp := fun vs H Q _ => ∃ i : Int, vs = [.int i] ∧ Q (.bl true) H
theorem ok_is_whole {f : Addr} {fd : FuncData} (F : Fun K "is_whole" "is_whole" sIsWhole f fd) (z_isinstance : mg "isinstance" = none) (z_int : mg "int" = none) (z_bool : mg "bool" = none) : FnOk P w K mg base CX0 1 f fd ["value"] spWhole := by
  refine F.ok scIsWhole (fun vs H Q E h => ?_) (fun cdv A outer s H vs Q E hr h => ?_)
  · obtain ⟨i, rfl, _⟩ := h
    rfl
  obtain ⟨i, rfl, q⟩ := h
  refine ⟨_, (pss_one (ps_ret (pe_and (pe_callB call_isi (by rfl) z_isinstance (by decide +kernel) (pa_cons (pv 0) (pa_cons (pe_bltn (v := .ty "int") (u := .type "int") (by rfl) z_int (by decide +kernel) rfl) pa_nil))) (pe_one (pe_not (pe_callB call_isi (by rfl) z_isinstance (by decide +kernel) (pa_cons (pv 0) (pa_cons (pe_bltn (v := .ty "bool") (u := .type "bool") (by rfl) z_bool (by decide +kernel) rfl) pa_nil)))))))), ?_⟩
  refine ⟨_, rfl, _, _, _, _, true, rfl, .ty "int", .base (.int i), kit_ty (by decide +kernel), true, rfl, ?_⟩
  refine ⟨_, rfl, _, _, _, _, false, rfl, .ty "bool", .base (.int i), kit_ty (by decide +kernel), false, rfl, ?_⟩
  exact q
def spBetween : Sp := fun vs H Q _ => ∃ v lo hi : Int, vs = [.int v, .int lo, .int hi] ∧ Q (.bl (decide (lo ≤ v) && decide (v ≤ hi))) H
theorem ok_is_between {f g : Addr} {fd gd : FuncData} (F : Fun K "is_between" "is_between" sIsBetween f fd) (GIsWhole : FnOk P w K mg base CX0 1 g gd ["value"] spWhole) (AIsWhole : At K mg "is_whole" g gd ["value"]) : FnOk P w K mg base CX0 2 f fd ["value", "low", "high"] spBetween := by
  refine F.ok scIsBetween (fun vs H Q E h => ?_) (fun cdv A outer s H vs Q E hr h => ?_)
  · obtain ⟨i, _, _, rfl, _⟩ := h
    rfl
  obtain ⟨v, lo, hi, rfl, q⟩ := h
  refine ⟨_, (pss_one (ps_ret (pe_and (pe_call GIsWhole (hr.mono (by decide)) rfl AIsWhole.m AIsWhole.kp AIsWhole.b .nil pass0 (pa_cons (pv 0) pa_nil)) (pe_one (pe_chain op_le op_le (pv 1) (pv 0) (pv 2)))))), ?_⟩
  refine ⟨_, rfl, v, rfl, true, rfl, ?_⟩
  refine ⟨_, rfl, _, rfl, _, _, rfl, rfl, _, rfl, ?_⟩
  by_cases h1 : lo ≤ v
  · rw [decide_eq_true h1] at q ⊢
    exact ⟨_, rfl, _, _, rfl, rfl, q⟩
  · rw [decide_eq_false h1] at q ⊢
    exact q
def spCheckSize : Sp := fun vs H Q _ => ∃ n : Int, vs = [.int n] ∧ 1 ≤ n ∧ n ≤ 10 ^ 30 ∧ Q .non H
theorem ok_check_size {f g : Addr} {fd gd : FuncData} {t : Tok} (F : Fun K "check_size" "check_size" sCheckSize f fd) (GIsBetween : FnOk P w K mg base CX0 2 g gd ["value", "low", "high"] spBetween) (AIsBetween : At K mg "is_between" g gd ["value", "low", "high"]) (g_MOST_ENTRIES : mg "MOST_ENTRIES" = some (.int 1000000000000000000000000000000 t)) : FnOk P w K mg base CX0 3 f fd ["size"] spCheckSize := by
  refine F.ok scCheckSize (fun vs H Q E h => ?_) (fun cdv A outer s H vs Q E hr h => ?_)
  · obtain ⟨i, rfl, _⟩ := h
    rfl
  obtain ⟨n, rfl, h1, h2, q⟩ := h
  refine ⟨_, (pss_one (ps_if (pt_not (pt_val (pe_call GIsBetween (hr.mono (by decide)) rfl AIsBetween.m AIsBetween.kp AIsBetween.b .nil pass0 (pa_cons (pv 0) (pa_cons pe_int (pa_cons (pe_glob (v := .int 1000000000000000000000000000000) rfl g_MOST_ENTRIES ⟨_, rfl⟩) pa_nil))))))
    (pss_one ps_never)
    pss_nil)), ?_⟩
  refine ⟨_, rfl, n, 1, 1000000000000000000000000000000, rfl, _, rfl, ?_⟩
  rw [decide_eq_true h1, decide_eq_true (show n ≤ 1000000000000000000000000000000 from h2)]
  exact q
end
end LT

namespace LT
open PySem PySem.Spec PyProof.Rows L2
/-- values of the plain kinds, with their types -/
inductive Pl (K : PySem.W.Frag) (H : Hp) : V → String → Prop
  | non : Pl K H .non "NoneType"
  | bl (b : Bool) : Pl K H (.bl b) "bool"
  | int (i : Int) : Pl K H (.int i) "int"
  | str (s : Str) : Pl K H (.str s) "str"
  | lst {a : Addr} {xs : List V} : H a = some (.lst xs) → Pl K H (.ref a) "list"
  | tup {a : Addr} {xs : List V} : H a = some (.tup xs) → Pl K H (.ref a) "tuple"
  | dict {a : Addr} {kvs : List (Key × V)} : H a = some (.dK kvs) → Pl K H (.ref a) "dict"
theorem Pl.ty {K : PySem.W.Frag} {H : Hp} {v : V} {t : String} (h : Pl K H v t) : TyX K H v (.type t) := by
  cases h with
  | non => exact .base .non
  | bl b => exact .base (.bl b)
  | int i => exact .base (.int i)
  | str s => exact .base (.str s)
  | lst e => exact .base (.lst e)
  | tup e => exact .base (.tup e)
  | dict e => exact .base (.dK e)
def isInt : V → Bool
  | .int _ => true
  | _ => false
def inRange (lo hi : Int) : V → Bool
  | .int i => decide (lo ≤ i) && decide (i ≤ hi)
  | _ => false
section
variable {P : Program} {w : World} {K : PySem.W.Frag} {mg : Str → Option Value} {base : Heap}
def spWholeV (K : PySem.W.Frag) : Sp := fun vs H Q _ => ∃ (v : V) (t : String), vs = [v] ∧ Pl K H v t ∧ Q (.bl (isInt v)) H
theorem ok_is_wholeV {f : Addr} {fd : FuncData} (F : Fun K "is_whole" "is_whole" sIsWhole f fd) (z_isinstance : mg "isinstance" = none) (z_int : mg "int" = none) (z_bool : mg "bool" = none) : FnOk P w K mg base CX0 1 f fd ["value"] (spWholeV K) := by
  refine F.ok scIsWhole (fun vs H Q E h => ?_) (fun cdv A outer s H vs Q E hr h => ?_)
  · obtain ⟨_, _, rfl, _⟩ := h
    rfl
  obtain ⟨v, t, rfl, hv, q⟩ := h
  refine ⟨_, (pss_one (ps_ret (pe_and (pe_callB call_isi (by rfl) z_isinstance (by decide +kernel) (pa_cons (pv 0) (pa_cons (pe_bltn (v := .ty "int") (u := .type "int") (by rfl) z_int (by decide +kernel) rfl) pa_nil))) (pe_one (pe_not (pe_callB call_isi (by rfl) z_isinstance (by decide +kernel) (pa_cons (pv 0) (pa_cons (pe_bltn (v := .ty "bool") (u := .type "bool") (by rfl) z_bool (by decide +kernel) rfl) pa_nil)))))))), ?_⟩
  cases hv with
  | non => exact ⟨_, rfl, _, _, _, _, false, rfl, .ty "int", (Pl.non (K := K) (H := H)).ty, kit_ty (by decide +kernel), false, rfl, q⟩
  | bl b => exact ⟨_, rfl, _, _, _, _, true, rfl, .ty "int", (Pl.bl (K := K) (H := H) b).ty, kit_ty (by decide +kernel), true, rfl, _, rfl, _, _, _, _, true, rfl, .ty "bool", (Pl.bl (K := K) (H := H) b).ty, kit_ty (by decide +kernel), true, rfl, q⟩
  | int i => exact ⟨_, rfl, _, _, _, _, true, rfl, .ty "int", (Pl.int (K := K) (H := H) i).ty, kit_ty (by decide +kernel), true, rfl, _, rfl, _, _, _, _, false, rfl, .ty "bool", (Pl.int (K := K) (H := H) i).ty, kit_ty (by decide +kernel), false, rfl, q⟩
  | str s => exact ⟨_, rfl, _, _, _, _, false, rfl, .ty "int", (Pl.str (K := K) (H := H) s).ty, kit_ty (by decide +kernel), false, rfl, q⟩
  | lst e => exact ⟨_, rfl, _, _, _, _, false, rfl, .ty "int", (Pl.lst (K := K) e).ty, kit_ty (by decide +kernel), false, rfl, q⟩
  | tup e => exact ⟨_, rfl, _, _, _, _, false, rfl, .ty "int", (Pl.tup (K := K) e).ty, kit_ty (by decide +kernel), false, rfl, q⟩
  | dict e => exact ⟨_, rfl, _, _, _, _, false, rfl, .ty "int", (Pl.dict (K := K) e).ty, kit_ty (by decide +kernel), false, rfl, q⟩
def spBetweenV (K : PySem.W.Frag) : Sp := fun vs H Q _ => ∃ (v : V) (t : String) (lo hi : Int), vs = [v, .int lo, .int hi] ∧ Pl K H v t ∧ Q (.bl (inRange lo hi v)) H
theorem ok_is_betweenV {f g : Addr} {fd gd : FuncData} (F : Fun K "is_between" "is_between" sIsBetween f fd) (GIsWhole : FnOk P w K mg base CX0 1 g gd ["value"] (spWholeV K)) (AIsWhole : At K mg "is_whole" g gd ["value"]) : FnOk P w K mg base CX0 2 f fd ["value", "low", "high"] (spBetweenV K) := by
  refine F.ok scIsBetween (fun vs H Q E h => ?_) (fun cdv A outer s H vs Q E hr h => ?_)
  · obtain ⟨_, _, _, _, rfl, _⟩ := h
    rfl
  obtain ⟨v, t, lo, hi, rfl, hv, q⟩ := h
  refine ⟨_, (pss_one (ps_ret (pe_and (pe_call GIsWhole (hr.mono (by decide)) rfl AIsWhole.m AIsWhole.kp AIsWhole.b .nil pass0 (pa_cons (pv 0) pa_nil)) (pe_one (pe_chain op_le op_le (pv 1) (pv 0) (pv 2)))))), ?_⟩
  refine ⟨_, rfl, v, t, rfl, hv, isInt v, rfl, ?_⟩
  cases v with
  | int i =>
    have q' : Q (.bl (decide (lo ≤ i) && decide (i ≤ hi))) H := q
    refine ⟨_, rfl, _, rfl, _, _, rfl, rfl, _, rfl, ?_⟩
    by_cases h1 : lo ≤ i
    · rw [decide_eq_true h1] at q' ⊢
      exact ⟨_, rfl, _, _, rfl, rfl, q'⟩
    · rw [decide_eq_false h1] at q' ⊢
      exact q'
  | non => exact q
  | bl _ => exact q
  | str _ => exact q
  | byt _ => exact q
  | flt _ => exact q
  | ref _ => exact q
  | ty _ => exact q
theorem whole_of {k : Nat} {f : Addr} {fd : FuncData} (F : FnOk P w K mg base CX0 k f fd ["value"] (spWholeV K)) : FnOk P w K mg base CX0 k f fd ["value"] spWhole :=
  F.imp fun vs H Q E h => by
    obtain ⟨i, rfl, q⟩ := h
    exact ⟨_, _, rfl, .int i, q⟩
theorem between_of {k : Nat} {f : Addr} {fd : FuncData} (F : FnOk P w K mg base CX0 k f fd ["value", "low", "high"] (spBetweenV K)) : FnOk P w K mg base CX0 k f fd ["value", "low", "high"] spBetween :=
  F.imp fun vs H Q E h => by
    obtain ⟨v, lo, hi, rfl, q⟩ := h
    exact ⟨_, _, _, _, rfl, .int v, q⟩
end
end LT

namespace LT
open PySem PySem.Spec PyProof.Rows L2
theorem bits_nat (k : Nat) : Builtin.Int.intBits (k : Int) = if k = 0 then 0 else k.log2 + 1 := by
  unfold Builtin.Int.intBits
  by_cases h : k = 0
  · subst h; rfl
  · rw [if_neg h, if_neg (by simpa using h)]
    rfl
theorem bits_lb {m : Nat} (h : 1 ≤ m) : Builtin.Int.intBits ((m - 1 : Nat) : Int) = lb m := by
  rw [bits_nat]
  unfold lb
  by_cases k : m ≤ 1
  · rw [if_pos k, if_pos (by omega)]
  · rw [if_neg k, if_neg (by omega)]
theorem lb100 {m : Nat} (h : m ≤ 10 ^ 30) : lb m ≤ 100 := lb_le (Nat.le_trans h (by decide))
theorem fmod_of_dvd {a b : Nat} (h : a ∣ b) : Int.fmod (b : Int) (a : Int) = 0 := by
  rw [Int.fmod_eq_emod_of_nonneg _ (Int.natCast_nonneg _)]
  exact Int.emod_eq_zero_of_dvd (Int.natCast_dvd_natCast.mpr h)
end LT

namespace LT
open PySem PySem.Spec PyProof.Rows L2
section
variable {P : Program} {w : World} {K : PySem.W.Frag} {mg : Str → Option Value} {base : Heap}
def spTree : Sp := fun vs H Q _ => ∃ (n b m : Nat) (v : V), vs = [.int n, v] ∧ Nd H v (b, b + m) ∧ 1 ≤ m ∧ b + m ≤ n ∧ n ≤ 10 ^ 30 ∧ tree n b m ∧ Q (.bl true) H
theorem ok_is_tree_node {f g : Addr} {fd gd : FuncData} (F : Fun K "is_tree_node" "is_tree_node" sIsTreeNode f fd) (GIsBetween : FnOk P w K mg base CX0 2 g gd ["value", "low", "high"] spBetween) (AIsBetween : At K mg "is_between" g gd ["value", "low", "high"])
    (z_isinstance : mg "isinstance" = none) (z_tuple : mg "tuple" = none) (z_len : mg "len" = none) : FnOk P w K mg base CX0 3 f fd ["size", "value"] spTree := by
  refine F.ok scIsTreeNode (fun vs H Q E h => ?_) (fun cdv A outer s H vs Q E hr h => ?_)
  · obtain ⟨_, _, _, _, rfl, _⟩ := h
    rfl
  obtain ⟨n, b, m, v, rfl, ⟨p, rfl, hp⟩, hm, hn, h30, ht, q⟩ := h
  refine ⟨_, (pss_cons (ps_if (PW.pt (pw_or (pt_not (pt_val (pe_callB call_isi (by rfl) z_isinstance (by decide +kernel) (pa_cons (pv 1) (pa_cons (pe_bltn (v := .ty "tuple") (u := .type "tuple") (by rfl) z_tuple (by decide +kernel) rfl) pa_nil))))) (pw_or1 (pt_cmpR op_ne (pe_callB call_len_seq (by rfl) z_len PySem.boot_len (pa_cons (pv 1) pa_nil)) pe_int (nomark _)))))
    (pss_one (ps_ret pe_bl))
    pss_nil)
    (pss_cons (ps_asg (pv 1) (pg_tup (by rfl) (pgs_cons (pg_name (i := 2) scIsTreeNode.nd rfl (Or.inl rfl)) (pgs_cons (pg_name (i := 3) scIsTreeNode.nd rfl (Or.inl rfl)) pgs_nil))))
    (pss_cons (ps_if (PW.pt (pw_or (pt_not (pt_val (pe_call GIsBetween (hr.mono (by decide)) rfl AIsBetween.m AIsBetween.kp AIsBetween.b .nil pass0 (pa_cons (pv 2) (pa_cons pe_int (pa_cons (pe_op op_sub (pv 0) pe_int) pa_nil)))))) (pw_or1 (pt_not (pt_val (pe_call GIsBetween (hr.mono (by decide)) rfl AIsBetween.m AIsBetween.kp AIsBetween.b .nil pass0 (pa_cons (pv 3) (pa_cons (pe_op op_add (pv 2) pe_int) (pa_cons (pv 0) pa_nil)))))))))
    (pss_one (ps_ret pe_bl))
    pss_nil)
    (pss_cons (ps_set (i := 4) scIsTreeNode.nd rfl (Or.inl rfl) (pe_op op_shl pe_int (pe_bits (pe_op op_sub (pe_op op_sub (pv 3) (pv 2)) pe_int))))
    (pss_one (ps_ret (pe_and (pe_cmpR op_eq (pe_op op_modN (pv 2) (pv 4)) pe_int (nomark _)) (pe_one (pe_or (pe_cmpR op_eq (pe_op op_sub (pv 3) (pv 2)) (pv 4) (nomark _)) (pe_one (pe_cmpR op_eq (pv 3) (pv 0) (nomark _)))))))))))), ?_⟩
  refine ⟨_, rfl, _, _, _, _, true, rfl, .ty "tuple", .base (.tup hp), kit_ty (by decide +kernel), true, rfl, ?_⟩
  refine ⟨_, rfl, p, _, rfl, .inr (SqT.of hp), rfl, false, rfl, ?_⟩
  refine ⟨_, rfl, p, _, rfl, SqT.of hp, rfl, _, _, rfl, _, _, rfl, rfl, ?_⟩
  refine ⟨_, rfl, _, rfl, _, _, rfl, rfl, _, _, _, rfl, true, ?_, ?_⟩
  · exact congrArg V.bl (by rw [Bool.and_eq_true]; exact ⟨decide_eq_true (by omega), decide_eq_true (by show (b : Int) ≤ n - 1; omega)⟩)
  refine ⟨_, rfl, _, rfl, _, _, rfl, rfl, _, rfl, _, _, _, rfl, true, ?_, ?_⟩
  · exact congrArg V.bl (by rw [Bool.and_eq_true]; exact ⟨decide_eq_true (by show (b : Int) + 1 ≤ ((b + m : Nat) : Int); omega), decide_eq_true (by show ((b + m : Nat) : Int) ≤ n; omega)⟩)
  have e1 : ((b + m : Nat) : Int) - (b : Int) - 1 = ((m - 1 : Nat) : Int) := by omega
  refine ⟨_, rfl, _, rfl, _, _, rfl, rfl, _, _, rfl, rfl, _, rfl, ?_⟩
  dsimp only
  rw [e1, bits_lb hm]
  have l100 := lb100 (show m ≤ 10 ^ 30 by omega)
  refine ⟨_, _, rfl, rfl, ⟨Int.natCast_nonneg _, by omega, by decide⟩, ?_⟩
  have e2 : (1 : Int) * 2 ^ ((lb m : Nat) : Int).toNat = ((2 ^ lb m : Nat) : Int) := by rw [Int.one_mul, Int.toNat_natCast]; exact (Int.natCast_pow 2 (lb m)).symm
  dsimp only
  rw [e2]
  obtain ⟨d, k⟩ := ht
  have pz : 0 < 2 ^ lb m := Nat.pow_pos (by decide)
  generalize 2 ^ lb m = R at d k pz
  refine ⟨_, rfl, _, rfl, _, _, rfl, rfl, by omega, rfl, true, ?_, ?_⟩
  · show V.bl (decide (V.int (Int.fmod (b : Int) (R : Int)) = V.int 0)) = V.bl true
    rw [fmod_of_dvd d, decide_eq_true rfl]
  refine ⟨_, rfl, _, rfl, _, _, rfl, rfl, _, rfl, rfl, _, rfl, ite2 (fun c => q) (fun c => ?_)⟩
  have c1 : ¬ V.int (((b + m : Nat) : Int) - (b : Int)) = V.int (R : Int) := of_decide_eq_false (Bool.eq_false_iff.mpr c)
  refine ⟨_, rfl, _, rfl, rfl, ?_⟩
  have e4 : b + m = n := by
    rcases k with k | k
    · exact absurd (congrArg V.int (by omega)) c1
    · exact k
  show Q (V.bl (decide (V.int ((b + m : Nat) : Int) = V.int (n : Int)))) H
  rw [decide_eq_true (by rw [e4])]
  exact q
end
end LT

namespace LT
open PySem PySem.Spec PyProof.Rows L2
section
variable {P : Program} {w : World} {K : PySem.W.Frag} {mg : Str → Option Value} {base : Heap}
def spPower : Sp := fun vs H Q _ => ∃ (k : Nat), vs = [.int k] ∧ 1 ≤ k ∧ k ≤ 10 ^ 30 ∧ Q (.int ((2 ^ k.log2 : Nat) : Int)) H
theorem ok_power_within {f : Addr} {fd : FuncData} (F : Fun K "power_within" "power_within" sPowerWithin f fd) : FnOk P w K mg base CX0 1 f fd ["number"] spPower := by
  refine F.ok scPowerWithin (fun vs H Q E h => ?_) (fun cdv A outer s H vs Q E hr h => ?_)
  · obtain ⟨_, rfl, _⟩ := h
    rfl
  obtain ⟨k, rfl, h1, h30, q⟩ := h
  refine ⟨_, (pss_one (ps_ret (pe_op op_shl pe_int (pe_op op_sub (pe_bits (pv 0)) pe_int)))), ?_⟩
  refine ⟨_, rfl, _, rfl, _, _, rfl, rfl, ?_⟩
  dsimp only
  have e : ((Builtin.Int.intBits (k : Int) : Nat) : Int) - 1 = ((k.log2 : Nat) : Int) := by
    rw [bits_nat, if_neg (by omega)]
    omega
  rw [e]
  have l100 : k.log2 < 100 := (Nat.log2_lt (by omega)).mpr (Nat.lt_of_le_of_lt h30 (by decide))
  refine ⟨_, _, rfl, rfl, ⟨Int.natCast_nonneg _, by omega, by decide⟩, ?_⟩
  have e2 : (1 : Int) * 2 ^ ((k.log2 : Nat) : Int).toNat = ((2 ^ k.log2 : Nat) : Int) := by rw [Int.one_mul, Int.toNat_natCast]; exact (Int.natCast_pow 2 _).symm
  show Q (.int ((1 : Int) * 2 ^ ((k.log2 : Nat) : Int).toNat)) H
  rw [e2]
  exact q
end
end LT

namespace LT
/-- the nodes from (b, b + m) down, as the law lists them -/
def nodesF : Nat → Nat → Nat → List (Nat × Nat)
  | 0, _, _ => []
  | i + 1, b, m => if m ≤ 1 then [(b, b + m)] else (b, b + m) :: (nodesF i b (gp m) ++ nodesF i (b + gp m) (m - gp m))
theorem nodesF_one {i b m : Nat} (h : m ≤ 1) : nodesF (i + 1) b m = [(b, b + m)] := if_pos h
theorem nodesF_two {i b m : Nat} (h : ¬ m ≤ 1) : nodesF (i + 1) b m = (b, b + m) :: (nodesF i b (gp m) ++ nodesF i (b + gp m) (m - gp m)) := if_neg h
theorem gp_half {i m : Nat} (h : 2 ≤ m) (k : 2 * m ≤ 2 ^ (i + 1)) : 2 * gp m ≤ 2 ^ i ∧ 2 * (m - gp m) ≤ 2 ^ i := by
  have g1 := gp_lt h
  have g2 := gp_ge h
  have p := Nat.pow_succ (n := 2) (m := i)
  have : gp m < 2 ^ i := by omega
  unfold gp at this ⊢
  have e := (Nat.pow_lt_pow_iff_right (by decide : 1 < 2)).mp this
  have e2 : 2 ^ ((m - 1).log2 + 1) ≤ 2 ^ i := Nat.pow_le_pow_right (by decide) (by omega)
  rw [Nat.pow_succ] at e2
  unfold gp at g1 g2
  omega
theorem nodesF_len : ∀ (i b m : Nat), 1 ≤ m → 2 * m ≤ 2 ^ i → (nodesF i b m).length = 2 * m - 1
  | 0, b, m, h1, h2 => by simp at h2; omega
  | i + 1, b, m, h1, h2 => by
    by_cases c : m ≤ 1
    · rw [nodesF_one c]
      simp
      omega
    · rw [nodesF_two c, List.length_cons, List.length_append]
      have g1 := gp_lt (m := m) (by omega)
      have g3 := gp_pos m
      obtain ⟨k1, k2⟩ := gp_half (by omega) h2
      rw [nodesF_len i b (gp m) g3 k1, nodesF_len i (b + gp m) (m - gp m) (by omega) k2]
      omega
/-- a node of tree(n) -/
def isN (n : Nat) (x : Nat × Nat) : Prop := x.1 < x.2 ∧ x.2 ≤ n ∧ tree n x.1 (x.2 - x.1)
theorem mul_le_of_lt {R a b : Nat} (h1 : R ∣ a) (h2 : R ∣ b) (h : a < b) : a + R ≤ b := by
  obtain ⟨x, rfl⟩ := h1
  obtain ⟨y, rfl⟩ := h2
  have : x < y := Nat.lt_of_mul_lt_mul_left h
  calc R * x + R = R * (x + 1) := by rw [Nat.mul_succ]
    _ ≤ R * y := Nat.mul_le_mul_left R this
/-- a node within another one is it, or lies within one of its halves -/
theorem node_in {n b m : Nat} (h : 2 ≤ m) (t : tree n b m) (hn : b + m ≤ n) {x : Nat × Nat} (hx : isN n x) (h1 : b ≤ x.1) (h2 : x.2 ≤ b + m) : x = (b, b + m) ∨ x.2 ≤ b + gp m ∨ b + gp m ≤ x.1 := by
  obtain ⟨x1, x2⟩ := x
  obtain ⟨k1, k2, d, k3⟩ := hx
  simp only at k1 k2 d k3 h1 h2
  by_cases c1 : x2 ≤ b + gp m
  · exact .inr (.inl c1)
  by_cases c2 : b + gp m ≤ x1
  · exact .inr (.inr c2)
  left
  obtain ⟨td, tk⟩ := t
  have e := lb_gp h
  rw [e] at td tk
  have g1 := gp_lt h
  have g2 := gp_ge h
  have gR : gp m = 2 ^ Nat.log2 (m - 1) := rfl
  generalize hr : lb (x2 - x1) = r at d k3
  have ge := lb_ge (x2 - x1)
  rw [hr] at ge
  by_cases c : r ≤ Nat.log2 (m - 1)
  · -- small: a multiple of 2 ^ r below b + gp m ends there at most
    have dg : 2 ^ r ∣ gp m := by rw [gR]; exact Nat.pow_dvd_pow 2 c
    have db : 2 ^ r ∣ b := Nat.dvd_trans dg (Nat.dvd_trans (Nat.dvd_mul_left _ _) td)
    have := mul_le_of_lt d (Nat.dvd_add db dg) (by omega : x1 < b + gp m)
    omega
  · have dd : 2 * gp m ∣ 2 ^ r := by
      rw [gR, Nat.mul_comm, ← Nat.pow_succ]
      exact Nat.pow_dvd_pow 2 (by omega)
    have dx := Nat.dvd_trans dd d
    have ex : x1 = b := by
      by_cases z : b < x1
      · have := mul_le_of_lt td dx z
        omega
      · omega
    subst ex
    have le : 2 * gp m ≤ 2 ^ r := Nat.le_of_dvd (Nat.pow_pos (by decide)) dd
    have rl : r ≤ Nat.log2 (m - 1) + 1 := by
      rw [← hr]
      refine lb_le ?_
      rw [Nat.pow_succ, ← gR]
      omega
    have e2 : 2 ^ r ≤ 2 * gp m := by
      rw [gR, Nat.mul_comm, ← Nat.pow_succ]
      exact Nat.pow_le_pow_right (by decide) rl
    have : x2 = x1 + m := by
      rcases k3 with k3 | k3 <;> omega
    rw [this]
theorem mem_nodesF (n : Nat) (x : Nat × Nat) : ∀ (i b m : Nat), 1 ≤ m → 2 * m ≤ 2 ^ i → tree n b m → b + m ≤ n → (x ∈ nodesF i b m ↔ isN n x ∧ b ≤ x.1 ∧ x.2 ≤ b + m)
  | 0, b, m, h1, h2, _, _ => by simp at h2; omega
  | i + 1, b, m, h1, h2, t, hn => by
    by_cases c : m ≤ 1
    · have em : m = 1 := by omega
      subst em
      rw [nodesF_one (by omega), List.mem_singleton]
      constructor
      · rintro rfl
        exact ⟨⟨by simp, by simpa using hn, by simpa using t⟩, by simp, by simp⟩
      · rintro ⟨⟨k1, _⟩, k2, k3⟩
        have : x.1 = b ∧ x.2 = b + 1 := by omega
        exact Prod.ext this.1 this.2
    · rw [nodesF_two c, List.mem_cons, List.mem_append]
      have g1 := gp_lt (m := m) (by omega)
      have g3 := gp_pos m
      obtain ⟨k1, k2⟩ := gp_half (by omega) h2
      have e : b + gp m + (m - gp m) = b + m := by omega
      have il := mem_nodesF n x i b (gp m) g3 k1 (tree_low (by omega) t) (by omega)
      have ih := mem_nodesF n x i (b + gp m) (m - gp m) (by omega) k2 (tree_high (by omega) t) (by omega)
      rw [il, ih, e]
      constructor
      · rintro (rfl | ⟨p, q, r⟩ | ⟨p, q, r⟩)
        · exact ⟨⟨by simp; omega, by simpa using hn, by simpa using t⟩, by simp, by simp⟩
        · exact ⟨p, q, by omega⟩
        · exact ⟨p, by omega, r⟩
      · rintro ⟨p, q, r⟩
        rcases node_in (by omega) t hn p q r with z | z | z
        · exact .inl z
        · exact .inr (.inl ⟨p, q, z⟩)
        · exact .inr (.inr ⟨p, z, r⟩)
instance (n : Nat) (x : Nat × Nat) : Decidable (tree n x.1 (x.2 - x.1)) := by unfold tree; infer_instance
instance (n : Nat) (x : Nat × Nat) : Decidable (isN n x) := by unfold isN; infer_instance
end LT

namespace LT
open PySem PySem.Spec PyProof.Rows L2
def tnV (n : Nat) : V → V → Bool
  | .int b, .int e => decide (0 ≤ b ∧ isN n (b.toNat, e.toNat))
  | _, _ => false
theorem tn_out {n : Nat} {b e : Int} (h : ¬ (0 ≤ b ∧ b < e ∧ e ≤ n)) : tnV n (.int b) (.int e) = false := by
  refine decide_eq_false (fun ⟨h0, k⟩ => h ⟨h0, ?_, ?_⟩)
  · have := k.1
    simp only at this
    omega
  · have := k.1
    have := k.2.1
    simp only at *
    omega
/-- what may be asked whether it is a node -/
inductive Ask (K : PySem.W.Frag) (H : Hp) (n : Nat) : V → Bool → Prop
  | kind {v : V} {t : String} : Pl K H v t → t ≠ "tuple" → Ask K H n v false
  | long {p : Addr} {xs : List V} : H p = some (.tup xs) → xs.length ≠ 2 → xs.length ≤ 1000 → Ask K H n (.ref p) false
  | pair {p : Addr} {v1 v2 : V} {t1 t2 : String} : H p = some (.tup [v1, v2]) → Pl K H v1 t1 → Pl K H v2 t2 → Ask K H n (.ref p) (tnV n v1 v2)
theorem kit_tup {t : String} {K : PySem.W.Frag} {H : Hp} {v : V} (h : Pl K H v t) (hn : t ≠ "tuple") : PySem.W.kitOne K (.type t) (.type "tuple") = some false := by
  cases h with
  | non => exact kit_ty (by decide +kernel)
  | bl _ => exact kit_ty (by decide +kernel)
  | int _ => exact kit_ty (by decide +kernel)
  | str _ => exact kit_ty (by decide +kernel)
  | lst _ => exact kit_ty (by decide +kernel)
  | tup _ => exact absurd rfl hn
  | dict _ => exact kit_ty (by decide +kernel)
section
variable {P : Program} {w : World} {K : PySem.W.Frag} {mg : Str → Option Value} {base : Heap}
def spTreeV (K : PySem.W.Frag) : Sp := fun vs H Q _ => ∃ (n : Nat) (v : V) (r : Bool), vs = [.int n, v] ∧ 1 ≤ n ∧ n ≤ 2 ^ 100 ∧ Ask K H n v r ∧ Q (.bl r) H
theorem ok_is_tree_nodeV {f g : Addr} {fd gd : FuncData} (F : Fun K "is_tree_node" "is_tree_node" sIsTreeNode f fd) (GIsBetween : FnOk P w K mg base CX0 2 g gd ["value", "low", "high"] (spBetweenV K)) (AIsBetween : At K mg "is_between" g gd ["value", "low", "high"])
    (z_isinstance : mg "isinstance" = none) (z_tuple : mg "tuple" = none) (z_len : mg "len" = none) : FnOk P w K mg base CX0 3 f fd ["size", "value"] (spTreeV K) := by
  refine F.ok scIsTreeNode (fun vs H Q E h => ?_) (fun cdv A outer s H vs Q E hr h => ?_)
  · obtain ⟨_, _, _, rfl, _⟩ := h
    rfl
  obtain ⟨n, v, r, rfl, n1, h30, ask, q⟩ := h
  refine ⟨_, (pss_cons (ps_if (PW.pt (pw_or (pt_not (pt_val (pe_callB call_isi (by rfl) z_isinstance (by decide +kernel) (pa_cons (pv 1) (pa_cons (pe_bltn (v := .ty "tuple") (u := .type "tuple") (by rfl) z_tuple (by decide +kernel) rfl) pa_nil))))) (pw_or1 (pt_cmpR op_ne (pe_callB call_len_seq (by rfl) z_len PySem.boot_len (pa_cons (pv 1) pa_nil)) pe_int (nomark _)))))
    (pss_one (ps_ret pe_bl))
    pss_nil)
    (pss_cons (ps_asg (pv 1) (pg_tup (by rfl) (pgs_cons (pg_name (i := 2) scIsTreeNode.nd rfl (Or.inl rfl)) (pgs_cons (pg_name (i := 3) scIsTreeNode.nd rfl (Or.inl rfl)) pgs_nil))))
    (pss_cons (ps_if (PW.pt (pw_or (pt_not (pt_val (pe_call GIsBetween (hr.mono (by decide)) rfl AIsBetween.m AIsBetween.kp AIsBetween.b .nil pass0 (pa_cons (pv 2) (pa_cons pe_int (pa_cons (pe_op op_sub (pv 0) pe_int) pa_nil)))))) (pw_or1 (pt_not (pt_val (pe_call GIsBetween (hr.mono (by decide)) rfl AIsBetween.m AIsBetween.kp AIsBetween.b .nil pass0 (pa_cons (pv 3) (pa_cons (pe_op op_add (pv 2) pe_int) (pa_cons (pv 0) pa_nil)))))))))
    (pss_one (ps_ret pe_bl))
    pss_nil)
    (pss_cons (ps_set (i := 4) scIsTreeNode.nd rfl (Or.inl rfl) (pe_op op_shl pe_int (pe_bits (pe_op op_sub (pe_op op_sub (pv 3) (pv 2)) pe_int))))
    (pss_one (ps_ret (pe_and (pe_cmpR op_eq (pe_op op_modN (pv 2) (pv 4)) pe_int (nomark _)) (pe_one (pe_or (pe_cmpR op_eq (pe_op op_sub (pv 3) (pv 2)) (pv 4) (nomark _)) (pe_one (pe_cmpR op_eq (pv 3) (pv 0) (nomark _)))))))))))), ?_⟩
  cases ask with
  | @kind _ t hv ht => exact ⟨_, rfl, _, _, _, _, false, rfl, .ty "tuple", hv.ty, kit_tup hv ht, false, rfl, q⟩
  | @long p xs hp hl h1000 =>
    refine ⟨_, rfl, _, _, _, _, true, rfl, .ty "tuple", .base (.tup hp), kit_ty (by decide +kernel), true, rfl, ?_⟩
    refine ⟨_, rfl, p, _, rfl, .inr (SqT.of hp), rfl, true, ?_, q⟩
    refine congrArg V.bl ?_
    rw [Bool.not_eq_true']
    exact decide_eq_false (fun z => hl (by have := V.int.inj z; omega))
  | @pair p v1 v2 ty1 ty2 hp p1 p2 =>
    refine ⟨_, rfl, _, _, _, _, true, rfl, .ty "tuple", .base (.tup hp), kit_ty (by decide +kernel), true, rfl, ?_⟩
    refine ⟨_, rfl, p, _, rfl, .inr (SqT.of hp), rfl, false, rfl, ?_⟩
    refine ⟨_, rfl, p, _, rfl, SqT.of hp, rfl, _, _, rfl, _, _, rfl, rfl, ?_⟩
    refine ⟨_, rfl, _, rfl, _, _, rfl, rfl, v1, ty1, _, _, rfl, p1, inRange 0 ((n : Int) - 1) v1, rfl, ?_⟩
    cases h1 : inRange 0 ((n : Int) - 1) v1 with
    | false =>
      have e : tnV n v1 v2 = false := by
        cases v1 with
        | int b =>
          cases v2 with
          | int e =>
            refine tn_out (fun k => ?_)
            have h1' : (decide (0 ≤ b) && decide (b ≤ (n : Int) - 1)) = false := h1
            rw [decide_eq_true k.1, decide_eq_true (show b ≤ (n : Int) - 1 by omega)] at h1'
            exact absurd h1' (by decide)
          | _ => rfl
        | _ => rfl
      rw [e] at q
      exact q
    | true =>
      cases p1 with
      | int b =>
        have h1' : (decide (0 ≤ b) && decide (b ≤ (n : Int) - 1)) = true := h1
        rw [Bool.and_eq_true] at h1'
        have b0 := of_decide_eq_true h1'.1
        have b1 := of_decide_eq_true h1'.2
        refine ⟨_, rfl, _, rfl, _, _, rfl, rfl, _, rfl, v2, ty2, _, _, rfl, p2, inRange (b + 1) (n : Int) v2, rfl, ?_⟩
        cases h2 : inRange (b + 1) (n : Int) v2 with
        | false =>
          have e : tnV n (.int b) v2 = false := by
            cases v2 with
            | int e =>
              refine tn_out (fun k => ?_)
              have h2' : (decide (b + 1 ≤ e) && decide (e ≤ (n : Int))) = false := h2
              rw [decide_eq_true (show b + 1 ≤ e by omega), decide_eq_true k.2.2] at h2'
              exact absurd h2' (by decide)
            | _ => rfl
          rw [e] at q
          exact q
        | true =>
          cases p2 with
          | int e =>
            have h2' : (decide (b + 1 ≤ e) && decide (e ≤ (n : Int))) = true := h2
            rw [Bool.and_eq_true] at h2'
            have e0 := of_decide_eq_true h2'.1
            have e1 := of_decide_eq_true h2'.2
            obtain ⟨bn, rfl⟩ := Int.eq_ofNat_of_zero_le b0
            obtain ⟨en, rfl⟩ := Int.eq_ofNat_of_zero_le (show 0 ≤ e by omega)
            have hlt : bn < en := by omega
            have ev : tnV n (.int (bn : Int)) (.int (en : Int)) = decide (isN n (bn, en)) := by
              show decide (0 ≤ (bn : Int) ∧ isN n ((bn : Int).toNat, (en : Int).toNat)) = decide (isN n (bn, en))
              rw [Int.toNat_natCast, Int.toNat_natCast]
              by_cases k : isN n (bn, en)
              · rw [decide_eq_true k, decide_eq_true ⟨b0, k⟩]
              · rw [decide_eq_false k, decide_eq_false (fun z => k z.2)]
            rw [ev] at q
            have em : (en : Int) - (bn : Int) - 1 = ((en - bn - 1 : Nat) : Int) := by omega
            refine ⟨_, rfl, _, rfl, _, _, rfl, rfl, _, _, rfl, rfl, _, rfl, ?_⟩
            dsimp only
            rw [em, bits_lb (show 1 ≤ en - bn by omega)]
            have l100 := lb_le (show en - bn ≤ 2 ^ 100 by omega)
            refine ⟨_, _, rfl, rfl, ⟨Int.natCast_nonneg _, by omega, by decide⟩, ?_⟩
            have e2 : (1 : Int) * 2 ^ ((lb (en - bn) : Nat) : Int).toNat = ((2 ^ lb (en - bn) : Nat) : Int) := by rw [Int.one_mul, Int.toNat_natCast]; exact (Int.natCast_pow 2 _).symm
            dsimp only
            rw [e2]
            have pz : 0 < 2 ^ lb (en - bn) := Nat.pow_pos (by decide)
            have isE : isN n (bn, en) ↔ (bn % 2 ^ lb (en - bn) = 0 ∧ (en - bn = 2 ^ lb (en - bn) ∨ en = n)) := by
              unfold isN tree
              simp only
              constructor
              · rintro ⟨_, _, k1, k2⟩
                exact ⟨Nat.mod_eq_zero_of_dvd k1, k2.elim .inl (fun z => .inr (by omega))⟩
              · rintro ⟨k1, k2⟩
                exact ⟨hlt, by omega, Nat.dvd_of_mod_eq_zero k1, k2.elim .inl (fun z => .inr (by omega))⟩
            generalize 2 ^ lb (en - bn) = R at pz isE
            have fm : Int.fmod (bn : Int) (R : Int) = ((bn % R : Nat) : Int) := by
              rw [Int.fmod_eq_emod_of_nonneg _ (Int.natCast_nonneg _)]
              exact (Int.natCast_emod _ _).symm
            refine ⟨_, rfl, _, rfl, _, _, rfl, rfl, by omega, rfl, decide (bn % R = 0), ?_, ?_⟩
            · show V.bl (decide (V.int (Int.fmod (bn : Int) (R : Int)) = V.int 0)) = V.bl (decide (bn % R = 0))
              rw [fm]
              refine congrArg V.bl ?_
              by_cases k : bn % R = 0
              · rw [decide_eq_true k, k]; rfl
              · rw [decide_eq_false k]
                exact decide_eq_false (fun z => k (by have := V.int.inj z; omega))
            by_cases k : bn % R = 0
            · rw [decide_eq_true k]
              refine iteT ?_
              refine ⟨_, rfl, _, rfl, _, _, rfl, rfl, _, rfl, rfl, _, rfl, ite2 (fun c => ?_) (fun c => ?_)⟩
              · have c1 : V.int ((en : Int) - (bn : Int)) = V.int (R : Int) := of_decide_eq_true c
                have c2 := V.int.inj c1
                rw [decide_eq_true (isE.mpr ⟨k, .inl (by omega)⟩)] at q
                exact q
              · have c1 : ¬ V.int ((en : Int) - (bn : Int)) = V.int (R : Int) := of_decide_eq_false (Bool.eq_false_iff.mpr c)
                refine ⟨_, rfl, _, rfl, rfl, ?_⟩
                have ed : decide (V.int (en : Int) = V.int (n : Int)) = decide (isN n (bn, en)) := by
                  by_cases z : en = n
                  · rw [decide_eq_true (isE.mpr ⟨k, .inr z⟩), decide_eq_true (by rw [z])]
                  · rw [decide_eq_false (fun y => z (by have := V.int.inj y; omega)), decide_eq_false (fun y => (isE.mp y).2.elim (fun u => c1 (congrArg V.int (by omega))) z)]
                show Q (.bl (decide (V.int (en : Int) = V.int (n : Int)))) H
                rw [ed]
                exact q
            · rw [decide_eq_false k]
              refine iteF ?_
              rw [decide_eq_false (fun z => k (isE.mp z).1)] at q
              exact q
          | _ => exact absurd h2 (by intro z; cases z)
      | _ => exact absurd h1 (by intro z; cases z)
end
end LT

namespace LT
/-! ### the greatest nodes within a stretch -/
theorem and_pred_odd (c : Nat) : (2 * c + 1) &&& (2 * c) = 2 * c := by
  apply Nat.eq_of_testBit_eq
  intro i
  rw [Nat.testBit_and]
  cases i with
  | zero => simp
  | succ i =>
    rw [Nat.testBit_succ, Nat.testBit_succ, show (2 * c + 1) / 2 = c by omega, show 2 * c / 2 = c by omega, Bool.and_self]
theorem and_pred_even (c : Nat) (h : 0 < c) : (2 * c) &&& (2 * c - 1) = 2 * (c &&& (c - 1)) := by
  apply Nat.eq_of_testBit_eq
  intro i
  rw [Nat.testBit_and]
  cases i with
  | zero => simp
  | succ i =>
    rw [Nat.testBit_succ, Nat.testBit_succ, Nat.testBit_succ, show 2 * c / 2 = c by omega, show (2 * c - 1) / 2 = c - 1 by omega, show 2 * (c &&& (c - 1)) / 2 = c &&& (c - 1) by omega, Nat.testBit_and]
def low (b : Nat) : Nat := b - (b &&& (b - 1))
theorem low_is : ∀ b : Nat, 0 < b → ∃ k, low b = 2 ^ k ∧ 2 ^ k ∣ b ∧ ¬ 2 ^ (k + 1) ∣ b := by
  intro b
  induction b using Nat.strongRecOn with
  | ind b ih =>
    intro hb
    rcases Nat.mod_two_eq_zero_or_one b with h | h
    · obtain ⟨c, rfl⟩ : ∃ c, b = 2 * c := ⟨b / 2, by omega⟩
      obtain ⟨k, e, d1, d2⟩ := ih c (by omega) (by omega)
      refine ⟨k + 1, ?_, ?_, ?_⟩
      · unfold low at e ⊢
        rw [and_pred_even c (by omega), Nat.pow_succ]
        omega
      · rw [Nat.pow_succ, Nat.mul_comm]
        exact Nat.mul_dvd_mul_left 2 d1
      · rw [Nat.pow_succ, Nat.mul_comm (2 ^ (k + 1)) 2]
        exact fun z => d2 (Nat.dvd_of_mul_dvd_mul_left (by decide) z)
    · obtain ⟨c, rfl⟩ : ∃ c, b = 2 * c + 1 := ⟨b / 2, by omega⟩
      refine ⟨0, ?_, Nat.one_dvd _, ?_⟩
      · unfold low
        rw [show 2 * c + 1 - 1 = 2 * c by omega, and_pred_odd]
        omega
      · intro z
        have := Nat.mod_eq_zero_of_dvd z
        omega
/-- the room of the greatest full node that begins at b, up to e -/
def rm (b e : Nat) : Nat := if b = 0 then 2 ^ (e - b).log2 else min (2 ^ (e - b).log2) (low b)
theorem rm_is {b e : Nat} (h : b < e) : ∃ k, rm b e = 2 ^ k ∧ 2 ^ k ∣ b ∧ b + 2 ^ k ≤ e ∧ (2 ^ (k + 1) ∣ b → e < b + 2 ^ (k + 1)) := by
  have l1 := Nat.log2_self_le (n := e - b) (by omega)
  have l2 := Nat.lt_log2_self (n := e - b)
  unfold rm
  by_cases c : b = 0
  · subst c
    rw [if_pos rfl]
    exact ⟨_, rfl, Nat.dvd_zero _, by omega, fun _ => by omega⟩
  · rw [if_neg c]
    obtain ⟨k, e1, d1, d2⟩ := low_is b (by omega)
    rw [e1]
    by_cases c2 : (e - b).log2 ≤ k
    · have := Nat.pow_le_pow_right (n := 2) (by decide) c2
      rw [Nat.min_eq_left this]
      exact ⟨_, rfl, Nat.dvd_trans (Nat.pow_dvd_pow 2 c2) d1, by omega, fun _ => by omega⟩
    · have := Nat.pow_le_pow_right (n := 2) (by decide) (show k ≤ (e - b).log2 by omega)
      rw [Nat.min_eq_right this]
      exact ⟨k, rfl, d1, by omega, fun z => absurd z d2⟩
def rw1 (n b e : Nat) : Nat := if isN n (b, e) then e - b else rm b e
def nwF (n : Nat) : Nat → Nat → Nat → List (Nat × Nat)
  | 0, _, _ => []
  | f + 1, b, e => if b < e then (b, b + rw1 n b e) :: nwF n f (b + rw1 n b e) e else []
def nw (n b e : Nat) : List (Nat × Nat) := nwF n (e - b) b e
theorem rw1_pos {n b e : Nat} (h : b < e) : 0 < rw1 n b e ∧ b + rw1 n b e ≤ e := by
  unfold rw1
  split
  · omega
  · obtain ⟨k, e1, _, e2, _⟩ := rm_is h
    have := Nat.pow_pos (a := 2) (n := k) (by decide)
    omega
theorem nwF_eq (n e : Nat) : ∀ (f g b : Nat), e - b ≤ f → e - b ≤ g → nwF n f b e = nwF n g b e
  | 0, 0, _, _, _ => rfl
  | 0, g + 1, b, h, _ => by
    show [] = if b < e then _ else _
    rw [if_neg (by omega)]
  | f + 1, 0, b, _, h => by
    show (if b < e then _ else _) = []
    rw [if_neg (by omega)]
  | f + 1, g + 1, b, h1, h2 => by
    show (if b < e then _ else _) = if b < e then _ else _
    by_cases c : b < e
    · have := rw1_pos (n := n) c
      rw [if_pos c, if_pos c, nwF_eq n e f g (b + rw1 n b e) (by omega) (by omega)]
    · rw [if_neg c, if_neg c]
theorem nw_nil {n b e : Nat} (h : e ≤ b) : nw n b e = [] := by
  unfold nw
  rw [show e - b = 0 by omega]
  rfl
theorem nw_step {n b e : Nat} (h : b < e) : nw n b e = (b, b + rw1 n b e) :: nw n (b + rw1 n b e) e := by
  have p := rw1_pos (n := n) h
  unfold nw
  rw [show e - b = (e - b - 1) + 1 by omega]
  show (if b < e then _ else _) = _
  rw [if_pos h, nwF_eq n e (e - b - 1) (e - (b + rw1 n b e)) (b + rw1 n b e) (by omega) (by omega)]
/-- induction over the nodes within -/
theorem nw_ind {n e : Nat} {p : Nat → Prop} (h0 : ∀ b, e ≤ b → p b) (h1 : ∀ b, b < e → p (b + rw1 n b e) → p b) (b : Nat) : p b := by
  have : ∀ (f b : Nat), e - b ≤ f → p b := by
    intro f
    induction f with
    | zero => exact fun b h => h0 b (by omega)
    | succ f ih =>
      intro b h
      by_cases c : b < e
      · have := rw1_pos (n := n) c
        exact h1 b c (ih _ (by omega))
      · exact h0 b (by omega)
  exact this _ b (Nat.le_refl _)
theorem nw_len2 {n e : Nat} : ∀ (L b : Nat), 2 ^ L ∣ b → e < b + 2 ^ L → (nw n b e).length ≤ L
  | 0, b, _, h => by rw [nw_nil (by simp at h; omega)]; exact Nat.zero_le _
  | L + 1, b, d, h => by
    have d' : 2 ^ L ∣ b := Nat.dvd_trans (Nat.pow_dvd_pow 2 (Nat.le_succ L)) d
    by_cases c : b < e
    · by_cases c2 : e < b + 2 ^ L
      · have := nw_len2 (n := n) (e := e) L b d' c2
        omega
      · rw [nw_step c, List.length_cons]
        unfold rw1
        split
        · rw [nw_nil (by omega)]
          simp
        · obtain ⟨k, e1, e2, e3, e4⟩ := rm_is c
          rw [e1]
          have kL : k = L := by
            by_cases z : k < L
            · have := e4 (Nat.dvd_trans (Nat.pow_dvd_pow 2 z) d')
              have := Nat.pow_le_pow_right (n := 2) (by decide) (show k + 1 ≤ L from z)
              omega
            · have : 2 ^ k < 2 ^ (L + 1) := by omega
              have := (Nat.pow_lt_pow_iff_right (by decide : 1 < 2)).mp this
              omega
          subst kL
          have := nw_len2 (n := n) (e := e) k (b + 2 ^ k) (Nat.dvd_add e2 (Nat.dvd_refl _)) (by rw [Nat.pow_succ] at h; omega)
          omega
    · rw [nw_nil (by omega)]
      exact Nat.zero_le _
theorem nw_len1 {n e L : Nat} : ∀ (t j b : Nat), j + t = L → 2 ^ j ∣ b → e < b + 2 ^ L → (nw n b e).length ≤ L + t
  | 0, j, b, hj, d, h => by
    have : j = L := by omega
    subst this
    exact nw_len2 j b d h
  | t + 1, j, b, hj, d, h => by
    by_cases c : b < e
    · by_cases d1 : 2 ^ (j + 1) ∣ b
      · have := nw_len1 (n := n) (e := e) (L := L) t (j + 1) b (by omega) d1 h
        omega
      · rw [nw_step c, List.length_cons]
        unfold rw1
        split
        · rw [nw_nil (by omega)]
          simp
          omega
        · obtain ⟨k, e1, e2, e3, e4⟩ := rm_is c
          rw [e1]
          by_cases z : k < j
          · have e5 := e4 (Nat.dvd_trans (Nat.pow_dvd_pow 2 z) d)
            have := nw_len2 (n := n) (e := e) k (b + 2 ^ k) (Nat.dvd_add e2 (Nat.dvd_refl _)) (by rw [Nat.pow_succ] at e5; omega)
            omega
          · have kj : k = j := by
              by_cases y : j < k
              · exact absurd (Nat.dvd_trans (Nat.pow_dvd_pow 2 y) e2) d1
              · omega
            subst kj
            have d2 : 2 ^ (k + 1) ∣ b + 2 ^ k := by
              obtain ⟨x, rfl⟩ := d
              rcases Nat.mod_two_eq_zero_or_one x with y | y
              · exact absurd (by rw [Nat.pow_succ]; exact Nat.mul_dvd_mul_left _ (Nat.dvd_of_mod_eq_zero y)) d1
              · refine ⟨x / 2 + 1, ?_⟩
                have : x = 2 * (x / 2) + 1 := by omega
                rw [Nat.pow_succ]
                generalize x / 2 = u at this
                subst this
                rw [Nat.mul_add, Nat.mul_add, Nat.mul_assoc (2 ^ k) 2 u]
                omega
            have p := Nat.pow_pos (a := 2) (n := k) (by decide)
            have := nw_len1 (n := n) (e := e) (L := L) t (k + 1) (b + 2 ^ k) (by omega) d2 (by omega)
            omega
    · rw [nw_nil (by omega)]
      exact Nat.zero_le _
theorem nw_len {n b e : Nat} (h : e ≤ 2 ^ 100) : (nw n b e).length ≤ 202 := by
  have := nw_len1 (n := n) (e := e) (L := 101) 101 0 b (by decide) (by simp) (by rw [Nat.pow_succ]; omega)
  omega
/-- nodes are nested or apart -/
theorem lam {n b m B M : Nat} (t : tree n b m) (hm : 1 ≤ m) (T : tree n B M) (hn : b + m ≤ n) (HN : B + M ≤ n) (h1 : b < B) (h2 : B < b + m) : B + M ≤ b + m := by
  obtain ⟨d, k⟩ := t
  obtain ⟨D, _⟩ := T
  have ge := lb_ge m
  have gE := lb_ge M
  by_cases c : lb m ≤ lb M
  · have := mul_le_of_lt d (Nat.dvd_trans (Nat.pow_dvd_pow 2 c) D) h1
    omega
  · have c1 : lb M ≤ lb m := by omega
    have := mul_le_of_lt D (Nat.dvd_add (Nat.dvd_trans (Nat.pow_dvd_pow 2 c1) d) (Nat.pow_dvd_pow 2 c1)) (show B < b + 2 ^ lb m by omega)
    rcases k with k | k
    · omega
    · omega
theorem isN_tree {n b e : Nat} (h : isN n (b, e)) : b < e ∧ e ≤ n ∧ tree n b (e - b) := h
theorem isN_of {n b m : Nat} (h1 : 1 ≤ m) (h2 : b + m ≤ n) (t : tree n b m) : isN n (b, b + m) := ⟨by show b < b + m; omega, h2, by show tree n b (b + m - b); rw [Nat.add_sub_cancel_left]; exact t⟩
theorem full_isN {n b k : Nat} (h2 : b + 2 ^ k ≤ n) (d : 2 ^ k ∣ b) : isN n (b, b + 2 ^ k) := isN_of (Nat.pow_pos (by decide)) h2 ⟨by rw [lb_pow]; exact d, .inl (by rw [lb_pow])⟩
theorem rw1_isN {n b e : Nat} (h : b < e) (hn : e ≤ n) : isN n (b, b + rw1 n b e) := by
  unfold rw1
  split
  · rename_i c
    rw [show b + (e - b) = e by omega]
    exact c
  · obtain ⟨k, e1, e2, e3, _⟩ := rm_is h
    rw [e1]
    exact full_isN (by omega) e2
/-- the first node is the greatest one that begins there -/
theorem rw1_max {n b e y : Nat} (hn : e ≤ n) (hy : isN n (b, y)) (h : y ≤ e) : y ≤ b + rw1 n b e := by
  have hb : b < y := hy.1
  unfold rw1
  split
  · omega
  · rename_i c
    obtain ⟨k, e1, e2, e3, e4⟩ := rm_is (show b < e by omega)
    rw [e1]
    obtain ⟨_, y1, d, t⟩ := isN_tree hy
    rcases t with t | t
    · by_cases z : k < lb (y - b)
      · have := e4 (Nat.dvd_trans (Nat.pow_dvd_pow 2 z) d)
        have := Nat.pow_le_pow_right (n := 2) (by decide) (show k + 1 ≤ lb (y - b) from z)
        omega
      · have := Nat.pow_le_pow_right (n := 2) (by decide) (show lb (y - b) ≤ k by omega)
        omega
    · have : y = e := by omega
      subst this
      exact absurd hy c
/-- a list of nodes one behind the other -/
def Ch (n : Nat) : Nat → Nat → List (Nat × Nat) → Prop
  | lo, hi, [] => lo = hi
  | lo, hi, x :: l => x.1 = lo ∧ isN n x ∧ x.2 ≤ hi ∧ Ch n x.2 hi l
theorem nw_ch {n e : Nat} (hn : e ≤ n) (b : Nat) : b ≤ e → Ch n b e (nw n b e) := by
  refine nw_ind (n := n) (e := e) (p := fun b => b ≤ e → Ch n b e (nw n b e)) (fun b h h2 => ?_) (fun b h ih _ => ?_) b
  · rw [nw_nil h]
    exact Nat.le_antisymm h2 h
  · rw [nw_step h]
    have := rw1_pos (n := n) h
    exact ⟨rfl, rw1_isN h hn, this.2, ih this.2⟩
/-- nothing greater in the stretch has one of them -/
def Mx (n lo hi : Nat) (l : List (Nat × Nat)) : Prop := ∀ x ∈ l, ∀ p, isN n p → lo ≤ p.1 → p.2 ≤ hi → p.1 ≤ x.1 → x.2 ≤ p.2 → p = x
theorem nw_mx {n lo e : Nat} (hn : e ≤ n) (b : Nat) : b ≤ e → lo ≤ b → (∀ p, isN n p → lo ≤ p.1 → p.2 ≤ e → p.1 < b → p.2 ≤ b) → Mx n lo e (nw n b e) := by
  refine nw_ind (n := n) (e := e) (p := fun b => b ≤ e → lo ≤ b → (∀ p, isN n p → lo ≤ p.1 → p.2 ≤ e → p.1 < b → p.2 ≤ b) → Mx n lo e (nw n b e)) (fun b h h2 _ _ => ?_) (fun b h ih h1 h2 h3 => ?_) b
  · rw [nw_nil h]
    exact fun x hx => by cases hx
  · have w := rw1_pos (n := n) h
    have wN := rw1_isN h hn
    have wM : ∀ p, isN n p → lo ≤ p.1 → p.2 ≤ e → p.1 = b → p.2 ≤ b + rw1 n b e := by
      rintro ⟨p1, p2⟩ k1 k2 k3 rfl
      exact rw1_max hn k1 k3
    rw [nw_step h]
    intro x hx
    rcases List.mem_cons.mp hx with rfl | hx
    · rintro ⟨p1, p2⟩ k1 k2 k3 k4 k5
      simp only at k2 k3 k4 k5
      by_cases c : p1 < b
      · have := h3 _ k1 k2 k3 c
        simp only at this
        omega
      · have : p1 = b := by omega
        subst this
        have := wM _ k1 k2 k3 rfl
        simp only at this
        exact Prod.ext rfl (by show p2 = _; omega)
    · refine ih w.2 (by omega) ?_ x hx
      rintro ⟨p1, p2⟩ k1 k2 k3 k4
      simp only at k2 k3 k4 ⊢
      by_cases c : p1 < b
      · have := h3 _ k1 k2 k3 c
        simp only at this
        omega
      · by_cases c2 : p1 = b
        · subst c2
          exact wM _ k1 k2 k3 rfl
        · obtain ⟨q1, q2, q3⟩ := isN_tree k1
          obtain ⟨u1, u2, u3⟩ := isN_tree wN
          have := lam (n := n) (b := b) (m := b + rw1 n b e - b) (B := p1) (M := p2 - p1) u3 (by omega) q3 (by omega) (by omega) (by omega) (by omega)
          omega
theorem nw_max {n b e : Nat} (hn : e ≤ n) (h : b ≤ e) : Mx n b e (nw n b e) := nw_mx hn b h (Nat.le_refl _) (fun p _ k1 _ k3 => by omega)
theorem Ch.mem {n : Nat} : ∀ {lo hi : Nat} {l : List (Nat × Nat)}, Ch n lo hi l → ∀ x ∈ l, isN n x ∧ lo ≤ x.1 ∧ x.2 ≤ hi
  | lo, hi, y :: l, ⟨h1, h2, h3, h4⟩, x, hx => by
    have k := h2.1
    rcases List.mem_cons.mp hx with rfl | hx
    · exact ⟨h2, by omega, h3⟩
    · obtain ⟨k1, k2, k3⟩ := Ch.mem h4 x hx
      exact ⟨k1, by omega, k3⟩
theorem Ch.le {n : Nat} : ∀ {lo hi : Nat} {l : List (Nat × Nat)}, Ch n lo hi l → lo ≤ hi
  | _, _, [], h => Nat.le_of_eq h
  | lo, hi, y :: l, ⟨h1, h2, h3, h4⟩ => by
    have k := h2.1
    omega
theorem Ch.app {n : Nat} : ∀ {lo mid hi : Nat} {l r : List (Nat × Nat)}, Ch n lo mid l → Ch n mid hi r → Ch n lo hi (l ++ r)
  | _, _, _, [], _, h, k => by
    have h : _ = _ := h
    subst h
    exact k
  | _, _, _, x :: l, r, ⟨h1, h2, h3, h4⟩, k => ⟨h1, h2, Nat.le_trans h3 k.le, Ch.app h4 k⟩
/-- each entry between is in one of them -/
theorem Ch.at {n : Nat} : ∀ {lo hi : Nat} {l : List (Nat × Nat)}, Ch n lo hi l → ∀ i, lo ≤ i → i < hi → ∃ x ∈ l, x.1 ≤ i ∧ i < x.2
  | lo, hi, [], h, i, h1, h2 => by
    have h : lo = hi := h
    omega
  | lo, hi, y :: l, ⟨h1, h2, h3, h4⟩, i, k1, k2 => by
    by_cases c : i < y.2
    · exact ⟨y, List.mem_cons_self, by omega, c⟩
    · obtain ⟨x, hx, r⟩ := Ch.at h4 i (by omega) k2
      exact ⟨x, List.mem_cons_of_mem _ hx, r⟩
theorem Ch.sum {n : Nat} : ∀ {lo hi : Nat} {l : List (Nat × Nat)}, Ch n lo hi l → (l.map fun x => x.2 - x.1).sum = hi - lo
  | lo, hi, [], h => by
    have h : lo = hi := h
    simp; omega
  | lo, hi, y :: l, ⟨h1, h2, h3, h4⟩ => by
    have := Ch.sum h4
    have k := h2.1
    have := h4.le
    rw [List.map_cons, List.sum_cons]
    omega
/-- any node within the stretch lies in one of them -/
theorem nw_in {n b e : Nat} (hn : e ≤ n) (h : b ≤ e) {p : Nat × Nat} (hp : isN n p) (h1 : b ≤ p.1) (h2 : p.2 ≤ e) : ∃ x ∈ nw n b e, x.1 ≤ p.1 ∧ p.2 ≤ x.2 := by
  have k := hp.1
  obtain ⟨x, hx, a1, a2⟩ := (nw_ch hn b h).at p.1 h1 (by omega)
  refine ⟨x, hx, a1, ?_⟩
  obtain ⟨x1, x2, x3⟩ := (nw_ch hn b h).mem x hx
  have kx := x1.1
  have kn := x1.2.1
  have pn := hp.2.1
  by_cases c : x.1 < p.1
  · have := lam (n := n) (b := x.1) (m := x.2 - x.1) (B := p.1) (M := p.2 - p.1) x1.2.2 (by omega) hp.2.2 (by omega) (by omega) c (by omega)
    omega
  · by_cases c2 : p.2 ≤ x.2
    · exact c2
    · have := nw_max hn h x hx p hp h1 h2 (by omega) (by omega)
      rw [this]
      exact Nat.le_refl _
/-- a list of nodes one behind the other, none within a greater one of the stretch, is that of the greatest ones -/
theorem nw_unique {n hi lo0 : Nat} (hn : hi ≤ n) : ∀ (l r : List (Nat × Nat)) (lo : Nat), lo0 ≤ lo → Ch n lo hi l → Ch n lo hi r → Mx n lo0 hi l → Mx n lo0 hi r → l = r
  | [], [], _, _, _, _, _, _ => rfl
  | [], y :: r, lo, _, h1, ⟨k1, k2, k3, k4⟩, _, _ => by
    have h1 : lo = hi := h1
    have := k2.1
    omega
  | x :: l, [], lo, _, ⟨k1, k2, k3, k4⟩, h1, _, _ => by
    have h1 : lo = hi := h1
    have := k2.1
    omega
  | x :: l, y :: r, lo, h0, ⟨k1, k2, k3, k4⟩, ⟨j1, j2, j3, j4⟩, m1, m2 => by
    have e : x = y := by
      by_cases c : x.2 ≤ y.2
      · exact (m1 x List.mem_cons_self y j2 (by omega) j3 (by omega) c).symm
      · exact m2 y List.mem_cons_self x k2 (by omega) k3 (by omega) (by omega)
    subst e
    have := k2.1
    rw [nw_unique hn l r x.2 (by omega) k4 j4 (fun z hz => m1 z (List.mem_cons_of_mem _ hz)) (fun z hz => m2 z (List.mem_cons_of_mem _ hz))]
end LT

namespace LT
open PySem PySem.Spec PyProof.Rows L2
theorem bitAnd_low (b : Nat) (h : 0 < b) : Builtin.bitAnd (b : Int) (-(b : Int)) = ((low b : Nat) : Int) := by
  rw [bitAnd_pn (Int.natCast_nonneg b) (by omega)]
  have e : (Builtin.bitNot (-(b : Int))).toNat = b - 1 := by
    show (-(-(b : Int)) - 1).toNat = b - 1
    omega
  rw [e, Int.toNat_natCast]
  have : b &&& (b - 1) ≤ b := Nat.and_le_left
  unfold low
  omega
section
variable {P : Program} {w : World} {K : PySem.W.Frag} {mg : Str → Option Value} {base : Heap}
def spFirstFull : Sp := fun vs H Q _ => ∃ (b e : Nat), vs = [.int b, .int e] ∧ b < e ∧ e ≤ 10 ^ 30 ∧ ∀ (H' : Hp) (p : Addr), Same H H' → H p = none → H' p = some (.tup [.int b, .int ((b + rm b e : Nat) : Int)]) → Q (.ref p) H'
theorem ok_first_full {f g1 : Addr} {fd d1 : FuncData} (F : Fun K "_first_full" "_first_full" sFirstFull f fd) (GPowerWithin : FnOk P w K mg base CX0 1 g1 d1 ["number"] spPower) (APowerWithin : At K mg "power_within" g1 d1 ["number"]) (z_min : mg "min" = none) :
    FnOk P w K mg base CX0 2 f fd ["begin", "end"] spFirstFull := by
  refine F.ok scFirstFull (fun vs H Q E h => ?_) (fun cdv A outer s H vs Q E hr h => ?_)
  · obtain ⟨_, _, rfl, _⟩ := h
    rfl
  obtain ⟨b, e, rfl, hb, h30, q⟩ := h
  refine ⟨_, (pss_cons (ps_set (i := 2) scFirstFull.nd rfl (Or.inl rfl) (pe_call GPowerWithin (hr.mono (by decide)) rfl APowerWithin.m APowerWithin.kp APowerWithin.b .nil pass0 (pa_cons (pe_op op_sub (pv 1) (pv 0)) pa_nil)))
    (pss_cons (ps_if (pt_cmpR op_gt (pv 0) pe_int (nomark _))
    (pss_one (ps_set (i := 2) scFirstFull.nd rfl (Or.inl rfl) (pe_callB (call_min2 rfl) (by rfl) z_min (by decide +kernel) (pa_cons (pv 2) (pa_cons (pe_op op_and (pv 0) (pe_un un_neg (pv 0))) pa_nil)))))
    pss_nil)
    (pss_one (ps_ret (pe_tup (pa_cons (pv 0) (pa_cons (pe_op op_add (pv 0) (pv 2)) pa_nil))))))), ?_⟩
  have two : 2 ≤ sizeLine := by decide
  refine ⟨_, rfl, _, rfl, _, _, rfl, rfl, e - b, congrArg (fun z => [V.int z]) (by omega), by omega, by omega, ?_⟩
  refine ⟨_, rfl, _, _, rfl, rfl, _, rfl, ite2 (fun c => ?_) (fun c => ?_)⟩
  · have c1 : (b : Int) > 0 := of_decide_eq_true c
    refine ⟨_, rfl, _, rfl, _, rfl, _, rfl, _, _, rfl, rfl, _, _, rfl, ?_⟩
    rw [bitAnd_low b (by omega)]
    have em : (if ((low b : Nat) : Int) < ((2 ^ (e - b).log2 : Nat) : Int) then ((low b : Nat) : Int) else ((2 ^ (e - b).log2 : Nat) : Int)) = ((rm b e : Nat) : Int) := by
      unfold rm
      rw [if_neg (show ¬ b = 0 by omega)]
      split <;> omega
    refine ⟨_, rfl, _, rfl, _, rfl, _, _, rfl, rfl, two, fun t nt => ?_⟩
    dsimp only
    rw [em]
    refine q _ t (same_upd nt) nt ?_
    rw [upd_same, show (b : Int) + ((rm b e : Nat) : Int) = ((b + rm b e : Nat) : Int) by omega]
  · have c1 : ¬ (b : Int) > 0 := of_decide_eq_false (Bool.eq_false_iff.mpr c)
    have b0 : b = 0 := by omega
    have em : rm b e = 2 ^ (e - b).log2 := by unfold rm; rw [if_pos b0]
    refine ⟨_, rfl, _, rfl, _, rfl, _, _, rfl, rfl, two, fun t nt => ?_⟩
    refine q _ t (same_upd nt) nt ?_
    rw [upd_same, em]
    rfl
def spWithinX : Sp := fun vs H Q _ => ∃ (n b e : Nat), vs = [.int n, .int b, .int e] ∧ 1 ≤ n ∧ n ≤ 2 ^ 100 ∧ e ≤ n ∧ e ≤ 10 ^ 30 ∧
  ∀ (H' : Hp) (p : Addr) (xs : List V), Same H H' → H p = none → H' p = some (.lst xs) → All2 (Nd H') xs (nw n b e) → Q (.ref p) H'
theorem tn_nat (n b e : Nat) : tnV n (.int (b : Int)) (.int (e : Int)) = decide (isN n (b, e)) := by
  show decide (0 ≤ (b : Int) ∧ isN n ((b : Int).toNat, (e : Int).toNat)) = decide (isN n (b, e))
  rw [Int.toNat_natCast, Int.toNat_natCast]
  by_cases k : isN n (b, e)
  · rw [decide_eq_true k, decide_eq_true ⟨Int.natCast_nonneg _, k⟩]
  · rw [decide_eq_false k, decide_eq_false (fun z => k z.2)]
theorem ok_nodes_withinX {f g1 g2 : Addr} {fd d1 d2 : FuncData} (F : Fun K "nodes_within" "nodes_within" sNodesWithin f fd) (GIsTreeNode : FnOk P w K mg base CX0 3 g1 d1 ["size", "value"] (spTreeV K)) (AIsTreeNode : At K mg "is_tree_node" g1 d1 ["size", "value"])
    (GFirstFull : FnOk P w K mg base CX0 2 g2 d2 ["begin", "end"] spFirstFull) (AFirstFull : At K mg "_first_full" g2 d2 ["begin", "end"]) : FnOk P w K mg base CX0 4 f fd ["size", "begin", "end"] spWithinX := by
  refine F.ok scNodesWithin (fun vs H Q E h => ?_) (fun cdv A outer s H vs Q E hr h => ?_)
  · obtain ⟨_, _, _, rfl, _⟩ := h
    rfl
  obtain ⟨n, b0, e, rfl, n1, n100, he, h30, q⟩ := h
  refine ⟨_, (pss_cons (ps_set (i := 3) scNodesWithin.nd rfl (Or.inl rfl) (pe_lst pa_nil))
    (pss_cons (ps_while PassesOwn.never (pt_cmpR op_lt (pv 1) (pv 2) (nomark _))
    (pss_cons (ps_if (pt_val (pe_call GIsTreeNode (hr.mono (by decide)) rfl AIsTreeNode.m AIsTreeNode.kp AIsTreeNode.b .nil pass0 (pa_cons (pv 0) (pa_cons (pe_tup (pa_cons (pv 1) (pa_cons (pv 2) pa_nil))) pa_nil))))
    (pss_one (ps_set (i := 4) scNodesWithin.nd rfl (Or.inl rfl) (pe_tup (pa_cons (pv 1) (pa_cons (pv 2) pa_nil)))))
    (pss_one (ps_set (i := 4) scNodesWithin.nd rfl (Or.inl rfl) (pe_call GFirstFull (hr.mono (by decide)) rfl AFirstFull.m AFirstFull.kp AFirstFull.b .nil pass0 (pa_cons (pv 1) (pa_cons (pv 2) pa_nil))))))
    (pss_cons (ps_expr (pe_bm PySem.F.plainAttrs_list PySem.F.slot_list_append PySem.F.type_list_append mt_append (pv 3) (pa_cons (pv 4) pa_nil)))
    (pss_one (ps_set (i := 1) scNodesWithin.nd rfl (Or.inl rfl) (pe_ix ix_tup (pv 4) pe_int (fun _ _ => rfl)))))))
    (pss_one (ps_ret (pv 3))))), ?_⟩
  have two : 2 ≤ sizeLine := by decide
  refine ⟨Nat.zero_le _, fun fa nf => ?_⟩
  refine ⟨fun mu σ H' => ∃ (b : Nat) (v4 : Option V) (xs : List V) (done : List (Nat × Nat)), σ = [some (.int n), some (.int (b : Int)), some (.int (e : Int)), some (.ref fa), v4] ∧ Same H H' ∧ H' fa = some (.lst xs) ∧ All2 (Nd H') xs done ∧ done ++ nw n b e = nw n b0 e ∧ mu = e - b,
    ⟨e - b0, b0, none, [], [], rfl, same_upd nf, upd_same, .nil, rfl, rfl⟩, ?_⟩
  rintro m σ H1 ⟨b, v4, xs, done, rfl, sm, hf, hx, hd, rfl⟩
  refine ⟨_, rfl, _, rfl, _, _, rfl, rfl, _, rfl, ite2 (fun c => ?_) (fun c => ?_)⟩
  · have c1 : (b : Int) < (e : Int) := of_decide_eq_true c
    have dl : done.length ≤ 202 := by
      have k1 := congrArg List.length hd
      rw [List.length_append] at k1
      have k2 := nw_len (n := n) (b := b0) (e := e) (by omega)
      omega
    have w1 := rw1_pos (n := n) (show b < e by omega)
    have st := nw_step (n := n) (show b < e by omega)
    refine ⟨fun σ' H' => ∃ mu, mu < e - b ∧ ∃ (b : Nat) (v4 : Option V) (xs : List V) (done : List (Nat × Nat)), σ' = [some (.int n), some (.int (b : Int)), some (.int (e : Int)), some (.ref fa), v4] ∧ Same H H' ∧ H' fa = some (.lst xs) ∧ All2 (Nd H') xs done ∧ done ++ nw n b e = nw n b0 e ∧ mu = e - b, fun σ' H' h => h, ?_⟩
    -- behind the choice
    have fin : ∀ (H2 : Hp) (p : Addr), Same H1 H2 → H2 p = some (.tup [.int (b : Int), .int ((b + rw1 n b e : Nat) : Int)]) →
        (pss_term_fin : True) → ∃ (b' : Nat) (xs' : List V) (done' : List (Nat × Nat)), b' = b + rw1 n b e ∧ xs' = xs ++ [.ref p] ∧ Same H (upd H2 fa (.lst xs')) ∧ All2 (Nd (upd H2 fa (.lst xs'))) xs' done' ∧ done' ++ nw n b' e = nw n b0 e := fun H2 p s2 hp _ => by
      have hf2 := s2 _ _ hf
      refine ⟨_, _, done ++ [(b, b + rw1 n b e)], rfl, rfl, ?_, ?_, ?_⟩
      · exact fun a o k => by rw [upd_ne (ne_of_none k nf)]; exact s2 _ _ (sm _ _ k)
      · refine (hx.mono (fun v x (k : Nd H1 v x) => (k.same s2).upd hf2)).app (.cons ?_ .nil)
        exact Nd.upd (x := (b, b + rw1 n b e)) ⟨p, rfl, hp⟩ hf2
      · rw [← hd, st, List.append_assoc]
        rfl
    refine ⟨_, rfl, _, rfl, _, rfl, two, fun t nt => ?_⟩
    have s1 := same_upd (o := .tup [.int (b : Int), .int (e : Int)]) nt
    have ht : (upd H1 t (.tup [.int (b : Int), .int (e : Int)])) t = some (.tup [.int (b : Int), .int (e : Int)]) := upd_same
    generalize upd H1 t (.tup [.int (b : Int), .int (e : Int)]) = H2 at s1 ht
    refine ⟨n, .ref t, _, rfl, n1, n100, .pair ht (.int _) (.int _), ?_⟩
    rw [tn_nat]
    by_cases c2 : isN n (b, e)
    · rw [decide_eq_true c2]
      refine ⟨true, rfl, ?_⟩
      have rw_e : rw1 n b e = e - b := by unfold rw1; rw [if_pos c2]
      refine ⟨_, rfl, _, rfl, two, fun t2 nt2 => ?_⟩
      have s2 := same_upd (o := .tup [.int (b : Int), .int (e : Int)]) nt2
      obtain ⟨b', xs', done', eb, ex, f1, f2, f3⟩ := fin _ t2 (s1.trans s2) (by rw [upd_same, rw_e, show b + (e - b) = e by omega]) trivial
      subst ex
      have hf3 := s2 _ _ (s1 _ _ hf)
      have ht3 : (upd H2 t2 (.tup [.int (b : Int), .int (e : Int)])) t2 = some (.tup [.int (b : Int), .int (e : Int)]) := upd_same
      refine ⟨_, rfl, .inl ⟨rfl, _, SqL.of hf3⟩, _, rfl, fa, _, _, rfl, rfl, hf3, szlt (by rw [hx.len]; omega), ?_⟩
      refine ⟨_, rfl, t2, _, _, _, rfl, rfl, SqT.of ((upd_ne (ne_of ht3 hf3 (by intro z; cases z))).trans ht3), atI_nat (j := 1) rfl, ?_⟩
      refine ⟨e - b', by omega, b', some (.ref t2), xs ++ [.ref t2], done', ?_, f1, ?_, f2, f3, rfl⟩
      · rw [eb, rw_e, show b + (e - b) = e by omega]
        rfl
      · exact upd_same
    · rw [decide_eq_false c2]
      refine ⟨false, rfl, ?_⟩
      have rw_e : rw1 n b e = rm b e := by unfold rw1; rw [if_neg c2]
      refine ⟨_, rfl, _, rfl, b, e, rfl, by omega, by omega, fun H3 t2 s2 nt2 ht2 => ?_⟩
      obtain ⟨b', xs', done', eb, ex, f1, f2, f3⟩ := fin _ t2 (s1.trans s2) (by rw [ht2, rw_e]) trivial
      subst ex
      have hf3 := s2 _ _ (s1 _ _ hf)
      refine ⟨_, rfl, .inl ⟨rfl, _, SqL.of hf3⟩, _, rfl, fa, _, _, rfl, rfl, hf3, szlt (by rw [hx.len]; omega), ?_⟩
      refine ⟨_, rfl, t2, _, _, _, rfl, rfl, SqT.of ((upd_ne (ne_of ht2 hf3 (by intro z; cases z))).trans ht2), atI_nat (j := 1) rfl, ?_⟩
      refine ⟨e - b', by omega, b', some (.ref t2), xs ++ [.ref t2], done', ?_, f1, ?_, f2, f3, rfl⟩
      · rw [eb, rw_e]
        rfl
      · exact upd_same
  · have c1 : ¬ (b : Int) < (e : Int) := of_decide_eq_false (Bool.eq_false_iff.mpr c)
    rw [nw_nil (show e ≤ b by omega), List.append_nil] at hd
    rw [hd] at hx
    exact ⟨_, rfl, q H1 fa xs sm nf hf hx⟩
def spWithin : Sp := fun vs H Q _ => ∃ (n b e : Nat), vs = [.int n, .int b, .int e] ∧ 1 ≤ n ∧ n ≤ 2 ^ 100 ∧ b ≤ e ∧ e ≤ n ∧ e ≤ 10 ^ 30 ∧
  ∀ (H' : Hp) (p : Addr) (xs : List V), Same H H' → H p = none → H' p = some (.lst xs) → All2 (Nd H') xs (nw n b e) → Q (.ref p) H'
theorem within_of {k : Nat} {f : Addr} {fd : FuncData} (F : FnOk P w K mg base CX0 k f fd ["size", "begin", "end"] spWithinX) : FnOk P w K mg base CX0 k f fd ["size", "begin", "end"] spWithin :=
  F.imp fun vs H Q E h => by
    obtain ⟨n, b, e, rfl, n1, n100, hb, he, h30, q⟩ := h
    exact ⟨n, b, e, rfl, n1, n100, he, h30, q⟩
end
end LT

namespace LT
/-! ### an entry's siblings, by side -/
def lft (b m e : Nat) : List (Nat × Nat) :=
  if h : m ≤ 1 then [] else
    if e < b + gp m then lft b (gp m) e
    else (b, b + gp m) :: lft (b + gp m) (m - gp m) e
termination_by m
decreasing_by
  · exact gp_lt (by omega)
  · have := gp_pos m; omega
theorem lft_one {b m e : Nat} (h : m ≤ 1) : lft b m e = [] := by rw [lft]; simp [h]
theorem lft_low {b m e : Nat} (h : 2 ≤ m) (k : e < b + gp m) : lft b m e = lft b (gp m) e := by
  rw [lft, dif_neg (by omega), if_pos k]
theorem lft_high {b m e : Nat} (h : 2 ≤ m) (k : ¬ e < b + gp m) : lft b m e = (b, b + gp m) :: lft (b + gp m) (m - gp m) e := by
  rw [lft, dif_neg (by omega), if_neg k]
def rgt (b m e : Nat) : List (Nat × Nat) :=
  if h : m ≤ 1 then [] else
    if e < b + gp m then rgt b (gp m) e ++ [(b + gp m, b + m)]
    else rgt (b + gp m) (m - gp m) e
termination_by m
decreasing_by
  · exact gp_lt (by omega)
  · have := gp_pos m; omega
theorem rgt_one {b m e : Nat} (h : m ≤ 1) : rgt b m e = [] := by rw [rgt]; simp [h]
theorem rgt_low {b m e : Nat} (h : 2 ≤ m) (k : e < b + gp m) : rgt b m e = rgt b (gp m) e ++ [(b + gp m, b + m)] := by
  rw [rgt, dif_neg (by omega), if_pos k]
theorem rgt_high {b m e : Nat} (h : 2 ≤ m) (k : ¬ e < b + gp m) : rgt b m e = rgt (b + gp m) (m - gp m) e := by
  rw [rgt, dif_neg (by omega), if_neg k]
/-- induction down the way to an entry -/
theorem way_ind {n e : Nat} {p : Nat → Nat → Prop} (h1 : ∀ b m, m ≤ 1 → b ≤ e → e < b + m → b + m ≤ n → p b m)
    (h2 : ∀ b m, 2 ≤ m → tree n b m → b ≤ e → e < b + gp m → b + m ≤ n → p b (gp m) → p b m)
    (h3 : ∀ b m, 2 ≤ m → tree n b m → b ≤ e → ¬ e < b + gp m → e < b + m → b + m ≤ n → p (b + gp m) (m - gp m) → p b m) :
    ∀ (m b : Nat), tree n b m → b ≤ e → e < b + m → b + m ≤ n → p b m := by
  intro m
  induction m using Nat.strongRecOn with
  | ind m ih =>
    intro b t k1 k2 k3
    by_cases c : m ≤ 1
    · exact h1 b m c k1 k2 k3
    · have m2 : 2 ≤ m := by omega
      have g1 := gp_lt m2
      have g3 := gp_pos m
      by_cases k : e < b + gp m
      · exact h2 b m m2 t k1 k k3 (ih _ g1 b (tree_low m2 t) k1 k (by omega))
      · exact h3 b m m2 t k1 k k2 k3 (ih _ (by omega) _ (tree_high m2 t) (by omega) (by omega) (by omega))
theorem sides_len {n e : Nat} : ∀ (m b : Nat), tree n b m → b ≤ e → e < b + m → b + m ≤ n → (lft b m e).length + (rgt b m e).length = (sib b m e).length := by
  refine way_ind (fun b m h _ _ _ => ?_) (fun b m h _ _ k _ ih => ?_) (fun b m h _ _ k _ _ ih => ?_)
  · rw [lft_one h, rgt_one h, sib_one h]; rfl
  · rw [lft_low h k, rgt_low h k, sib_low h k]; simp only [List.length_append, List.length_cons, List.length_nil]; omega
  · rw [lft_high h k, rgt_high h k, sib_high h k, List.length_cons, List.length_cons]; omega
theorem half_low_isN {n b m : Nat} (h : 2 ≤ m) (t : tree n b m) (hn : b + m ≤ n) : isN n (b, b + gp m) := isN_of (gp_pos m) (by have := gp_lt h; omega) (tree_low h t)
theorem half_high_isN {n b m : Nat} (h : 2 ≤ m) (t : tree n b m) (hn : b + m ≤ n) : isN n (b + gp m, b + m) := by
  have g := gp_lt h
  have := isN_of (n := n) (b := b + gp m) (m := m - gp m) (by omega) (by omega) (tree_high h t)
  rw [show b + gp m + (m - gp m) = b + m by omega] at this
  exact this
theorem lft_ch {n e : Nat} : ∀ (m b : Nat), tree n b m → b ≤ e → e < b + m → b + m ≤ n → Ch n b e (lft b m e) := by
  refine way_ind (fun b m h _ _ _ => ?_) (fun b m h _ _ k _ ih => ?_) (fun b m h t _ k k2 hn ih => ?_)
  · rw [lft_one h]; show b = e; omega
  · rw [lft_low h k]; exact ih
  · rw [lft_high h k]
    exact ⟨rfl, half_low_isN h t hn, by show b + gp m ≤ e; omega, ih⟩
theorem rgt_ch {n e : Nat} : ∀ (m b : Nat), tree n b m → b ≤ e → e < b + m → b + m ≤ n → Ch n (e + 1) (b + m) (rgt b m e) := by
  refine way_ind (fun b m h _ _ _ => ?_) (fun b m h t _ k hn ih => ?_) (fun b m h _ _ k _ _ ih => ?_)
  · rw [rgt_one h]; show e + 1 = b + m; omega
  · rw [rgt_low h k]
    refine ih.app ⟨rfl, half_high_isN h t hn, Nat.le_refl _, rfl⟩
  · rw [rgt_high h k]
    have := gp_lt h
    rw [show b + gp m + (m - gp m) = b + m by omega] at ih
    exact ih
theorem lft_mx {n e : Nat} (he : e < n) : ∀ (m b : Nat), tree n b m → b ≤ e → e < b + m → b + m ≤ n → Mx n 0 e (lft b m e) := by
  refine way_ind (fun b m h _ _ _ => ?_) (fun b m h _ _ k _ ih => ?_) (fun b m h t _ k k2 hn ih => ?_)
  · rw [lft_one h]; exact fun x hx => by cases hx
  · rw [lft_low h k]; exact ih
  · rw [lft_high h k]
    intro x hx
    rcases List.mem_cons.mp hx with rfl | hx
    · rintro ⟨p1, p2⟩ hp _ q2 q3 q4
      simp only at q2 q3 q4
      have g := gp_pos m
      obtain ⟨a1, a2, a3⟩ := isN_tree hp
      by_cases c : p1 < b
      · have := lam (n := n) (b := p1) (m := p2 - p1) (B := b) (M := m) a3 (by omega) t (by omega) hn c (by omega)
        omega
      · have e1 : p1 = b := by omega
        subst e1
        rcases node_in h t hn hp (Nat.le_refl _) (by show p2 ≤ p1 + m; omega) with z | z | z
        · have : p2 = p1 + m := congrArg Prod.snd z
          omega
        · simp only at z
          exact Prod.ext rfl (by show p2 = _; omega)
        · simp only at z
          omega
    · exact ih x hx
theorem rgt_mx {n e : Nat} : ∀ (m b : Nat), tree n b m → b ≤ e → e < b + m → b + m ≤ n → Mx n (e + 1) n (rgt b m e) := by
  refine way_ind (fun b m h _ _ _ => ?_) (fun b m h t hb k hn ih => ?_) (fun b m h _ _ k _ _ ih => ?_)
  · rw [rgt_one h]; exact fun x hx => by cases hx
  · rw [rgt_low h k]
    intro x hx
    rcases List.mem_append.mp hx with hx | hx
    · exact ih x hx
    · rw [List.mem_singleton] at hx
      subst hx
      rintro ⟨p1, p2⟩ hp q1 q2 q3 q4
      simp only at q1 q2 q3 q4
      have g := gp_lt h
      obtain ⟨a1, a2, a3⟩ := isN_tree hp
      have := lam (n := n) (b := b) (m := m) (B := p1) (M := p2 - p1) t (by omega) a3 hn (by omega) (by omega) (by omega)
      have e2 : p2 = b + m := by omega
      rcases node_in h t hn hp (by show b ≤ p1; omega) (by show p2 ≤ b + m; omega) with z | z | z
      · have : p1 = b := congrArg Prod.fst z
        omega
      · simp only at z
        omega
      · simp only at z
        exact Prod.ext (by show p1 = _; omega) (by show p2 = _; omega)
  · rw [rgt_high h k]; exact ih
/-- what lies ahead of an entry, and behind it -/
theorem nw_lft {n e : Nat} (h : e < n) : nw n 0 e = lft 0 n e := by
  have r := tree_root n
  exact nw_unique (n := n) (hi := e) (lo0 := 0) (by omega) _ _ 0 (Nat.le_refl _) (nw_ch (by omega) 0 (by omega)) (lft_ch n 0 r (by omega) (by omega) (by omega)) (nw_max (by omega) (by omega)) (lft_mx h n 0 r (by omega) (by omega) (by omega))
theorem nw_rgt {n e : Nat} (h : e < n) : nw n (e + 1) n = rgt 0 n e := by
  have r := tree_root n
  have c := rgt_ch (e := e) n 0 r (by omega) (by omega) (by omega)
  rw [Nat.zero_add] at c
  exact nw_unique (n := n) (hi := n) (lo0 := e + 1) (Nat.le_refl _) _ _ (e + 1) (Nat.le_refl _) (nw_ch (Nat.le_refl _) (e + 1) (by omega)) c (nw_max (Nat.le_refl _) (by omega)) (rgt_mx n 0 r (by omega) (by omega) (by omega))
theorem nw_single {n e : Nat} (h : e < n) : (nw n 0 e).length + (nw n (e + 1) n).length = (sib 0 n e).length := by
  rw [nw_lft h, nw_rgt h]
  exact sides_len n 0 (tree_root n) (by omega) (by omega) (by omega)
/-! ### peaks -/
theorem pk_ch {n e : Nat} (he : e ≤ n) : ∀ (i b : Nat), 2 ^ i ∣ b → b + e % 2 ^ i = e → Ch n b e ((pk i e b).map full)
  | 0, b, _, h => by rw [Nat.pow_zero, Nat.mod_one] at h; exact h
  | i + 1, b, d, h => by
    rw [mod_succ] at h
    have d' : 2 ^ i ∣ b := Nat.dvd_trans (Nat.pow_dvd_pow 2 (Nat.le_succ i)) d
    show Ch n b e ((if e.testBit i = true then (b, i) :: pk i e (b + 2 ^ i) else pk i e b).map full)
    by_cases t : e.testBit i = true
    · rw [if_pos t] at h ⊢
      refine ⟨rfl, (show isN n (b, b + 2 ^ i) from full_isN (by omega) d'), ?_, pk_ch he i (b + 2 ^ i) (Nat.dvd_add d' (Nat.dvd_refl _)) (by omega)⟩
      show b + 2 ^ i ≤ e
      omega
    · rw [if_neg t] at h ⊢
      exact pk_ch he i b d' (by omega)
theorem pk_mx {n e : Nat} (he : e < n) : ∀ (i b : Nat), 2 ^ i ∣ b → b + e % 2 ^ i = e → Mx n 0 e ((pk i e b).map full)
  | 0, b, _, h => fun x hx => by cases hx
  | i + 1, b, d, h => by
    have ml := Nat.mod_lt e (Nat.pow_pos (a := 2) (n := i + 1) (by decide))
    have hh := h
    rw [mod_succ] at h
    have d' : 2 ^ i ∣ b := Nat.dvd_trans (Nat.pow_dvd_pow 2 (Nat.le_succ i)) d
    show Mx n 0 e ((if e.testBit i = true then (b, i) :: pk i e (b + 2 ^ i) else pk i e b).map full)
    by_cases t : e.testBit i = true
    · rw [if_pos t] at h ⊢
      intro x hx
      rw [List.map_cons] at hx
      rcases List.mem_cons.mp hx with rfl | hx
      · rintro ⟨p1, p2⟩ hp _ q2 q3 q4
        have q3 : p1 ≤ b := q3
        have q4 : b + 2 ^ i ≤ p2 := q4
        simp only at q2
        have pz := Nat.pow_pos (a := 2) (n := i) (by decide)
        obtain ⟨a1, a2, a3, a4⟩ := isN_tree hp
        have a5 : p2 - p1 = 2 ^ lb (p2 - p1) := by
          rcases a4 with a4 | a4
          · exact a4
          · omega
        by_cases c : i < lb (p2 - p1)
        · have m1 := Nat.pow_le_pow_right (n := 2) (by decide) (show i + 1 ≤ lb (p2 - p1) from c)
          have m2 := mul_le_of_lt (R := 2 ^ (i + 1)) d (Nat.dvd_add (Nat.dvd_trans (Nat.pow_dvd_pow 2 (show i + 1 ≤ lb (p2 - p1) from c)) a3) (Nat.pow_dvd_pow 2 (show i + 1 ≤ lb (p2 - p1) from c))) (show b < p1 + 2 ^ lb (p2 - p1) by omega)
          omega
        · have m1 := Nat.pow_le_pow_right (n := 2) (by decide) (show lb (p2 - p1) ≤ i by omega)
          exact Prod.ext (by show p1 = b; omega) (by show p2 = b + 2 ^ i; omega)
      · exact pk_mx he i (b + 2 ^ i) (Nat.dvd_add d' (Nat.dvd_refl _)) (by omega) x hx
    · rw [if_neg t] at h ⊢
      exact pk_mx he i b d' (by omega)
theorem nw_pk {n e : Nat} (h : e < n) (h100 : e < 2 ^ 101) : nw n 0 e = (pk 101 e 0).map full := by
  have em : 0 + e % 2 ^ 101 = e := by rw [Nat.mod_eq_of_lt h100, Nat.zero_add]
  exact nw_unique (n := n) (hi := e) (lo0 := 0) (by omega) _ _ 0 (Nat.le_refl _) (nw_ch (by omega) 0 (by omega)) (pk_ch (by omega) 101 0 (Nat.dvd_zero _) em) (nw_max (by omega) (by omega)) (pk_mx h 101 0 (Nat.dvd_zero _) em)
theorem pk_even : ∀ (i c b b' : Nat), (pk (i + 1) (2 * c) b).length = (pk i c b').length
  | 0, c, b, b' => by
    show (if (2 * c).testBit 0 = true then _ else _ : List (Nat × Nat)).length = 0
    have : (2 * c).testBit 0 = false := by simp
    rw [this]
    rfl
  | i + 1, c, b, b' => by
    show (if (2 * c).testBit (i + 1) = true then (b, i + 1) :: pk (i + 1) (2 * c) (b + 2 ^ (i + 1)) else pk (i + 1) (2 * c) b).length = (if c.testBit i = true then (b', i) :: pk i c (b' + 2 ^ i) else pk i c b').length
    rw [Nat.testBit_succ, show 2 * c / 2 = c by omega]
    by_cases t : c.testBit i = true
    · rw [if_pos t, if_pos t, List.length_cons, List.length_cons, pk_even i c _ (b' + 2 ^ i)]
    · rw [if_neg t, if_neg t, pk_even i c b b']
theorem pk_odd : ∀ (i c b b' : Nat), (pk (i + 1) (2 * c + 1) b).length = (pk i c b').length + 1
  | 0, c, b, b' => by
    show (if (2 * c + 1).testBit 0 = true then (b, 0) :: ([] : List (Nat × Nat)) else []).length = 0 + 1
    have : (2 * c + 1).testBit 0 = true := by simp
    rw [this]
    rfl
  | i + 1, c, b, b' => by
    show (if (2 * c + 1).testBit (i + 1) = true then (b, i + 1) :: pk (i + 1) (2 * c + 1) (b + 2 ^ (i + 1)) else pk (i + 1) (2 * c + 1) b).length = (if c.testBit i = true then (b', i) :: pk i c (b' + 2 ^ i) else pk i c b').length + 1
    rw [Nat.testBit_succ, show (2 * c + 1) / 2 = c by omega]
    by_cases t : c.testBit i = true
    · rw [if_pos t, if_pos t, List.length_cons, List.length_cons, pk_odd i c _ (b' + 2 ^ i)]
    · rw [if_neg t, if_neg t, pk_odd i c b b']
theorem pow_dvd_odd {k c : Nat} (h : 2 ^ k ∣ 2 * c + 1) : k = 0 := by
  cases k with
  | zero => rfl
  | succ k =>
    have := Nat.dvd_trans (⟨2 ^ k, by rw [Nat.pow_succ, Nat.mul_comm]⟩ : 2 ∣ 2 ^ (k + 1)) h
    omega
theorem pk_pred : ∀ (i e k b b' : Nat), 0 < e → e < 2 ^ i → 2 ^ k ∣ e → ¬ 2 ^ (k + 1) ∣ e → (pk i e b).length + k = (pk i (e - 1) b').length + 1
  | 0, e, k, _, _, h, h2, _, _ => by simp at h2; omega
  | i + 1, e, k, b, b', h, h2, d1, d2 => by
    rcases Nat.mod_two_eq_zero_or_one e with z | z
    · obtain ⟨c, rfl⟩ : ∃ c, e = 2 * c := ⟨e / 2, by omega⟩
      have kp : k ≠ 0 := fun y => d2 (by rw [y]; exact ⟨c, by simp⟩)
      obtain ⟨j, rfl⟩ : ∃ j, k = j + 1 := ⟨k - 1, by omega⟩
      rw [Nat.pow_succ] at h2
      have ih := pk_pred i c j 0 0 (by omega) (by omega) (by rw [Nat.pow_succ, Nat.mul_comm] at d1; exact Nat.dvd_of_mul_dvd_mul_left (by decide) d1) (fun y => d2 (by rw [Nat.pow_succ, Nat.mul_comm]; exact Nat.mul_dvd_mul_left 2 y))
      rw [show 2 * c - 1 = 2 * (c - 1) + 1 by omega, pk_even i c b 0, pk_odd i (c - 1) b' 0]
      omega
    · obtain ⟨c, rfl⟩ : ∃ c, e = 2 * c + 1 := ⟨e / 2, by omega⟩
      have := pow_dvd_odd d1
      subst this
      rw [show 2 * c + 1 - 1 = 2 * c by omega, pk_odd i c b 0, pk_even i c b' 0]
theorem lb_big {n : Nat} (h : 2 ≤ n) : lb n = Nat.log2 (n - 1) + 1 := by unfold lb; rw [if_neg (by omega)]
end LT

namespace LT
open PySem PySem.Spec PyProof.Rows L2
/-! ### lists of ints as data -/
theorem ints_lay : ∀ ns : List Int, PyData.canLayAll0 (ns.map PyData.int) = true
  | [] => by simp [PyData.canLayAll0]
  | n :: ns => by simp [PyData.canLayAll0, PyData.canLay0, ints_lay ns]
theorem ints_depth : ∀ ns : List Int, PyData.depthAll (ns.map PyData.int) ≤ 1
  | [] => by simp [PyData.depthAll]
  | n :: ns => by
    have := ints_depth ns
    simp only [List.map_cons, PyData.depthAll, PyData.depth]
    omega
theorem ints_shaped (ns : List Int) : SeqAt.shaped (.list (ns.map PyData.int)) = true := by
  have h := ints_depth ns
  have h2 : PyData.depth (.list (ns.map PyData.int)) ≤ 64 := by
    simp only [PyData.depth]
    omega
  show (PyData.canLay0 (.list (ns.map PyData.int)) && decide (PyData.depth (.list (ns.map PyData.int)) ≤ 64)) = true
  rw [Bool.and_eq_true]
  exact ⟨by simp only [PyData.canLay0]; exact ints_lay ns, decide_eq_true h2⟩
theorem ints_dp {K : PySem.W.Frag} {H : Hp} : ∀ ns : List Int, DpAll K H (ns.map V.int) (ns.map PyData.int)
  | [] => .nil
  | n :: ns => .cons (.int n) (ints_dp ns)
theorem ints_nil : ∀ ns : List Int, PyData.eqv (.list (ns.map PyData.int)) (.list []) = ns.isEmpty
  | [] => by simp only [List.map_nil, PyData.eqv, PyData.eqvAll, List.isEmpty_nil]
  | n :: ns => by simp only [List.map_cons, PyData.eqv, PyData.eqvAll, List.isEmpty_cons]
theorem nil_shaped : SeqAt.shaped (.list []) = true := ints_shaped []
end LT

namespace LT
open PySem PySem.Spec PyProof.Rows L2
def nd (x : Nat × Nat) : PyData := .tuple [.int x.1, .int x.2]
theorem nds_lay : ∀ l : List (Nat × Nat), PyData.canLayAll0 (l.map nd) = true
  | [] => by simp [PyData.canLayAll0]
  | x :: l => by simp [PyData.canLayAll0, nd, PyData.canLay0, nds_lay l]
theorem nds_depth : ∀ l : List (Nat × Nat), PyData.depthAll (l.map nd) ≤ 2
  | [] => by simp [PyData.depthAll]
  | x :: l => by
    have := nds_depth l
    simp only [List.map_cons, PyData.depthAll, nd, PyData.depth]
    omega
theorem nds_shaped (l : List (Nat × Nat)) : SeqAt.shaped (.list (l.map nd)) = true := by
  have h := nds_depth l
  have h2 : PyData.depth (.list (l.map nd)) ≤ 64 := by
    simp only [PyData.depth]
    omega
  show (PyData.canLay0 (.list (l.map nd)) && decide (PyData.depth (.list (l.map nd)) ≤ 64)) = true
  rw [Bool.and_eq_true]
  exact ⟨by simp only [PyData.canLay0]; exact nds_lay l, decide_eq_true h2⟩
theorem nds_dp {K : PySem.W.Frag} {H : Hp} : ∀ {vs : List V} {l : List (Nat × Nat)}, All2 (Nd H) vs l → DpAll K H vs (l.map nd)
  | _, _, .nil => .nil
  | _, _, .cons h t => .cons h.dp (nds_dp t)
theorem nds_any (l : List (Nat × Nat)) (x : Nat × Nat) : (l.map nd).any (fun z => PyData.eqv z (.tuple [.int x.1, .int x.2])) = decide (x ∈ l) := by
  induction l with
  | nil => simp
  | cons y l ih =>
    rw [List.map_cons, List.any_cons, ih]
    show (PyData.eqv (.tuple [.int y.1, .int y.2]) _ || _) = _
    rw [nd_eqv]
    by_cases c : x = y
    · subst c
      simp
    · have e : (decide ((y.1 : Int) = (x.1 : Int)) && decide ((y.2 : Int) = (x.2 : Int))) = false := by
        rw [Bool.and_eq_false_iff]
        by_cases c1 : y.1 = x.1
        · right
          refine decide_eq_false (fun z => c (Prod.ext c1.symm ?_))
          omega
        · left
          exact decide_eq_false (fun z => c1 (by omega))
      rw [e, Bool.false_or]
      simp [c]
end LT

namespace LT
open PySem PySem.Spec PyProof.Rows L2
theorem ndt_shaped (l : List (Nat × Nat)) : SeqAt.shaped (.tuple (l.map nd)) = true := by
  have h := nds_depth l
  have h2 : PyData.depth (.tuple (l.map nd)) ≤ 64 := by
    simp only [PyData.depth]
    omega
  show (PyData.canLay0 (.tuple (l.map nd)) && decide (PyData.depth (.tuple (l.map nd)) ≤ 64)) = true
  rw [Bool.and_eq_true]
  exact ⟨by simp only [PyData.canLay0]; exact nds_lay l, decide_eq_true h2⟩
theorem tup_dp {K : PySem.W.Frag} {H : Hp} {p : Addr} {vs : List V} {l : List (Nat × Nat)} (h : H p = some (.tup vs)) (k : All2 (Nd H) vs l) : Dp K H (.ref p) (.tuple (l.map nd)) := .tup (SqT.of h) (nds_dp k)
theorem lst_dp {K : PySem.W.Frag} {H : Hp} {p : Addr} {vs : List V} {l : List (Nat × Nat)} (h : H p = some (.lst vs)) (k : All2 (Nd H) vs l) : Dp K H (.ref p) (.list (l.map nd)) := .lst (SqL.of h) (nds_dp k)
end LT

namespace LT
open PySem PySem.Spec PyProof.Rows L2
section
variable {P : Program} {w : World} {K : PySem.W.Frag} {mg : Str → Option Value} {base : Heap}
/-! ### walking an enumerate -/
theorem for_enum {a : Addr} {xs : List V} {g : TG} {tb : TS} {D : Ends} {σ : L2.St} {H : Hp} (Pv : Nat → L2.St → Hp → Prop) (h0 : Pv 0 σ H) (hl : ∀ i σ H, i ≤ xs.length → Pv i σ H → SqL K H a xs)
    (hs : ∀ i x σ H T, xs[i]? = some x → Pv i σ H → H T = none → g (.ref T) σ (upd H T (.tup [.int (i : Nat), x])) fun σ2 H2 => tb { D with nx := Pv (i + 1), ct := Pv (i + 1), bk := D.nx } σ2 H2) (hd : ∀ σ H, Pv xs.length σ H → D.nx σ H) :
    ∃ W : Nat → Nat → L2.St → Hp → Prop, (∃ m, W 0 m σ H) ∧ ∀ i m σ H, W i m σ H →
      ((Ite K a).stop i H ∧ D.nx σ H) ∨ ((Ite K a).go i H ∧ ∃ N : L2.St → Hp → Prop, (∀ σ' H', N σ' H' → ∃ m', m' < m ∧ W (i + 1) m' σ' H') ∧ ∀ x H', (Ite K a).yld i H x H' → g x σ H' fun σ2 H2 => tb { D with nx := N, ct := N, bk := D.nx } σ2 H2) := by
  refine ⟨fun i m σ H => m = xs.length - i ∧ i ≤ xs.length ∧ Pv i σ H, ⟨xs.length, by simp, Nat.zero_le _, h0⟩, ?_⟩
  rintro i m σ H ⟨rfl, hi, p⟩
  have q := hl i σ H hi p
  by_cases hlt : i < xs.length
  · refine .inr ⟨⟨xs, xs[i], q, by simp [hlt]⟩, Pv (i + 1), fun σ' H' p' => ⟨xs.length - (i + 1), by omega, rfl, hlt, p'⟩, fun x H' y => ?_⟩
    obtain ⟨T, x1, rfl, nT, rfl, f⟩ := y
    exact hs i x1 σ H T (f xs q) p nT
  · have e : i = xs.length := by omega
    subst e
    exact .inl ⟨⟨xs, q, Nat.le_refl _⟩, hd σ H p⟩
end
end LT

namespace LT
open PySem PySem.Spec PyProof.Rows L2
/-- an enumerate in a comprehension -/
theorem lc_enum {K : PySem.W.Frag} {a : Addr} {xs : List V} {g : TG} {tt : TT} {te : TE} {vs : List Nat} {σ : L2.St} {H1 : Hp} {D : Addr} {Qd : Hp → Prop} (J : Nat → Hp → Prop) (start : J 0 (upd H1 D (.lst [])))
    (still : ∀ i H, J i H → SqL K H a xs)
    (turn : ∀ (i : Nat) (x : V) (t : Addr) (H : Hp), xs[i]? = some x → J i H → H t = none → g (.ref t) (wipe σ vs) (upd H t (.tup [.int (i : Nat), x])) fun σ2 H2 => wipe σ2 vs = wipe σ vs ∧ tt σ2 H2 fun b H3 =>
      if b = true then te σ2 H3 fun y H4 => ∃ acc, H4 D = some (.lst acc) ∧ acc.length < sizeLine ∧ J (i + 1) (upd H4 D (.lst (acc ++ [y]))) else J (i + 1) H3)
    (fin : ∀ H, J xs.length H → Qd H) :
    ∃ W : Nat → Nat → Hp → Prop, (∃ m, W 0 m (upd H1 D (.lst []))) ∧ ∀ i m H, W i m H →
      ((Ite K a).stop i H ∧ Qd H) ∨ ((Ite K a).go i H ∧ ∃ Nx : Hp → Prop, (∀ H', Nx H' → ∃ m', m' < m ∧ W (i + 1) m' H') ∧ ∀ v H', (Ite K a).yld i H v H' → g v (wipe σ vs) H' fun σ2 H2 => wipe σ2 vs = wipe σ vs ∧ tt σ2 H2 fun b H3 =>
        if b = true then te σ2 H3 fun y H4 => ∃ acc, H4 D = some (.lst acc) ∧ acc.length < sizeLine ∧ Nx (upd H4 D (.lst (acc ++ [y]))) else Nx H3) := by
  refine ⟨fun i m H => i + m = xs.length ∧ J i H, ⟨xs.length, Nat.zero_add _, start⟩, ?_⟩
  rintro i m H ⟨im, j⟩
  have s1 := still i H j
  by_cases z : m = 0
  · have e : i = xs.length := by omega
    subst e
    exact .inl ⟨⟨xs, s1, Nat.le_refl _⟩, fin H j⟩
  · have h1 : i < xs.length := by omega
    refine .inr ⟨⟨xs, xs[i], s1, by simp [h1]⟩, J (i + 1), fun H' j' => ⟨m - 1, by omega, by omega, j'⟩, ?_⟩
    rintro v H' ⟨t, x, rfl, ht, rfl, k1⟩
    exact turn i x t H (k1 xs s1) j ht
end LT

namespace LT
open PySem PySem.Spec PyProof.Rows L2
/-- spans, each one at or behind the end of the one ahead -/
def So (n : Nat) : Nat → List (Nat × Nat) → Prop
  | lo, [] => lo ≤ n
  | lo, x :: l => lo ≤ x.1 ∧ x.1 < x.2 ∧ x.2 ≤ n ∧ So n x.2 l
theorem So.le {n : Nat} : ∀ {lo : Nat} {l : List (Nat × Nat)}, So n lo l → lo ≤ n
  | _, [], h => h
  | _, _ :: _, ⟨h1, h2, h3, _⟩ => by omega
theorem So.mem {n : Nat} : ∀ {lo : Nat} {l : List (Nat × Nat)}, So n lo l → ∀ x ∈ l, lo ≤ x.1 ∧ x.1 < x.2 ∧ x.2 ≤ n
  | lo, y :: l, ⟨h1, h2, h3, h4⟩, x, hx => by
    rcases List.mem_cons.mp hx with rfl | hx
    · exact ⟨h1, h2, h3⟩
    · obtain ⟨k1, k2, k3⟩ := So.mem h4 x hx
      exact ⟨by omega, k2, k3⟩
/-- the needed nodes -/
def nl (n : Nat) : Nat → List (Nat × Nat) → List (Nat × Nat)
  | lo, [] => nw n lo n
  | lo, x :: l => nw n lo x.1 ++ nl n x.2 l
section
variable {P : Program} {w : World} {K : PySem.W.Frag} {mg : Str → Option Value} {base : Heap}
def spListOf : Sp := fun vs H Q _ => ∃ (p : Addr) (xs : List V) (lo hi : Nat), vs = [.ref p, .int lo, .int hi] ∧ H p = some (.lst xs) ∧ lo ≤ xs.length ∧ xs.length ≤ hi ∧ Q (.bl true) H
theorem ok_is_list_of {f : Addr} {fd : FuncData} (F : Fun K "is_list_of" "is_list_of" sIsListOf f fd) (z_isinstance : mg "isinstance" = none) (z_list : mg "list" = none) (z_len : mg "len" = none) : FnOk P w K mg base CX0 1 f fd ["value", "least", "most"] spListOf := by
  refine F.ok scIsListOf (fun vs H Q E h => ?_) (fun cdv A outer s H vs Q E hr h => ?_)
  · obtain ⟨_, _, _, _, rfl, _⟩ := h
    rfl
  obtain ⟨p, xs, lo, hi, rfl, hp, h1, h2, q⟩ := h
  refine ⟨_, (pss_one (ps_ret (pe_and (pe_callB call_isi (by rfl) z_isinstance (by decide +kernel) (pa_cons (pv 0) (pa_cons (pe_bltn (v := .ty "list") (u := .type "list") (by rfl) z_list (by decide +kernel) rfl) pa_nil))) (pe_one (pe_chain op_le op_le (pv 1) (pe_callB call_len_seq (by rfl) z_len PySem.boot_len (pa_cons (pv 0) pa_nil)) (pv 2)))))), ?_⟩
  refine ⟨_, rfl, _, _, _, _, true, rfl, .ty "list", .base (.lst hp), kit_ty (by decide +kernel), true, rfl, ?_⟩
  refine ⟨_, rfl, _, rfl, p, xs, rfl, .inl (SqL.of hp), _, _, rfl, rfl, true, congrArg V.bl (decide_eq_true (by omega)), _, rfl, _, _, rfl, rfl, ?_⟩
  show Q (.bl (decide (((xs.length : Nat) : Int) ≤ (hi : Int)))) H
  rw [decide_eq_true (show ((xs.length : Nat) : Int) ≤ (hi : Int) by omega)]
  exact q
def spSpanFrom : Sp := fun vs H Q _ => ∃ (n lo : Nat) (v : V) (x : Nat × Nat), vs = [.int n, v, .int lo] ∧ Nd H v x ∧ lo ≤ x.1 ∧ x.1 < x.2 ∧ x.2 ≤ n ∧ Q (.bl true) H
theorem ok_is_span_from {f g : Addr} {fd gd : FuncData} (F : Fun K "is_span_from" "is_span_from" sIsSpanFrom f fd) (GIsBetween : FnOk P w K mg base CX0 2 g gd ["value", "low", "high"] spBetween) (AIsBetween : At K mg "is_between" g gd ["value", "low", "high"])
    (z_isinstance : mg "isinstance" = none) (z_tuple : mg "tuple" = none) (z_len : mg "len" = none) : FnOk P w K mg base CX0 3 f fd ["size", "value", "least"] spSpanFrom := by
  refine F.ok scIsSpanFrom (fun vs H Q E h => ?_) (fun cdv A outer s H vs Q E hr h => ?_)
  · obtain ⟨_, _, _, _, rfl, _⟩ := h
    rfl
  obtain ⟨n, lo, v, x, rfl, ⟨p, rfl, hp⟩, h1, h2, h3, q⟩ := h
  refine ⟨_, (pss_cons (ps_if (PW.pt (pw_or (pt_not (pt_val (pe_callB call_isi (by rfl) z_isinstance (by decide +kernel) (pa_cons (pv 1) (pa_cons (pe_bltn (v := .ty "tuple") (u := .type "tuple") (by rfl) z_tuple (by decide +kernel) rfl) pa_nil))))) (pw_or1 (pt_cmpR op_ne (pe_callB call_len_seq (by rfl) z_len PySem.boot_len (pa_cons (pv 1) pa_nil)) pe_int (nomark _)))))
    (pss_one (ps_ret pe_bl))
    pss_nil)
    (pss_cons (ps_asg (pv 1) (pg_tup (by rfl) (pgs_cons (pg_name (i := 3) scIsSpanFrom.nd rfl (Or.inl rfl)) (pgs_cons (pg_name (i := 4) scIsSpanFrom.nd rfl (Or.inl rfl)) pgs_nil))))
    (pss_one (ps_ret (pe_and (pe_call GIsBetween (hr.mono (by decide)) rfl AIsBetween.m AIsBetween.kp AIsBetween.b .nil pass0 (pa_cons (pv 3) (pa_cons (pv 2) (pa_cons (pe_op op_sub (pv 0) pe_int) pa_nil)))) (pe_one (pe_call GIsBetween (hr.mono (by decide)) rfl AIsBetween.m AIsBetween.kp AIsBetween.b .nil pass0 (pa_cons (pv 4) (pa_cons (pe_op op_add (pv 3) pe_int) (pa_cons (pv 0) pa_nil)))))))))), ?_⟩
  refine ⟨_, rfl, _, _, _, _, true, rfl, .ty "tuple", .base (.tup hp), kit_ty (by decide +kernel), true, rfl, ?_⟩
  refine ⟨_, rfl, p, _, rfl, .inr (SqT.of hp), rfl, false, rfl, ?_⟩
  refine ⟨_, rfl, p, _, rfl, SqT.of hp, rfl, _, _, rfl, _, _, rfl, rfl, ?_⟩
  refine ⟨_, rfl, _, rfl, _, rfl, _, _, rfl, rfl, _, _, _, rfl, true, ?_, ?_⟩
  · exact congrArg V.bl (by rw [Bool.and_eq_true]; exact ⟨decide_eq_true (by omega), decide_eq_true (by omega)⟩)
  refine ⟨_, rfl, _, rfl, _, _, rfl, rfl, _, rfl, _, _, _, rfl, ?_⟩
  have e : (decide ((x.1 : Int) + 1 ≤ (x.2 : Int)) && decide ((x.2 : Int) ≤ (n : Int))) = true := by
    rw [Bool.and_eq_true]
    exact ⟨decide_eq_true (by omega), decide_eq_true (by omega)⟩
  show Q (.bl (decide ((x.1 : Int) + 1 ≤ (x.2 : Int)) && decide ((x.2 : Int) ≤ (n : Int)))) H
  rw [e]
  exact q
def spCheckSpans : Sp := fun vs H Q _ => ∃ (n : Nat) (p : Addr) (xs : List V) (S : List (Nat × Nat)), vs = [.int n, .ref p] ∧ H p = some (.lst xs) ∧ All2 (Nd H) xs S ∧ 1 ≤ S.length ∧ S.length ≤ 12 ∧ So n 0 S ∧ ∀ H', Same H H' → Q .non H'
theorem ok_check_spans {f g1 g2 : Addr} {fd d1 d2 : FuncData} {t : Tok} (F : Fun K "check_spans" "check_spans" sCheckSpans f fd) (GIsListOf : FnOk P w K mg base CX0 1 g1 d1 ["value", "least", "most"] spListOf) (AIsListOf : At K mg "is_list_of" g1 d1 ["value", "least", "most"])
    (GIsSpanFrom : FnOk P w K mg base CX0 3 g2 d2 ["size", "value", "least"] spSpanFrom) (AIsSpanFrom : At K mg "is_span_from" g2 d2 ["size", "value", "least"]) (g_MOST_SPANS : mg "MOST_SPANS" = some (.int 12 t)) (z_enumerate : mg "enumerate" = none) : FnOk P w K mg base CX0 4 f fd ["size", "spans"] spCheckSpans := by
  refine F.ok scCheckSpans (fun vs H Q E h => ?_) (fun cdv A outer s H vs Q E hr h => ?_)
  · obtain ⟨_, _, _, _, rfl, _⟩ := h
    rfl
  obtain ⟨n, p, xs, S, rfl, hp, hx, l1, l12, hS, q⟩ := h
  refine ⟨_, (pss_cons (ps_if (pt_not (pt_val (pe_call GIsListOf (hr.mono (by decide)) rfl AIsListOf.m AIsListOf.kp AIsListOf.b .nil pass0 (pa_cons (pv 1) (pa_cons pe_int (pa_cons (pe_glob (v := .int 12) rfl g_MOST_SPANS ⟨_, rfl⟩) pa_nil))))))
    (pss_one ps_never)
    pss_nil)
    (pss_cons (ps_set (i := 2) scCheckSpans.nd rfl (Or.inl rfl) pe_int)
    (pss_one (ps_for PassesOwn.never rfl (pi_enum (by rfl) z_enumerate (pa_cons (pv 1) pa_nil)) (pg_tup (by rfl) (pgs_cons (pg_name (i := 3) scCheckSpans.nd rfl (Or.inl rfl)) (pgs_cons (pg_name (i := 4) scCheckSpans.nd rfl (Or.inl rfl)) pgs_nil)))
    (pss_cons (ps_if (pt_not (pt_val (pe_call GIsSpanFrom (hr.mono (by decide)) rfl AIsSpanFrom.m AIsSpanFrom.kp AIsSpanFrom.b .nil pass0 (pa_cons (pv 0) (pa_cons (pv 4) (pa_cons (pv 2) pa_nil))))))
    (pss_one ps_never)
    pss_nil)
    (pss_one (ps_set (i := 2) scCheckSpans.nd rfl (Or.inl rfl) (pe_ix ix_tup (pv 4) pe_int (fun _ _ => rfl))))))))), ?_⟩
  have xl := hx.len
  refine ⟨_, rfl, p, xs, 1, 12, rfl, hp, by omega, by omega, true, rfl, ?_⟩
  refine ⟨_, rfl, p, xs, rfl, SqL.of hp, ?_⟩
  refine for_enum (a := p) (xs := xs) (fun i σ H' => ∃ (lo : Nat) (v3 v4 : Option V), σ = [some (.int (n : Int)), some (.ref p), some (.int (lo : Int)), v3, v4] ∧ Same H H' ∧ So n lo (S.drop i))
    ⟨0, none, none, rfl, Same.refl _, hS⟩ (fun i σ H' _ ⟨_, _, _, _, sm, _⟩ => SqL.of (sm _ _ hp)) ?_ ?_
  · rintro i x σ H2 T hi ⟨lo, v3, v4, rfl, sm, hs⟩ nT
    obtain ⟨y, hyi, hy⟩ := hx.nth hi
    have hdr : S.drop i = y :: S.drop (i + 1) := by
      obtain ⟨hl, hxe⟩ := List.getElem?_eq_some_iff.mp hyi
      rw [List.drop_eq_getElem_cons hl, hxe]
    rw [hdr] at hs
    obtain ⟨k1, k2, k3, k4⟩ := hs
    have sT := same_upd (o := .tup [.int ((i : Nat) : Int), x]) nT
    have hy2 := (hy.same sm).same sT
    obtain ⟨yp, rfl, hyp⟩ := id hy2
    refine ⟨T, _, rfl, SqT.of upd_same, rfl, _, _, rfl, _, _, rfl, rfl, ?_⟩
    refine ⟨_, rfl, _, rfl, _, rfl, n, lo, _, y, rfl, hy2, k1, k2, k3, true, rfl, ?_⟩
    refine ⟨_, rfl, yp, _, _, _, rfl, rfl, SqT.of hyp, atI_nat (j := 1) rfl, ?_⟩
    exact ⟨y.2, _, _, rfl, sm.trans sT, k4⟩
  · rintro σ H2 ⟨lo, v3, v4, rfl, sm, hs⟩
    exact q H2 sm
end
end LT

namespace LT
open PySem PySem.Spec PyProof.Rows L2
def cst (x : Nat × Nat) : Int × Int := (x.1, x.2)
theorem lex_anti (x y : Int × Int) (h1 : SrtO.lexB y x = false) (h2 : SrtO.lexB x y = false) : x = y := by
  unfold SrtO.lexB at h1 h2
  by_cases c : x.1 = y.1
  · rw [if_pos c.symm] at h1
    rw [if_pos c] at h2
    have := of_decide_eq_false h1
    have := of_decide_eq_false h2
    exact Prod.ext c (by omega)
  · rw [if_neg (fun z => c z.symm)] at h1
    rw [if_neg c] at h2
    have := of_decide_eq_false h1
    have := of_decide_eq_false h2
    omega
/-- the key of a pair in the heap -/
def kOf (H : Hp) : V → Int × Int
  | .ref a => match H a with
    | some (.tup [.int i, .int j]) => (i, j)
    | _ => (0, 0)
  | _ => (0, 0)
theorem kOf_nd {H : Hp} {v : V} {x : Nat × Nat} (h : Nd H v x) : kOf H v = cst x := by
  obtain ⟨p, rfl, q⟩ := h
  unfold kOf
  simp only [q]
  rfl
theorem keys_of {H : Hp} : ∀ {vs : List V} {l : List (Nat × Nat)}, All2 (Nd H) vs l → vs.map (kOf H) = l.map cst
  | _, _, .nil => rfl
  | _, _, .cons h t => by rw [List.map_cons, List.map_cons, kOf_nd h, keys_of t]
theorem cst_inj {x y : Nat × Nat} (h : cst x = cst y) : x = y := by
  have h1 := congrArg Prod.fst h
  have h2 := congrArg Prod.snd h
  unfold cst at h1 h2
  simp only at h1 h2
  exact Prod.ext (by omega) (by omega)
theorem of_keys {H : Hp} : ∀ (vs : List V) (l : List (Nat × Nat)), vs.map (kOf H) = l.map cst → (∀ v ∈ vs, ∃ x, Nd H v x) → All2 (Nd H) vs l
  | [], [], _, _ => .nil
  | [], y :: l, h, _ => by cases h
  | v :: vs, [], h, _ => by cases h
  | v :: vs, y :: l, h, k => by
    rw [List.map_cons, List.map_cons, List.cons.injEq] at h
    obtain ⟨x, hx⟩ := k v List.mem_cons_self
    have e : x = y := cst_inj (by rw [← kOf_nd hx]; exact h.1)
    subst e
    exact .cons hx (of_keys vs l h.2 fun u hu => k u (List.mem_cons_of_mem _ hu))
theorem All2.mem {α : Type} {R : V → α → Prop} : ∀ {vs : List V} {xs : List α} {v : V}, All2 R vs xs → v ∈ vs → ∃ x, x ∈ xs ∧ R v x
  | _, _, _, .cons h t, m => by
    rcases List.mem_cons.mp m with rfl | m
    · exact ⟨_, List.mem_cons_self, h⟩
    · obtain ⟨x, k1, k2⟩ := All2.mem t m
      exact ⟨x, List.mem_cons_of_mem _ k1, k2⟩
def leN (x y : Nat × Nat) : Bool := decide (x.1 < y.1) || (decide (x.1 = y.1) && decide (x.2 ≤ y.2))
theorem leN_iff {x y : Nat × Nat} : leN x y = true ↔ x.1 < y.1 ∨ (x.1 = y.1 ∧ x.2 ≤ y.2) := by
  unfold leN
  simp only [Bool.or_eq_true, Bool.and_eq_true, decide_eq_true_eq]
theorem leN_trans (a b c : Nat × Nat) (h1 : leN a b = true) (h2 : leN b c = true) : leN a c = true := by
  rw [leN_iff] at *
  omega
theorem leN_total (a b : Nat × Nat) : (leN a b || leN b a) = true := by
  rw [Bool.or_eq_true, leN_iff, leN_iff]
  omega
/-- the pairs in their order -/
def srt (l : List (Nat × Nat)) : List (Nat × Nat) := l.mergeSort leN
theorem srt_perm (l : List (Nat × Nat)) : (srt l).Perm l := List.mergeSort_perm l leN
theorem srt_pair (l : List (Nat × Nat)) : (srt l).Pairwise (fun x y => leN x y = true) := List.pairwise_mergeSort leN_trans leN_total l
theorem srt_len (l : List (Nat × Nat)) : (srt l).length = l.length := (srt_perm l).length_eq
theorem srt_mem {l : List (Nat × Nat)} {x : Nat × Nat} : x ∈ srt l ↔ x ∈ l := (srt_perm l).mem_iff
theorem leN_anti {x y : Nat × Nat} (h1 : leN x y = true) (h2 : leN y x = true) : x = y := by
  rw [leN_iff] at *
  exact Prod.ext (by omega) (by omega)
theorem srt_id {l : List (Nat × Nat)} (h : l.Pairwise (fun x y => leN x y = true)) : srt l = l :=
  List.Perm.eq_of_pairwise (le := fun x y => leN x y = true) (fun _ _ _ _ h1 h2 => leN_anti h1 h2) (srt_pair l) h (srt_perm l)
theorem srt_eq {l k : List (Nat × Nat)} (h : l.Perm k) : srt l = srt k :=
  List.Perm.eq_of_pairwise (le := fun x y => leN x y = true) (fun _ _ _ _ h1 h2 => leN_anti h1 h2) (srt_pair l) (srt_pair k) ((srt_perm l).trans (h.trans (srt_perm k).symm))
theorem lexB_of {x y : Nat × Nat} (h : leN x y = true) : SrtO.lexB (cst y) (cst x) = false := by
  rw [leN_iff] at h
  show (if ((y.1 : Nat) : Int) = ((x.1 : Nat) : Int) then decide (((y.2 : Nat) : Int) < ((x.2 : Nat) : Int)) else decide (((y.1 : Nat) : Int) < ((x.1 : Nat) : Int))) = false
  by_cases c : y.1 = x.1
  · rw [if_pos (by omega)]; exact decide_eq_false (by omega)
  · rw [if_neg (by omega)]; exact decide_eq_false (by omega)
theorem sorted_srt {H : Hp} {xs ys : List V} {l : List (Nat × Nat)} (hx : All2 (Nd H) xs l) (h : SrtO.Srtd (ltP (kOf H)) ys) (p : ys.Perm xs) : All2 (Nd H) ys (srt l) := by
  refine of_keys ys (srt l) ?_ (fun v hv => ?_)
  · have p1 := (p.map (kOf H))
    rw [keys_of hx] at p1
    refine List.Perm.eq_of_pairwise (le := fun x y => SrtO.lexB y x = false) (fun a b _ _ h1 h2 => lex_anti a b h1 h2) ?_ ?_ (p1.trans ((srt_perm l).map cst).symm)
    · exact List.pairwise_map.mpr h
    · exact List.pairwise_map.mpr ((srt_pair l).imp fun h => lexB_of h)
  · obtain ⟨x, _, k⟩ := hx.mem (p.mem_iff.mp hv)
    exact ⟨x, k⟩
end LT

namespace LT
open PySem PySem.Spec PyProof.Rows L2
/-- the greatest nodes beside stretches that ascend by their begins -/
def nb (n : Nat) : Nat → List (Nat × Nat) → List (Nat × Nat)
  | lo, [] => nw n lo n
  | lo, x :: l => nw n lo x.1 ++ nb n (max lo x.2) l
theorem nb_len {n : Nat} (h : n ≤ 2 ^ 100) : ∀ (l : List (Nat × Nat)) (lo : Nat), (∀ x ∈ l, x.1 ≤ n) → (nb n lo l).length ≤ 202 * (l.length + 1)
  | [], lo, _ => nw_len h
  | x :: l, lo, k => by
    have k1 := k x List.mem_cons_self
    have a := nw_len (n := n) (b := lo) (e := x.1) (by omega)
    have b := nb_len h l (max lo x.2) (fun y hy => k y (List.mem_cons_of_mem _ hy))
    show (nw n lo x.1 ++ nb n (max lo x.2) l).length ≤ 202 * (l.length + 1 + 1)
    rw [List.length_append]
    omega
theorem max_castB (a c : Nat) : (if ((c : Nat) : Int) > (a : Int) then (c : Int) else (a : Int)) = ((max a c : Nat) : Int) := by split <;> omega
section
variable {P : Program} {w : World} {K : PySem.W.Frag} {mg : Str → Option Value} {base : Heap}
def spBeside : Sp := fun vs H Q _ => ∃ (n : Nat) (p : Addr) (xs : List V) (S : List (Nat × Nat)), vs = [.int n, .ref p] ∧ 1 ≤ n ∧ n ≤ 10 ^ 30 ∧ H p = some (.lst xs) ∧ All2 (Nd H) xs S ∧ S.length ≤ 400 ∧ (∀ x ∈ S, x.1 ≤ n) ∧
  ∀ (H' : Hp) (r : Addr) (ys : List V), Same H H' → H r = none → H' r = some (.lst ys) → All2 (Nd H') ys (nb n 0 (srt S)) → Q (.ref r) H'
theorem ok_nodes_beside {f g3 : Addr} {fd d3 : FuncData} (F : Fun K "nodes_beside" "nodes_beside" sNodesBeside f fd)
    (GNodesWithin : FnOk P w K mg base CX0 4 g3 d3 ["size", "begin", "end"] spWithinX) (ANodesWithin : At K mg "nodes_within" g3 d3 ["size", "begin", "end"]) (z_sorted : mg "sorted" = none) (z_max : mg "max" = none) : FnOk P w K mg base CX0 5 f fd ["size", "stretches"] spBeside := by
  refine F.ok scNodesBeside (fun vs H Q E h => ?_) (fun cdv A outer s H vs Q E hr h => ?_)
  · obtain ⟨_, _, _, _, rfl, _⟩ := h
    rfl
  obtain ⟨n, p, xs, S, rfl, n1, h30, hp, hx, l400, hS, q⟩ := h
  refine ⟨_, (pss_cons (ps_set (i := 2) scNodesBeside.nd rfl (Or.inl rfl) (pe_lst pa_nil))
    (pss_cons (ps_set (i := 3) scNodesBeside.nd rfl (Or.inl rfl) pe_int)
    (pss_cons (ps_for PassesOwn.never rfl (pi_list (pe_callB cr_sortedPO (by rfl) z_sorted (by decide +kernel) (pa_cons (pv 1) pa_nil))) (pg_tup (by rfl) (pgs_cons (pg_name (i := 4) scNodesBeside.nd rfl (Or.inl rfl)) (pgs_cons (pg_name (i := 5) scNodesBeside.nd rfl (Or.inl rfl)) pgs_nil)))
    (pss_cons (ps_expr (pe_bm PySem.F.plainAttrs_list PySem.F.slot_list_extend PySem.F.type_list_extend mt_extend (pv 2) (pa_cons (pe_call GNodesWithin (hr.mono (by decide)) rfl ANodesWithin.m ANodesWithin.kp ANodesWithin.b .nil pass0 (pa_cons (pv 0) (pa_cons (pv 3) (pa_cons (pv 4) pa_nil)))) pa_nil)))
    (pss_one (ps_set (i := 3) scNodesBeside.nd rfl (Or.inl rfl) (pe_callB (call_max2 rfl) (by rfl) z_max (by decide +kernel) (pa_cons (pv 3) (pa_cons (pv 5) pa_nil)))))))
    (pss_cons (ps_expr (pe_bm PySem.F.plainAttrs_list PySem.F.slot_list_extend PySem.F.type_list_extend mt_extend (pv 2) (pa_cons (pe_call GNodesWithin (hr.mono (by decide)) rfl ANodesWithin.m ANodesWithin.kp ANodesWithin.b .nil pass0 (pa_cons (pv 0) (pa_cons (pv 3) (pa_cons (pv 0) pa_nil)))) pa_nil)))
    (pss_one (ps_ret (pv 2))))))), ?_⟩
  refine ⟨Nat.zero_le _, fun fa nf => ?_⟩
  have s2 := same_upd (o := .lst []) nf
  have hx2 := hx.mono (fun v x (k : Nd H v x) => k.same s2)
  have hp2 := s2 _ _ hp
  have hf2 : (upd H fa (.lst [])) fa = some (.lst []) := upd_same
  generalize upd H fa (.lst []) = H2 at s2 hx2 hp2 hf2
  refine ⟨_, rfl, p, xs, kOf H2, rfl, SqL.of hp2, fun x hm => ?_, fun ys so hs1 hs2 nso => ?_⟩
  · obtain ⟨y, _, pa, rfl, hpa⟩ := hx2.mem hm
    exact ⟨pa, rfl, by rw [hpa]; simp only [kOf, hpa]⟩
  have s3 := same_upd (o := .lst ys) nso
  have hy0 := (sorted_srt hx2 hs1 hs2.perm).mono (fun v x (k : Nd H2 v x) => k.same s3)
  have hso : (upd H2 so (.lst ys)) so = some (.lst ys) := upd_same
  have hf3 := s3 _ _ hf2
  have sof : so ≠ fa := fun z => by rw [z, hf2] at nso; cases nso
  have s03 := s2.trans s3
  have tot := nb_len (n := n) (by omega) (srt S) 0 (fun x hx => hS x (srt_mem.mp hx))
  have hT : ∀ x ∈ srt S, x.1 ≤ n := fun x hx => hS x (srt_mem.mp hx)
  have tl : (srt S).length ≤ 400 := by rw [srt_len]; exact l400
  generalize srt S = T at q hy0 tot hT tl
  generalize upd H2 so (.lst ys) = H3 at s3 hso hf3 hy0 s03
  have yl := hy0.len
  refine ⟨so, rfl, ⟨_, SqL.of hso⟩, for_list (K := K) (a := so) (xs := ys) (fun i σ H' => ∃ (lo : Nat) (v4 v5 : Option V) (zs : List V) (done : List (Nat × Nat)), σ = [some (.int (n : Int)), some (.ref p), some (.ref fa), some (.int (lo : Int)), v4, v5] ∧ Same H H' ∧ But fa H3 H' ∧ H' fa = some (.lst zs) ∧ All2 (Nd H') zs done ∧ done ++ nb n lo (T.drop i) = nb n 0 T)
    ⟨0, none, none, [], [], rfl, s03, But.refl _ _, hf3, .nil, rfl⟩ (fun i σ H' _ ⟨_, _, _, _, _, _, _, k, _⟩ => SqL.of (k _ _ sof hso)) ?_ ?_⟩
  · rintro i v σ H4 hi ⟨lo, v4, v5, zs, done, rfl, sm, B4, hf, hz, hd⟩
    obtain ⟨x, hxi, pv, rfl, hpv⟩ := hy0.nth hi
    have hdr : T.drop i = x :: T.drop (i + 1) := by
      obtain ⟨hl, hxe⟩ := List.getElem?_eq_some_iff.mp hxi
      rw [List.drop_eq_getElem_cons hl, hxe]
    rw [hdr] at hd
    have xn := hT x (List.mem_of_getElem? hxi)
    have pvf : pv ≠ fa := fun z => by rw [z, hf3] at hpv; cases hpv
    have hpv4 := B4 _ _ pvf hpv
    refine ⟨pv, _, rfl, SqT.of hpv4, rfl, _, _, rfl, _, _, rfl, rfl, ?_⟩
    refine ⟨_, rfl, .inl ⟨rfl, _, SqL.of hf⟩, _, rfl, _, rfl, _, rfl, n, lo, x.1, rfl, n1, by omega, xn, by omega, fun H5 r us s5 nr hr5 hu => ?_⟩
    have hf5 := s5 _ _ hf
    have lz : zs.length + us.length ≤ 100000 := by
      have k := congrArg List.length hd
      rw [List.length_append] at k
      have k2 : (nb n lo (x :: T.drop (i + 1))).length = (nw n lo x.1).length + (nb n (max lo x.2) (T.drop (i + 1))).length := by
        show (nw n lo x.1 ++ _).length = _
        rw [List.length_append]
      rw [hz.len, hu.len]
      omega
    refine ⟨fa, r, zs, us, rfl, rfl, hf5, hr5, szle (by omega), ?_⟩
    refine ⟨_, rfl, _, rfl, _, _, rfl, ?_⟩
    rw [max_castB]
    refine ⟨max lo x.2, _, _, zs ++ us, done ++ nw n lo x.1, rfl, ?_, ?_, upd_same, ?_, ?_⟩
    · exact fun a o k => by rw [upd_ne (ne_of_none k nf)]; exact s5 _ _ (sm _ _ k)
    · exact fun a o n k => by rw [upd_ne n]; exact s5 _ _ (B4 a o n k)
    · exact (hz.mono (fun v x (k : Nd H4 v x) => (k.same s5).upd hf5)).app (hu.mono (fun v x (k : Nd H5 v x) => k.upd hf5))
    · rw [← hd, List.append_assoc]
      rfl
  · rintro σ H4 ⟨lo, v4, v5, zs, done, rfl, sm, B4, hf, hz, hd⟩
    rw [yl, List.drop_length] at hd
    refine ⟨_, rfl, .inl ⟨rfl, _, SqL.of hf⟩, _, rfl, _, rfl, _, rfl, n, lo, n, rfl, n1, by omega, by omega, by omega, fun H5 r us s5 nr hr5 hu => ?_⟩
    have hf5 := s5 _ _ hf
    have lz : zs.length + us.length ≤ 100000 := by
      have k := congrArg List.length hd
      rw [List.length_append] at k
      have k2 : (nb n lo []).length = (nw n lo n).length := rfl
      rw [hz.len, hu.len]
      omega
    refine ⟨fa, r, zs, us, rfl, rfl, hf5, hr5, szle (by omega), ?_⟩
    refine ⟨_, rfl, q _ fa (zs ++ us) ?_ nf upd_same ?_⟩
    · exact fun a o k => by rw [upd_ne (ne_of_none k nf)]; exact s5 _ _ (sm _ _ k)
    · rw [← hd]
      exact (hz.mono (fun v x (k : Nd H4 v x) => (k.same s5).upd hf5)).app (hu.mono (fun v x (k : Nd H5 v x) => k.upd hf5))
end
end LT

namespace LT
open PySem PySem.Spec PyProof.Rows L2
section
variable {P : Program} {w : World} {K : PySem.W.Frag} {mg : Str → Option Value} {base : Heap}
theorem nl_len {n : Nat} (h : n ≤ 2 ^ 100) : ∀ (l : List (Nat × Nat)) (lo : Nat), So n lo l → (nl n lo l).length ≤ 202 * (l.length + 1)
  | [], lo, _ => nw_len h
  | x :: l, lo, ⟨h1, h2, h3, h4⟩ => by
    have a := nw_len (n := n) (b := lo) (e := x.1) (by omega)
    have b := nl_len h l x.2 h4
    show (nw n lo x.1 ++ nl n x.2 l).length ≤ 202 * (l.length + 1 + 1)
    rw [List.length_append]
    omega
def spNeeded : Sp := fun vs H Q _ => ∃ (n : Nat) (p : Addr) (xs : List V) (S : List (Nat × Nat)), vs = [.int n, .ref p] ∧ 1 ≤ n ∧ n ≤ 10 ^ 30 ∧ H p = some (.lst xs) ∧ All2 (Nd H) xs S ∧ 1 ≤ S.length ∧ S.length ≤ 12 ∧ So n 0 S ∧
  ∀ (H' : Hp) (r : Addr) (ys : List V), Same H H' → H r = none → H' r = some (.lst ys) → All2 (Nd H') ys (nl n 0 S) → Q (.ref r) H'
theorem so_pair {n : Nat} : ∀ {lo : Nat} {l : List (Nat × Nat)}, So n lo l → l.Pairwise (fun x y => leN x y = true)
  | _, [], _ => .nil
  | lo, x :: l, ⟨h1, h2, h3, h4⟩ => .cons (fun y hy => by
      obtain ⟨k1, k2, k3⟩ := So.mem h4 y hy
      rw [leN_iff]
      omega) (so_pair h4)
theorem nb_nl {n : Nat} : ∀ {lo : Nat} {l : List (Nat × Nat)}, So n lo l → nb n lo l = nl n lo l
  | _, [], _ => rfl
  | lo, x :: l, ⟨h1, h2, h3, h4⟩ => by
    show nw n lo x.1 ++ nb n (max lo x.2) l = nw n lo x.1 ++ nl n x.2 l
    rw [Nat.max_eq_right (by omega), nb_nl h4]
theorem ok_needed {f g1 g2 g3 : Addr} {fd d1 d2 d3 : FuncData} (F : Fun K "needed" "needed" sNeeded f fd) (GCheckSize : FnOk P w K mg base CX0 3 g1 d1 ["size"] spCheckSize) (ACheckSize : At K mg "check_size" g1 d1 ["size"])
    (GCheckSpans : FnOk P w K mg base CX0 4 g2 d2 ["size", "spans"] spCheckSpans) (ACheckSpans : At K mg "check_spans" g2 d2 ["size", "spans"])
    (GNodesBeside : FnOk P w K mg base CX0 5 g3 d3 ["size", "stretches"] spBeside) (ANodesBeside : At K mg "nodes_beside" g3 d3 ["size", "stretches"]) : FnOk P w K mg base CX0 6 f fd ["size", "spans"] spNeeded := by
  refine F.ok scNeeded (fun vs H Q E h => ?_) (fun cdv A outer s H vs Q E hr h => ?_)
  · obtain ⟨_, _, _, _, rfl, _⟩ := h
    rfl
  obtain ⟨n, p, xs, S, rfl, n1, h30, hp, hx, l1, l12, hS, q⟩ := h
  refine ⟨_, (pss_cons (ps_expr (pe_call GCheckSize (hr.mono (by decide)) rfl ACheckSize.m ACheckSize.kp ACheckSize.b .nil pass0 (pa_cons (pv 0) pa_nil)))
    (pss_cons (ps_expr (pe_call GCheckSpans (hr.mono (by decide)) rfl ACheckSpans.m ACheckSpans.kp ACheckSpans.b .nil pass0 (pa_cons (pv 0) (pa_cons (pv 1) pa_nil))))
    (pss_one (ps_ret (pe_call GNodesBeside (hr.mono (by decide)) rfl ANodesBeside.m ANodesBeside.kp ANodesBeside.b .nil pass0 (pa_cons (pv 0) (pa_cons (pv 1) pa_nil))))))), ?_⟩
  refine ⟨_, rfl, _, rfl, by omega, by omega, _, rfl, _, rfl, n, p, xs, S, rfl, hp, hx, l1, l12, hS, fun H1 s1 => ?_⟩
  refine ⟨_, rfl, _, rfl, n, p, xs, S, rfl, n1, h30, s1 _ _ hp, hx.mono (fun v x (k : Nd H v x) => k.same s1), by omega, fun x hx => by have := (So.mem hS x hx); omega, fun H2 r ys s2 nr hr2 hy => ?_⟩
  rw [srt_id (so_pair hS), nb_nl hS] at hy
  exact q H2 r ys (s1.trans s2) (s1.free nr) hr2 hy
end
end LT

namespace LT
open PySem PySem.Spec PyProof.Rows L2
section
variable {P : Program} {w : World} {K : PySem.W.Frag} {mg : Str → Option Value} {base : Heap}
def spBag : Sp := fun vs H Q _ => ∃ c : Int, vs = [.int c] ∧ ∀ (H' : Hp) (p : Addr), Same H H' → H p = none → BagAt H' p → Q (.ref p) H'
theorem ok_law_bag {f : Addr} {fd : FuncData} (F : Fun K "_law_bag" "_law_bag" sLawBag f fd) (z_max : mg "max" = none) : FnOk P w K mg base CX0 1 f fd ["cell"] spBag := by
  refine F.ok scLawBag (fun vs H Q E h => ?_) (fun cdv A outer s H vs Q E hr h => ?_)
  · obtain ⟨_, rfl, _⟩ := h
    rfl
  obtain ⟨c, rfl, q⟩ := h
  refine ⟨_, (pss_one (ps_ret (pe_lst (pa_cons (pe_callB (call_max2 rfl) (by rfl) z_max (by decide +kernel) (pa_cons pe_int (pa_cons (pe_op op_sub (pv 0) (pe_op op_pow pe_int pe_int)) pa_nil))) (pa_cons (pv 0) (pa_cons pe_int pa_nil)))))), ?_⟩
  refine ⟨_, rfl, _, _, rfl, rfl, ⟨by decide, by decide, by decide⟩, _, _, rfl, rfl, _, _, rfl, _, rfl, (by show 3 ≤ sizeLine; decide), fun p np => ?_⟩
  exact q _ p (same_upd np) np ⟨_, _, _, upd_same⟩
theorem fm0 (x : Int) {m : Int} (h : 0 < m) : 0 ≤ x.fmod m := by
  rw [Int.fmod_eq_emod_of_nonneg _ (by omega)]
  exact Int.emod_nonneg _ (by omega)
theorem fm1 (x : Int) {m : Int} (h : 0 < m) : x.fmod m < m := by
  rw [Int.fmod_eq_emod_of_nonneg _ (by omega)]
  exact Int.emod_lt_of_pos _ h
def spPick : Sp := fun vs H Q _ => ∃ (b : Addr) (many : Int), vs = [.ref b, .int many] ∧ 0 < many ∧ many.natAbs < 2 ^ 250 ∧ BagAt H b ∧
  ∀ (r : Int) (H' : Hp), 0 ≤ r → r < many → (∀ a, a ≠ b → H' a = H a) → BagAt H' b → Q (.int r) H'
theorem ok_law_pick {f : Addr} {fd : FuncData} (F : Fun K "_law_pick" "_law_pick" sLawPick f fd) (z_int : mg "int" = none) : FnOk P w K mg base CX0 1 f fd ["bag", "many"] spPick := by
  refine F.ok scLawPick (fun vs H Q E h => ?_) (fun cdv A outer s H vs Q E hr h => ?_)
  · obtain ⟨_, _, rfl, _⟩ := h
    rfl
  obtain ⟨b, many, rfl, hm, hm2, ⟨x, y, z, h0⟩, q⟩ := h
  refine ⟨_, (pss_cons (ps_asg (pe_op op_add (pe_ix ix_list (pv 0) pe_int (fun _ _ => rfl)) pe_int) (pg_sub (pv 0) pe_int set_list))
    (pss_cons (ps_if (pt_cmpR op_gt (pe_ix ix_list (pv 0) pe_int (fun _ _ => rfl)) pe_int (nomark _))
    (pss_cons (ps_set (i := 2) scLawPick.nd rfl (Or.inl rfl) (pe_op op_modN (pe_callTy call_int1 (by rfl) z_int (by decide +kernel) (pa_cons (pe_ix ix_list (pv 0) pe_int (fun _ _ => rfl)) pa_nil)) (pv 1)))
    (pss_cons (ps_asg (pe_op op_fdivW (pe_callTy call_int1 (by rfl) z_int (by decide +kernel) (pa_cons (pe_ix ix_list (pv 0) pe_int (fun _ _ => rfl)) pa_nil)) (pv 1)) (pg_sub (pv 0) pe_int set_list))
    (pss_one (ps_ret (pv 2)))))
    pss_nil)
    (pss_cons (ps_par (i := 3) (j := 4) (by rfl) scLawPick.nd rfl rfl (by decide) rfl rfl (pa_cons (pe_callTy call_int1 (by rfl) z_int (by decide +kernel) (pa_cons (pe_ix ix_list (pv 0) pe_int (fun _ _ => rfl)) pa_nil)) (pa_cons (pe_callTy call_int1 (by rfl) z_int (by decide +kernel) (pa_cons (pe_ix ix_list (pv 0) pe_int (fun _ _ => rfl)) pa_nil)) pa_nil)) (by rfl))
    (pss_cons (ps_set (i := 5) scLawPick.nd rfl (Or.inl rfl) (pe_op op_modN (pe_callTy call_int1 (by rfl) z_int (by decide +kernel) (pa_cons (pe_op op_add (pe_op op_add (pe_op op_mul (pe_op op_modN (pv 3) pe_int) pe_int) (pe_op op_mul (pv 4) pe_int)) pe_int) pa_nil)) pe_int))
    (pss_cons (ps_set (i := 6) scLawPick.nd rfl (Or.inl rfl) (pe_op op_modN (pe_callTy call_int1 (by rfl) z_int (by decide +kernel) (pa_cons (pe_op op_add (pe_op op_mul (pv 5) (pv 5)) (pe_op op_mul (pv 4) pe_int)) pa_nil)) pe_int))
    (pss_cons (ps_set (i := 7) scLawPick.nd rfl (Or.inl rfl) (pe_op op_fdivW (pe_callTy call_int1 (by rfl) z_int (by decide +kernel) (pa_cons (pe_op op_add (pe_op op_mul (pv 5) pe_int) (pv 6)) pa_nil)) pe_int))
    (pss_cons (ps_if (pt_cmpR op_gt (pv 1) (pe_op op_pow pe_int pe_int) (nomark _))
    (pss_one (ps_set (i := 7) scLawPick.nd rfl (Or.inl rfl) (pe_op op_add (pe_op op_pow (pv 7) pe_int) (pv 6))))
    pss_nil)
    (pss_one (ps_ret (pe_op op_modN (pe_callTy call_int1 (by rfl) z_int (by decide +kernel) (pa_cons (pv 7) pa_nil)) (pv 1))))))))))), ?_⟩
  refine ⟨_, rfl, b, _, _, _, rfl, rfl, SqL.of h0, atI_nat (j := 2) rfl, _, _, rfl, rfl, _, rfl, b, _, _, 2, rfl, rfl, h0, rfl, ?_⟩
  dsimp only
  have h1 : (upd H b (.lst ([.int x, .int y, .int z].set 2 (.int (z + 1))))) b = some (.lst [.int x, .int y, .int (z + 1)]) := upd_same
  have k1 : ∀ a, a ≠ b → (upd H b (.lst ([.int x, .int y, .int z].set 2 (.int (z + 1))))) a = H a := fun a ha => upd_ne ha
  generalize upd H b (.lst ([.int x, .int y, .int z].set 2 (.int (z + 1)))) = H1 at h1 k1
  refine ⟨_, rfl, b, _, _, _, rfl, rfl, SqL.of h1, atI_nat (j := 0) rfl, _, _, rfl, rfl, _, rfl, ite2 (fun c => ?_) (fun c => ?_)⟩
  · refine ⟨_, rfl, b, _, _, _, rfl, rfl, SqL.of h1, atI_nat (j := 0) rfl, .inl ⟨_, rfl, _, rfl, _, _, rfl, rfl, by omega, ?_⟩⟩
    refine ⟨_, rfl, b, _, _, _, rfl, rfl, SqL.of h1, atI_nat (j := 0) rfl, .inl ⟨_, rfl, _, rfl, _, _, rfl, rfl, wide_div hm hm2 (by decide) (by decide), _, rfl, b, _, _, 0, rfl, rfl, h1, rfl, ?_⟩⟩
    refine ⟨_, rfl, ?_⟩
    exact q _ _ (fm0 x hm) (fm1 x hm) (fun a ha => by rw [upd_ne ha]; exact k1 a ha) ⟨_, _, _, upd_same⟩
  · refine ⟨_, rfl, b, _, _, _, rfl, rfl, SqL.of h1, atI_nat (j := 1) rfl, .inl ⟨_, rfl, _, rfl, b, _, _, _, rfl, rfl, SqL.of h1, atI_nat (j := 2) rfl, .inl ⟨_, rfl, _, _, rfl, ?_⟩⟩⟩
    refine ⟨_, rfl, _, _, rfl, rfl, (by show (2147483629 : Int) ≠ 0; decide), _, _, rfl, rfl, .inr ⟨by decide, by decide⟩, _, rfl, _, _, rfl, rfl, .inr ⟨by decide, by decide⟩, _, _, rfl, rfl, _, _, rfl, rfl, .inl ⟨_, rfl, _, _, rfl, rfl, (by show (2147483647 : Int) ≠ 0; decide), ?_⟩⟩
    dsimp only
    have a0 := fm0 (y.fmod 2147483629 * 48271 + (z + 1) * 69621 + 12345) (m := 2147483647) (by decide)
    have a1 := fm1 (y.fmod 2147483629 * 48271 + (z + 1) * 69621 + 12345) (m := 2147483647) (by decide)
    generalize (y.fmod 2147483629 * 48271 + (z + 1) * 69621 + 12345).fmod 2147483647 = fi at a0 a1
    refine ⟨_, rfl, _, rfl, _, _, rfl, rfl, .inl ⟨by omega, by omega⟩, _, rfl, _, _, rfl, rfl, .inr ⟨by decide, by decide⟩, _, _, rfl, rfl, .inl ⟨_, rfl, _, _, rfl, rfl, (by show (2147483587 : Int) ≠ 0; decide), ?_⟩⟩
    dsimp only
    have b0 := fm0 (fi * fi + (z + 1) * 40692) (m := 2147483587) (by decide)
    have b1 := fm1 (fi * fi + (z + 1) * 40692) (m := 2147483587) (by decide)
    generalize (fi * fi + (z + 1) * 40692).fmod 2147483587 = se at b0 b1
    refine ⟨_, rfl, _, _, rfl, rfl, .inl ⟨by omega, by omega⟩, _, rfl, _, _, rfl, rfl, .inl ⟨_, rfl, _, _, rfl, rfl, wide_div (b := 6) (by decide) (by decide) (by decide) (by decide), ?_⟩⟩
    dsimp only
    have c0 : 0 ≤ (fi * 2147483587 + se) / 32 := by omega
    have c1 : (fi * 2147483587 + se) / 32 < 2 ^ 62 := by omega
    generalize (fi * 2147483587 + se) / 32 = dr at c0 c1
    refine ⟨_, rfl, _, _, rfl, rfl, ⟨by decide, by decide, by decide⟩, _, _, rfl, rfl, _, rfl, ite2 (fun c => ?_) (fun c => ?_)⟩
    · refine ⟨_, rfl, _, _, rfl, rfl, ⟨by decide, by decide, by omega⟩, _, rfl, _, _, rfl, rfl, ?_⟩
      refine ⟨_, rfl, .inl ⟨_, rfl, _, rfl, _, _, rfl, rfl, by omega, ?_⟩⟩
      exact q _ _ (fm0 _ hm) (fm1 _ hm) k1 ⟨_, _, _, h1⟩
    · refine ⟨_, rfl, .inl ⟨_, rfl, _, rfl, _, _, rfl, rfl, by omega, ?_⟩⟩
      exact q _ _ (fm0 _ hm) (fm1 _ hm) k1 ⟨_, _, _, h1⟩
end
end LT

namespace LT
open PySem PySem.Spec PyProof.Rows L2
section
variable {P : Program} {w : World} {K : PySem.W.Frag} {mg : Str → Option Value} {base : Heap}
theorem But.same {b : Addr} {H H1 H2 : Hp} (x : But b H H1) (y : Same H1 H2) : But b H H2 := fun a o n h => y a o (x a o n h)
theorem But.pick {b : Addr} {H H1 H2 : Hp} (x : But b H H1) (k : ∀ a, a ≠ b → H2 a = H1 a) : But b H H2 := fun a o n h => by rw [k a n]; exact x a o n h
theorem BagAt.ne {H : Hp} {b p : Addr} (h : BagAt H b) (n : H p = none) : p ≠ b := fun z => by
  obtain ⟨_, _, _, e⟩ := h
  rw [← z, n] at e
  cases e
theorem BagAt.upd {H : Hp} {b p : Addr} {o : HO} (h : BagAt H b) (n : p ≠ b) : BagAt (upd H p o) b := by
  obtain ⟨x, y, z, e⟩ := h
  exact ⟨x, y, z, by rw [upd_ne (fun z => n z.symm)]; exact e⟩
def spSizeM : Sp := fun vs H Q _ => ∃ (b : Addr) (most : Nat), vs = [.ref b, .int most] ∧ 1 ≤ most ∧ most ≤ 10 ^ 30 ∧ BagAt H b ∧ ∀ (n : Nat) (H' : Hp), 1 ≤ n → n ≤ most → But b H H' → BagAt H' b → Q (.int n) H'
theorem ok_law_sizeM {f g1 : Addr} {fd d1 : FuncData} (F : Fun K "_law_size" "_law_size" sLawSize f fd) (GLawPick : FnOk P w K mg base CX0 1 g1 d1 ["bag", "many"] spPick) (ALawPick : At K mg "_law_pick" g1 d1 ["bag", "many"]) (z_max : mg "max" = none) (z_min : mg "min" = none) (z_sum : mg "sum" = none) (z_range : mg "range" = none) :
    FnOk P w K mg base CX0 2 f fd ["bag", "most"] spSizeM := by
  refine F.ok scLawSize (fun vs H Q E h => ?_) (fun cdv A outer s H vs Q E hr h => ?_)
  · obtain ⟨_, _, rfl, _⟩ := h
    rfl
  obtain ⟨b, most, rfl, m1, m30, hb, q⟩ := h
  refine' ⟨_, (pss_cons (ps_set (i := 2) scLawSize.nd rfl (Or.inl rfl) (pe_call GLawPick (hr.mono (by decide)) rfl ALawPick.m ALawPick.kp ALawPick.b .nil pass0 (pa_cons (pv 0) (pa_cons pe_int pa_nil))))
    (pss_cons (ps_if (pt_cmpR op_eq (pv 2) pe_int (nomark _))
    (pss_one (ps_ret (pe_op op_add pe_int (pe_call GLawPick (hr.mono (by decide)) rfl ALawPick.m ALawPick.kp ALawPick.b .nil pass0 (pa_cons (pv 0) (pa_cons (pv 1) pa_nil))))))
    pss_nil)
    (pss_cons ?cc1
    (pss_one (ps_ret (pe_callB (call_min2 rfl) (by rfl) z_min (by decide +kernel) (pa_cons (pv 1) (pa_cons (pe_callB (call_max2 rfl) (by rfl) z_max (by decide +kernel) (pa_cons pe_int (pa_cons (pe_op op_sub (pe_op op_add (pe_callB (cr_sum rfl) (by rfl) z_sum (by decide +kernel) (pa_cons (pv 3) pa_nil)) (pe_call GLawPick (hr.mono (by decide)) rfl ALawPick.m ALawPick.kp ALawPick.b .nil pass0 (pa_cons (pv 0) (pa_cons pe_int pa_nil)))) pe_int) pa_nil))) pa_nil)))))))), ?_⟩
  case cc1 => exact (ps_setLc (i := 3) (own := [("turn", 4)]) rfl scLawSize.nd rfl rfl (sw_true rfl rfl rfl (by decide +kernel)) (pi_range1 (by rfl) z_range (pa_cons (pe_ix ix_list (pe_lst (pa_cons pe_int (pa_cons pe_int (pa_cons pe_int (pa_cons pe_int pa_nil))))) (pv 2) (fun _ _ => rfl)) pa_nil)) (blkOk_by (N := ["bag", "most", "way", "powers", "turn"]) (sc := defScope sLawSize) (by decide +kernel)) (fun _ _ _ _ _ => (pg_name (i := 4) scLawSize.nd rfl (Or.inl rfl))) (fun _ _ _ _ _ => pts_nil) (fun _ _ _ _ _ => (pe_op op_shl pe_int (pe_call GLawPick (hr.mono (by decide)) rfl ALawPick.m ALawPick.kp ALawPick.b .nil pass0 (pa_cons (pv 0) (pa_cons (pe_bits (pv 1)) pa_nil))))))
  have fin : ∀ (z : Int) (H5 : Hp), But b H H5 → BagAt H5 b → Q (.int (if (if z > 1 then z else 1) < (most : Int) then (if z > 1 then z else 1) else (most : Int))) H5 := fun z H5 B5 b5 => by
    have z1 : 1 ≤ (if z > 1 then z else 1) := by split <;> omega
    generalize (if z > 1 then z else 1) = y at z1
    have y1 : 1 ≤ (if y < (most : Int) then y else (most : Int)) ∧ (if y < (most : Int) then y else (most : Int)) ≤ most := by split <;> omega
    generalize (if y < (most : Int) then y else (most : Int)) = u at y1
    obtain ⟨un, rfl⟩ := Int.eq_ofNat_of_zero_le (show 0 ≤ u by omega)
    exact q un H5 (by omega) (by omega) B5 b5
  refine ⟨_, rfl, b, 4, rfl, by decide, by decide, hb, fun r H1 r0 r1 k1 b1 => ?_⟩
  have B1 : But b H H1 := (But.refl b H).pick k1
  refine ⟨_, rfl, rfl, _, rfl, ite2 (fun c => ?_) (fun c => ?_)⟩
  · refine ⟨_, rfl, _, rfl, b, most, rfl, by omega, by omega, b1, fun r2 H2 r20 r21 k2 b2 => ⟨_, _, rfl, rfl, ?_⟩⟩
    have B2 := B1.pick k2
    obtain ⟨rn, rfl⟩ := Int.eq_ofNat_of_zero_le r20
    have e : (1 : Int) + (rn : Int) = ((1 + rn : Nat) : Int) := by omega
    have q2 := q (1 + rn) H2 (by omega) (by omega) B2 b2
    rw [← e] at q2
    exact q2
  · have rne : r ≠ 0 := fun z => by
      subst z
      exact c (decide_eq_true rfl)
    have hv : ∃ m : Nat, atI [V.int 1, V.int 1, V.int 3, V.int 6] r = some (.int (m : Int)) ∧ m ≤ 6 := by
      have : r = 1 ∨ r = 2 ∨ r = 3 := by omega
      rcases this with rfl | rfl | rfl
      · exact ⟨1, atI_nat (j := 1) rfl, by decide⟩
      · exact ⟨3, atI_nat (j := 2) rfl, by decide⟩
      · exact ⟨6, atI_nat (j := 3) rfl, by decide⟩
    obtain ⟨m, hm, m6⟩ := hv
    refine ⟨(by show 4 ≤ sizeLine; decide), fun l nl => ?_⟩
    have s2 := same_upd (o := .lst [.int 1, .int 1, .int 3, .int 6]) nl
    have h2 : (upd H1 l (.lst [.int 1, .int 1, .int 3, .int 6])) l = some (.lst [.int 1, .int 1, .int 3, .int 6]) := upd_same
    have B2 := B1.same s2
    have b2 := b1.same s2
    generalize upd H1 l (.lst [.int 1, .int 1, .int 3, .int 6]) = H2 at h2 B2 b2
    refine ⟨_, rfl, l, _, _, _, rfl, rfl, SqL.of h2, hm, ?_⟩
    have bl : ((Builtin.Int.intBits (most : Int) : Nat) : Int) = ((most.log2 + 1 : Nat) : Int) := by rw [bits_nat, if_neg (by omega)]
    have l100 : most.log2 < 100 := (Nat.log2_lt (by omega)).mpr (Nat.lt_of_le_of_lt m30 (by decide))
    refine ⟨(m : Int), rfl, by omega, by omega, fun D nD => ?_⟩
    have Db := b2.ne nD
    refine lc_range (lo := 0) (n := m) (fun i H' => ∃ L : List Int, But b H2 H' ∧ BagAt H' b ∧ H' D = some (.lst (L.map V.int)) ∧ L.length = i) ⟨[], But.of (same_upd nD), b2.upd Db, upd_same, rfl⟩ ?_ ?_
    · rintro j H3 hj ⟨L, B3, b3, hD, hl⟩
      refine ⟨rfl, ?_⟩
      refine ⟨_, rfl, _, rfl, _, rfl, b, _, congrArg (fun z => [V.ref b, V.int z]) bl, by omega, by omega, b3, fun r4 H4 r40 r41 k4 b4 => ?_⟩
      refine ⟨_, _, rfl, rfl, ⟨r40, by omega, by decide⟩, ?_⟩
      have hD4 : H4 D = some (.lst (L.map V.int)) := (k4 D Db).trans hD
      refine ⟨_, hD4, szlt (by rw [List.length_map]; omega), L ++ [(1 : Int) * 2 ^ r4.toNat], ?_, b4.upd Db, ?_, by rw [List.length_append, List.length_singleton, hl]⟩
      · exact fun a o n k => by
          by_cases z : a = D
          · subst z; rw [nD] at k; cases k
          · rw [upd_ne z, k4 a n]; exact B3 a o n k
      · rw [List.map_append]; exact upd_same
    rintro H3 ⟨L, B3, b3, hD, hl⟩
    refine ⟨_, rfl, _, rfl, D, L, rfl, SqL.of hD, _, rfl, b, 3, rfl, by decide, by decide, b3, fun r4 H4 r40 r41 k4 b4 => ?_⟩
    exact ⟨_, _, rfl, rfl, _, _, rfl, rfl, _, _, rfl, _, _, rfl, fin _ H4 ((B2.trans B3).pick k4) b4⟩
end
end LT

namespace LT
open PySem PySem.Spec PyProof.Rows L2
/-- a def with defaults dvs, as it stands behind the top -/
structure FunT (K : PySem.W.Frag) (x qual : Str) (st : Stmt) (its : List Value) (dvs : List V) (f : Addr) (fd : FuncData) : Prop where
  ex : ∃ (oc : Value) (od : Option Addr) (T : Addr) (kV doc pm : Value) (an : Option Addr) (cdv ct : Value) (osl : Array (Option Value)) (o : Obj) (n : Nat),
    fd = PySem.W.fnOf x qual (defArgs st) (defBody st) (defScope st) (.ref T) kV doc pm an cdv ct ∧ K.lookup f = some ⟨oc, od, .func fd, osl⟩ ∧ PySem.W.codeIn K cdv qual = true ∧ K.lookup T = some o ∧ o.data = .seq its.toArray n
  kp : PySem.W.keepIn K (.ref f) = true
  v : Vals dvs its
/-- how it is called with its defaults -/
structure AtT (K : PySem.W.Frag) (mg : Str → Option Value) (x : Str) (f : Addr) (fd : FuncData) (ps : List Str) (ds : List Value) (dvs : List V) : Prop where
  m : mg x = some (.ref f)
  kp : PySem.W.keepIn K (.ref f) = true
  b : Binds K fd ps ds
  v : Vals dvs ds
section
variable {P : Program} {w : World} {K : PySem.W.Frag} {mg : Str → Option Value} {base : Heap}
theorem FunT.ok {x qual : Str} {st : Stmt} {its : List Value} {dvs : List V} {f : Addr} {fd : FuncData} {N ps : List Str} {k : Nat} {sp : Sp} (F : FunT K x qual st its dvs f fd) (S : FnScope N ps (defScope st)) (len : ∀ vs H Q E, sp vs H Q E → vs.length = ps.length)
    (hbody : ∀ (cdv : Value) (A : Around) (outer : List Env) (s : Shared) (H : Hp) (vs : List V) (Q : VK) (E : XK), Room k (A.deeper (envOfC qual (defScope st) s.heap.objs.size f cdv)) → sp vs H Q E →
      ∃ t, PSs (cxOf CX0 P w K mg base N qual (defScope st) f cdv A outer s H E).nox (defBody st) t ∧ t { nx := fun _ H' => Q .non H', rt := Q } (start N vs) H) : FnOk P w K mg base CX0 (k + 1) f fd ps sp := by
  obtain ⟨oc, od, T, kV, doc, pm, an, cdv, ct, osl, o, n, rfl, lk, hcd, lT, oT⟩ := F.ex
  refine fn_of lk hcd S len fun A outer s H vs Q E hr hsp => ?_
  obtain ⟨t, h, q⟩ := hbody cdv A outer s H vs Q E hr hsp
  exact ⟨t, h.nox, q⟩
theorem funT_mk {x qual : Str} {st : Stmt} {f T : Addr} {oc tc : Value} {od an td : Option Addr} {osl tsl : Array (Option Value)} {tits : Array Value} {tn : Nat} {dvs : List V} {kV doc pm cdv ct : Value} (l : K.lookup f = some ⟨oc, od, .func (PySem.W.fnOf x qual (defArgs st) (defBody st) (defScope st) (.ref T) kV doc pm an cdv ct), osl⟩)
    (c : PySem.W.codeIn K cdv qual = true) (k : PySem.W.keepIn K (.ref f) = true) (lT : K.lookup T = some ⟨tc, td, .seq tits tn, tsl⟩) (v : Vals dvs tits.toList) : FunT K x qual st tits.toList dvs f (PySem.W.fnOf x qual (defArgs st) (defBody st) (defScope st) (.ref T) kV doc pm an cdv ct) :=
  ⟨⟨oc, od, T, kV, doc, pm, an, cdv, ct, osl, _, tn, rfl, l, c, lT, by simp⟩, k, v⟩
theorem FunT.binds {x qual : Str} {st : Stmt} {its : List Value} {dvs : List V} {f : Addr} {fd : FuncData} {ps : List Str} {n m : Nat} (F : FunT K x qual st its dvs f fd) (hm : dvs.length = m)
    (h : ∀ (T : Addr) (kV doc pm : Value) (an : Option Addr) (cdv ct : Value) (us its : List Value), us.length = n → its.length = m →
      ∃ k, bindArgs (PySem.W.fnOf x qual (defArgs st) (defBody st) (defScope st) (.ref T) kV doc pm an cdv ct) ⟨us, []⟩ = seqItems? (.ref T) >>= k ∧ k (some its.toArray) = pure (ps.zip (us ++ its))) (hn : n + m = ps.length := by rfl) : Binds K fd ps its := by
  obtain ⟨oc, od, T, kV, doc, pm, an, cdv, ct, osl, o, nn, rfl, lk, hcd, lT, oT⟩ := F.ex
  intro s us X hl
  have e := F.v.length
  rw [List.length_append] at hl
  obtain ⟨k, e1, e2⟩ := h T kV doc pm an cdv ct us its (by omega) (by omega)
  refine BindsTo.of_looks fun M => ?_
  rw [e1]
  exact looks_items X lT oT (.of_pure e2)
end
section
variable {X : Cx} {s : Shared} {H : Hp} {sc : Scope} {ce : Env} {fp : List Addr}
theorem pi_listB {tg l : Expr} {tl : TE} (hl : PE (X.blk s H sc ce fp) l tl) : PI (X.blk s H sc ce fp) tg l (iList X.K tl) := pi_list hl
end
section
variable {K : PySem.W.Frag} {a D : Addr} {xs : List V} {g g1 : TG} {tt tt1 : TT} {te : TE} {wi1 : TI} {vs vs1 : List Nat} {σ : L2.St} {H1 : Hp} {Qd : Hp → Prop}
/-- the inner walk of a comprehension with two for -/
abbrev InT (D : Addr) (wi1 : TI) (g1 : TG) (tt1 : TT) (te : TE) (vs1 : List Nat) (Nx : Hp → Prop) (σ2 : L2.St) (H3 : Hp) : Prop := wi1 σ2 H3 fun J1 H4 => ∃ W1 : Nat → Nat → Hp → Prop, (∃ m, W1 0 m H4) ∧ ∀ j k H, W1 j k H →
  (J1.stop j H ∧ Nx H) ∨ (J1.go j H ∧ ∃ Nx1 : Hp → Prop, (∀ H', Nx1 H' → ∃ k', k' < k ∧ W1 (j + 1) k' H') ∧ ∀ x H', J1.yld j H x H' → g1 x (wipe σ2 vs1) H' fun σ3 H5 => wipe σ3 vs1 = wipe σ2 vs1 ∧ tt1 σ3 H5 fun b H6 =>
    if b = true then te σ3 H6 fun y H7 => ∃ acc, H7 D = some (.lst acc) ∧ acc.length < sizeLine ∧ Nx1 (upd H7 D (.lst (acc ++ [y]))) else Nx1 H6)
theorem lc2_list (Pv : Nat → Hp → Prop) (h0 : Pv 0 (upd H1 D (.lst []))) (hl : ∀ i H, i ≤ xs.length → Pv i H → SqL K H a xs)
    (hs : ∀ i x H, xs[i]? = some x → Pv i H → g x (wipe σ vs) H fun σ2 H2 => wipe σ2 vs = wipe σ vs ∧ tt σ2 H2 fun b H3 => if b = true then InT D wi1 g1 tt1 te vs1 (Pv (i + 1)) σ2 H3 else Pv (i + 1) H3) (hd : ∀ H, Pv xs.length H → Qd H) :
    ∃ W : Nat → Nat → Hp → Prop, (∃ m, W 0 m (upd H1 D (.lst []))) ∧ ∀ i m H, W i m H →
      ((Itl K a).stop i H ∧ Qd H) ∨ ((Itl K a).go i H ∧ ∃ Nx : Hp → Prop, (∀ H', Nx H' → ∃ m', m' < m ∧ W (i + 1) m' H') ∧ ∀ x H', (Itl K a).yld i H x H' → g x (wipe σ vs) H' fun σ2 H2 => wipe σ2 vs = wipe σ vs ∧ tt σ2 H2 fun b H3 =>
        if b = true then InT D wi1 g1 tt1 te vs1 Nx σ2 H3 else Nx H3) := by
  refine ⟨fun i m H => m + i = xs.length ∧ Pv i H, ⟨xs.length, rfl, h0⟩, ?_⟩
  rintro i m H ⟨im, p⟩
  have q := hl i H (by omega) p
  by_cases hlt : i < xs.length
  · refine .inr ⟨⟨xs, xs[i], q, by simp [hlt]⟩, Pv (i + 1), fun H' p' => ⟨m - 1, by omega, by omega, p'⟩, fun x H' y => ?_⟩
    obtain ⟨e, y⟩ := y
    subst e
    exact hs i x _ (y xs q) p
  · have e : i = xs.length := by omega
    subst e
    exact .inl ⟨⟨xs, q, Nat.le_refl _⟩, hd H p⟩
theorem lc_in {σ2 : L2.St} {H4 : Hp} {Nx : Hp → Prop} (Pv : Nat → Hp → Prop) (h0 : Pv 0 H4) (hl : ∀ i H, i ≤ xs.length → Pv i H → SqL K H a xs)
    (hs : ∀ i x H, xs[i]? = some x → Pv i H → g1 x (wipe σ2 vs1) H fun σ3 H5 => wipe σ3 vs1 = wipe σ2 vs1 ∧ tt1 σ3 H5 fun b H6 =>
      if b = true then te σ3 H6 fun y H7 => ∃ acc, H7 D = some (.lst acc) ∧ acc.length < sizeLine ∧ Pv (i + 1) (upd H7 D (.lst (acc ++ [y]))) else Pv (i + 1) H6) (hd : ∀ H, Pv xs.length H → Nx H) :
    ∃ W1 : Nat → Nat → Hp → Prop, (∃ m, W1 0 m H4) ∧ ∀ j k H, W1 j k H →
      ((Itl K a).stop j H ∧ Nx H) ∨ ((Itl K a).go j H ∧ ∃ Nx1 : Hp → Prop, (∀ H', Nx1 H' → ∃ k', k' < k ∧ W1 (j + 1) k' H') ∧ ∀ x H', (Itl K a).yld j H x H' → g1 x (wipe σ2 vs1) H' fun σ3 H5 => wipe σ3 vs1 = wipe σ2 vs1 ∧ tt1 σ3 H5 fun b H6 =>
        if b = true then te σ3 H6 fun y H7 => ∃ acc, H7 D = some (.lst acc) ∧ acc.length < sizeLine ∧ Nx1 (upd H7 D (.lst (acc ++ [y]))) else Nx1 H6) := by
  refine ⟨fun i m H => m + i = xs.length ∧ Pv i H, ⟨xs.length, rfl, h0⟩, ?_⟩
  rintro i m H ⟨im, p⟩
  have q := hl i H (by omega) p
  by_cases hlt : i < xs.length
  · refine .inr ⟨⟨xs, xs[i], q, by simp [hlt]⟩, Pv (i + 1), fun H' p' => ⟨m - 1, by omega, by omega, p'⟩, fun x H' y => ?_⟩
    obtain ⟨e, y⟩ := y
    subst e
    exact hs i x _ (y xs q) p
  · have e : i = xs.length := by omega
    subst e
    exact .inl ⟨⟨xs, q, Nat.le_refl _⟩, hd H p⟩
end
end LT

namespace LT
open PySem PySem.Spec PyProof.Rows L2
theorem BagAt.tup {H : Hp} {b p : Addr} {xs : List V} (h : BagAt H b) (e : H p = some (.tup xs)) : p ≠ b := fun z => by
  obtain ⟨_, _, _, k⟩ := h
  rw [← z, e] at k
  cases k
theorem Nd.but {b : Addr} {H H' : Hp} {v : V} {x : Nat × Nat} (h : Nd H v x) (B : But b H H') (hb : BagAt H b) : Nd H' v x := by
  obtain ⟨p, e, hp⟩ := h
  exact ⟨p, e, B p _ (hb.tup hp) hp⟩
theorem But.at {b p : Addr} {o : HO} {H H' : Hp} (B : But b H H') (n : p ≠ b) (h : H p = some o) : H' p = some o := B p o n h
end LT

namespace LT
open PySem PySem.Spec PyProof.Rows L2
/-- the fewest stretches with the same entries as some that ascend -/
def jgo : Nat × Nat → List (Nat × Nat) → List (Nat × Nat)
  | cur, [] => [cur]
  | cur, x :: l => if x.1 ≤ cur.2 then jgo (cur.1, max cur.2 x.2) l else cur :: jgo x l
def jn : List (Nat × Nat) → List (Nat × Nat)
  | [] => []
  | x :: l => jgo x l
theorem jgo_len : ∀ (l : List (Nat × Nat)) (c : Nat × Nat), (jgo c l).length ≤ l.length + 1
  | [], c => Nat.le_refl _
  | x :: l, c => by
    unfold jgo
    split
    · have := jgo_len l (c.1, max c.2 x.2)
      show _ ≤ l.length + 1 + 1
      omega
    · have := jgo_len l x
      show (jgo x l).length + 1 ≤ l.length + 1 + 1
      omega
theorem jn_len (l : List (Nat × Nat)) : (jn l).length ≤ l.length := by
  cases l with
  | nil => exact Nat.le_refl _
  | cons x l => exact jgo_len l x
theorem jgo_mem : ∀ (l : List (Nat × Nat)) (c : Nat × Nat) (n : Nat), c.1 < c.2 → c.2 ≤ n → (∀ x ∈ l, x.1 < x.2 ∧ x.2 ≤ n) → ∀ y ∈ jgo c l, y.1 < y.2 ∧ y.2 ≤ n
  | [], c, n, h1, h2, _, y, hy => by
    rw [List.mem_singleton.mp hy]
    exact ⟨h1, h2⟩
  | x :: l, c, n, h1, h2, h, y, hy => by
    have hx := h x List.mem_cons_self
    unfold jgo at hy
    split at hy
    · exact jgo_mem l (c.1, max c.2 x.2) n (by show c.1 < max c.2 x.2; omega) (by show max c.2 x.2 ≤ n; omega) (fun z hz => h z (List.mem_cons_of_mem _ hz)) y hy
    · rcases List.mem_cons.mp hy with rfl | hy
      · exact ⟨h1, h2⟩
      · exact jgo_mem l x n hx.1 hx.2 (fun z hz => h z (List.mem_cons_of_mem _ hz)) y hy
theorem jn_mem {l : List (Nat × Nat)} {n : Nat} (h : ∀ x ∈ l, x.1 < x.2 ∧ x.2 ≤ n) : ∀ y ∈ jn l, y.1 < y.2 ∧ y.2 ≤ n := by
  cases l with
  | nil => exact fun y hy => absurd hy (by simp [jn])
  | cons x l =>
    have hx := h x List.mem_cons_self
    exact jgo_mem l x n hx.1 hx.2 fun z hz => h z (List.mem_cons_of_mem _ hz)
theorem nds_eqvAll : ∀ l k : List (Nat × Nat), PyData.eqvAll (l.map nd) (k.map nd) = decide (l = k)
  | [], [] => by simp [PyData.eqvAll]
  | [], y :: k => by simp [PyData.eqvAll]
  | x :: l, [] => by simp [PyData.eqvAll]
  | x :: l, y :: k => by
    have e : PyData.eqvAll ((x :: l).map nd) ((y :: k).map nd) = (PyData.eqv (nd x) (nd y) && PyData.eqvAll (l.map nd) (k.map nd)) := by simp only [List.map_cons, PyData.eqvAll]
    rw [e, nds_eqvAll l k]
    unfold nd
    rw [nd_eqv]
    by_cases h : x = y
    · subst h
      simp
    · have : ¬ ((x.1 : Int) = (y.1 : Int) ∧ (x.2 : Int) = (y.2 : Int)) := fun z => h (Prod.ext (by omega) (by omega))
      have e2 : (decide ((x.1 : Int) = (y.1 : Int)) && decide ((x.2 : Int) = (y.2 : Int))) = false := by
        rw [Bool.and_eq_false_iff]
        by_cases h1 : (x.1 : Int) = (y.1 : Int)
        · exact .inr (decide_eq_false fun z => this ⟨h1, z⟩)
        · exact .inl (decide_eq_false h1)
      rw [e2]
      simp [h]
theorem nds_eqv (l k : List (Nat × Nat)) : PyData.eqv (.list (l.map nd)) (.list (k.map nd)) = decide (l = k) := by
  have e : PyData.eqv (.list (l.map nd)) (.list (k.map nd)) = PyData.eqvAll (l.map nd) (k.map nd) := by simp only [PyData.eqv]
  rw [e, nds_eqvAll]
section
variable {P : Program} {w : World} {K : PySem.W.Frag} {mg : Str → Option Value} {base : Heap}
def spCheckNodes : Sp := fun vs H Q _ => ∃ (n : Nat) (p : Addr) (xs : List V) (S : List (Nat × Nat)), vs = [.int n, .ref p, .int 1, .int 60] ∧ 1 ≤ n ∧ n ≤ 10 ^ 30 ∧ H p = some (.lst xs) ∧ All2 (Nd H) xs S ∧ 1 ≤ S.length ∧ S.length ≤ 60 ∧ (∀ x ∈ S, isN n x) ∧ ∀ H', Same H H' → Q .non H'
theorem ok_check_nodes {f g1 g2 : Addr} {fd d1 d2 : FuncData} {its : List Value} {dvs : List V} (F : FunT K "check_nodes" "check_nodes" sCheckNodes its dvs f fd) (GIsListOf : FnOk P w K mg base CX0 1 g1 d1 ["value", "least", "most"] spListOf) (AIsListOf : At K mg "is_list_of" g1 d1 ["value", "least", "most"])
    (GIsTreeNode : FnOk P w K mg base CX0 3 g2 d2 ["size", "value"] (spTreeV K)) (AIsTreeNode : At K mg "is_tree_node" g2 d2 ["size", "value"]) (z_enumerate : mg "enumerate" = none) : FnOk P w K mg base CX0 4 f fd ["size", "nodes", "least", "most"] spCheckNodes := by
  refine F.ok scCheckNodes (fun vs H Q E h => ?_) (fun cdv A outer s H vs Q E hr h => ?_)
  · obtain ⟨_, _, _, _, rfl, _⟩ := h
    rfl
  obtain ⟨n, p, xs, S, rfl, n1, h30, hp, hx, l1, l60, hS, q⟩ := h
  refine ⟨_, (pss_cons (ps_if (pt_not (pt_val (pe_call GIsListOf (hr.mono (by decide)) rfl AIsListOf.m AIsListOf.kp AIsListOf.b .nil pass0 (pa_cons (pv 1) (pa_cons (pv 2) (pa_cons (pv 3) pa_nil))))))
    (pss_one ps_never)
    pss_nil)
    (pss_one (ps_for PassesOwn.never rfl (pi_enum (by rfl) z_enumerate (pa_cons (pv 1) pa_nil)) (pg_tup (by rfl) (pgs_cons (pg_name (i := 4) scCheckNodes.nd rfl (Or.inl rfl)) (pgs_cons (pg_name (i := 5) scCheckNodes.nd rfl (Or.inl rfl)) pgs_nil)))
    (pss_one (ps_if (pt_not (pt_val (pe_call GIsTreeNode (hr.mono (by decide)) rfl AIsTreeNode.m AIsTreeNode.kp AIsTreeNode.b .nil pass0 (pa_cons (pv 0) (pa_cons (pv 5) pa_nil)))))
    (pss_one ps_never)
    pss_nil))))), ?_⟩
  have xl := hx.len
  refine ⟨_, rfl, _, rfl, _, rfl, p, xs, 1, 60, rfl, hp, by omega, by omega, true, rfl, ?_⟩
  refine ⟨_, rfl, p, xs, rfl, SqL.of hp, ?_⟩
  refine for_enum (a := p) (xs := xs) (fun i σ H' => ∃ (v4 v5 : Option V), σ = [some (.int (n : Int)), some (.ref p), some (.int 1), some (.int 60), v4, v5] ∧ Same H H')
    ⟨none, none, rfl, Same.refl _⟩ (fun i σ H' _ ⟨_, _, _, sm⟩ => SqL.of (sm _ _ hp)) ?_ ?_
  · rintro i x σ H2 T hi ⟨v4, v5, rfl, sm⟩ nT
    obtain ⟨y, hyi, hy⟩ := hx.nth hi
    have sT := same_upd (o := .tup [.int ((i : Nat) : Int), x]) nT
    have hy2 := (hy.same sm).same sT
    obtain ⟨yp, rfl, hyp⟩ := id hy2
    refine ⟨T, _, rfl, SqT.of upd_same, rfl, _, _, rfl, _, _, rfl, rfl, ?_⟩
    refine ⟨_, rfl, _, rfl, n, _, true, rfl, n1, by omega, ?_, true, rfl, ?_⟩
    · have e : tnV n (.int (y.1 : Int)) (.int (y.2 : Int)) = true := by
        rw [tn_nat]
        exact decide_eq_true (hS y (List.mem_of_getElem? hyi))
      exact e ▸ Ask.pair (n := n) hyp (.int _) (.int _)
    · exact ⟨_, _, rfl, sm.trans sT⟩
  · rintro σ H2 ⟨v4, v5, rfl, sm⟩
    exact q H2 sm
def spJoined : Sp := fun vs H Q _ => ∃ (p : Addr) (xs : List V) (S : List (Nat × Nat)), vs = [.ref p] ∧ H p = some (.lst xs) ∧ All2 (Nd H) xs S ∧ S.length ≤ 400 ∧
  ∀ (H' : Hp) (r : Addr) (ys : List V), Same H H' → H r = none → H' r = some (.lst ys) → All2 (Nd H') ys (jn (srt S)) → Q (.ref r) H'
theorem ok_joined {f : Addr} {fd : FuncData} (F : Fun K "joined" "joined" sJoined f fd) (z_sorted : mg "sorted" = none) (z_max : mg "max" = none) : FnOk P w K mg base CX0 1 f fd ["stretches"] spJoined := by
  refine F.ok scJoined (fun vs H Q E h => ?_) (fun cdv A outer s H vs Q E hr h => ?_)
  · obtain ⟨_, _, _, rfl, _⟩ := h
    rfl
  obtain ⟨p, xs, S, rfl, hp, hx, l400, q⟩ := h
  refine ⟨_, (pss_cons (ps_set (i := 1) scJoined.nd rfl (Or.inl rfl) (pe_lst pa_nil))
    (pss_cons (ps_for PassesOwn.never rfl (pi_list (pe_callB cr_sortedPO (by rfl) z_sorted (by decide +kernel) (pa_cons (pv 0) pa_nil))) (pg_tup (by rfl) (pgs_cons (pg_name (i := 2) scJoined.nd rfl (Or.inl rfl)) (pgs_cons (pg_name (i := 3) scJoined.nd rfl (Or.inl rfl)) pgs_nil)))
    (pss_one (ps_if (PW.pt (pw_and (pt_truth (pv 1) (fun _ => rfl)) (pw_and1 (pt_cmpR op_le (pv 2) (pe_ix ix_tup (pe_ix ix_list (pv 1) (pe_un un_neg pe_int) (fun _ _ => rfl)) pe_int (fun _ _ => rfl)) (nomark _)))))
    (pss_cons (ps_asg (pe_bm0 PySem.F.plainAttrs_list PySem.F.slot_list_pop PySem.F.type_list_pop mt_pop (pv 1)) (pg_tup (by rfl) (pgs_cons (pg_name (i := 4) scJoined.nd rfl (Or.inl rfl)) (pgs_cons (pg_name (i := 5) scJoined.nd rfl (Or.inl rfl)) pgs_nil))))
    (pss_one (ps_expr (pe_bm PySem.F.plainAttrs_list PySem.F.slot_list_append PySem.F.type_list_append mt_append (pv 1) (pa_cons (pe_tup (pa_cons (pv 4) (pa_cons (pe_callB (call_max2 rfl) (by rfl) z_max (by decide +kernel) (pa_cons (pv 5) (pa_cons (pv 3) pa_nil))) pa_nil))) pa_nil)))))
    (pss_one (ps_expr (pe_bm PySem.F.plainAttrs_list PySem.F.slot_list_append PySem.F.type_list_append mt_append (pv 1) (pa_cons (pe_tup (pa_cons (pv 2) (pa_cons (pv 3) pa_nil))) pa_nil)))))))
    (pss_one (ps_ret (pv 1))))), ?_⟩
  refine ⟨Nat.zero_le _, fun fa nf => ?_⟩
  have s2 := same_upd (o := .lst []) nf
  have hx2 := hx.mono (fun v x (k : Nd H v x) => k.same s2)
  have hp2 := s2 _ _ hp
  have hf2 : (upd H fa (.lst [])) fa = some (.lst []) := upd_same
  generalize upd H fa (.lst []) = H2 at s2 hx2 hp2 hf2
  refine ⟨_, rfl, p, xs, kOf H2, rfl, SqL.of hp2, fun x hm => ?_, fun ys so hs1 hs2 nso => ?_⟩
  · obtain ⟨y, _, pa, rfl, hpa⟩ := hx2.mem hm
    exact ⟨pa, rfl, by rw [hpa]; simp only [kOf, hpa]⟩
  have s3 := same_upd (o := .lst ys) nso
  have hy0 := (sorted_srt hx2 hs1 hs2.perm).mono (fun v x (k : Nd H2 v x) => k.same s3)
  have hso : (upd H2 so (.lst ys)) so = some (.lst ys) := upd_same
  have hf3 := s3 _ _ hf2
  have sof : so ≠ fa := fun z => by rw [z, hf2] at nso; cases nso
  have s03 := s2.trans s3
  have tl : (srt S).length ≤ 400 := by rw [srt_len]; exact l400
  generalize srt S = T at q hy0 tl
  generalize upd H2 so (.lst ys) = H3 at s3 hso hf3 hy0 s03
  have yl := hy0.len
  refine ⟨so, rfl, ⟨_, SqL.of hso⟩, for_list (K := K) (a := so) (xs := ys) (fun i σ H' => ∃ (v2 v3 v4 v5 : Option V) (zs : List V) (D : List (Nat × Nat)), σ = [some (.ref p), some (.ref fa), v2, v3, v4, v5] ∧ Same H H' ∧ But fa H3 H' ∧ H' fa = some (.lst zs) ∧ All2 (Nd H') zs D ∧ D.length ≤ i ∧
      ((i = 0 ∧ D = []) ∨ ∃ (done : List (Nat × Nat)) (c : Nat × Nat), D = done ++ [c] ∧ jn T = done ++ jgo c (T.drop i)))
    ⟨none, none, none, none, [], [], rfl, s03, But.refl _ _, hf3, .nil, Nat.le_refl _, .inl ⟨rfl, rfl⟩⟩ (fun i σ H' _ ⟨_, _, _, _, _, _, _, _, k, _⟩ => SqL.of (k _ _ sof hso)) ?_ ?_⟩
  · rintro i v σ H4 hi ⟨v2, v3, v4, v5, zs, D, rfl, sm, B4, hf, hz, dl, hd⟩
    obtain ⟨x, hxi, pv, rfl, hpv⟩ := hy0.nth hi
    have hdr : T.drop i = x :: T.drop (i + 1) := by
      obtain ⟨hl, hxe⟩ := List.getElem?_eq_some_iff.mp hxi
      rw [List.drop_eq_getElem_cons hl, hxe]
    have il : i < 400 := by
      have := (List.getElem?_eq_some_iff.mp hxi).1
      omega
    have pvf : pv ≠ fa := fun z => by rw [z, hf3] at hpv; cases hpv
    have hpv4 := B4 _ _ pvf hpv
    refine ⟨pv, _, rfl, SqT.of hpv4, rfl, _, _, rfl, _, _, rfl, rfl, ?_⟩
    have two : 2 ≤ sizeLine := by decide
    have step : ∀ (D2 : List (Nat × Nat)) (zs2 : List V) (H5 : Hp) (y : Nat × Nat) (t : Addr), Same H H5 → But fa H3 H5 → H5 fa = some (.lst zs2) → All2 (Nd H5) zs2 D2 → H5 t = none →
        let H6 := upd (upd H5 t (.tup [.int (y.1 : Int), .int (y.2 : Int)])) fa (.lst (zs2 ++ [.ref t]))
        Same H H6 ∧ But fa H3 H6 ∧ H6 fa = some (.lst (zs2 ++ [.ref t])) ∧ All2 (Nd H6) (zs2 ++ [.ref t]) (D2 ++ [y]) := by
      intro D2 zs2 H5 y t a1 a2 a3 a4 a5
      have w1 := same_upd (o := .tup [.int (y.1 : Int), .int (y.2 : Int)]) a5
      have f1 := w1 _ _ a3
      have tf : t ≠ fa := fun z => by rw [z, a3] at a5; cases a5
      refine ⟨fun u o k => by rw [upd_ne (ne_of_none k nf)]; exact w1 _ _ (a1 _ _ k), fun u o n k => by rw [upd_ne n]; exact w1 _ _ (a2 u o n k), upd_same, ?_⟩
      exact (a4.mono (fun v x (k : Nd H5 v x) => (k.same w1).upd f1)).app (.cons ⟨t, rfl, by rw [upd_ne tf, upd_same]⟩ .nil)
    rcases hd with ⟨i0, rfl⟩ | ⟨done, c, rfl, hj⟩
    · cases hz
      refine ⟨_, rfl, false, .inl ⟨[], SqL.of hf, rfl⟩, ?_⟩
      refine ⟨_, rfl, .inl ⟨rfl, _, SqL.of hf⟩, _, rfl, _, rfl, two, fun t nt => ?_⟩
      obtain ⟨b1, b2, b3, b4⟩ := step [] [] H4 x t sm B4 hf .nil nt
      refine ⟨fa, [], _, rfl, rfl, same_upd nt _ _ hf, szlt (by decide), ?_⟩
      refine ⟨_, _, _, _, [] ++ [.ref t], [x], rfl, b1, b2, b3, b4, by show 1 ≤ i + 1; omega, .inr ⟨[], x, rfl, ?_⟩⟩
      subst i0
      rw [List.drop_zero] at hdr
      rw [hdr]
      rfl
    · obtain ⟨zs0, zc, rfl, hz0, hzc⟩ : ∃ (zs0 : List V) (zc : V), zs = zs0 ++ [zc] ∧ All2 (Nd H4) zs0 done ∧ Nd H4 zc c := by
        have := hz.rev
        rw [List.reverse_append] at this
        generalize hzr : zs.reverse = zr at this
        cases this with
        | @cons v _ vs _ h r =>
          refine ⟨vs.reverse, v, ?_, ?_, h⟩
          · rw [← List.reverse_reverse zs, hzr, List.reverse_cons]
          · have r2 : All2 (Nd H4) vs.reverse (done.reverse).reverse := r.rev
            rwa [List.reverse_reverse] at r2
      obtain ⟨cp, rfl, hcp⟩ := hzc
      rw [hdr] at hj
      have hz9 : done.length + 1 ≤ 400 := by
        rw [List.length_append] at dl
        have : ([c] : List (Nat × Nat)).length = 1 := rfl
        omega
      refine ⟨_, rfl, true, .inl ⟨_, SqL.of hf, by cases zs0 <;> rfl⟩, ?_⟩
      refine ⟨_, rfl, _, rfl, _, rfl, fa, _, _, _, rfl, rfl, SqL.of hf, atI_last _ _, cp, _, _, _, rfl, rfl, SqT.of hcp, atI_nat (j := 1) rfl, _, _, rfl, rfl, ?_⟩
      by_cases le : x.1 ≤ c.2
      · refine ⟨true, congrArg V.bl (decide_eq_true (by omega)), ?_⟩
        refine ⟨_, rfl, .inl ⟨rfl, _, SqL.of hf⟩, fa, _, .ref cp, rfl, rfl, hf, by simp, ?_⟩
        have e1 : jn T = done ++ jgo (c.1, max c.2 x.2) (T.drop (i + 1)) := by
          rw [hj]
          show done ++ jgo c (x :: T.drop (i + 1)) = _
          rw [jgo, if_pos le]
        rw [List.dropLast_concat]
        have p1 : Same H (upd H4 fa (.lst zs0)) := fun u o k => by rw [upd_ne (ne_of_none k nf)]; exact sm _ _ k
        have p2 : But fa H3 (upd H4 fa (.lst zs0)) := fun u o n k => by rw [upd_ne n]; exact B4 u o n k
        have p3 : (upd H4 fa (.lst zs0)) fa = some (.lst zs0) := upd_same
        have p4 : All2 (Nd (upd H4 fa (.lst zs0))) zs0 done := hz0.mono (fun v x (k : Nd H4 v x) => k.upd hf)
        have p5 : (upd H4 fa (.lst zs0)) cp = some (.tup [.int (c.1 : Int), .int (c.2 : Int)]) := by
          rw [upd_ne (ne_of hcp hf (by intro z; cases z))]
          exact hcp
        generalize upd H4 fa (.lst zs0) = H5 at p1 p2 p3 p4 p5 ⊢
        refine ⟨cp, _, rfl, SqT.of p5, rfl, _, _, rfl, _, _, rfl, rfl, ?_⟩
        refine ⟨_, rfl, .inl ⟨rfl, _, SqL.of p3⟩, _, rfl, _, rfl, _, rfl, _, _, rfl, two, fun t nt => ?_⟩
        rw [max_castB]
        obtain ⟨b1, b2, b3, b4⟩ := step done zs0 H5 (c.1, max c.2 x.2) t p1 p2 p3 p4 nt
        refine ⟨fa, zs0, _, rfl, rfl, same_upd nt _ _ p3, szlt (by rw [p4.len]; omega), ?_⟩
        refine ⟨_, _, _, _, zs0 ++ [.ref t], done ++ [(c.1, max c.2 x.2)], rfl, b1, b2, b3, b4, ?_, .inr ⟨done, _, rfl, e1⟩⟩
        rw [List.length_append] at dl ⊢
        exact Nat.le_succ_of_le dl
      · refine ⟨false, congrArg V.bl (decide_eq_false (by omega)), ?_⟩
        have e1 : jn T = (done ++ [c]) ++ jgo x (T.drop (i + 1)) := by
          rw [hj, List.append_assoc]
          show done ++ jgo c (x :: T.drop (i + 1)) = _
          rw [jgo, if_neg le]
          rfl
        refine ⟨_, rfl, .inl ⟨rfl, _, SqL.of hf⟩, _, rfl, _, rfl, two, fun t nt => ?_⟩
        obtain ⟨b1, b2, b3, b4⟩ := step _ _ H4 x t sm B4 hf hz nt
        refine ⟨fa, _, _, rfl, rfl, same_upd nt _ _ hf, szlt (by rw [hz.len, List.length_append]; show done.length + 1 < 100000; omega), ?_⟩
        refine ⟨_, _, _, _, _, done ++ [c] ++ [x], rfl, b1, b2, b3, b4, ?_, .inr ⟨done ++ [c], _, rfl, e1⟩⟩
        rw [List.length_append]
        exact Nat.succ_le_succ dl
  · rintro σ H4 ⟨v2, v3, v4, v5, zs, D, rfl, sm, B4, hf, hz, dl, hd⟩
    refine ⟨_, rfl, q H4 fa zs sm nf hf ?_⟩
    rw [yl, List.drop_length] at hd
    rcases hd with ⟨e, rfl⟩ | ⟨done, c, rfl, e⟩
    · have : T = [] := List.eq_nil_of_length_eq_zero (by omega)
      subst this
      exact hz
    · rw [e]
      exact hz
end
end LT

namespace LT
open PySem PySem.Spec PyProof.Rows L2
theorem So.snocB {at' : Nat} {x : Nat × Nat} : ∀ {lo : Nat} {S : List (Nat × Nat)}, So at' lo S → at' ≤ x.1 → x.1 < x.2 → So x.2 lo (S ++ [x])
  | lo, [], h, h1, h2 => ⟨Nat.le_trans h h1, h2, Nat.le_refl _, Nat.le_refl _⟩
  | lo, y :: S, ⟨k1, k2, k3, k4⟩, h1, h2 => ⟨k1, k2, by omega, k4.snocB h1 h2⟩
theorem So.up {n at' : Nat} (h : at' ≤ n) : ∀ {lo : Nat} {S : List (Nat × Nat)}, So at' lo S → So n lo S
  | lo, [], k => Nat.le_trans k h
  | lo, y :: S, ⟨k1, k2, k3, k4⟩ => ⟨k1, k2, by omega, k4.up h⟩
theorem pick3 {r1 r2 c r3 : Int} (h1 : 0 ≤ r1) (h1' : r1 ≤ c) (h2 : 0 ≤ r2) (hc : 0 ≤ c) (h3 : 0 ≤ r3) (h3' : r3 < 3) : ∃ z : Nat, atI [V.int 0, V.int r1, V.int (if r2 < c then r2 else c)] r3 = some (.int (z : Int)) ∧ (z : Int) ≤ c := by
  rcases (show r3 = 0 ∨ r3 = 1 ∨ r3 = 2 by omega) with rfl | rfl | rfl
  · exact ⟨0, atI_nat (j := 0) rfl, hc⟩
  · exact ⟨r1.toNat, by rw [Int.toNat_of_nonneg h1]; exact atI_nat (j := 1) rfl, by omega⟩
  · have k : 0 ≤ (if r2 < c then r2 else c) ∧ (if r2 < c then r2 else c) ≤ c := by split <;> omega
    exact ⟨(if r2 < c then r2 else c).toNat, by rw [Int.toNat_of_nonneg k.1]; exact atI_nat (j := 2) rfl, by omega⟩
section
variable {P : Program} {w : World} {K : PySem.W.Frag} {mg : Str → Option Value} {base : Heap}
def spLawSpans : Sp := fun vs H Q _ => ∃ (bg : Addr) (n most : Nat), vs = [.ref bg, .int n, .int most] ∧ BagAt H bg ∧ 1 ≤ n ∧ n ≤ 10 ^ 30 ∧ 1 ≤ most ∧ most ≤ 12 ∧
  ∀ (H' : Hp) (p : Addr) (xs : List V) (S : List (Nat × Nat)), But bg H H' → BagAt H' bg → H p = none → H' p = some (.lst xs) → All2 (Nd H') xs S → 1 ≤ S.length → S.length ≤ 12 → So n 0 S → Q (.ref p) H'
theorem ok_law_spans {f g2 : Addr} {fd d2 : FuncData} (F : Fun K "_law_spans" "_law_spans" sLawSpans f fd)
    (GLawPick : FnOk P w K mg base CX0 1 g2 d2 ["bag", "many"] spPick) (ALawPick : At K mg "_law_pick" g2 d2 ["bag", "many"]) (z_range : mg "range" = none) (z_min : mg "min" = none) : FnOk P w K mg base CX0 2 f fd ["bag", "size", "most"] spLawSpans := by
  refine F.ok scLawSpans (fun vs H Q E h => ?_) (fun cdv A outer s H vs Q E hr h => ?_)
  · obtain ⟨_, _, _, rfl, _⟩ := h
    rfl
  obtain ⟨bg, n, most, rfl, hb, n1, h30, m1, m12, q⟩ := h
  have two : 2 ≤ sizeLine := by decide
  have three : 3 ≤ sizeLine := by decide
  have p250 : (10 : Nat) ^ 30 + 1 < 2 ^ 250 := by decide
  refine ⟨_, (pss_cons (ps_par (i := 3) (j := 4) (by rfl) scLawSpans.nd rfl rfl (by decide) rfl rfl (pa_cons (pe_lst pa_nil) (pa_cons pe_int pa_nil)) (by rfl))
    (pss_cons (ps_for PassesOwn.never rfl (pi_range1 (by rfl) z_range (pa_cons (pe_op op_add pe_int (pe_call GLawPick (hr.mono (by decide)) rfl ALawPick.m ALawPick.kp ALawPick.b .nil pass0 (pa_cons (pv 0) (pa_cons (pv 2) pa_nil)))) pa_nil)) (pg_name (i := 5) scLawSpans.nd rfl (Or.inl rfl))
    (pss_one (ps_if (pt_cmpR op_lt (pv 4) (pv 1) (nomark _))
    (pss_cons (ps_set (i := 6) scLawSpans.nd rfl (Or.inl rfl) (pe_op op_add (pv 4) (pe_ix ix_list (pe_lst (pa_cons pe_int (pa_cons (pe_call GLawPick (hr.mono (by decide)) rfl ALawPick.m ALawPick.kp ALawPick.b .nil pass0 (pa_cons (pv 0) (pa_cons (pe_op op_sub (pv 1) (pv 4)) pa_nil))) (pa_cons (pe_callB (call_min2 rfl) (by rfl) z_min (by decide +kernel) (pa_cons (pe_op op_sub (pe_op op_sub (pv 1) (pv 4)) pe_int) (pa_cons (pe_call GLawPick (hr.mono (by decide)) rfl ALawPick.m ALawPick.kp ALawPick.b .nil pass0 (pa_cons (pv 0) (pa_cons pe_int pa_nil))) pa_nil))) pa_nil)))) (pe_call GLawPick (hr.mono (by decide)) rfl ALawPick.m ALawPick.kp ALawPick.b .nil pass0 (pa_cons (pv 0) (pa_cons pe_int pa_nil))) (fun _ _ => rfl))))
    (pss_cons (ps_set (i := 7) scLawSpans.nd rfl (Or.inl rfl) (pe_ix ix_list (pe_lst (pa_cons pe_int (pa_cons (pe_call GLawPick (hr.mono (by decide)) rfl ALawPick.m ALawPick.kp ALawPick.b .nil pass0 (pa_cons (pv 0) (pa_cons (pe_op op_sub (pv 1) (pv 6)) pa_nil))) (pa_cons (pe_callB (call_min2 rfl) (by rfl) z_min (by decide +kernel) (pa_cons (pe_op op_sub (pe_op op_sub (pv 1) (pv 6)) pe_int) (pa_cons (pe_call GLawPick (hr.mono (by decide)) rfl ALawPick.m ALawPick.kp ALawPick.b .nil pass0 (pa_cons (pv 0) (pa_cons pe_int pa_nil))) pa_nil))) pa_nil)))) (pe_call GLawPick (hr.mono (by decide)) rfl ALawPick.m ALawPick.kp ALawPick.b .nil pass0 (pa_cons (pv 0) (pa_cons pe_int pa_nil))) (fun _ _ => rfl)))
    (pss_cons (ps_expr (pe_bm PySem.F.plainAttrs_list PySem.F.slot_list_append PySem.F.type_list_append mt_append (pv 3) (pa_cons (pe_tup (pa_cons (pv 6) (pa_cons (pe_op op_add (pe_op op_add (pv 6) pe_int) (pv 7)) pa_nil))) pa_nil)))
    (pss_one (ps_set (i := 4) scLawSpans.nd rfl (Or.inl rfl) (pe_op op_add (pe_op op_add (pv 6) pe_int) (pv 7)))))))
    pss_nil)))
    (pss_one (ps_ret (pv 3))))), ?_⟩
  refine ⟨Nat.zero_le _, fun fa nf => ⟨_, _, rfl, ?_⟩⟩
  have s0 := same_upd (o := .lst []) nf
  have hf : (upd H fa (.lst [])) fa = some (.lst []) := upd_same
  have hb0 := hb.same s0
  have fab := hb.ne nf
  generalize upd H fa (.lst []) = H0 at s0 hf hb0 ⊢
  refine ⟨_, rfl, _, rfl, bg, (most : Int), rfl, by omega, by omega, hb0, fun r H1 r0 r1 k1 hb1 => ?_⟩
  obtain ⟨m, rfl⟩ : ∃ m : Nat, r = (m : Int) := ⟨r.toNat, by omega⟩
  have B1 : But bg H H1 := fun a o nn k => by rw [k1 a nn]; exact s0 a o k
  have hf1 : H1 fa = some (.lst []) := by rw [k1 fa fab]; exact hf
  refine ⟨_, _, rfl, rfl, ((1 + m : Nat) : Int), congrArg (fun z => [V.int z]) (by omega), by omega, by omega, for_range (lo := 0) (n := 1 + m) (fun i σ H' => ∃ (at' : Nat) (v5 v6 v7 : Option V) (xs : List V) (S : List (Nat × Nat)), σ = [some (.ref bg), some (.int (n : Int)), some (.int (most : Int)), some (.ref fa), some (.int (at' : Int)), v5, v6, v7] ∧ But bg H H' ∧ BagAt H' bg ∧ H' fa = some (.lst xs) ∧ All2 (Nd H') xs S ∧ So at' 0 S ∧ at' ≤ n ∧ S.length ≤ i ∧ (i = 0 → at' = 0) ∧ (1 ≤ i → 1 ≤ S.length))
    ⟨0, none, none, none, [], [], rfl, B1, hb1, hf1, .nil, Nat.le_refl 0, Nat.zero_le _, Nat.le_refl _, fun _ => rfl, fun z => by omega⟩ ?_ ?_⟩
  · rintro i σ H2 im ⟨at', v5, v6, v7, xs, S, rfl, B2, hb2, hf2, hxs, hS, an, lS, z0, z1⟩
    refine ⟨_, rfl, _, rfl, _, _, rfl, rfl, _, rfl, ite2 (fun c => ?_) (fun c => ?_)⟩
    case' _ =>
      have c1 : (at' : Int) < (n : Int) := of_decide_eq_true c
      refine ⟨_, rfl, _, rfl, _, rfl, _, rfl, _, _, rfl, rfl, bg, (n : Int) - at', rfl, by omega, by omega, hb2, fun r1 H3 r10 r11 k3 hb3 => ?_⟩
      refine ⟨_, rfl, _, rfl, _, _, rfl, rfl, _, _, rfl, rfl, _, rfl, bg, 5, rfl, by decide, by decide, hb3, fun r2 H4 r20 r21 k4 hb4 => ⟨_, _, rfl, three, fun l nl => ?_⟩⟩
      have w5 := same_upd (o := .lst [.int 0, .int r1, .int (if r2 < (n : Int) - at' - 1 then r2 else (n : Int) - at' - 1)]) nl
      have hl5 : (upd H4 l (.lst [.int 0, .int r1, .int (if r2 < (n : Int) - at' - 1 then r2 else (n : Int) - at' - 1)])) l = some (.lst [.int 0, .int r1, .int (if r2 < (n : Int) - at' - 1 then r2 else (n : Int) - at' - 1)]) := upd_same
      have lb := hb4.ne nl
      have hb5 := hb4.same w5
      have B25 : But bg H2 (upd H4 l (.lst [.int 0, .int r1, .int (if r2 < (n : Int) - at' - 1 then r2 else (n : Int) - at' - 1)])) := (((But.refl bg H2).pick k3).pick k4).trans (But.of w5)
      generalize upd H4 l (.lst [.int 0, .int r1, .int (if r2 < (n : Int) - at' - 1 then r2 else (n : Int) - at' - 1)]) = H5 at hl5 hb5 B25 ⊢
      refine ⟨_, rfl, bg, 3, rfl, by decide, by decide, hb5, fun r3 H6 r30 r31 k6 hb6 => ?_⟩
      have hl6 : H6 l = some (.lst [.int 0, .int r1, .int (if r2 < (n : Int) - at' - 1 then r2 else (n : Int) - at' - 1)]) := by rw [k6 l lb]; exact hl5
      have B26 := B25.pick k6
      obtain ⟨z, hz, zc⟩ := pick3 (c := (n : Int) - at' - 1) r10 (by omega) r20 (by omega) r30 r31
      refine ⟨l, _, _, _, rfl, rfl, SqL.of hl6, hz, _, _, rfl, rfl, ?_⟩
      clear hl6 hl5 hz w5 B25 hb5 hb4 hb3 k3 k4 k6 lb nl r10 r11 r20 r21 r30 r31
      obtain ⟨fst, ef⟩ : ∃ fst : Nat, fst = at' + z := ⟨_, rfl⟩
      have ef' : (at' : Int) + (z : Int) = ((fst : Nat) : Int) := by omega
      dsimp only
      rw [ef']
      refine ⟨_, rfl, _, rfl, _, rfl, _, _, rfl, rfl, bg, (n : Int) - fst, rfl, by omega, by omega, hb6, fun r1 H3 r10 r11 k3 hb3 => ?_⟩
      refine ⟨_, rfl, _, rfl, _, _, rfl, rfl, _, _, rfl, rfl, _, rfl, bg, 9, rfl, by decide, by decide, hb3, fun r2 H4 r20 r21 k4 hb4 => ⟨_, _, rfl, three, fun l nl => ?_⟩⟩
      have w5 := same_upd (o := .lst [.int 0, .int r1, .int (if r2 < (n : Int) - fst - 1 then r2 else (n : Int) - fst - 1)]) nl
      have hl5 : (upd H4 l (.lst [.int 0, .int r1, .int (if r2 < (n : Int) - fst - 1 then r2 else (n : Int) - fst - 1)])) l = some (.lst [.int 0, .int r1, .int (if r2 < (n : Int) - fst - 1 then r2 else (n : Int) - fst - 1)]) := upd_same
      have lb := hb4.ne nl
      have hb5 := hb4.same w5
      have B65 : But bg H6 (upd H4 l (.lst [.int 0, .int r1, .int (if r2 < (n : Int) - fst - 1 then r2 else (n : Int) - fst - 1)])) := (((But.refl bg H6).pick k3).pick k4).trans (But.of w5)
      generalize upd H4 l (.lst [.int 0, .int r1, .int (if r2 < (n : Int) - fst - 1 then r2 else (n : Int) - fst - 1)]) = H5 at hl5 hb5 B65 ⊢
      refine ⟨_, rfl, bg, 3, rfl, by decide, by decide, hb5, fun r3 H7 r30 r31 k7 hb7 => ?_⟩
      have hl7 : H7 l = some (.lst [.int 0, .int r1, .int (if r2 < (n : Int) - fst - 1 then r2 else (n : Int) - fst - 1)]) := by rw [k7 l lb]; exact hl5
      have B27 := B26.trans (B65.pick k7)
      obtain ⟨z2, hz2, zc2⟩ := pick3 (c := (n : Int) - fst - 1) r10 (by omega) r20 (by omega) r30 r31
      refine ⟨l, _, _, _, rfl, rfl, SqL.of hl7, hz2, ?_⟩
      clear hl7 hl5 hz2 w5 B65 hb5 hb4 hb3 k3 k4 k7 lb nl r10 r11 r20 r21 r30 r31 B26 hb6
      have hf7 := B27.at fab hf2
      have hxs7 := hxs.mono fun v x (k : Nd H2 v x) => k.but B27 hb2
      have B7 := B2.trans B27
      have et : (fst : Int) + 1 + (z2 : Int) = ((fst + 1 + z2 : Nat) : Int) := by omega
      refine ⟨_, rfl, .inl ⟨rfl, _, SqL.of hf7⟩, _, rfl, _, rfl, _, _, rfl, rfl, _, rfl, _, _, rfl, rfl, two, fun t nt => ?_⟩
      dsimp only
      rw [et]
      have w8 := same_upd (o := .tup [.int (fst : Int), .int ((fst + 1 + z2 : Nat) : Int)]) nt
      have hf8 := w8 _ _ hf7
      have hb8 := hb7.same w8
      have hxs8 := hxs7.mono fun v x (k : Nd H7 v x) => k.same w8
      have ht8 : Nd (upd H7 t (.tup [.int (fst : Int), .int ((fst + 1 + z2 : Nat) : Int)])) (.ref t) (fst, fst + 1 + z2) := ⟨t, rfl, upd_same⟩
      have B8 := B7.trans (But.of w8)
      generalize upd H7 t (.tup [.int (fst : Int), .int ((fst + 1 + z2 : Nat) : Int)]) = H8 at hf8 hb8 hxs8 ht8 B8 ⊢
      refine ⟨fa, _, _, rfl, rfl, hf8, szlt (by rw [hxs.len]; omega), ?_⟩
      refine ⟨_, rfl, _, _, rfl, rfl, _, rfl, _, _, rfl, rfl, ?_⟩
      dsimp only
      rw [et]
      refine ⟨fst + 1 + z2, _, _, _, xs ++ [.ref t], S ++ [(fst, fst + 1 + z2)], rfl, fun a o nn k => by rw [upd_ne (ne_of_none k nf)]; exact B8 a o nn k, hb8.upd fab, upd_same, ?_, hS.snocB (x := (fst, fst + 1 + z2)) (by show at' ≤ fst; omega) (by show fst < fst + 1 + z2; omega), by omega, by rw [List.length_append, List.length_singleton]; omega, fun z => by omega, fun _ => by rw [List.length_append, List.length_singleton]; omega⟩
      exact (hxs8.mono fun v x (k : Nd H8 v x) => k.upd hf8).app (.cons (ht8.upd hf8) .nil)
    · refine ⟨at', _, v6, v7, xs, S, rfl, B2, hb2, hf2, hxs, hS, an, by omega, fun z => by omega, fun _ => ?_⟩
      have c1 : ¬ (at' : Int) < (n : Int) := of_decide_eq_false (Bool.eq_false_iff.mpr c)
      by_cases zi : i = 0
      · have := z0 zi
        omega
      · exact z1 (by omega)
  · rintro σ H2 ⟨at', v5, v6, v7, xs, S, rfl, B2, hb2, hf2, hxs, hS, an, lS, z0, z1⟩
    exact ⟨_, rfl, q H2 fa xs S B2 hb2 nf hf2 hxs (z1 (by omega)) (by omega) (hS.up an)⟩
end
end LT

namespace LT
open PySem PySem.Spec PyProof.Rows L2
def isHalfP (B M : Nat) (x : Nat × Nat) : Prop := x = (B, B + gp M) ∨ x = (B + gp M, B + M)
def wayL (b m : Nat) (x : Nat × Nat) : List (Nat × Nat) :=
  if h : m ≤ 1 then [(b, b + m)] else
    if x = (b, b + m) then [(b, b + m)] else
      if x.1 < b + gp m then (b, b + m) :: wayL b (gp m) x else (b, b + m) :: wayL (b + gp m) (m - gp m) x
termination_by m
decreasing_by
  · exact gp_lt (by omega)
  · have := gp_pos m; omega
theorem wayL_here {b m : Nat} {x : Nat × Nat} (h : x = (b, b + m)) : wayL b m x = [x] := by
  rw [wayL, ← h]
  simp
theorem wayL_low {b m : Nat} {x : Nat × Nat} (h : 2 ≤ m) (c : x ≠ (b, b + m)) (k : x.1 < b + gp m) : wayL b m x = (b, b + m) :: wayL b (gp m) x := by
  rw [wayL, dif_neg (by omega), if_neg c, if_pos k]
theorem wayL_high {b m : Nat} {x : Nat × Nat} (h : 2 ≤ m) (c : x ≠ (b, b + m)) (k : ¬ x.1 < b + gp m) : wayL b m x = (b, b + m) :: wayL (b + gp m) (m - gp m) x := by
  rw [wayL, dif_neg (by omega), if_neg c, if_neg k]
/-- a node within a node of two entries or more that is not it lies in a half -/
theorem in_half {n b m : Nat} {x : Nat × Nat} (hm : 1 ≤ m) (t : tree n b m) (hn : b + m ≤ n) (hx : isN n x) (h1 : b ≤ x.1) (h2 : x.2 ≤ b + m) (c : x ≠ (b, b + m)) :
    2 ≤ m ∧ (x.1 < b + gp m → x.2 ≤ b + gp m) := by
  have k := hx.1
  have m2 : 2 ≤ m := by
    by_cases z : m = 1
    · subst z
      exact absurd (Prod.ext (by show x.1 = b; omega) (by show x.2 = b + 1; omega)) c
    · omega
  refine ⟨m2, fun z => ?_⟩
  rcases node_in m2 t hn hx h1 h2 with y | y | y
  · exact absurd y c
  · exact y
  · omega
theorem wayL_end {n : Nat} {x : Nat × Nat} (hx : isN n x) : ∀ (m b : Nat), 1 ≤ m → tree n b m → b + m ≤ n → b ≤ x.1 → x.2 ≤ b + m → x ≠ (b, b + m) →
    ∃ us B M, wayL b m x = us ++ [(B, B + M), x] ∧ isN n (B, B + M) ∧ 2 ≤ M ∧ tree n B M ∧ isHalfP B M x := by
  intro m
  induction m using Nat.strongRecOn with
  | ind m ih =>
    intro b hm t hn h1 h2 c
    obtain ⟨m2, hh⟩ := in_half hm t hn hx h1 h2 c
    have g1 := gp_lt m2
    have g3 := gp_pos m
    have em : b + gp m + (m - gp m) = b + m := by omega
    by_cases k : x.1 < b + gp m
    · rw [wayL_low m2 c k]
      by_cases c2 : x = (b, b + gp m)
      · rw [wayL_here c2]
        exact ⟨[], b, m, rfl, isN_of hm hn t, m2, t, .inl c2⟩
      · obtain ⟨us, B, M, e, r⟩ := ih (gp m) g1 b g3 (tree_low m2 t) (by omega) h1 (hh k) c2
        exact ⟨(b, b + m) :: us, B, M, by rw [e]; rfl, r⟩
    · rw [wayL_high m2 c k]
      by_cases c2 : x = (b + gp m, b + gp m + (m - gp m))
      · rw [wayL_here c2]
        exact ⟨[], b, m, rfl, isN_of hm hn t, m2, t, .inr (by rw [c2, em])⟩
      · obtain ⟨us, B, M, e, r⟩ := ih (m - gp m) (by omega) (b + gp m) (by omega) (tree_high m2 t) (by omega) (by omega) (by omega) c2
        exact ⟨(b, b + m) :: us, B, M, by rw [e]; rfl, r⟩
theorem wayL_len {n e : Nat} : ∀ (m b : Nat), tree n b m → b ≤ e → e < b + m → b + m ≤ n → (wayL b m (e, e + 1)).length = (sib b m e).length + 1 := by
  refine way_ind (fun b m h h1 h2 _ => ?_) (fun b m h _ h1 k _ ih => ?_) (fun b m h _ h1 k _ _ ih => ?_)
  · rw [wayL_here (Prod.ext (by show e = b; omega) (by show e + 1 = b + m; omega)), sib_one h]
    rfl
  · rw [wayL_low h (fun z => by have := congrArg Prod.fst z; have := congrArg Prod.snd z; simp only at *; omega) k, sib_low h k, List.length_cons, List.length_cons, ih]
  · rw [wayL_high h (fun z => by have := congrArg Prod.fst z; have := congrArg Prod.snd z; simp only at *; omega) k, sib_high h k, List.length_cons, List.length_cons, ih]
theorem wayL_most (x : Nat × Nat) : ∀ (m b : Nat), 1 ≤ m → (wayL b m x).length ≤ lb m + 1 := by
  intro m
  induction m using Nat.strongRecOn with
  | ind m ih =>
    intro b hm
    by_cases c1 : m ≤ 1
    · rw [wayL, dif_pos c1]; simp
    · have m2 : 2 ≤ m := by omega
      have g1 := gp_lt m2
      have g2 := gp_ge m2
      have g3 := gp_pos m
      have e1 := lb_big m2
      by_cases c : x = (b, b + m)
      · rw [wayL_here c]; simp
      · by_cases k : x.1 < b + gp m
        · rw [wayL_low m2 c k, List.length_cons]
          have := ih (gp m) g1 b g3
          have e2 : lb (gp m) = Nat.log2 (m - 1) := by unfold gp; rw [lb_pow]
          omega
        · rw [wayL_high m2 c k, List.length_cons]
          have := ih (m - gp m) (by omega) (b + gp m) (by omega)
          have e2 : lb (m - gp m) ≤ Nat.log2 (m - 1) := lb_le (by unfold gp at g1 g2 ⊢; omega)
          omega
end LT

namespace LT
/-! ### needed nodes -/
def meets (x : Nat × Nat) (S : List (Nat × Nat)) : Bool := S.any fun s => decide (s.1 < x.2) && decide (x.1 < s.2)
theorem meets_iff {x : Nat × Nat} {S : List (Nat × Nat)} : meets x S = true ↔ ∃ s ∈ S, s.1 < x.2 ∧ x.1 < s.2 := by
  unfold meets
  rw [List.any_eq_true]
  constructor
  · rintro ⟨s, hs, h⟩
    rw [Bool.and_eq_true] at h
    exact ⟨s, hs, of_decide_eq_true h.1, of_decide_eq_true h.2⟩
  · rintro ⟨s, hs, h1, h2⟩
    exact ⟨s, hs, by rw [Bool.and_eq_true]; exact ⟨decide_eq_true h1, decide_eq_true h2⟩⟩
theorem meets_no {x : Nat × Nat} {S : List (Nat × Nat)} (h : ∀ s ∈ S, x.2 ≤ s.1 ∨ s.2 ≤ x.1) : meets x S = false := by
  cases e : meets x S with
  | false => rfl
  | true =>
    obtain ⟨s, hs, h1, h2⟩ := meets_iff.mp e
    have := h s hs
    omega
/-- a needed node: none of the told entries in it, some in each node that it is a half of -/
def Due (n : Nat) (S : List (Nat × Nat)) (x : Nat × Nat) : Prop := isN n x ∧ meets x S = false ∧ ∀ B M, isN n (B, B + M) → 2 ≤ M → isHalfP B M x → meets (B, B + M) S = true
theorem gap_due {n lo hi : Nat} {S : List (Nat × Nat)} (hn : hi ≤ n) (hlo : lo ≤ hi) (h1 : lo = 0 ∨ ∃ s ∈ S, s.1 < s.2 ∧ s.2 = lo) (h2 : hi = n ∨ ∃ s ∈ S, s.1 < s.2 ∧ s.1 = hi) (h3 : ∀ s ∈ S, s.2 ≤ lo ∨ hi ≤ s.1) (x : Nat × Nat) (hx : x ∈ nw n lo hi) : Due n S x := by
  obtain ⟨m1, m2, m3⟩ := (nw_ch hn lo hlo).mem x hx
  have x12 := m1.1
  refine ⟨m1, meets_no fun s hs => ?_, fun B M hp hM hh => ?_⟩
  · have := h3 s hs
    omega
  · have g1 := gp_lt hM
    have g3 := gp_pos M
    have pn := hp.2.1
    simp only at pn
    have xin : B ≤ x.1 ∧ x.2 ≤ B + M ∧ x ≠ (B, B + M) := by
      rcases hh with z | z <;> subst z <;> refine ⟨by simp only; omega, by simp only; omega, fun y => ?_⟩
      · have := congrArg Prod.snd y
        simp only at this
        omega
      · have := congrArg Prod.fst y
        simp only at this
        omega
    rw [meets_iff]
    by_cases c1 : B < lo
    · rcases h1 with h1 | ⟨s, hs, s1, s2⟩
      · omega
      · exact ⟨s, hs, by simp only; omega, by simp only; omega⟩
    · by_cases c2 : hi < B + M
      · rcases h2 with h2 | ⟨s, hs, s1, s2⟩
        · omega
        · exact ⟨s, hs, by simp only; omega, by simp only; omega⟩
      · exact absurd (nw_max hn hlo x hx (B, B + M) hp (by simp only; omega) (by simp only; omega) xin.1 xin.2.1).symm xin.2.2
theorem nl_due {n : Nat} : ∀ (S : List (Nat × Nat)) (lo : Nat) (pre : List (Nat × Nat)), So n lo S → (∀ s ∈ pre, s.2 ≤ lo) → (lo = 0 ∨ ∃ s ∈ pre, s.1 < s.2 ∧ s.2 = lo) → ∀ x ∈ nl n lo S, Due n (pre ++ S) x
  | [], lo, pre, hS, h1, h2, x, hx => by
    rw [List.append_nil]
    exact gap_due (Nat.le_refl n) hS h2 (.inl rfl) (fun s hs => .inl (h1 s hs)) x hx
  | y :: S, lo, pre, ⟨k1, k2, k3, k4⟩, h1, h2, x, hx => by
    have hx : x ∈ nw n lo y.1 ++ nl n y.2 S := hx
    rcases List.mem_append.mp hx with hx | hx
    · refine gap_due (by omega) k1 ?_ (.inr ⟨y, List.mem_append_right _ List.mem_cons_self, k2, rfl⟩) (fun s hs => ?_) x hx
      · rcases h2 with h2 | ⟨s, hs, r⟩
        · exact .inl h2
        · exact .inr ⟨s, List.mem_append_left _ hs, r⟩
      · rcases List.mem_append.mp hs with hs | hs
        · exact .inl (h1 s hs)
        · rcases List.mem_cons.mp hs with rfl | hs
          · exact .inr (Nat.le_refl _)
          · have := k4.mem s hs
            exact .inr (by omega)
    · have := nl_due S y.2 (pre ++ [y]) k4 (fun s hs => ?_) (.inr ⟨y, List.mem_append_right _ List.mem_cons_self, k2, rfl⟩) x hx
      · rw [List.append_assoc] at this
        exact this
      · rcases List.mem_append.mp hs with hs | hs
        · have := h1 s hs
          omega
        · rw [List.mem_singleton] at hs
          subst hs
          exact Nat.le_refl _
/-- nodes one behind the other, with gaps -/
def Up : Nat → List (Nat × Nat) → Prop
  | _, [] => True
  | lo, x :: l => lo ≤ x.1 ∧ x.1 < x.2 ∧ Up x.2 l
theorem Up.mono : ∀ {lo lo' : Nat} {l : List (Nat × Nat)}, Up lo l → lo' ≤ lo → Up lo' l
  | _, _, [], _, _ => trivial
  | _, _, _ :: _, ⟨h1, h2, h3⟩, h => ⟨Nat.le_trans h h1, h2, h3⟩
theorem Ch.up {n : Nat} : ∀ {lo hi : Nat} {l r : List (Nat × Nat)}, Ch n lo hi l → Up hi r → Up lo (l ++ r)
  | _, _, [], _, h, k => by
    have h : _ = _ := h
    subst h
    exact k
  | lo, hi, x :: l, r, ⟨h1, h2, h3, h4⟩, k => ⟨by omega, h2.1, Ch.up h4 k⟩
theorem nl_up {n : Nat} : ∀ (S : List (Nat × Nat)) (lo : Nat), So n lo S → Up lo (nl n lo S)
  | [], lo, h => by
    have := (nw_ch (n := n) (Nat.le_refl n) lo h).up (r := []) trivial
    rw [List.append_nil] at this
    exact this
  | y :: S, lo, ⟨k1, k2, k3, k4⟩ => (nw_ch (n := n) (show y.1 ≤ n by omega) lo k1).up ((nl_up S y.2 k4).mono (Nat.le_of_lt k2))
def wid (l : List (Nat × Nat)) : Nat := (l.map fun x => x.2 - x.1).sum
theorem wid_app (l r : List (Nat × Nat)) : wid (l ++ r) = wid l + wid r := by unfold wid; rw [List.map_append, List.sum_append]
theorem nl_wid {n : Nat} : ∀ (S : List (Nat × Nat)) (lo : Nat), So n lo S → wid (nl n lo S) + wid S + lo = n
  | [], lo, h => by
    have h : lo ≤ n := h
    have := (nw_ch (n := n) (Nat.le_refl n) lo h).sum
    show wid (nw n lo n) + 0 + lo = n
    unfold wid
    omega
  | y :: S, lo, ⟨k1, k2, k3, k4⟩ => by
    have a := (nw_ch (n := n) (show y.1 ≤ n by omega) lo k1).sum
    have b := nl_wid S y.2 k4
    show wid (nw n lo y.1 ++ nl n y.2 S) + wid (y :: S) + lo = n
    rw [wid_app]
    have c : wid (y :: S) = (y.2 - y.1) + wid S := rfl
    rw [c]
    unfold wid at a b ⊢
    omega
theorem nl_single {n e : Nat} (h : e < n) : (nl n 0 [(e, e + 1)]).length = (sib 0 n e).length := by
  show (nw n 0 e ++ nw n (e + 1) n).length = _
  rw [List.length_append]
  exact nw_single h
end LT

namespace LT
open PySem PySem.Spec PyProof.Rows L2
/-- stretches with entries, within a log -/
def Wn (n : Nat) (L : List (Nat × Nat)) : Prop := ∀ x ∈ L, x.1 < x.2 ∧ x.2 ≤ n
theorem Wn.app {n : Nat} {L M : List (Nat × Nat)} (h : Wn n L) (k : Wn n M) : Wn n (L ++ M) := fun x hx => (List.mem_append.mp hx).elim (h x) (k x)
theorem Wn.srt {n : Nat} {L : List (Nat × Nat)} (h : Wn n L) : Wn n (srt L) := fun x hx => h x (srt_mem.mp hx)
theorem meets_has {x : Nat × Nat} {S : List (Nat × Nat)} {s : Nat × Nat} (h : s ∈ S) (h1 : s.1 < x.2) (h2 : x.1 < s.2) : meets x S = true := meets_iff.mpr ⟨s, h, h1, h2⟩
theorem meets_same {S T : List (Nat × Nat)} (h : ∀ s, s ∈ S ↔ s ∈ T) (x : Nat × Nat) : meets x S = meets x T := by
  rw [Bool.eq_iff_iff, meets_iff, meets_iff]
  exact ⟨fun ⟨s, a, b⟩ => ⟨s, (h s).mp a, b⟩, fun ⟨s, a, b⟩ => ⟨s, (h s).mpr a, b⟩⟩
theorem due_same {n : Nat} {S T : List (Nat × Nat)} (h : ∀ x, meets x S = meets x T) {x : Nat × Nat} (d : Due n S x) : Due n T x :=
  ⟨d.1, by rw [← h]; exact d.2.1, fun B M a b c => by rw [← h]; exact d.2.2 B M a b c⟩
/-- what lies ahead of a begin has it beside -/
def Beg : List (Nat × Nat) → Prop := List.Pairwise (fun x y => x.1 ≤ y.1)
theorem srt_beg (L : List (Nat × Nat)) : Beg (srt L) := (srt_pair L).imp fun h => by
  have := leN_iff.mp h
  omega
theorem nb_due {n : Nat} : ∀ (l : List (Nat × Nat)) (lo : Nat) (pre : List (Nat × Nat)), Wn n l → Beg l → lo ≤ n → (∀ s ∈ pre, s.2 ≤ lo) → (lo = 0 ∨ ∃ s ∈ pre, s.1 < s.2 ∧ s.2 = lo) → ∀ x ∈ nb n lo l, Due n (pre ++ l) x
  | [], lo, pre, _, _, hlo, h1, h2, x, hx => by
    rw [List.append_nil]
    exact gap_due (Nat.le_refl n) hlo h2 (.inl rfl) (fun s hs => .inl (h1 s hs)) x hx
  | y :: l, lo, pre, hw, hb, hlo, h1, h2, x, hx => by
    obtain ⟨y12, yn⟩ := hw y List.mem_cons_self
    obtain ⟨hb1, hb2⟩ := List.pairwise_cons.mp hb
    rcases List.mem_append.mp (show x ∈ nw n lo y.1 ++ nb n (max lo y.2) l from hx) with hx | hx
    · by_cases c : lo ≤ y.1
      · refine gap_due (S := pre ++ y :: l) (by omega) c (h2.imp id fun ⟨s, a, b⟩ => ⟨s, List.mem_append_left _ a, b⟩) (.inr ⟨y, List.mem_append_right _ List.mem_cons_self, y12, rfl⟩) (fun s hs => ?_) x hx
        rcases List.mem_append.mp hs with hs | hs
        · exact .inl (h1 s hs)
        · rcases List.mem_cons.mp hs with rfl | hs
          · exact .inr (Nat.le_refl _)
          · exact .inr (hb1 s hs)
      · rw [nw_nil (by omega)] at hx
        cases hx
    · have := nb_due l (max lo y.2) (pre ++ [y]) (fun z hz => hw z (List.mem_cons_of_mem _ hz)) hb2 (by omega) (fun s hs => ?_) ?_ x hx
      · rwa [List.append_assoc] at this
      · rcases List.mem_append.mp hs with hs | hs
        · have := h1 s hs
          omega
        · rw [List.mem_singleton.mp hs]
          omega
      · by_cases c : lo ≤ y.2
        · exact .inr ⟨y, List.mem_append_right _ (List.mem_singleton_self _), y12, by omega⟩
        · rcases h2 with h2 | ⟨s, a, b, e⟩
          · omega
          · exact .inr ⟨s, List.mem_append_left _ a, b, by omega⟩
theorem nb_cov {n : Nat} : ∀ (l : List (Nat × Nat)) (lo i : Nat), Wn n l → lo ≤ i → i < n → (∀ s ∈ l, ¬ (s.1 ≤ i ∧ i < s.2)) → ∃ y ∈ nb n lo l, y.1 ≤ i ∧ i < y.2
  | [], lo, i, _, h1, h2, _ => (nw_ch (n := n) (Nat.le_refl n) lo (by omega)).at i h1 h2
  | y :: l, lo, i, hw, h1, h2, h3 => by
    obtain ⟨y12, yn⟩ := hw y List.mem_cons_self
    have hy := h3 y List.mem_cons_self
    by_cases c : i < y.1
    · obtain ⟨z, hz, k⟩ := (nw_ch (n := n) (e := y.1) (by omega) lo (by omega)).at i h1 c
      exact ⟨z, List.mem_append_left _ hz, k⟩
    · obtain ⟨z, hz, k⟩ := nb_cov l (max lo y.2) i (fun z hz => hw z (List.mem_cons_of_mem _ hz)) (by omega) h2 fun s hs => h3 s (List.mem_cons_of_mem _ hs)
      exact ⟨z, List.mem_append_right _ hz, k⟩
theorem nb_up {n : Nat} : ∀ (l : List (Nat × Nat)) (lo : Nat), Wn n l → lo ≤ n → Up lo (nb n lo l)
  | [], lo, _, h => by
    have := (nw_ch (n := n) (Nat.le_refl n) lo h).up (r := []) trivial
    rwa [List.append_nil] at this
  | y :: l, lo, hw, h => by
    obtain ⟨y12, yn⟩ := hw y List.mem_cons_self
    have ih := nb_up l (max lo y.2) (fun z hz => hw z (List.mem_cons_of_mem _ hz)) (by omega)
    show Up lo (nw n lo y.1 ++ nb n (max lo y.2) l)
    by_cases c : lo ≤ y.1
    · exact (nw_ch (n := n) (e := y.1) (by omega) lo c).up (ih.mono (by omega))
    · rw [nw_nil (by omega), List.nil_append]
      exact ih.mono (by omega)
theorem Up.mem : ∀ {lo : Nat} {l : List (Nat × Nat)}, Up lo l → ∀ x ∈ l, lo ≤ x.1 ∧ x.1 < x.2
  | lo, y :: l, ⟨h1, h2, h3⟩, x, hx => by
    rcases List.mem_cons.mp hx with rfl | hx
    · exact ⟨h1, h2⟩
    · have := h3.mem x hx
      exact ⟨by omega, this.2⟩
theorem up_ext : ∀ (l r : List (Nat × Nat)) (lo lo' : Nat), Up lo l → Up lo' r → (∀ x, x ∈ l ↔ x ∈ r) → l = r
  | [], [], _, _, _, _, _ => rfl
  | [], y :: r, _, _, _, _, h => absurd ((h y).mpr List.mem_cons_self) List.not_mem_nil
  | x :: l, [], _, _, _, _, h => absurd ((h x).mp List.mem_cons_self) List.not_mem_nil
  | x :: l, y :: r, lo, lo', ⟨a1, a2, a3⟩, ⟨b1, b2, b3⟩, h => by
    have e : x = y := by
      rcases List.mem_cons.mp ((h x).mp List.mem_cons_self) with e | hx
      · exact e
      · rcases List.mem_cons.mp ((h y).mpr List.mem_cons_self) with e | hy
        · exact e.symm
        · have := b3.mem x hx
          have := a3.mem y hy
          omega
    subst e
    congr 1
    refine up_ext l r x.2 x.2 a3 b3 fun z => ⟨fun hz => ?_, fun hz => ?_⟩
    · rcases List.mem_cons.mp ((h z).mp (List.mem_cons_of_mem _ hz)) with e | k
      · have := a3.mem z hz
        rw [e] at this
        omega
      · exact k
    · rcases List.mem_cons.mp ((h z).mpr (List.mem_cons_of_mem _ hz)) with e | k
      · have := b3.mem z hz
        rw [e] at this
        omega
      · exact k
/-- two nodes that share an entry are nested -/
theorem nested {n i : Nat} {x y : Nat × Nat} (hx : isN n x) (hy : isN n y) (h1 : x.1 ≤ i) (h2 : i < x.2) (h3 : y.1 ≤ i) (h4 : i < y.2) : (x.1 ≤ y.1 ∧ y.2 ≤ x.2) ∨ (y.1 ≤ x.1 ∧ x.2 ≤ y.2) := by
  obtain ⟨x12, xn, xt⟩ := isN_tree (n := n) (b := x.1) (e := x.2) hx
  obtain ⟨y12, yn, yt⟩ := isN_tree (n := n) (b := y.1) (e := y.2) hy
  rcases Nat.lt_trichotomy x.1 y.1 with c | c | c
  · have := lam xt (by omega) yt (by omega) (by omega) c (by omega)
    omega
  · omega
  · have := lam yt (by omega) xt (by omega) (by omega) c (by omega)
    omega
/-- a node within a greater one has its parent within, too -/
theorem par_in {n : Nat} {x : Nat × Nat} (hx : isN n x) : ∀ (m b : Nat), 1 ≤ m → tree n b m → b + m ≤ n → b ≤ x.1 → x.2 ≤ b + m → x ≠ (b, b + m) →
    ∃ B M, isN n (B, B + M) ∧ 2 ≤ M ∧ isHalfP B M x ∧ b ≤ B ∧ B + M ≤ b + m := by
  intro m
  induction m using Nat.strongRecOn with
  | ind m ih =>
    intro b hm t hn h1 h2 c
    obtain ⟨m2, hh⟩ := in_half hm t hn hx h1 h2 c
    have g1 := gp_lt m2
    have g3 := gp_pos m
    have em : b + gp m + (m - gp m) = b + m := by omega
    by_cases k : x.1 < b + gp m
    · by_cases c2 : x = (b, b + gp m)
      · exact ⟨b, m, isN_of hm hn t, m2, .inl c2, Nat.le_refl _, Nat.le_refl _⟩
      · obtain ⟨B, M, r1, r2, r3, r4, r5⟩ := ih (gp m) g1 b g3 (tree_low m2 t) (by omega) h1 (hh k) c2
        exact ⟨B, M, r1, r2, r3, r4, by omega⟩
    · by_cases c2 : x = (b + gp m, b + gp m + (m - gp m))
      · exact ⟨b, m, isN_of hm hn t, m2, .inr (by rw [c2, em]), Nat.le_refl _, Nat.le_refl _⟩
      · obtain ⟨B, M, r1, r2, r3, r4, r5⟩ := ih (m - gp m) (by omega) (b + gp m) (by omega) (tree_high m2 t) (by omega) (by omega) (by omega) c2
        exact ⟨B, M, r1, r2, r3, by omega, by omega⟩
theorem par_in2 {n : Nat} {x y : Nat × Nat} (hx : isN n x) (hy : isN n y) (h1 : y.1 ≤ x.1) (h2 : x.2 ≤ y.2) (c : x ≠ y) :
    ∃ B M, isN n (B, B + M) ∧ 2 ≤ M ∧ isHalfP B M x ∧ y.1 ≤ B ∧ B + M ≤ y.2 := by
  obtain ⟨y12, yn, yt⟩ := isN_tree (n := n) (b := y.1) (e := y.2) hy
  have e : y.1 + (y.2 - y.1) = y.2 := by omega
  obtain ⟨B, M, r1, r2, r3, r4, r5⟩ := par_in hx (y.2 - y.1) y.1 (by omega) yt (by omega) h1 (by omega) (by rw [e]; exact c)
  exact ⟨B, M, r1, r2, r3, r4, by omega⟩
theorem meets_sub {x y : Nat × Nat} {S : List (Nat × Nat)} (h1 : y.1 ≤ x.1) (h2 : x.2 ≤ y.2) (h : meets y S = false) : meets x S = false := by
  cases c : meets x S with
  | false => rfl
  | true =>
    obtain ⟨s, a, b, d⟩ := meets_iff.mp c
    rw [meets_has a (x := y) (by omega) (by omega)] at h
    cases h
/-- two due nodes that share an entry are one -/
theorem due_one {n i : Nat} {S : List (Nat × Nat)} {x y : Nat × Nat} (hx : Due n S x) (hy : Due n S y) (h1 : x.1 ≤ i) (h2 : i < x.2) (h3 : y.1 ≤ i) (h4 : i < y.2) : x = y := by
  by_cases c : x = y
  · exact c
  exfalso
  rcases nested hx.1 hy.1 h1 h2 h3 h4 with ⟨k1, k2⟩ | ⟨k1, k2⟩
  · obtain ⟨B, M, r1, r2, r3, r4, r5⟩ := par_in2 hy.1 hx.1 k1 k2 (fun z => c z.symm)
    have a := hy.2.2 B M r1 r2 r3
    rw [meets_sub (x := (B, B + M)) (y := x) r4 r5 hx.2.1] at a
    cases a
  · obtain ⟨B, M, r1, r2, r3, r4, r5⟩ := par_in2 hx.1 hy.1 k1 k2 c
    have a := hx.2.2 B M r1 r2 r3
    rw [meets_sub (x := (B, B + M)) (y := y) r4 r5 hy.2.1] at a
    cases a
theorem nb_srt_due {n : Nat} {L : List (Nat × Nat)} (hL : Wn n L) {x : Nat × Nat} (hx : x ∈ nb n 0 (srt L)) : Due n L x := by
  have := nb_due (srt L) 0 [] hL.srt (srt_beg L) (Nat.zero_le _) (fun _ h => absurd h List.not_mem_nil) (.inl rfl) x hx
  exact due_same (meets_same fun s => by rw [List.nil_append]; exact srt_mem) this
theorem nb_iff {n : Nat} {L : List (Nat × Nat)} (hL : Wn n L) (x : Nat × Nat) : x ∈ nb n 0 (srt L) ↔ Due n L x := by
  refine ⟨nb_srt_due hL, fun hx => ?_⟩
  obtain ⟨x12, xn, _⟩ := isN_tree (n := n) (b := x.1) (e := x.2) hx.1
  obtain ⟨y, hy, h1, h2⟩ := nb_cov (srt L) 0 x.1 hL.srt (Nat.zero_le _) (by omega) fun s hs k => by
    have := meets_has (x := x) (srt_mem.mp hs) (by omega) (by omega)
    rw [hx.2.1] at this
    cases this
  rw [due_one hx (nb_srt_due hL hy) (Nat.le_refl _) x12 h1 h2]
  exact hy
/-- the list of the due nodes -/
theorem nb_is {n : Nat} {L l : List (Nat × Nat)} (hL : Wn n L) (hu : Up 0 l) (h : ∀ x, x ∈ l ↔ Due n L x) : nb n 0 (srt L) = l :=
  up_ext _ _ 0 0 (nb_up (srt L) 0 hL.srt (Nat.zero_le _)) hu fun x => (nb_iff hL x).trans (h x).symm
theorem nb_same {n : Nat} {L M : List (Nat × Nat)} (hL : Wn n L) (hM : Wn n M) (h : ∀ x, meets x L = meets x M) : nb n 0 (srt L) = nb n 0 (srt M) :=
  nb_is hL (nb_up (srt M) 0 hM.srt (Nat.zero_le _)) fun x => (nb_iff hM x).trans ⟨due_same fun x => (h x).symm, due_same h⟩
/-- covered -/
def cov (L : List (Nat × Nat)) (i : Nat) : Prop := ∃ s ∈ L, s.1 ≤ i ∧ i < s.2
theorem cov_app {L M : List (Nat × Nat)} {i : Nat} : cov (L ++ M) i ↔ cov L i ∨ cov M i :=
  ⟨fun ⟨s, h, k⟩ => (List.mem_append.mp h).elim (fun h => .inl ⟨s, h, k⟩) (fun h => .inr ⟨s, h, k⟩), fun h => h.elim (fun ⟨s, h, k⟩ => ⟨s, List.mem_append_left _ h, k⟩) (fun ⟨s, h, k⟩ => ⟨s, List.mem_append_right _ h, k⟩)⟩
theorem meets_cov {n : Nat} {L : List (Nat × Nat)} (hL : Wn n L) {x : Nat × Nat} (hx : x.1 < x.2) : meets x L = true ↔ ∃ i, x.1 ≤ i ∧ i < x.2 ∧ cov L i := by
  rw [meets_iff]
  constructor
  · rintro ⟨s, h, h1, h2⟩
    have := (hL s h).1
    exact ⟨max x.1 s.1, by omega, by omega, s, h, by omega, by omega⟩
  · rintro ⟨i, h1, h2, s, h, h3, h4⟩
    exact ⟨s, h, by omega, by omega⟩
theorem nb_nil_iff {n : Nat} {L : List (Nat × Nat)} (hL : Wn n L) : nb n 0 (srt L) = [] ↔ ∀ i, i < n → cov L i := by
  constructor
  · intro h i hi
    by_cases c : cov L i
    · exact c
    · obtain ⟨y, hy, _⟩ := nb_cov (srt L) 0 i hL.srt (Nat.zero_le _) hi fun s hs k => c ⟨s, srt_mem.mp hs, k⟩
      rw [h] at hy
      cases hy
  · intro h
    cases e : nb n 0 (srt L) with
    | nil => rfl
    | cons y l =>
      have d := nb_srt_due hL (by rw [e]; exact List.mem_cons_self)
      obtain ⟨y12, yn, _⟩ := isN_tree (n := n) (b := y.1) (e := y.2) d.1
      obtain ⟨s, hs, k⟩ := h y.1 (by omega)
      have := meets_has (x := y) hs (by omega) (by omega)
      rw [d.2.1] at this
      cases this
theorem jgo_ne : ∀ (l : List (Nat × Nat)) (c : Nat × Nat), ∃ e r, jgo c l = (c.1, e) :: r
  | [], c => ⟨c.2, [], rfl⟩
  | x :: l, c => by
    unfold jgo
    split
    · exact jgo_ne l (c.1, max c.2 x.2)
    · exact ⟨c.2, _, rfl⟩
theorem nw_ne {n b e : Nat} (h : b < e) : nw n b e ≠ [] := by
  rw [nw_step h]
  exact List.cons_ne_nil _ _
theorem jgo_nb {n : Nat} : ∀ (l : List (Nat × Nat)) (b : Nat), b ≤ n → (∀ x ∈ l, x.2 ≤ n) → (jgo (0, b) l = [(0, n)] ↔ nb n b l = [])
  | [], b, hb, _ => by
    show [(0, b)] = [(0, n)] ↔ nw n b n = []
    constructor
    · intro h
      have h : (0, b) = (0, n) := (List.cons.inj h).1
      have := congrArg Prod.snd h
      exact nw_nil (by dsimp only at this; omega)
    · intro h
      by_cases c : b < n
      · exact absurd h (nw_ne c)
      · rw [show b = n by omega]
  | x :: l, b, hb, hw => by
    have hx := hw x List.mem_cons_self
    have ih := jgo_nb l (max b x.2) (by omega) fun y hy => hw y (List.mem_cons_of_mem _ hy)
    show (if x.1 ≤ b then jgo (0, max b x.2) l else (0, b) :: jgo x l) = [(0, n)] ↔ nw n b x.1 ++ nb n (max b x.2) l = []
    by_cases c : x.1 ≤ b
    · rw [if_pos c, nw_nil c, List.nil_append]
      exact ih
    · rw [if_neg c]
      obtain ⟨e, r, h⟩ := jgo_ne l x
      rw [h]
      exact ⟨fun z => (by cases z), fun z => absurd (List.append_eq_nil_iff.mp z).1 (nw_ne (by omega))⟩
theorem jn_nb {n : Nat} (n1 : 1 ≤ n) (S : List (Nat × Nat)) (h : ∀ x ∈ S, x.2 ≤ n) : jn S = [(0, n)] ↔ nb n 0 S = [] := by
  cases S with
  | nil =>
    show [] = [(0, n)] ↔ nw n 0 n = []
    exact ⟨fun z => by (cases z), fun z => absurd z (nw_ne (by omega))⟩
  | cons x l =>
    have hx := h x List.mem_cons_self
    show jgo x l = [(0, n)] ↔ nw n 0 x.1 ++ nb n (max 0 x.2) l = []
    by_cases c : x.1 = 0
    · have e : x = (0, x.2) := Prod.ext c rfl
      rw [e, Nat.zero_max]
      dsimp only
      rw [nw_nil (Nat.le_refl 0), List.nil_append]
      exact jgo_nb l x.2 hx fun y hy => h y (List.mem_cons_of_mem _ hy)
    · obtain ⟨e, r, k⟩ := jgo_ne l x
      rw [k]
      exact ⟨fun z => absurd (congrArg Prod.fst (List.cons.inj z).1) c, fun z => absurd (List.append_eq_nil_iff.mp z).1 (nw_ne (by omega))⟩
/-- the root comes just if all is covered -/
theorem jn_cov {n : Nat} (n1 : 1 ≤ n) {L : List (Nat × Nat)} (hL : Wn n L) : jn (srt L) = [(0, n)] ↔ ∀ i, i < n → cov L i :=
  (jn_nb n1 (srt L) fun x hx => (hL.srt x hx).2).trans (nb_nil_iff hL)
theorem jgo_in {i : Nat} : ∀ (l : List (Nat × Nat)) (c y : Nat × Nat), y ∈ jgo c l → y.1 ≤ i → i < y.2 → (c.1 ≤ i ∧ i < c.2) ∨ cov l i
  | [], c, y, h, h1, h2 => by
    rw [List.mem_singleton.mp h] at h1 h2
    exact .inl ⟨h1, h2⟩
  | x :: l, c, y, h, h1, h2 => by
    unfold jgo at h
    split at h
    · rename_i k
      rcases jgo_in l _ y h h1 h2 with ⟨a, b⟩ | ⟨s, a, b⟩
      · dsimp only at a b
        by_cases z : i < c.2
        · exact .inl ⟨a, z⟩
        · exact .inr ⟨x, List.mem_cons_self, by omega, by omega⟩
      · exact .inr ⟨s, List.mem_cons_of_mem _ a, b⟩
    · rcases List.mem_cons.mp h with rfl | h
      · exact .inl ⟨h1, h2⟩
      · rcases jgo_in l x y h h1 h2 with a | ⟨s, a, b⟩
        · exact .inr ⟨x, List.mem_cons_self, a⟩
        · exact .inr ⟨s, List.mem_cons_of_mem _ a, b⟩
theorem jn_in {i : Nat} {S : List (Nat × Nat)} {y : Nat × Nat} (h : y ∈ jn S) (h1 : y.1 ≤ i) (h2 : i < y.2) : cov S i := by
  cases S with
  | nil => cases h
  | cons x l =>
    rcases jgo_in l x y h h1 h2 with a | ⟨s, a, b⟩
    · exact ⟨x, List.mem_cons_self, a⟩
    · exact ⟨s, List.mem_cons_of_mem _ a, b⟩
end LT

namespace LT
open PySem PySem.Spec PyProof.Rows L2
/-- whether all entries lie in one stretch -/
def lies (x : Nat × Nat) (T : List (Nat × Nat)) : Bool := T.any fun s => decide (s.1 ≤ x.1) && decide (x.2 ≤ s.2)
theorem ltc (a b : Nat) : V.bl (decide ((a : Int) < (b : Int))) = V.bl (decide (a < b)) := congrArg V.bl (decide_eq_decide.mpr (by omega))
theorem lec (a b : Nat) : V.bl (decide ((a : Int) ≤ (b : Int))) = V.bl (decide (a ≤ b)) := congrArg V.bl (decide_eq_decide.mpr (by omega))
theorem any_id {α : Type} (f : α → Bool) : ∀ S : List α, (S.map f).any id = S.any f
  | [] => rfl
  | x :: S => by rw [List.map_cons, List.any_cons, List.any_cons, any_id f S]; rfl
theorem all_id {α : Type} (f : α → Bool) : ∀ S : List α, (S.map f).all id = S.all f
  | [] => rfl
  | x :: S => by rw [List.map_cons, List.all_cons, List.all_cons, all_id f S]; rfl
section
variable {P : Program} {w : World} {K : PySem.W.Frag} {mg : Str → Option Value} {base : Heap}
def spMeetsP : Sp := fun vs H Q _ => ∃ (v : V) (x : Nat × Nat) (p : Addr) (xs : List V) (S : List (Nat × Nat)), vs = [v, .ref p] ∧ Nd H v x ∧ H p = some (.lst xs) ∧ All2 (Nd H) xs S ∧ S.length ≤ 400 ∧
  ∀ (H' : Hp), Same H H' → Q (.bl (meets x S)) H'
theorem ok_meets {f : Addr} {fd : FuncData} (F : Fun K "_meets" "_meets" sMeets f fd) (z_any : mg "any" = none) : FnOk P w K mg base CX0 1 f fd ["node", "spans"] spMeetsP := by
  refine F.ok scMeets (fun vs H Q E h => ?_) (fun cdv A outer s H vs Q E hr h => ?_)
  · obtain ⟨_, _, _, _, _, rfl, _⟩ := h
    rfl
  obtain ⟨v, x, p, xs, S, rfl, hv, hp, hxs, hl, q⟩ := h
  have hlen := hxs.len
  obtain ⟨vp, rfl, hvp⟩ := hv
  refine ⟨_, (pss_cons (ps_asg (pv 0) (pg_tup (by rfl) (pgs_cons (pg_name (i := 2) scMeets.nd rfl (Or.inr rfl)) (pgs_cons (pg_name (i := 3) scMeets.nd rfl (Or.inr rfl)) pgs_nil))))
    (pss_one (ps_ret (pe_callB (cr_any rfl) (by rfl) z_any (by decide +kernel) (pa_cons (pe_lc (own := [("first", 4), ("last", 5)]) rfl scMeets.nd (pi_list (pv 1)) (blkOk_by (N := ["node", "spans", "begin", "end", "first", "last"]) (sc := defScope sMeets) (by decide +kernel)) (fun _ _ _ _ _ => (pg_tupB (n := 2) rfl (pgs_cons (pg_name (i := 4) scMeets.nd rfl (Or.inl rfl)) (pgs_cons (pg_name (i := 5) scMeets.nd rfl (Or.inl rfl)) pgs_nil)))) (fun _ _ _ _ _ => pts_nil) (fun _ _ _ _ _ => (pe_and (pe_cmpR op_lt (pv 4) (pv 3) (nomark _)) (pe_one (pe_cmpR op_lt (pv 2) (pv 5) (nomark _)))))) pa_nil))))), ?_⟩
  refine ⟨_, rfl, vp, _, rfl, SqT.of hvp, rfl, _, _, rfl, _, _, rfl, rfl, ?_⟩
  refine ⟨_, rfl, p, rfl, ⟨_, SqL.of hp⟩, fun D nD => ?_⟩
  refine lc_list (K := K) (a := p) (xs := xs) (fun j H' => Same H H' ∧ H' D = some (.lst (((S.take j).map fun s => decide (s.1 < x.2) && decide (x.1 < s.2)).map V.bl))) ⟨same_upd nD, upd_same⟩ (fun j H' _ ⟨s5, _⟩ => SqL.of (s5 _ _ hp)) ?_ ?_
  · rintro j v H1 hj ⟨s1, hD⟩
    obtain ⟨y, hyj, pv, rfl, hpv⟩ := hxs.nth hj
    have jl := (List.getElem?_eq_some_iff.mp hyj).1
    refine ⟨pv, _, rfl, SqT.of (s1 _ _ hpv), rfl, _, _, rfl, _, _, rfl, rfl, rfl, ?_⟩
    refine ⟨_, rfl, _, rfl, _, _, rfl, rfl, decide (y.1 < x.2), ltc y.1 x.2, ?_⟩
    have lt' : ∀ b : Bool, ((((S.take j).map fun s => decide (s.1 < x.2) && decide (x.1 < s.2)).map V.bl) ++ [V.bl b]).length ≤ 401 := fun b => by
      rw [List.length_append, List.length_map, List.length_map, List.length_take, List.length_singleton]; omega
    have key : ∀ (b : Bool), b = (decide (y.1 < x.2) && decide (x.1 < y.2)) → ∃ acc, H1 D = some (.lst acc) ∧ acc.length < sizeLine ∧ Same H (upd H1 D (.lst (acc ++ [V.bl b]))) ∧ (upd H1 D (.lst (acc ++ [V.bl b]))) D = some (.lst (((S.take (j + 1)).map fun s => decide (s.1 < x.2) && decide (x.1 < s.2)).map V.bl)) := fun b hb => by
      refine ⟨_, hD, szlt (by rw [List.length_map, List.length_map, List.length_take]; omega), fun u o k => by rw [upd_ne (ne_of_none k nD)]; exact s1 _ _ k, ?_⟩
      rw [take_more hyj, List.map_append, List.map_append, hb]
      exact upd_same
    cases h : decide (y.1 < x.2) with
    | true =>
      refine ⟨_, rfl, _, rfl, _, _, rfl, rfl, ?_⟩
      dsimp only
      rw [ltc x.1 y.2]
      exact key _ (by rw [h, Bool.true_and])
    | false => exact key false (by rw [h, Bool.false_and])
  · rintro H1 ⟨s1, hD⟩
    rw [hlen, List.take_length] at hD
    refine ⟨D, _, rfl, SqL.of hD, ?_⟩
    rw [any_id]
    exact q H1 s1
/-- the check of papers -/
def spCheckP : Sp := fun vs H Q _ => ∃ (n : Nat) (p1 p2 : Addr) (xs ys : List V) (S W : List (Nat × Nat)), vs = [.int n, .ref p1, .ref p2] ∧ 1 ≤ n ∧ n ≤ 10 ^ 30 ∧ H p1 = some (.lst xs) ∧ All2 (Nd H) xs S ∧ 1 ≤ S.length ∧ S.length ≤ 12 ∧ So n 0 S ∧
  H p2 = some (.lst ys) ∧ All2 (Nd H) ys W ∧ 1 ≤ W.length ∧ W.length ≤ 60 ∧ (∀ x ∈ W, isN n x) ∧ ∀ H', Same H H' → Q .non H'
theorem ok_check_papers {f g1 g2 g3 : Addr} {fd d1 d2 d3 : FuncData} {ds : List Value} (F : Fun K "_check" "_check" sCheck f fd) (GCheckSize : FnOk P w K mg base CX0 3 g1 d1 ["size"] spCheckSize) (ACheckSize : At K mg "check_size" g1 d1 ["size"])
    (GCheckSpans : FnOk P w K mg base CX0 4 g2 d2 ["size", "spans"] spCheckSpans) (ACheckSpans : At K mg "check_spans" g2 d2 ["size", "spans"])
    (GCheckNodes : FnOk P w K mg base CX0 4 g3 d3 ["size", "nodes", "least", "most"] spCheckNodes) (ACheckNodes : AtT K mg "check_nodes" g3 d3 ["size", "nodes", "least", "most"] ds [.int 1, .int 60]) : FnOk P w K mg base CX0 5 f fd ["size", "spans", "nodes"] spCheckP := by
  refine F.ok scCheck (fun vs H Q E h => ?_) (fun cdv A outer s H vs Q E hr h => ?_)
  · obtain ⟨_, _, _, _, _, _, _, rfl, _⟩ := h
    rfl
  obtain ⟨n, p1, p2, xs, ys, S, W, rfl, n1, h30, hp1, hx1, l1, l12, hS, hp2, hx2, w1, w60, hW, q⟩ := h
  refine ⟨_, (pss_cons (ps_expr (pe_call GCheckSize (hr.mono (by decide)) rfl ACheckSize.m ACheckSize.kp ACheckSize.b .nil pass0 (pa_cons (pv 0) pa_nil)))
    (pss_cons (ps_expr (pe_call GCheckSpans (hr.mono (by decide)) rfl ACheckSpans.m ACheckSpans.kp ACheckSpans.b .nil pass0 (pa_cons (pv 0) (pa_cons (pv 1) pa_nil))))
    (pss_one (ps_expr (pe_call GCheckNodes (hr.mono (by decide)) rfl ACheckNodes.m ACheckNodes.kp ACheckNodes.b ACheckNodes.v pass0 (pa_cons (pv 0) (pa_cons (pv 2) pa_nil))))))), ?_⟩
  refine ⟨_, rfl, _, rfl, by omega, by omega, _, rfl, _, rfl, n, p1, xs, S, rfl, hp1, hx1, l1, l12, hS, fun H1 s1 => ?_⟩
  refine ⟨_, rfl, _, rfl, n, p2, ys, W, rfl, n1, h30, s1 _ _ hp2, hx2.mono (fun v x (k : Nd H v x) => k.same s1), w1, w60, hW, fun H2 s2 => ?_⟩
  exact q H2 (s1.trans s2)
end
end LT

namespace LT
open PySem PySem.Spec PyProof.Rows L2
theorem cut_take (xs : List V) (b : Nat) : cutV xs none (some (b : Int)) = xs.take b := by
  unfold cutV
  rw [HT.sIx_nat, HT.sIx_none, List.drop_zero, Nat.sub_zero, ← List.take_eq_take_min]
theorem cut_mid (xs : List V) (a b : Nat) : cutV xs (some (a : Int)) (some (b : Int)) = (xs.drop a).take (b - a) := by
  unfold cutV
  rw [HT.sIx_nat, HT.sIx_nat]
  by_cases h : a ≤ xs.length
  · rw [Nat.min_eq_left h, List.take_eq_take_min (l := xs.drop a) (i := b - a), List.length_drop, List.take_eq_take_min (l := xs.drop a) (i := min b xs.length - a), List.length_drop]
    congr 1
    omega
  · rw [show min a xs.length = xs.length by omega, List.drop_length, List.drop_of_length_le (show xs.length ≤ a by omega), List.take_nil, List.take_nil]
theorem cut_drop (xs : List V) (a : Nat) : cutV xs (some (a : Int)) none = xs.drop a := by
  unfold cutV
  rw [HT.sIx_nat, HT.sIx_none]
  by_cases h : a ≤ xs.length
  · rw [Nat.min_eq_left h]
    exact List.take_of_length_le (by rw [List.length_drop]; exact Nat.le_refl _)
  · rw [Nat.min_eq_right (by omega), List.drop_length, List.drop_of_length_le (by omega), List.take_nil]
theorem All2.takeN {α : Type} {R : V → α → Prop} : ∀ {vs : List V} {xs : List α}, All2 R vs xs → ∀ k, All2 R (vs.take k) (xs.take k)
  | _, _, .nil, k => by rw [List.take_nil, List.take_nil]; exact .nil
  | _, _, .cons h t, 0 => .nil
  | _, _, .cons h t, k + 1 => .cons h (t.takeN k)
theorem All2.dropN {α : Type} {R : V → α → Prop} : ∀ {vs : List V} {xs : List α}, All2 R vs xs → ∀ k, All2 R (vs.drop k) (xs.drop k)
  | _, _, .nil, k => by rw [List.drop_nil, List.drop_nil]; exact .nil
  | _, _, .cons h t, 0 => .cons h t
  | _, _, .cons h t, k + 1 => t.dropN k
theorem So.wn {n : Nat} {S : List (Nat × Nat)} (h : So n 0 S) : Wn n S := fun x hx => (h.mem x hx).2
theorem nodes_wn {n : Nat} {W : List (Nat × Nat)} (h : ∀ x ∈ W, isN n x) : Wn n W := fun x hx => by
  have := isN_tree (n := n) (b := x.1) (e := x.2) (h x hx)
  exact ⟨this.1, this.2.1⟩
/-- the index of the first node with an entry of spans -/
def fw (S W : List (Nat × Nat)) : Option Nat := (List.range W.length).find? fun i => meets (W.getD i (0, 0)) S
def fwV (S W : List (Nat × Nat)) : V := match fw S W with
  | some i => .int (i : Int)
  | none => .non
/-- the indexes of needless nodes -/
def ndl (W : List (Nat × Nat)) (k : Nat) : List Nat := (List.range k).filter fun i => lies (W.getD i (0, 0)) (jn (srt (W.take i ++ W.drop (i + 1))))
theorem ndl_more (W : List (Nat × Nat)) (k : Nat) : ndl W (k + 1) = ndl W k ++ (if lies (W.getD k (0, 0)) (jn (srt (W.take k ++ W.drop (k + 1)))) then [k] else []) := by
  unfold ndl
  rw [List.range_succ, List.filter_append]
  congr 1
  by_cases h : lies (W.getD k (0, 0)) (jn (srt (W.take k ++ W.drop (k + 1)))) = true
  · rw [if_pos h]
    exact List.filter_cons_of_pos (l := []) h
  · rw [if_neg h]
    exact List.filter_cons_of_neg (l := []) h
theorem ndl_len (W : List (Nat × Nat)) (k : Nat) : (ndl W k).length ≤ k := by
  have := List.length_filter_le (fun i => lies (W.getD i (0, 0)) (jn (srt (W.take i ++ W.drop (i + 1))))) (List.range k)
  rw [List.length_range] at this
  exact this
theorem getD_at {W : List (Nat × Nat)} {i : Nat} {x : Nat × Nat} (h : W[i]? = some x) : W.getD i (0, 0) = x := by
  rw [List.getD_eq_getElem?_getD, h]
  rfl
section
variable {P : Program} {w : World} {K : PySem.W.Frag} {mg : Str → Option Value} {base : Heap}
def Papers (n : Nat) (p1 p2 : Addr) (xs ys : List V) (S W : List (Nat × Nat)) (H : Hp) : Prop := 1 ≤ n ∧ n ≤ 10 ^ 30 ∧ H p1 = some (.lst xs) ∧ All2 (Nd H) xs S ∧ 1 ≤ S.length ∧ S.length ≤ 12 ∧ So n 0 S ∧
  H p2 = some (.lst ys) ∧ All2 (Nd H) ys W ∧ 1 ≤ W.length ∧ W.length ≤ 60 ∧ (∀ x ∈ W, isN n x)
theorem Papers.same {n : Nat} {p1 p2 : Addr} {xs ys : List V} {S W : List (Nat × Nat)} {H H' : Hp} (h : Papers n p1 p2 xs ys S W H) (s : Same H H') : Papers n p1 p2 xs ys S W H' := by
  obtain ⟨a, b, c, d, e, f, g, i, j, k, l, m⟩ := h
  exact ⟨a, b, s _ _ c, d.mono (fun v x (k : Nd H v x) => k.same s), e, f, g, s _ _ i, j.mono (fun v x (k : Nd H v x) => k.same s), k, l, m⟩
def spLack : Sp := fun vs H Q _ => ∃ (n : Nat) (p1 p2 : Addr) (xs ys : List V) (S W : List (Nat × Nat)), vs = [.int n, .ref p1, .ref p2] ∧ Papers n p1 p2 xs ys S W H ∧
  ∀ (H' : Hp) (r : Addr) (zs : List V), Same H H' → H r = none → H' r = some (.lst zs) → All2 (Nd H') zs (nb n 0 (srt (S ++ W))) → Q (.ref r) H'
theorem ok_lacking {f g1 g2 : Addr} {fd d1 d2 : FuncData} (F : Fun K "lacking" "lacking" sLacking f fd) (GCheck : FnOk P w K mg base CX0 5 g1 d1 ["size", "spans", "nodes"] spCheckP) (ACheck : At K mg "_check" g1 d1 ["size", "spans", "nodes"])
    (GNodesBeside : FnOk P w K mg base CX0 5 g2 d2 ["size", "stretches"] spBeside) (ANodesBeside : At K mg "nodes_beside" g2 d2 ["size", "stretches"]) : FnOk P w K mg base CX0 6 f fd ["size", "spans", "nodes"] spLack := by
  refine F.ok scLacking (fun vs H Q E h => ?_) (fun cdv A outer s H vs Q E hr h => ?_)
  · obtain ⟨_, _, _, _, _, _, _, rfl, _⟩ := h
    rfl
  obtain ⟨n, p1, p2, xs, ys, S, W, rfl, hP, q⟩ := h
  refine ⟨_, (pss_cons (ps_expr (pe_call GCheck (hr.mono (by decide)) rfl ACheck.m ACheck.kp ACheck.b .nil pass0 (pa_cons (pv 0) (pa_cons (pv 1) (pa_cons (pv 2) pa_nil)))))
    (pss_one (ps_ret (pe_call GNodesBeside (hr.mono (by decide)) rfl ANodesBeside.m ANodesBeside.kp ANodesBeside.b .nil pass0 (pa_cons (pv 0) (pa_cons (pe_op op_cat (pv 1) (pv 2)) pa_nil)))))), ?_⟩
  obtain ⟨n1, h30, hp1, hx1, l1, l12, hS, hp2, hx2, w1, w60, hW⟩ := id hP
  refine ⟨_, rfl, _, rfl, _, rfl, n, p1, p2, xs, ys, S, W, rfl, n1, h30, hp1, hx1, l1, l12, hS, hp2, hx2, w1, w60, hW, fun H1 s1 => ?_⟩
  obtain ⟨_, _, kp1, kx1, _, _, _, kp2, kx2, _⟩ := hP.same s1
  refine ⟨_, rfl, _, rfl, _, rfl, p1, p2, _, _, rfl, rfl, kp1, kp2, szle (by rw [kx1.len, kx2.len]; omega), fun r nr => ?_⟩
  have w2 := same_upd (o := .lst (xs ++ ys)) nr
  refine ⟨n, r, _, S ++ W, rfl, n1, h30, upd_same, (kx1.app kx2).mono (fun v x (k : Nd H1 v x) => k.same w2), by rw [List.length_append]; omega, fun x hx => ?_, fun H3 r3 zs s3 nr3 hr3 hz => ?_⟩
  · have := (hS.wn.app (nodes_wn hW)) x hx
    omega
  · exact q H3 r3 zs (s1.trans (w2.trans s3)) ((s1.trans w2).free nr3) hr3 hz
def spFirstW : Sp := fun vs H Q _ => ∃ (n : Nat) (p1 p2 : Addr) (xs ys : List V) (S W : List (Nat × Nat)), vs = [.int n, .ref p1, .ref p2] ∧ Papers n p1 p2 xs ys S W H ∧
  ∀ (H' : Hp), Same H H' → Q (fwV S W) H'
theorem ok_first_wrong {f g1 g2 : Addr} {fd d1 d2 : FuncData} (F : Fun K "first_wrong" "first_wrong" sFirstWrong f fd) (GCheck : FnOk P w K mg base CX0 5 g1 d1 ["size", "spans", "nodes"] spCheckP) (ACheck : At K mg "_check" g1 d1 ["size", "spans", "nodes"])
    (GMeets : FnOk P w K mg base CX0 1 g2 d2 ["node", "spans"] spMeetsP) (AMeets : At K mg "_meets" g2 d2 ["node", "spans"]) (z_enumerate : mg "enumerate" = none) : FnOk P w K mg base CX0 6 f fd ["size", "spans", "nodes"] spFirstW := by
  refine F.ok scFirstWrong (fun vs H Q E h => ?_) (fun cdv A outer s H vs Q E hr h => ?_)
  · obtain ⟨_, _, _, _, _, _, _, rfl, _⟩ := h
    rfl
  obtain ⟨n, p1, p2, xs, ys, S, W, rfl, hP, q⟩ := h
  refine ⟨_, (pss_cons (ps_expr (pe_call GCheck (hr.mono (by decide)) rfl ACheck.m ACheck.kp ACheck.b .nil pass0 (pa_cons (pv 0) (pa_cons (pv 1) (pa_cons (pv 2) pa_nil)))))
    (pss_cons (ps_for PassesOwn.never rfl (pi_enum (by rfl) z_enumerate (pa_cons (pv 2) pa_nil)) (pg_tup (by rfl) (pgs_cons (pg_name (i := 3) scFirstWrong.nd rfl (Or.inl rfl)) (pgs_cons (pg_name (i := 4) scFirstWrong.nd rfl (Or.inl rfl)) pgs_nil)))
    (pss_one (ps_if (pt_val (pe_call GMeets (hr.mono (by decide)) rfl AMeets.m AMeets.kp AMeets.b .nil pass0 (pa_cons (pv 4) (pa_cons (pv 1) pa_nil))))
    (pss_one (ps_ret (pv 3)))
    pss_nil)))
    (pss_one (ps_ret pe_non)))), ?_⟩
  obtain ⟨n1, h30, hp1, hx1, l1, l12, hS, hp2, hx2, w1, w60, hW⟩ := id hP
  refine ⟨_, rfl, _, rfl, _, rfl, n, p1, p2, xs, ys, S, W, rfl, n1, h30, hp1, hx1, l1, l12, hS, hp2, hx2, w1, w60, hW, fun H1 s1 => ?_⟩
  obtain ⟨_, _, kp1, kx1, _, _, _, kp2, kx2, _⟩ := hP.same s1
  refine ⟨_, rfl, p2, ys, rfl, SqL.of kp2, ?_⟩
  refine for_enum (a := p2) (xs := ys) (fun i σ H' => ∃ (v4 v5 : Option V), σ = [some (.int (n : Int)), some (.ref p1), some (.ref p2), v4, v5] ∧ Same H1 H' ∧ ∀ j, j < i → meets (W.getD j (0, 0)) S = false)
    ⟨none, none, rfl, Same.refl _, fun j h => by omega⟩ (fun i σ H' _ ⟨_, _, _, sm, _⟩ => SqL.of (sm _ _ kp2)) ?_ ?_
  · rintro i x σ H2 T hi ⟨v4, v5, rfl, sm, hno⟩ nT
    obtain ⟨y, hyi, hy⟩ := kx2.nth hi
    have sT := same_upd (o := .tup [.int ((i : Nat) : Int), x]) nT
    have s12 := sm.trans sT
    refine ⟨T, _, rfl, SqT.of upd_same, rfl, _, _, rfl, _, _, rfl, rfl, ?_⟩
    refine ⟨_, rfl, _, rfl, x, y, p1, xs, S, rfl, hy.same s12, s12 _ _ kp1, kx1.mono (fun v x (k : Nd H1 v x) => k.same s12), by omega, fun H3 s3 => ?_⟩
    have il : i < W.length := (List.getElem?_eq_some_iff.mp hyi).1
    refine ⟨_, rfl, ite2 (fun c => ?_) (fun c => ?_)⟩
    · refine ⟨_, rfl, ?_⟩
      have e : fwV S W = .int (i : Int) := by
        have : fw S W = some i := by
          unfold fw
          rw [List.find?_range_eq_some]
          refine ⟨by rw [getD_at hyi]; exact c, by rw [List.mem_range]; exact il, fun j hj => by rw [hno j hj]; rfl⟩
        unfold fwV
        rw [this]
      rw [← e]
      exact q H3 (s1.trans (s12.trans s3))
    · refine ⟨_, _, rfl, s12.trans s3, fun j hj => ?_⟩
      by_cases z : j = i
      · subst z
        rw [getD_at hyi]
        exact Bool.eq_false_iff.mpr c
      · exact hno j (by omega)
  · rintro σ H2 ⟨v4, v5, rfl, sm, hno⟩
    have e : fwV S W = .non := by
      have : fw S W = none := by
        unfold fw
        rw [List.find?_eq_none]
        intro j hj
        rw [hno j (by rw [kx2.len]; exact List.mem_range.mp hj)]
        exact Bool.false_ne_true
      unfold fwV
      rw [this]
    have := q H2 (s1.trans sm)
    rw [e] at this
    exact this
end
end LT

namespace LT
open PySem PySem.Spec PyProof.Rows L2
section
variable {P : Program} {w : World} {K : PySem.W.Frag} {mg : Str → Option Value} {base : Heap}
def spServes : Sp := fun vs H Q _ => ∃ (n : Nat) (p1 p2 : Addr) (xs ys : List V) (S W : List (Nat × Nat)), vs = [.int n, .ref p1, .ref p2] ∧ Papers n p1 p2 xs ys S W H ∧
  ∀ (H' : Hp), Same H H' → Q (.bl (decide (fw S W = none) && decide (jn (srt (S ++ W)) = [(0, n)]))) H'
theorem fwV_non (S W : List (Nat × Nat)) : V.bl (decide (fwV S W = V.non)) = V.bl (decide (fw S W = none)) := by
  unfold fwV
  cases fw S W with
  | none => rfl
  | some i => rfl
theorem ok_serves {f g1 g2 : Addr} {fd d1 d2 : FuncData} (F : Fun K "serves" "serves" sServes f fd) (GFirstWrong : FnOk P w K mg base CX0 6 g1 d1 ["size", "spans", "nodes"] spFirstW) (AFirstWrong : At K mg "first_wrong" g1 d1 ["size", "spans", "nodes"])
    (GJoined : FnOk P w K mg base CX0 1 g2 d2 ["stretches"] spJoined) (AJoined : At K mg "joined" g2 d2 ["stretches"]) : FnOk P w K mg base CX0 7 f fd ["size", "spans", "nodes"] spServes := by
  refine F.ok scServes (fun vs H Q E h => ?_) (fun cdv A outer s H vs Q E hr h => ?_)
  · obtain ⟨_, _, _, _, _, _, _, rfl, _⟩ := h
    rfl
  obtain ⟨n, p1, p2, xs, ys, S, W, rfl, hP, q⟩ := h
  refine ⟨_, (pss_one (ps_ret (pe_and (pe_cmpR op_isN (pe_call GFirstWrong (hr.mono (by decide)) rfl AFirstWrong.m AFirstWrong.kp AFirstWrong.b .nil pass0 (pa_cons (pv 0) (pa_cons (pv 1) (pa_cons (pv 2) pa_nil)))) pe_non (nomark _)) (pe_one (pe_cmpR (op_eqD hr.units) (pe_call GJoined (hr.mono (by decide)) rfl AJoined.m AJoined.kp AJoined.b .nil pass0 (pa_cons (pe_op op_cat (pv 1) (pv 2)) pa_nil)) (pe_lst (pa_cons (pe_tup (pa_cons pe_int (pa_cons (pv 0) pa_nil))) pa_nil)) (nomark _)))))), ?_⟩
  refine ⟨_, rfl, _, rfl, _, rfl, n, p1, p2, xs, ys, S, W, rfl, hP, fun H1 s1 => ?_⟩
  refine ⟨rfl, decide (fw S W = none), fwV_non S W, ?_⟩
  cases h : decide (fw S W = none) with
  | false =>
    have := q H1 s1
    rw [h, Bool.false_and] at this
    exact this
  | true =>
    obtain ⟨n1, h30, kp1, kx1, _, l12, hS, kp2, kx2, _, w60, hW⟩ := hP.same s1
    refine ⟨_, rfl, _, rfl, p1, p2, _, _, rfl, rfl, kp1, kp2, szle (by rw [kx1.len, kx2.len]; omega), fun r nr => ?_⟩
    have w2 := same_upd (o := .lst (xs ++ ys)) nr
    refine ⟨r, xs ++ ys, S ++ W, rfl, upd_same, (kx1.app kx2).mono (fun v x (k : Nd H1 v x) => k.same w2), by rw [List.length_append]; omega, fun H3 r3 zs s3 nr3 hr3 hz => ?_⟩
    refine ⟨_, rfl, (by show 2 ≤ sizeLine; decide), fun t nt => ⟨(by show 1 ≤ sizeLine; decide), fun l nl => ?_⟩⟩
    have w4 := same_upd (o := .tup [.int 0, .int (n : Int)]) nt
    have w5 := same_upd (o := .lst [.ref t]) nl
    refine ⟨_, _, lst_dp (w5 _ _ (w4 _ _ hr3)) (hz.mono fun v x (k : Nd H3 v x) => (k.same w4).same w5), lst_dp (l := [(0, n)]) upd_same (.cons ⟨t, rfl, w5 _ _ upd_same⟩ .nil), nds_shaped _, nds_shaped _, ?_⟩
    rw [nds_eqv]
    have := q _ ((s1.trans w2).trans (s3.trans (w4.trans w5)))
    rw [h, Bool.true_and] at this
    exact this
def spShows : Sp := fun vs H Q _ => ∃ (n : Nat) (p1 p2 : Addr) (xs ys : List V) (S W : List (Nat × Nat)), vs = [.int n, .ref p1, .ref p2] ∧ 1 ≤ n ∧ n ≤ 10 ^ 30 ∧ H p1 = some (.lst xs) ∧ All2 (Nd H) xs S ∧ 1 ≤ S.length ∧ S.length ≤ 12 ∧ So n 0 S ∧
  H p2 = some (.lst ys) ∧ All2 (Nd H) ys W ∧ W.length ≤ 90000 ∧ (∀ x ∈ W, isN n x) ∧ ∀ (H' : Hp), Same H H' → Q (.bl (decide (srt W = nl n 0 S))) H'
theorem ok_shows {f g1 g2 : Addr} {fd d1 d2 : FuncData} (F : Fun K "shows_needed" "shows_needed" sShowsNeeded f fd) (GNeeded : FnOk P w K mg base CX0 6 g1 d1 ["size", "spans"] spNeeded) (ANeeded : At K mg "needed" g1 d1 ["size", "spans"])
    (GIsTreeNode : FnOk P w K mg base CX0 3 g2 d2 ["size", "value"] (spTreeV K)) (AIsTreeNode : At K mg "is_tree_node" g2 d2 ["size", "value"]) (z_isinstance : mg "isinstance" = none) (z_list : mg "list" = none) (z_all : mg "all" = none) (z_sorted : mg "sorted" = none) : FnOk P w K mg base CX0 7 f fd ["size", "spans", "value"] spShows := by
  refine F.ok scShowsNeeded (fun vs H Q E h => ?_) (fun cdv A outer s H vs Q E hr h => ?_)
  · obtain ⟨_, _, _, _, _, _, _, rfl, _⟩ := h
    rfl
  obtain ⟨n, p1, p2, xs, ys, S, W, rfl, n1, h30, hp1, hx1, l1, l12, hS, hp2, hx2, w9, hW, q⟩ := h
  refine ⟨_, (pss_cons (ps_set (i := 3) scShowsNeeded.nd rfl (Or.inl rfl) (pe_call GNeeded (hr.mono (by decide)) rfl ANeeded.m ANeeded.kp ANeeded.b .nil pass0 (pa_cons (pv 0) (pa_cons (pv 1) pa_nil))))
    (pss_cons (ps_if (PW.pt (pw_or (pt_not (pt_val (pe_callB call_isi (by rfl) z_isinstance (by decide +kernel) (pa_cons (pv 2) (pa_cons (pe_bltn (v := .ty "list") (u := .type "list") (by rfl) z_list (by decide +kernel) rfl) pa_nil))))) (pw_or1 (pt_not (pt_val (pe_callB (cr_all rfl) (by rfl) z_all (by decide +kernel) (pa_cons (pe_lc (own := [("item", 4)]) rfl scShowsNeeded.nd (pi_list (pv 2)) (blkOk_by (N := ["size", "spans", "value", "wanted", "item"]) (sc := defScope sShowsNeeded) (by decide +kernel)) (fun _ _ _ _ _ => (pg_name (i := 4) scShowsNeeded.nd rfl (Or.inl rfl))) (fun _ _ _ _ _ => pts_nil) (fun _ _ _ _ _ => (pe_call GIsTreeNode (hr.mono (by decide)) rfl AIsTreeNode.m AIsTreeNode.kp AIsTreeNode.b .nil pass0 (pa_cons (pv 0) (pa_cons (pv 4) pa_nil))))) pa_nil)))))))
    (pss_one (ps_ret pe_bl))
    pss_nil)
    (pss_one (ps_ret (pe_cmpR (op_eqD hr.units) (pe_callB cr_sortedPO (by rfl) z_sorted (by decide +kernel) (pa_cons (pv 2) pa_nil)) (pv 3) (nomark _)))))), ?_⟩
  refine ⟨_, rfl, _, rfl, n, p1, xs, S, rfl, n1, h30, hp1, hx1, l1, l12, hS, fun H1 r zs s1 nr hr1 hz => ?_⟩
  have hp2' := s1 _ _ hp2
  have hx2' := hx2.mono fun v x (k : Nd H v x) => k.same s1
  have yl := hx2.len
  refine ⟨_, rfl, _, _, _, _, true, rfl, .ty "list", .base (.lst hp2'), kit_ty (by decide +kernel), true, rfl, ?_⟩
  refine ⟨_, rfl, p2, rfl, ⟨_, SqL.of hp2'⟩, fun D nD => ?_⟩
  refine lc_list (K := K) (a := p2) (xs := ys) (fun j H' => Same H1 H' ∧ H' D = some (.lst (((W.take j).map fun _ => true).map V.bl))) ⟨same_upd nD, upd_same⟩ (fun j H' _ ⟨s5, _⟩ => SqL.of (s5 _ _ hp2')) ?_ ?_
  · rintro j v H2 hj ⟨s2, hD⟩
    obtain ⟨y, hyj, hy⟩ := hx2'.nth hj
    have jl := (List.getElem?_eq_some_iff.mp hyj).1
    refine ⟨rfl, ?_⟩
    have k100 : (10 : Nat) ^ 30 ≤ 2 ^ 100 := by decide
    obtain ⟨yp, rfl, hyp⟩ := hy.same s2
    refine ⟨_, rfl, _, rfl, n, _, true, rfl, n1, by omega, ?_, ?_⟩
    · have e : tnV n (.int (y.1 : Int)) (.int (y.2 : Int)) = true := by
        rw [tn_nat]
        exact decide_eq_true (hW y (List.mem_of_getElem? hyj))
      exact e ▸ Ask.pair (n := n) hyp (.int _) (.int _)
    refine ⟨_, hD, szlt (by rw [List.length_map, List.length_map, List.length_take]; omega), fun u o k => by rw [upd_ne (ne_of_none k nD)]; exact s2 _ _ k, ?_⟩
    rw [take_more hyj, List.map_append, List.map_append]
    exact upd_same
  rintro H2 ⟨s2, hD⟩
  rw [yl, List.take_length] at hD
  have ht : ((W.map fun _ => true).all id) = true := by
    rw [all_id]
    exact List.all_eq_true.mpr fun _ _ => rfl
  refine ⟨D, _, rfl, SqL.of hD, true, congrArg V.bl ht, ?_⟩
  have hp3 := s2 _ _ hp2'
  have hx3 := hx2'.mono fun v x (k : Nd H1 v x) => k.same s2
  refine ⟨_, rfl, p2, ys, kOf H2, rfl, SqL.of hp3, fun x hm => ?_, fun zs' so hs1 hs2 nso => ?_⟩
  · obtain ⟨y, _, pa, rfl, hpa⟩ := hx3.mem hm
    exact ⟨pa, rfl, by rw [hpa]; simp only [kOf, hpa]⟩
  have s3 := same_upd (o := .lst zs') nso
  have hy0 := (sorted_srt hx3 hs1 hs2.perm).mono (fun v x (k : Nd H2 v x) => k.same s3)
  refine ⟨_, rfl, _, _, lst_dp upd_same hy0, lst_dp (s3 _ _ (s2 _ _ hr1)) (hz.mono fun v x (k : Nd H1 v x) => (k.same s2).same s3), nds_shaped _, nds_shaped _, ?_⟩
  rw [nds_eqv]
  exact q _ ((s1.trans s2).trans s3)
end
end LT

namespace LT
open PySem PySem.Spec PyProof.Rows L2
theorem up_of_pair : ∀ (l : List (Nat × Nat)) (lo : Nat), l.Pairwise (fun x y => x.2 ≤ y.1) → (∀ x ∈ l, lo ≤ x.1 ∧ x.1 < x.2) → Up lo l
  | [], _, _, _ => trivial
  | x :: l, lo, h, k => by
    obtain ⟨a, b⟩ := List.pairwise_cons.mp h
    have kx := k x List.mem_cons_self
    exact ⟨kx.1, kx.2, up_of_pair l x.2 b fun y hy => ⟨a y hy, (k y (List.mem_cons_of_mem _ hy)).2⟩⟩
theorem up_of {l : List (Nat × Nat)} (h : l.Pairwise (fun x y => leN x y = true)) (nd' : l.Nodup) (k : ∀ x ∈ l, x.1 < x.2) (ap : ∀ x ∈ l, ∀ y ∈ l, x ≠ y → x.2 ≤ y.1 ∨ y.2 ≤ x.1) : Up 0 l := by
  refine up_of_pair l 0 ?_ fun x hx => ⟨Nat.zero_le _, k x hx⟩
  have h2 := h.and nd'
  refine List.Pairwise.imp_of_mem (fun {x y} hx hy c => ?_) h2
  have := leN_iff.mp c.1
  have := k x hx
  have := k y hy
  rcases ap x hx y hy c.2 with e | e
  · exact e
  · omega
/-- the joined stretches stand apart -/
theorem jgo_sep : ∀ (l : List (Nat × Nat)) (c : Nat × Nat), c.1 < c.2 → Beg l → (∀ y ∈ l, c.1 ≤ y.1 ∧ y.1 < y.2) → (jgo c l).Pairwise (fun x y => x.2 < y.1) ∧ ∀ y ∈ jgo c l, c.1 ≤ y.1 ∧ y.1 < y.2
  | [], c, h, _, _ => ⟨List.pairwise_singleton _ _, fun y hy => by rw [List.mem_singleton.mp hy]; exact ⟨Nat.le_refl _, h⟩⟩
  | x :: l, c, h, hb, k => by
    obtain ⟨b1, b2⟩ := List.pairwise_cons.mp hb
    have kx := k x List.mem_cons_self
    unfold jgo
    by_cases z : x.1 ≤ c.2
    · rw [if_pos z]
      exact jgo_sep l (c.1, max c.2 x.2) (by show c.1 < max c.2 x.2; omega) b2 fun y hy => k y (List.mem_cons_of_mem _ hy)
    · rw [if_neg z]
      obtain ⟨p, q⟩ := jgo_sep l x kx.2 b2 fun y hy => ⟨b1 y hy, (k y (List.mem_cons_of_mem _ hy)).2⟩
      refine ⟨List.pairwise_cons.mpr ⟨fun y hy => by have := (q y hy).1; omega, p⟩, fun y hy => ?_⟩
      rcases List.mem_cons.mp hy with rfl | hy
      · exact ⟨Nat.le_refl _, h⟩
      · have := q y hy
        omega
theorem jn_sep {n : Nat} {W : List (Nat × Nat)} (h : Wn n W) : (jn (srt W)).Pairwise (fun x y => x.2 < y.1) := by
  have hb := srt_beg W
  have hw := h.srt
  cases e : srt W with
  | nil => exact .nil
  | cons x l =>
    rw [e] at hb hw
    obtain ⟨b1, b2⟩ := List.pairwise_cons.mp hb
    exact (jgo_sep l x (hw x List.mem_cons_self).1 b2 fun y hy => ⟨b1 y hy, (hw y (List.mem_cons_of_mem _ hy)).1⟩).1
theorem jgo_has {i : Nat} : ∀ (l : List (Nat × Nat)) (c : Nat × Nat), (∀ y ∈ l, c.1 ≤ y.1) → Beg l → (c.1 ≤ i ∧ i < c.2) ∨ cov l i → cov (jgo c l) i
  | [], c, _, _, h => by
    rcases h with h | ⟨s, hs, _⟩
    · exact ⟨c, List.mem_singleton_self _, h⟩
    · cases hs
  | x :: l, c, k, hb, h => by
    obtain ⟨b1, b2⟩ := List.pairwise_cons.mp hb
    have kx := k x List.mem_cons_self
    unfold jgo
    by_cases z : x.1 ≤ c.2
    · rw [if_pos z]
      refine jgo_has l (c.1, max c.2 x.2) (fun y hy => k y (List.mem_cons_of_mem _ hy)) b2 ?_
      rcases h with h | ⟨s, hs, h1, h2⟩
      · exact .inl ⟨h.1, by show i < max c.2 x.2; omega⟩
      · rcases List.mem_cons.mp hs with rfl | hs
        · exact .inl ⟨by show c.1 ≤ i; omega, by show i < max c.2 s.2; omega⟩
        · exact .inr ⟨s, hs, h1, h2⟩
    · rw [if_neg z]
      have ih := jgo_has (i := i) l x b1 b2
      rcases h with h | ⟨s, hs, h1, h2⟩
      · exact ⟨c, List.mem_cons_self, h⟩
      · have : cov (jgo x l) i := by
          rcases List.mem_cons.mp hs with rfl | hs
          · exact ih (.inl ⟨h1, h2⟩)
          · exact ih (.inr ⟨s, hs, h1, h2⟩)
        obtain ⟨t, ht, r⟩ := this
        exact ⟨t, List.mem_cons_of_mem _ ht, r⟩
theorem jn_has {i : Nat} {W : List (Nat × Nat)} (h : cov W i) : cov (jn (srt W)) i := by
  have hb := srt_beg W
  obtain ⟨s, hs, k⟩ := h
  have hs := srt_mem.mpr hs
  cases e : srt W with
  | nil => rw [e] at hs; cases hs
  | cons x l =>
    rw [e] at hb hs
    obtain ⟨b1, b2⟩ := List.pairwise_cons.mp hb
    refine jgo_has l x b1 b2 ?_
    rcases List.mem_cons.mp hs with rfl | hs
    · exact .inl k
    · exact .inr ⟨s, hs, k⟩
/-- what is covered without a gap lies in one stretch -/
theorem in_one {J : List (Nat × Nat)} (h : J.Pairwise (fun x y => x.2 < y.1)) {a b : Nat} (ab : a < b) (hc : ∀ i, a ≤ i → i < b → cov J i) : ∃ s ∈ J, s.1 ≤ a ∧ b ≤ s.2 := by
  obtain ⟨s, hs, s1, s2⟩ := hc a (Nat.le_refl _) ab
  refine ⟨s, hs, s1, ?_⟩
  by_cases z : b ≤ s.2
  · exact z
  exfalso
  obtain ⟨t, ht, t1, t2⟩ := hc s.2 (by omega) (by omega)
  have key : ∀ {l : List (Nat × Nat)}, l.Pairwise (fun x y => x.2 < y.1) → s ∈ l → t ∈ l → s = t ∨ s.2 < t.1 ∨ t.2 < s.1 := by
    intro l
    induction l with
    | nil => intro _ h; cases h
    | cons x l ih =>
      intro hp h1 h2
      obtain ⟨p1, p2⟩ := List.pairwise_cons.mp hp
      rcases List.mem_cons.mp h1 with e1 | h1
      · rcases List.mem_cons.mp h2 with e2 | h2
        · exact .inl (by rw [e1, e2])
        · exact .inr (.inl (by rw [e1]; exact p1 t h2))
      · rcases List.mem_cons.mp h2 with e2 | h2
        · exact .inr (.inr (by rw [e2]; exact p1 s h1))
        · exact ih p2 h1 h2
  rcases key h hs ht with e | e | e
  · rw [← e] at t2
    omega
  · omega
  · omega
theorem lies_cov {n : Nat} {W : List (Nat × Nat)} (hW : Wn n W) {x : Nat × Nat} (hx : x.1 < x.2) (h : ∀ i, x.1 ≤ i → i < x.2 → cov W i) : lies x (jn (srt W)) = true := by
  obtain ⟨s, hs, a, b⟩ := in_one (jn_sep hW) hx fun i h1 h2 => jn_has (h i h1 h2)
  exact List.any_eq_true.mpr ⟨s, hs, by rw [decide_eq_true a, decide_eq_true b]; rfl⟩
end LT

namespace LT
open PySem PySem.Spec PyProof.Rows L2
theorem Up.filter {p : Nat × Nat → Bool} : ∀ {lo : Nat} {l : List (Nat × Nat)}, Up lo l → Up lo (l.filter p)
  | lo, [], _ => trivial
  | lo, x :: l, ⟨h1, h2, h3⟩ => by
    cases h : p x with
    | true =>
      rw [List.filter_cons_of_pos h]
      exact ⟨h1, h2, h3.filter⟩
    | false =>
      rw [List.filter_cons_of_neg (by rw [h]; decide)]
      exact h3.filter.mono (by omega)
theorem Up.pair : ∀ {lo : Nat} {l : List (Nat × Nat)}, Up lo l → l.Pairwise (fun x y => x.2 ≤ y.1)
  | lo, [], _ => .nil
  | lo, x :: l, ⟨h1, h2, h3⟩ => .cons (fun y hy => (h3.mem y hy).1) h3.pair
theorem Up.srt {lo : Nat} {l : List (Nat × Nat)} (h : Up lo l) : srt l = l := by
  refine srt_id ?_
  have p := h.pair
  have m := h.mem
  clear h
  induction l with
  | nil => exact .nil
  | cons x l ih =>
    obtain ⟨a, b⟩ := List.pairwise_cons.mp p
    refine .cons (fun y hy => leN_iff.mpr ?_) (ih b fun z hz => m z (List.mem_cons_of_mem _ hz))
    have := a y hy
    have := (m x List.mem_cons_self).2
    have := (m y (List.mem_cons_of_mem _ hy)).2
    omega
/-- nothing is needless in a list whose items share no entry -/
theorem ndl_none {W : List (Nat × Nat)} (h : Up 0 W) (k : Nat) (hk : k ≤ W.length) : ndl W k = [] := by
  unfold ndl
  refine List.filter_eq_nil_iff.mpr fun i hi => ?_
  have il : i < W.length := Nat.lt_of_lt_of_le (List.mem_range.mp hi) hk
  have e := List.getElem?_eq_getElem il
  rw [getD_at e]
  intro k
  obtain ⟨s, hs, k2⟩ := List.any_eq_true.mp k
  rw [Bool.and_eq_true, decide_eq_true_eq, decide_eq_true_eq] at k2
  have x12 := (h.mem _ (List.getElem_mem il)).2
  obtain ⟨y, hy, y1, y2⟩ := jn_in (i := (W[i]).1) hs k2.1 (by omega)
  have hy := srt_mem.mp hy
  have p := h.pair
  have split : W = W.take i ++ W[i] :: W.drop (i + 1) := by
    rw [← List.drop_eq_getElem_cons il, List.take_append_drop]
  rw [split] at p
  obtain ⟨_, p2, p3⟩ := List.pairwise_append.mp p
  obtain ⟨p4, _⟩ := List.pairwise_cons.mp p2
  rcases List.mem_append.mp hy with hy | hy
  · have := p3 y hy (W[i]) List.mem_cons_self
    omega
  · have := p4 y hy
    omega
end LT

namespace LT
open PySem PySem.Spec PyProof.Rows L2
/-- a node with the one above -/
abbrev Tw := (Nat × Nat) × Option (Nat × Nat)
def twF : Nat → Nat → Nat → Option (Nat × Nat) → List Tw
  | 0, _, _, _ => []
  | k + 1, b, m, a => ((b, b + m), a) :: (if m ≤ 1 then [] else twF k (b + gp m) (m - gp m) (some (b, b + m)) ++ twF k b (gp m) (some (b, b + m)))
theorem twF_one {k b m : Nat} {a : Option (Nat × Nat)} (h : m ≤ 1) : twF (k + 1) b m a = [((b, b + m), a)] := by
  show _ :: (if m ≤ 1 then [] else _) = _
  rw [if_pos h]
theorem twF_two {k b m : Nat} {a : Option (Nat × Nat)} (h : ¬ m ≤ 1) : twF (k + 1) b m a = ((b, b + m), a) :: (twF k (b + gp m) (m - gp m) (some (b, b + m)) ++ twF k b (gp m) (some (b, b + m))) := by
  show _ :: (if m ≤ 1 then [] else _) = _
  rw [if_neg h]
theorem twF_fuel : ∀ (i b m : Nat) (a : Option (Nat × Nat)), 1 ≤ m → 2 * m ≤ 2 ^ i → twF (i + 1) b m a = twF i b m a
  | 0, _, m, _, h1, h2 => by simp at h2; omega
  | i + 1, b, m, a, h1, h2 => by
    by_cases c : m ≤ 1
    · rw [twF_one c, twF_one c]
    · have g1 := gp_lt (m := m) (by omega)
      have g3 := gp_pos m
      obtain ⟨k1, k2⟩ := gp_half (by omega) h2
      rw [twF_two c, twF_two c, twF_fuel i b (gp m) _ g3 k1, twF_fuel i (b + gp m) (m - gp m) _ (by omega) k2]
/-- a node with all below -/
def tw8 (x : Tw) : List Tw := twF 8 x.1.1 (x.1.2 - x.1.1) x.2
theorem tw8_one {b m : Nat} {a : Option (Nat × Nat)} (h : m ≤ 1) : tw8 ((b, b + m), a) = [((b, b + m), a)] := by
  unfold tw8
  rw [show ((b, b + m), a).1.2 - ((b, b + m), a).1.1 = m by show b + m - b = m; omega]
  exact twF_one h
theorem tw8_two {b m : Nat} {a : Option (Nat × Nat)} (h : 2 ≤ m) (h2 : m ≤ 70) : tw8 ((b, b + m), a) = ((b, b + m), a) :: (tw8 ((b + gp m, b + m), some (b, b + m)) ++ tw8 ((b, b + gp m), some (b, b + m))) := by
  have g1 := gp_lt (m := m) h
  have g3 := gp_pos m
  obtain ⟨k1, k2⟩ := gp_half (i := 7) h (by omega)
  have e1 : twF 7 b (gp m) (some (b, b + m)) = twF 8 b (gp m) (some (b, b + m)) := (twF_fuel 7 b (gp m) _ g3 k1).symm
  have e2 : twF 7 (b + gp m) (m - gp m) (some (b, b + m)) = twF 8 (b + gp m) (m - gp m) (some (b, b + m)) := (twF_fuel 7 (b + gp m) (m - gp m) _ (by omega) k2).symm
  show twF 8 b (b + m - b) a = _ :: (twF 8 (b + gp m) (b + m - (b + gp m)) _ ++ twF 8 b (b + gp m - b) _)
  rw [show b + m - b = m by omega, show b + m - (b + gp m) = m - gp m by omega, show b + gp m - b = gp m by omega, twF_two (by omega), e1, e2]
theorem twF_in : ∀ (i b m : Nat) (a : Option (Nat × Nat)) (x : Tw), 1 ≤ m → x ∈ twF i b m a → b ≤ x.1.1 ∧ x.1.1 < x.1.2 ∧ x.1.2 ≤ b + m
  | 0, _, _, _, _, _, h => by cases h
  | i + 1, b, m, a, x, h1, h => by
    by_cases c : m ≤ 1
    · rw [twF_one c, List.mem_singleton] at h
      subst h
      exact ⟨Nat.le_refl _, by show b < b + m; omega, Nat.le_refl _⟩
    · rw [twF_two c, List.mem_cons, List.mem_append] at h
      have g1 := gp_lt (m := m) (by omega)
      have g3 := gp_pos m
      rcases h with h | h | h
      · subst h; exact ⟨Nat.le_refl _, by show b < b + m; omega, Nat.le_refl _⟩
      · have := twF_in i (b + gp m) (m - gp m) _ x (by omega) h
        omega
      · have := twF_in i b (gp m) _ x g3 h
        omega
theorem twF_len : ∀ (i b m : Nat) (a : Option (Nat × Nat)), 1 ≤ m → (twF i b m a).length ≤ 2 * m - 1
  | 0, _, _, _, _ => Nat.zero_le _
  | i + 1, b, m, a, h1 => by
    by_cases c : m ≤ 1
    · rw [twF_one c]
      show 1 ≤ _
      omega
    · have g1 := gp_lt (m := m) (by omega)
      have g3 := gp_pos m
      have := twF_len i (b + gp m) (m - gp m) (some (b, b + m)) (by omega)
      have := twF_len i b (gp m) (some (b, b + m)) g3
      rw [twF_two c, List.length_cons, List.length_append]
      omega
theorem twF_nodup : ∀ (i b m : Nat) (a : Option (Nat × Nat)), 1 ≤ m → ((twF i b m a).map (·.1)).Nodup
  | 0, _, _, _, _ => List.nodup_nil
  | i + 1, b, m, a, h => by
    by_cases c : m ≤ 1
    · rw [twF_one c]; simp
    · have g1 := gp_lt (m := m) (by omega)
      have g3 := gp_pos m
      rw [twF_two c, List.map_cons, List.map_append, List.nodup_cons, List.nodup_append]
      refine ⟨fun z => ?_, twF_nodup i (b + gp m) (m - gp m) _ (by omega), twF_nodup i b (gp m) _ g3, fun x hx y hy z => ?_⟩
      · rcases List.mem_append.mp z with z | z
        · obtain ⟨y, hy, e⟩ := List.mem_map.mp z
          have := twF_in i (b + gp m) (m - gp m) _ y (by omega) hy
          rw [e] at this
          dsimp only at this
          omega
        · obtain ⟨y, hy, e⟩ := List.mem_map.mp z
          have := twF_in i b (gp m) _ y g3 hy
          rw [e] at this
          dsimp only at this
          omega
      · subst z
        obtain ⟨y1, hy1, e1⟩ := List.mem_map.mp hx
        obtain ⟨y2, hy2, e2⟩ := List.mem_map.mp hy
        have k1 := twF_in i (b + gp m) (m - gp m) _ y1 (by omega) hy1
        have k2 := twF_in i b (gp m) _ y2 g3 hy2
        rw [e1] at k1
        rw [e2] at k2
        omega
/-- all nodes of the tree, each with the one above -/
theorem twF_mem {n : Nat} : ∀ (i b m : Nat) (a : Option (Nat × Nat)) (x : Tw), 1 ≤ m → tree n b m → b + m ≤ n → x ∈ twF i b m a →
    isN n x.1 ∧ (x = ((b, b + m), a) ∨ ∃ B M, x.2 = some (B, B + M) ∧ isN n (B, B + M) ∧ 2 ≤ M ∧ isHalfP B M x.1)
  | 0, _, _, _, _, _, _, _, h => by cases h
  | i + 1, b, m, a, x, h1, t, hn, h => by
    by_cases c : m ≤ 1
    · rw [twF_one c, List.mem_singleton] at h
      subst h
      exact ⟨isN_of h1 hn t, .inl rfl⟩
    · have m2 : 2 ≤ m := by omega
      rw [twF_two c, List.mem_cons, List.mem_append] at h
      have g1 := gp_lt (m := m) m2
      have g3 := gp_pos m
      have em : b + gp m + (m - gp m) = b + m := by omega
      rcases h with h | h | h
      · subst h
        exact ⟨isN_of h1 hn t, .inl rfl⟩
      · obtain ⟨k1, k2⟩ := twF_mem i (b + gp m) (m - gp m) _ x (by omega) (tree_high m2 t) (by omega) h
        refine ⟨k1, .inr ?_⟩
        rcases k2 with rfl | k2
        · exact ⟨b, m, rfl, isN_of h1 hn t, m2, .inr (by rw [em])⟩
        · exact k2
      · obtain ⟨k1, k2⟩ := twF_mem i b (gp m) _ x g3 (tree_low m2 t) (by omega) h
        refine ⟨k1, .inr ?_⟩
        rcases k2 with rfl | k2
        · exact ⟨b, m, rfl, isN_of h1 hn t, m2, .inl rfl⟩
        · exact k2
theorem twF_all {n : Nat} : ∀ (i b m : Nat) (a : Option (Nat × Nat)) (x : Nat × Nat), 1 ≤ m → 2 * m ≤ 2 ^ i → tree n b m → b + m ≤ n → isN n x → b ≤ x.1 → x.2 ≤ b + m → ∃ c, (x, c) ∈ twF i b m a
  | 0, _, m, _, _, h1, h2, _, _, _, _, _ => by simp at h2; omega
  | i + 1, b, m, a, x, h1, h2, t, hn, hx, k1, k2 => by
    by_cases c : x = (b, b + m)
    · rw [c]
      by_cases k : m ≤ 1
      · rw [twF_one k]
        exact ⟨a, List.mem_cons_self⟩
      · rw [twF_two k]
        exact ⟨a, List.mem_cons_self⟩
    · obtain ⟨m2, hh⟩ := in_half h1 t hn hx k1 k2 c
      have g1 := gp_lt m2
      have g3 := gp_pos m
      obtain ⟨l1, l2⟩ := gp_half (by omega) h2
      rw [twF_two (by omega)]
      by_cases k : x.1 < b + gp m
      · obtain ⟨z, hz⟩ := twF_all i b (gp m) (some (b, b + m)) x g3 l1 (tree_low m2 t) (by omega) hx k1 (hh k)
        exact ⟨z, List.mem_cons_of_mem _ (List.mem_append_right _ hz)⟩
      · obtain ⟨z, hz⟩ := twF_all i (b + gp m) (m - gp m) (some (b, b + m)) x (by omega) l2 (tree_high m2 t) (by omega) hx (by omega) (by omega)
        exact ⟨z, List.mem_cons_of_mem _ (List.mem_append_left _ hz)⟩
def TW (n : Nat) : List Tw := twF 8 0 n none
theorem TW_len {n : Nat} (h : 1 ≤ n) : (TW n).length ≤ 2 * n - 1 := twF_len 8 0 n none h
theorem TW_nodup {n : Nat} (h : 1 ≤ n) : ((TW n).map (·.1)).Nodup := twF_nodup 8 0 n none h
theorem TW_mem {n : Nat} (h : 1 ≤ n) {x : Tw} (hx : x ∈ TW n) : isN n x.1 ∧ (x = ((0, n), none) ∨ ∃ B M, x.2 = some (B, B + M) ∧ isN n (B, B + M) ∧ 2 ≤ M ∧ isHalfP B M x.1) := by
  have := twF_mem (n := n) 8 0 n none x h (tree_root n) (by omega) hx
  rwa [Nat.zero_add] at this
theorem TW_all {n : Nat} (h : 1 ≤ n) (h2 : n ≤ 70) {x : Nat × Nat} (hx : isN n x) : ∃ c, (x, c) ∈ TW n :=
  twF_all 8 0 n none x h (by omega) (tree_root n) (by omega) hx (Nat.zero_le _) (by have := (isN_tree (n := n) (b := x.1) (e := x.2) hx).2.1; omega)
theorem TW_ne {n : Nat} : TW n ≠ [] := by
  unfold TW twF
  exact List.cons_ne_nil _ _
end LT

namespace LT
open PySem PySem.Spec PyProof.Rows L2
/-- what stands above a node -/
def Ab (H : Hp) (v : V) : Option (Nat × Nat) → Prop
  | none => v = .non
  | some y => Nd H v y
def Pa (H : Hp) (v : V) (x : Tw) : Prop := ∃ (p : Addr) (u1 u2 : V), v = .ref p ∧ H p = some (.tup [u1, u2]) ∧ Nd H u1 x.1 ∧ Ab H u2 x.2
theorem Ab.same {H H' : Hp} {v : V} {a : Option (Nat × Nat)} (h : Ab H v a) (s : Same H H') : Ab H' v a := by
  cases a with
  | none => exact h
  | some y => exact Nd.same h s
theorem Ab.upd {H : Hp} {v : V} {a : Option (Nat × Nat)} {s : Addr} {xs : List V} {o : HO} (h : Ab H v a) (hs : H s = some (.lst xs)) : Ab (upd H s o) v a := by
  cases a with
  | none => exact h
  | some y => exact Nd.upd h hs
theorem Pa.same {H H' : Hp} {v : V} {x : Tw} (h : Pa H v x) (s : Same H H') : Pa H' v x := by
  obtain ⟨p, u1, u2, e, hp, h1, h2⟩ := h
  exact ⟨p, u1, u2, e, s _ _ hp, h1.same s, h2.same s⟩
theorem Pa.upd {H : Hp} {v : V} {x : Tw} {s : Addr} {xs : List V} {o : HO} (h : Pa H v x) (hs : H s = some (.lst xs)) : Pa (upd H s o) v x := by
  obtain ⟨p, u1, u2, e, hp, h1, h2⟩ := h
  exact ⟨p, u1, u2, e, by rw [upd_ne (ne_of hp hs (fun z => by cases z))]; exact hp, h1.upd hs, h2.upd hs⟩
def twd (x : Tw) : PyData := .tuple [nd x.1, match x.2 with
  | none => .none
  | some y => nd y]
theorem tws_lay : ∀ l : List Tw, PyData.canLayAll0 (l.map twd) = true
  | [] => by simp [PyData.canLayAll0]
  | (x, none) :: l => by simp [PyData.canLayAll0, twd, nd, PyData.canLay0, tws_lay l]
  | (x, some y) :: l => by simp [PyData.canLayAll0, twd, nd, PyData.canLay0, tws_lay l]
theorem tws_depth : ∀ l : List Tw, PyData.depthAll (l.map twd) ≤ 3
  | [] => by simp [PyData.depthAll]
  | (x, none) :: l => by
    have := tws_depth l
    simp only [List.map_cons, PyData.depthAll, twd, nd, PyData.depth]
    omega
  | (x, some y) :: l => by
    have := tws_depth l
    simp only [List.map_cons, PyData.depthAll, twd, nd, PyData.depth]
    omega
theorem tws_shaped (l : List Tw) : SeqAt.shaped (.list (l.map twd)) = true := by
  have h := tws_depth l
  have h2 : PyData.depth (.list (l.map twd)) ≤ 64 := by
    simp only [PyData.depth]
    omega
  show (PyData.canLay0 (.list (l.map twd)) && decide (PyData.depth (.list (l.map twd)) ≤ 64)) = true
  rw [Bool.and_eq_true]
  exact ⟨by simp only [PyData.canLay0]; exact tws_lay l, decide_eq_true h2⟩
theorem Pa.dp {K : PySem.W.Frag} {H : Hp} {v : V} {x : Tw} (h : Pa H v x) : Dp K H v (twd x) := by
  obtain ⟨p, u1, u2, rfl, hp, h1, h2⟩ := h
  obtain ⟨x, a⟩ := x
  refine .tup (SqT.of hp) (.cons h1.dp (.cons ?_ .nil))
  cases a with
  | none =>
    have e : u2 = .non := h2
    rw [e]
    exact .non
  | some y => exact Nd.dp h2
theorem tws_dp {K : PySem.W.Frag} {H : Hp} : ∀ {vs : List V} {l : List Tw}, All2 (Pa H) vs l → DpAll K H vs (l.map twd)
  | _, _, .nil => .nil
  | _, _, .cons h t => .cons h.dp (tws_dp t)
theorem tws_nil (l : List Tw) : PyData.eqv (.list (l.map twd)) (.list []) = l.isEmpty := by
  cases l with
  | nil => simp [PyData.eqv, PyData.eqvAll]
  | cons x l => simp [PyData.eqv, PyData.eqvAll]
theorem splitEnd {α : Type} {R : V → α → Prop} : ∀ {vs : List V} {us : List α} {x : α}, All2 R vs (us ++ [x]) → ∃ vs' v, vs = vs' ++ [v] ∧ All2 R vs' us ∧ R v x
  | _, [], _, .cons h .nil => ⟨[], _, rfl, .nil, h⟩
  | _, u :: us, x, .cons h t => by
    obtain ⟨vs', v, e, a, r⟩ := splitEnd t
    exact ⟨_ :: vs', v, by rw [e]; rfl, .cons h a, r⟩
section
variable {P : Program} {w : World} {K : PySem.W.Frag} {mg : Str → Option Value} {base : Heap}
def spParted : Sp := fun vs H Q _ => ∃ (x y : Nat) (v : V), vs = [v] ∧ Nd H v (x, y) ∧ x + 2 ≤ y ∧ y ≤ 10 ^ 30 ∧
  ∀ (H' : Hp) (q : Addr) (l h : V), Same H H' → H q = none → H' q = some (.tup [l, h]) → Nd H' l (x, x + gp (y - x)) → Nd H' h (x + gp (y - x), y) → Q (.ref q) H'
theorem ok_law_parted {f : Addr} {fd : FuncData} (F : Fun K "_law_parted" "_law_parted" sLawParted f fd) : FnOk P w K mg base CX0 1 f fd ["node"] spParted := by
  refine F.ok scLawParted (fun vs H Q E h => ?_) (fun cdv A outer s H vs Q E hr h => ?_)
  · obtain ⟨_, _, _, rfl, _⟩ := h
    rfl
  obtain ⟨x, y, v, rfl, ⟨p, rfl, hp⟩, hxy, y30, q⟩ := h
  have two : 2 ≤ sizeLine := by decide
  have q0 : atI [V.int (x : Int), V.int (y : Int)] 0 = some (.int (x : Int)) := atI_nat (j := 0) rfl
  have q1 : atI [V.int (x : Int), V.int (y : Int)] 1 = some (.int (y : Int)) := atI_nat (j := 1) rfl
  refine ⟨_, (pss_cons (ps_set (i := 1) scLawParted.nd rfl (Or.inl rfl) pe_int)
    (pss_cons (ps_while PassesOwn.never (pt_cmpR op_lt (pe_op op_mul pe_int (pv 1)) (pe_op op_sub (pe_ix ix_tup (pv 0) pe_int (fun _ _ => rfl)) (pe_ix ix_tup (pv 0) pe_int (fun _ _ => rfl))) (nomark _))
    (pss_one (ps_set (i := 1) scLawParted.nd rfl (Or.inl rfl) (pe_op op_mul pe_int (pv 1)))))
    (pss_one (ps_ret (pe_tup (pa_cons (pe_tup (pa_cons (pe_ix ix_tup (pv 0) pe_int (fun _ _ => rfl)) (pa_cons (pe_op op_add (pe_ix ix_tup (pv 0) pe_int (fun _ _ => rfl)) (pv 1)) pa_nil))) (pa_cons (pe_tup (pa_cons (pe_op op_add (pe_ix ix_tup (pv 0) pe_int (fun _ _ => rfl)) (pv 1)) (pa_cons (pe_ix ix_tup (pv 0) pe_int (fun _ _ => rfl)) pa_nil))) pa_nil))))))), ?_⟩
  refine ⟨fun mu σ H' => ∃ j : Nat, σ = [some (.ref p), some (.int ((2 ^ j : Nat) : Int))] ∧ H' = H ∧ 2 ^ j < y - x ∧ mu = y - x - 2 ^ j, ⟨y - x - 1, 0, rfl, rfl, by simp; omega, by simp⟩, ?_⟩
  rintro m σ H1 ⟨j, rfl, rfl, hj, rfl⟩
  refine ⟨_, rfl, _, _, rfl, rfl, .inl ⟨by decide, by decide⟩, _, rfl, p, _, _, _, rfl, rfl, SqT.of hp, q1, _, rfl, p, _, _, _, rfl, rfl, SqT.of hp, q0, _, _, rfl, rfl, _, _, rfl, rfl, _, rfl, ite2 (fun c => ?_) (fun c => ?_)⟩
  · have c1 : 2 * ((2 ^ j : Nat) : Int) < (y : Int) - (x : Int) := of_decide_eq_true c
    have pj : 0 < 2 ^ j := Nat.pow_pos (by decide)
    refine ⟨_, fun σ' H' h => h, _, rfl, _, _, rfl, rfl, .inl ⟨by decide, by decide⟩, ?_⟩
    refine ⟨y - x - 2 ^ (j + 1), by rw [Nat.pow_succ]; omega, j + 1, ?_, rfl, by rw [Nat.pow_succ]; omega, rfl⟩
    have e : (2 : Int) * ((2 ^ j : Nat) : Int) = ((2 ^ (j + 1) : Nat) : Int) := by rw [Nat.pow_succ]; omega
    rw [← e]
    rfl
  · have c1 : ¬ 2 * ((2 ^ j : Nat) : Int) < (y : Int) - (x : Int) := of_decide_eq_false (Bool.eq_false_iff.mpr c)
    have g : gp (y - x) = 2 ^ j := gp_eq hj (by omega)
    rw [g] at q
    refine ⟨_, rfl, p, _, _, _, rfl, rfl, SqT.of hp, q0, _, rfl, p, _, _, _, rfl, rfl, SqT.of hp, q0, _, rfl, _, _, rfl, rfl, two, fun t1 n1 => ?_⟩
    have s1 := same_upd (o := .tup [.int (x : Int), .int ((x : Int) + ((2 ^ j : Nat) : Int))]) n1
    refine ⟨_, rfl, p, _, _, _, rfl, rfl, SqT.of (s1 _ _ hp), q0, _, rfl, _, _, rfl, rfl, _, rfl, p, _, _, _, rfl, rfl, SqT.of (s1 _ _ hp), q1, two, fun t2 n2 => ⟨two, fun t3 n3 => ?_⟩⟩
    have s2 := same_upd (o := .tup [.int ((x : Int) + ((2 ^ j : Nat) : Int)), .int (y : Int)]) n2
    have s3 := same_upd (o := .tup [.ref t1, .ref t2]) n3
    exact q _ t3 (.ref t1) (.ref t2) (s1.trans (s2.trans s3)) ((s1.trans s2).free n3) upd_same ⟨t1, rfl, s3 _ _ (s2 _ _ upd_same)⟩ ⟨t2, rfl, s3 _ _ upd_same⟩
def spTreeL : Sp := fun vs H Q _ => ∃ (n : Nat), vs = [.int n] ∧ 1 ≤ n ∧ n ≤ 70 ∧ ∀ (H' : Hp) (p : Addr) (xs : List V), Same H H' → H p = none → H' p = some (.lst xs) → All2 (Pa H') xs (TW n) → Q (.ref p) H'
theorem ok_law_tree {f g1 : Addr} {fd d1 : FuncData} (F : Fun K "_law_tree" "_law_tree" sLawTree f fd)
    (GLawParted : FnOk P w K mg base CX0 1 g1 d1 ["node"] spParted) (ALawParted : At K mg "_law_parted" g1 d1 ["node"]) : FnOk P w K mg base CX0 2 f fd ["size"] spTreeL := by
  refine F.ok scLawTree (fun vs H Q E h => ?_) (fun cdv A outer s H vs Q E hr h => ?_)
  · obtain ⟨_, rfl, _⟩ := h
    rfl
  obtain ⟨n, rfl, n1, n70, q⟩ := h
  refine ⟨_, (pss_cons (ps_par (i := 1) (j := 2) (by rfl) scLawTree.nd rfl rfl (by decide) rfl rfl (pa_cons (pe_lst pa_nil) (pa_cons (pe_lst (pa_cons (pe_tup (pa_cons (pe_tup (pa_cons pe_int (pa_cons (pv 0) pa_nil))) (pa_cons pe_non pa_nil))) pa_nil)) pa_nil)) (by rfl))
    (pss_cons (ps_while PassesOwn.never (pt_cmpR (op_neD hr.units) (pv 2) (pe_lst pa_nil) (nomark _))
    (pss_cons (ps_asg (pe_bm0 PySem.F.plainAttrs_list PySem.F.slot_list_pop PySem.F.type_list_pop mt_pop (pv 2)) (pg_tup (by rfl) (pgs_cons (pg_name (i := 3) scLawTree.nd rfl (Or.inr rfl)) (pgs_cons (pg_name (i := 4) scLawTree.nd rfl (Or.inl rfl)) pgs_nil))))
    (pss_cons (ps_expr (pe_bm PySem.F.plainAttrs_list PySem.F.slot_list_append PySem.F.type_list_append mt_append (pv 1) (pa_cons (pe_tup (pa_cons (pv 3) (pa_cons (pv 4) pa_nil))) pa_nil)))
    (pss_one (ps_if (pt_cmpR op_gt (pe_op op_sub (pe_ix ix_tup (pv 3) pe_int (fun _ _ => rfl)) (pe_ix ix_tup (pv 3) pe_int (fun _ _ => rfl))) pe_int (nomark _))
    (pss_one (ps_expr (pe_bm PySem.F.plainAttrs_list PySem.F.slot_list_extend PySem.F.type_list_extend mt_extend (pv 2) (pa_cons (pe_lc (own := [("half", 5)]) rfl scLawTree.nd (pi_tup (pe_call GLawParted (hr.mono (by decide)) rfl ALawParted.m ALawParted.kp ALawParted.b .nil pass0 (pa_cons (pv 3) pa_nil))) (blkOk_by (N := ["size", "found", "left", "node", "above", "half"]) (sc := defScope sLawTree) (by decide +kernel)) (fun _ _ _ _ _ => (pg_name (i := 5) scLawTree.nd rfl (Or.inl rfl))) (fun _ _ _ _ _ => pts_nil) (fun _ _ _ _ _ => (pe_tup (pa_cons (pv 5) (pa_cons (pv 3) pa_nil))))) pa_nil))))
    pss_nil)))))
    (pss_one (ps_ret (pv 1))))), ?_⟩
  have two : 2 ≤ sizeLine := by decide
  have one1 : 1 ≤ sizeLine := by decide
  refine ⟨Nat.zero_le _, fun fa nf => ⟨_, rfl, two, fun t1 m1 => ⟨two, fun t2 m2 => ⟨one1, fun la nl => ⟨_, _, rfl, ?_⟩⟩⟩⟩⟩
  have s1 := same_upd (o := .lst []) nf
  have s2 := same_upd (o := .tup [.int 0, .int (n : Int)]) m1
  have s3 := same_upd (o := .tup [.ref t1, .non]) m2
  have s4 := same_upd (o := .lst [.ref t2]) nl
  have s0 := s1.trans (s2.trans (s3.trans s4))
  have hf0 := (s2.trans (s3.trans s4)) _ _ (upd_same (H := H) (a := fa) (o := .lst []))
  have hl0 := upd_same (H := upd (upd (upd H fa (.lst [])) t1 (.tup [.int 0, .int n])) t2 (.tup [.ref t1, .non])) (a := la) (o := .lst [.ref t2])
  have hp0 : Pa (upd (upd (upd (upd H fa (.lst [])) t1 (.tup [.int 0, .int n])) t2 (.tup [.ref t1, .non])) la (.lst [.ref t2])) (.ref t2) ((0, n), none) := ⟨t2, _, _, rfl, s4 _ _ upd_same, ⟨t1, rfl, (s3.trans s4) _ _ upd_same⟩, rfl⟩
  have nlH : H la = none := (s1.trans (s2.trans s3)).free nl
  have fl : fa ≠ la := ne_of_none ((s2.trans s3) _ _ (upd_same (H := H) (a := fa) (o := .lst []))) nl
  dsimp only at hf0 hl0 ⊢
  generalize (upd (upd (upd (upd H fa (.lst [])) t1 (.tup [.int 0, .int n])) t2 (.tup [.ref t1, .non])) la (.lst [.ref t2])) = H0 at s0 hf0 hl0 hp0
  clear s1 s2 s3 s4 m1 m2 nl
  refine ⟨fun mu σ H' => ∃ (T S : List Tw) (fs ls : List V) (v3 v4 v5 : Option V), σ = [some (.int n), some (.ref fa), some (.ref la), v3, v4, v5] ∧ Same H H' ∧ H' fa = some (.lst fs) ∧ H' la = some (.lst ls) ∧ All2 (Pa H') fs T ∧ All2 (Pa H') ls S ∧
      T ++ S.reverse.flatMap tw8 = TW n ∧ (∀ x ∈ S, x.1.1 < x.1.2 ∧ x.1.2 ≤ n) ∧ S.length ≤ T.length + 1 ∧ mu = (S.reverse.flatMap tw8).length + 0,
    ⟨_, [], [((0, n), none)], [], [.ref t2], none, none, none, rfl, s0, hf0, hl0, .nil, .cons hp0 .nil, ?_, fun x hx => by rw [List.mem_singleton] at hx; subst hx; exact ⟨by show 0 < n; omega, Nat.le_refl _⟩, Nat.le_refl _, rfl⟩, ?_⟩
  · show [] ++ (tw8 ((0, n), none) ++ []) = TW n
    rw [List.append_nil]
    rfl
  rintro mu σ H1 ⟨T, S, fs, ls, v3, v4, v5, rfl, sm, hf, hl, hT, hS, eT, hin, hlen, hmu⟩
  have lenT : T.length ≤ 139 := by
    have a := congrArg List.length eT
    have b := TW_len n1
    rw [List.length_append] at a
    omega
  have tl := hT.len
  have sl := hS.len
  refine ⟨_, rfl, Nat.zero_le _, fun em nem => ⟨.list (S.map twd), .list [], ?_, .lst (SqL.of upd_same) .nil, tws_shaped _, nil_shaped, ?_⟩⟩
  · have se := same_upd (o := .lst []) nem
    exact .lst (SqL.of (se _ _ hl)) (tws_dp (hS.mono fun v x (k : Pa H1 v x) => k.same se))
  rw [tws_nil]
  have se := same_upd (o := .lst []) nem
  replace sm := sm.trans se
  replace hf := se _ _ hf
  replace hl := se _ _ hl
  replace hT := hT.mono fun v x (k : Pa H1 v x) => k.same se
  replace hS := hS.mono fun v x (k : Pa H1 v x) => k.same se
  generalize upd H1 em (.lst []) = H2 at sm hf hl hT hS
  clear se nem
  rcases S.eq_nil_or_concat with rfl | ⟨S', x, et⟩
  · refine ⟨false, rfl, ?_⟩
    rw [List.reverse_nil, List.flatMap_nil, List.append_nil] at eT
    rw [eT] at hT
    exact ⟨_, rfl, q _ _ _ sm nf hf hT⟩
  rw [List.concat_eq_append] at et
  subst et
  obtain ⟨ls', v, rfl, hS', hv⟩ := splitEnd hS
  have hb : (!(S' ++ [x]).isEmpty) = true := by cases S' <;> rfl
  obtain ⟨⟨x1, x2⟩, ab⟩ := x
  obtain ⟨vp, u1, u2, rfl, hvp, hu1, hu2⟩ := hv
  obtain ⟨x12, x2n⟩ := hin ((x1, x2), ab) (by simp)
  dsimp only at x12 x2n hu1 hu2
  have ixe : (ls' ++ [V.ref vp])[(ls' ++ [V.ref vp]).length - 1]? = some (.ref vp) := by rw [List.length_append, List.length_singleton, Nat.add_sub_cancel]; exact List.getElem?_concat_length
  refine ⟨true, congrArg V.bl hb, _, fun σ' H' h => h, ?_⟩
  refine ⟨_, rfl, .inl ⟨rfl, _, SqL.of hl⟩, la, _, _, rfl, rfl, hl, ixe, ?_⟩
  rw [List.dropLast_concat]
  have vl : vp ≠ la := ne_of hvp hl (fun z => by cases z)
  have sm1 : Same H (upd H2 la (.lst ls')) := fun a o k => by rw [upd_ne (ne_of_none k nlH)]; exact sm _ _ k
  have hf1 : (upd H2 la (.lst ls')) fa = some (.lst fs) := by rw [upd_ne fl]; exact hf
  have hl1 : (upd H2 la (.lst ls')) la = some (.lst ls') := upd_same
  have hT1 := hT.mono fun v x (k : Pa H2 v x) => k.upd (o := .lst ls') hl
  have hS1 := hS'.mono fun v x (k : Pa H2 v x) => k.upd (o := .lst ls') hl
  have hu11 := hu1.upd (o := .lst ls') hl
  have hu21 := hu2.upd (o := .lst ls') hl
  have hvp1 : (upd H2 la (.lst ls')) vp = some (.tup [u1, u2]) := by rw [upd_ne vl]; exact hvp
  generalize upd H2 la (.lst ls') = H3 at sm1 hf1 hl1 hT1 hS1 hu11 hu21 hvp1
  refine ⟨vp, _, rfl, SqT.of hvp1, rfl, _, _, rfl, _, _, rfl, rfl, ?_⟩
  obtain ⟨up, rfl, hup⟩ := id hu11
  refine ⟨_, rfl, .inl ⟨rfl, _, SqL.of hf1⟩, _, rfl, _, rfl, two, fun tn ntn => ⟨fa, _, _, rfl, rfl, same_upd ntn _ _ hf1, szlt (by omega), ?_⟩⟩
  have wn := same_upd (o := .tup [.ref up, u2]) ntn
  have ntH : tn ≠ fa := fun z => by rw [z] at ntn; rw [hf1] at ntn; cases ntn
  have hf2 := wn _ _ hf1
  have sm2 : Same H (upd (upd H3 tn (.tup [.ref up, u2])) fa (.lst (fs ++ [.ref tn]))) := fun a o k => by rw [upd_ne (ne_of_none k nf)]; exact wn _ _ (sm1 _ _ k)
  have hfB : (upd (upd H3 tn (.tup [.ref up, u2])) fa (.lst (fs ++ [.ref tn]))) fa = some (.lst (fs ++ [.ref tn])) := upd_same
  have hlB : (upd (upd H3 tn (.tup [.ref up, u2])) fa (.lst (fs ++ [.ref tn]))) la = some (.lst ls') := by rw [upd_ne (fun z => fl z.symm)]; exact wn _ _ hl1
  have hTB : All2 (Pa (upd (upd H3 tn (.tup [.ref up, u2])) fa (.lst (fs ++ [.ref tn])))) (fs ++ [.ref tn]) (T ++ [((x1, x2), ab)]) := by
    refine (hT1.mono fun v x (k : Pa H3 v x) => (k.same wn).upd hf2).app (.cons ?_ .nil)
    exact ⟨tn, _, _, rfl, by rw [upd_ne ntH]; exact upd_same, (hu11.same wn).upd hf2, (hu21.same wn).upd hf2⟩
  have hSB := hS1.mono fun v x (k : Pa H3 v x) => (k.same wn).upd (o := .lst (fs ++ [.ref tn])) hf2
  have huB := (hu11.same wn).upd (o := .lst (fs ++ [.ref tn])) hf2
  have hupB : (upd (upd H3 tn (.tup [.ref up, u2])) fa (.lst (fs ++ [.ref tn]))) up = some (.tup [.int (x1 : Int), .int (x2 : Int)]) := by
    obtain ⟨_, e, k⟩ := huB
    cases e
    exact k
  generalize upd (upd H3 tn (.tup [.ref up, u2])) fa (.lst (fs ++ [.ref tn])) = H4 at sm2 hfB hlB hTB hSB huB hupB
  have q0 : atI [V.int (x1 : Int), V.int (x2 : Int)] 0 = some (.int (x1 : Int)) := atI_nat (j := 0) rfl
  have q1 : atI [V.int (x1 : Int), V.int (x2 : Int)] 1 = some (.int (x2 : Int)) := atI_nat (j := 1) rfl
  have hin' : ∀ x ∈ S', x.1.1 < x.1.2 ∧ x.1.2 ≤ n := fun x hx => hin x (by simp [hx])
  rw [List.length_append, List.length_singleton] at hlen
  rw [List.reverse_append, List.reverse_singleton, List.singleton_append, List.flatMap_cons] at eT hmu
  obtain ⟨m, rfl⟩ : ∃ m, x2 = x1 + m := ⟨x2 - x1, by omega⟩
  refine ⟨_, rfl, up, _, _, _, rfl, rfl, SqT.of hupB, q1, _, rfl, up, _, _, _, rfl, rfl, SqT.of hupB, q0, _, _, rfl, rfl, _, _, rfl, rfl, _, rfl, ite2 (fun c => ?_) (fun c => ?_)⟩
  · have c1 : (1 : Int) < ((x1 + m : Nat) : Int) - (x1 : Int) := of_decide_eq_true c
    have m2 : 2 ≤ m := by omega
    have g1 := gp_lt m2
    have g3 := gp_pos m
    have emm : x1 + m - x1 = m := by omega
    rw [tw8_two m2 (by omega), List.cons_append] at eT hmu
    refine ⟨_, rfl, .inl ⟨rfl, _, SqL.of hlB⟩, _, rfl, x1, x1 + m, _, rfl, huB, by omega, Nat.le_trans (show x1 + m ≤ 70 by omega) (by decide), fun H5 qa l h s5 nqa hqa hl5 hh5 => ?_⟩
    rw [emm] at hl5 hh5
    refine ⟨qa, rfl, ⟨_, SqT.of hqa⟩, fun D nD => ?_⟩
    have hs5 : All2 (Nd H5) [l, h] [(x1, x1 + gp m), (x1 + gp m, x1 + m)] := .cons hl5 (.cons hh5 .nil)
    generalize ehs : [(x1, x1 + gp m), (x1 + gp m, x1 + m)] = HL at hs5
    generalize eus : [l, h] = us at hqa hs5
    have hll : HL.length = 2 := by rw [← ehs]; rfl
    have ull := hs5.len
    have huS := huB.same s5
    refine lc_tup (K := K) (a := qa) (xs := us) (fun i H' => ∃ zs : List V, Same H5 H' ∧ H' D = some (.lst zs) ∧ All2 (Pa H') zs ((HL.take i).map fun y => ((y, some (x1, x1 + m)) : Tw))) ⟨[], same_upd nD, upd_same, .nil⟩ (fun i H' _ ⟨_, s6, _⟩ => SqT.of (s6 _ _ hqa)) ?_ ?_
    · rintro i v H6 hi ⟨zs, s6, hD, hz⟩
      obtain ⟨y, hyi, hy⟩ := hs5.nth hi
      have il := (List.getElem?_eq_some_iff.mp hyi).1
      have zl := hz.len
      refine ⟨rfl, _, rfl, _, rfl, two, fun tt ntt => ?_⟩
      have wt := same_upd (o := .tup [v, .ref up]) ntt
      have hD2 := wt _ _ hD
      have tD : tt ≠ D := fun z => by rw [z, hD] at ntt; cases ntt
      refine ⟨zs, hD2, szlt (by rw [zl, List.length_map, List.length_take]; omega), zs ++ [.ref tt], ?_, upd_same, ?_⟩
      · exact fun a o k => by rw [upd_ne (ne_of_none k nD)]; exact wt _ _ (s6 _ _ k)
      · rw [take_more hyi, List.map_append]
        refine (hz.mono fun v x (k : Pa H6 v x) => (k.same wt).upd hD2).app (.cons ?_ .nil)
        exact ⟨tt, _, _, rfl, by rw [upd_ne tD]; exact upd_same, ((hy.same s6).same wt).upd hD2, Nd.upd ((huS.same s6).same wt) hD2⟩
    · rintro H6 ⟨zs, s6, hD, hz⟩
      rw [ull, List.take_length] at hz
      have zl := hz.len
      rw [List.length_map] at zl
      have lls : ls'.length = S'.length := hSB.len
      have hl6 := s6 _ _ (s5 _ _ hlB)
      have hf6 := s6 _ _ (s5 _ _ hfB)
      have sB := s5.trans s6
      refine ⟨la, D, _, zs, rfl, rfl, hl6, hD, szle (by rw [zl, hll, lls]; omega), ?_⟩
      refine ⟨_, ?_, T ++ [((x1, x1 + m), ab)], S' ++ HL.map fun y => ((y, some (x1, x1 + m)) : Tw), fs ++ [.ref tn], ls' ++ zs, _, _, _, rfl, ?_, ?_, upd_same, ?_, ?_, ?_, ?_, ?_, rfl⟩
      · rw [hmu, ← ehs]
        simp only [List.map_cons, List.map_nil, List.reverse_append, List.reverse_cons, List.reverse_nil, List.nil_append, List.singleton_append, List.cons_append, List.flatMap_cons, List.length_append, List.length_cons]
        omega
      · exact fun a o k => by rw [upd_ne (ne_of_none k nlH)]; exact sB _ _ (sm2 _ _ k)
      · rw [upd_ne fl]; exact hf6
      · exact hTB.mono fun v x (k : Pa H4 v x) => (k.same sB).upd hl6
      · exact (hSB.mono fun v x (k : Pa H4 v x) => (k.same sB).upd hl6).app (hz.mono fun v x (k : Pa H6 v x) => k.upd hl6)
      · rw [← eT, ← ehs]
        simp only [List.map_cons, List.map_nil, List.reverse_append, List.reverse_cons, List.reverse_nil, List.nil_append, List.singleton_append, List.cons_append, List.flatMap_cons, List.append_assoc]
      · rw [← ehs]
        intro x hx
        rcases List.mem_append.mp hx with hx | hx
        · exact hin' x hx
        · simp only [List.map_cons, List.map_nil, List.mem_cons, List.not_mem_nil, or_false] at hx
          rcases hx with rfl | rfl
          · exact ⟨by show x1 < x1 + gp m; omega, by show x1 + gp m ≤ n; omega⟩
          · exact ⟨by show x1 + gp m < x1 + m; omega, by show x1 + m ≤ n; omega⟩
      · rw [List.length_append, List.length_append, List.length_map, List.length_singleton, hll]
        omega
  · have m1 : m ≤ 1 := by
      have c1 : ¬ (1 : Int) < ((x1 + m : Nat) : Int) - (x1 : Int) := of_decide_eq_false (Bool.eq_false_iff.mpr c)
      omega
    rw [tw8_one m1, List.singleton_append] at eT hmu
    refine ⟨_, by rw [hmu]; exact Nat.lt_succ_self _, T ++ [((x1, x1 + m), ab)], S', _, ls', _, _, _, rfl, sm2, hfB, hlB, hTB, hSB, by rw [List.append_assoc]; exact eT, hin', by rw [List.length_append, List.length_singleton]; omega, rfl⟩
end
end LT

namespace LT
open PySem PySem.Spec PyProof.Rows L2
def covB (L : List (Nat × Nat)) (i : Nat) : Bool := L.any fun s => decide (s.1 ≤ i) && decide (i < s.2)
theorem covB_iff {L : List (Nat × Nat)} {i : Nat} : covB L i = true ↔ cov L i := by
  unfold covB
  rw [List.any_eq_true]
  exact ⟨fun ⟨s, h, k⟩ => ⟨s, h, by rw [Bool.and_eq_true, decide_eq_true_eq, decide_eq_true_eq] at k; exact k⟩, fun ⟨s, h, k1, k2⟩ => ⟨s, h, by rw [Bool.and_eq_true, decide_eq_true_eq, decide_eq_true_eq]; exact ⟨k1, k2⟩⟩⟩
/-- for each entry whether it is in a node -/
def mks (n : Nat) (L : List (Nat × Nat)) : List Bool := (List.range n).map (covB L)
theorem mks_len (n : Nat) (L : List (Nat × Nat)) : (mks n L).length = n := by unfold mks; rw [List.length_map, List.length_range]
theorem bools_lay : ∀ bs : List Bool, PyData.canLayAll0 (bs.map PyData.bool) = true
  | [] => by simp [PyData.canLayAll0]
  | b :: bs => by simp [PyData.canLayAll0, PyData.canLay0, bools_lay bs]
theorem bools_depth : ∀ bs : List Bool, PyData.depthAll (bs.map PyData.bool) ≤ 1
  | [] => by simp [PyData.depthAll]
  | b :: bs => by
    have := bools_depth bs
    simp only [List.map_cons, PyData.depthAll, PyData.depth]
    omega
theorem bools_shaped (bs : List Bool) : SeqAt.shaped (.list (bs.map PyData.bool)) = true := by
  have h := bools_depth bs
  have h2 : PyData.depth (.list (bs.map PyData.bool)) ≤ 64 := by
    simp only [PyData.depth]
    omega
  show (PyData.canLay0 (.list (bs.map PyData.bool)) && decide (PyData.depth (.list (bs.map PyData.bool)) ≤ 64)) = true
  rw [Bool.and_eq_true]
  exact ⟨by simp only [PyData.canLay0]; exact bools_lay bs, decide_eq_true h2⟩
theorem bool_shaped (b : Bool) : SeqAt.shaped (.bool b) = true := by
  cases b <;> rfl
theorem bools_in (c : Bool) : ∀ bs : List Bool, ((bs.map PyData.bool).any fun z => PyData.eqv z (.bool c)) = bs.any fun b => b == c
  | [] => rfl
  | b :: bs => by
    rw [List.map_cons, List.any_cons, List.any_cons, bools_in c bs]
    congr 1
    skip
/-- a stretch of the marks -/
theorem mks_cut {n a b : Nat} {L : List (Nat × Nat)} (h : b ≤ n) (c : Bool) : (((mks n L).drop a).take (b - a)).any (fun x => x == c) = true ↔ ∃ i, a ≤ i ∧ i < b ∧ covB L i = c := by
  rw [List.any_eq_true]
  constructor
  · rintro ⟨x, hx, e⟩
    obtain ⟨j, hj⟩ := List.mem_iff_getElem?.mp hx
    rw [List.getElem?_take] at hj
    split at hj
    · rename_i jl
      rw [List.getElem?_drop] at hj
      unfold mks at hj
      rw [List.getElem?_map, List.getElem?_range (by omega)] at hj
      have hj := Option.some.inj hj
      exact ⟨a + j, by omega, by omega, by rw [hj]; exact eq_of_beq e⟩
    · cases hj
  · rintro ⟨i, h1, h2, e⟩
    refine ⟨c, List.mem_iff_getElem?.mpr ⟨i - a, ?_⟩, beq_self_eq_true c⟩
    rw [List.getElem?_take, if_pos (by omega), List.getElem?_drop]
    unfold mks
    rw [show a + (i - a) = i by omega, List.getElem?_map, List.getElem?_range (by omega), ← e]
    rfl
theorem mks_start (n : Nat) : List.replicate n (V.bl false) = (mks n []).map V.bl := by
  unfold mks
  rw [List.map_map]
  refine List.ext_getElem? fun i => ?_
  rw [List.getElem?_map, List.getElem?_replicate]
  by_cases c : i < n
  · rw [if_pos c, List.getElem?_range c]
    rfl
  · rw [if_neg c, List.getElem?_eq_none (by rw [List.length_range]; omega)]
    rfl
/-- one more mark -/
theorem mks_set {n b e : Nat} {L : List (Nat × Nat)} (h : e < n) (k : b ≤ e) : ((mks n (L ++ [(b, e)])).map V.bl).set e (V.bl true) = (mks n (L ++ [(b, e + 1)])).map V.bl := by
  unfold mks
  rw [List.map_map, List.map_map]
  refine List.ext_getElem? fun i => ?_
  by_cases c : i < n
  · rw [List.getElem?_set]
    by_cases z : e = i
    · subst z
      rw [if_pos rfl, if_pos (by rw [List.length_map, List.length_range]; exact h), List.getElem?_map, List.getElem?_range h]
      have : covB (L ++ [(b, e + 1)]) e = true := covB_iff.mpr ⟨(b, e + 1), List.mem_append_right _ (List.mem_singleton_self _), k, Nat.lt_succ_self _⟩
      show some (V.bl true) = some (V.bl (covB _ e))
      rw [this]
    · rw [if_neg z, List.getElem?_map, List.getElem?_map, List.getElem?_range c]
      have : covB (L ++ [(b, e)]) i = covB (L ++ [(b, e + 1)]) i := by
        unfold covB
        rw [List.any_append, List.any_append, List.any_cons, List.any_cons]
        congr 2
        congr 1
        exact decide_eq_decide.mpr (by dsimp only; omega)
      show some (V.bl (covB _ i)) = some (V.bl (covB _ i))
      rw [this]
  · rw [List.getElem?_eq_none (by rw [List.length_set, List.length_map, List.length_range]; omega), List.getElem?_eq_none (by rw [List.length_map, List.length_range]; omega)]
theorem mks_none {n b : Nat} {L : List (Nat × Nat)} : mks n (L ++ [(b, b)]) = mks n L := by
  unfold mks
  refine List.map_congr_left fun i _ => ?_
  unfold covB
  rw [List.any_append, List.any_cons, List.any_nil, Bool.or_false]
  have : (decide ((b, b).1 ≤ i) && decide (i < (b, b).2)) = false := by
    by_cases c : b ≤ i
    · rw [decide_eq_false (show ¬ i < (b, b).2 by dsimp only; omega), Bool.and_false]
    · rw [decide_eq_false (show ¬ (b, b).1 ≤ i by dsimp only; omega), Bool.false_and]
  rw [this, Bool.or_false]
section
variable {P : Program} {w : World} {K : PySem.W.Frag} {mg : Str → Option Value} {base : Heap}
def spMarked : Sp := fun vs H Q _ => ∃ (n : Nat) (p : Addr) (xs : List V) (W : List (Nat × Nat)), vs = [.int n, .ref p] ∧ n ≤ 70 ∧ H p = some (.lst xs) ∧ All2 (Nd H) xs W ∧ (∀ x ∈ W, x.1 < x.2 ∧ x.2 ≤ n) ∧
  ∀ (H' : Hp) (r : Addr), Same H H' → H r = none → H' r = some (.lst ((mks n W).map V.bl)) → Q (.ref r) H'
theorem ok_law_marked {f : Addr} {fd : FuncData} (F : Fun K "_law_marked" "_law_marked" sLawMarked f fd) (z_range : mg "range" = none) : FnOk P w K mg base CX0 1 f fd ["size", "spans"] spMarked := by
  refine F.ok scLawMarked (fun vs H Q E h => ?_) (fun cdv A outer s H vs Q E hr h => ?_)
  · obtain ⟨_, _, _, _, rfl, _⟩ := h
    rfl
  obtain ⟨n, p, xs, W, rfl, n70, hp, hx, hW, q⟩ := h
  refine ⟨_, (pss_cons (ps_set (i := 2) scLawMarked.nd rfl (Or.inl rfl) (pe_op op_rep (pe_lst (pa_cons pe_bl pa_nil)) (pv 0)))
    (pss_cons (ps_for PassesOwn.never rfl (pi_list (pv 1)) (pg_tup (by rfl) (pgs_cons (pg_name (i := 3) scLawMarked.nd rfl (Or.inl rfl)) (pgs_cons (pg_name (i := 4) scLawMarked.nd rfl (Or.inl rfl)) pgs_nil)))
    (pss_one (ps_for PassesOwn.never rfl (pi_range2 (by rfl) z_range (pa_cons (pv 3) (pa_cons (pv 4) pa_nil))) (pg_name (i := 5) scLawMarked.nd rfl (Or.inl rfl))
    (pss_one (ps_asg pe_bl (pg_sub (pv 2) (pv 5) set_list))))))
    (pss_one (ps_ret (pv 2))))), ?_⟩
  have one1 : 1 ≤ sizeLine := by decide
  refine ⟨one1, fun t0 nt0 => ⟨_, rfl, t0, (n : Int), _, rfl, rfl, upd_same, by omega, by omega, szle (by rw [Int.toNat_natCast]; simp only [List.length_cons, List.length_nil]; omega), fun fa nf => ?_⟩⟩
  have w0 := same_upd (o := .lst [.bl false]) nt0
  have e0 : (List.replicate (n : Int).toNat [V.bl false]).flatten = (mks n []).map V.bl := by
    rw [Int.toNat_natCast, List.flatten_replicate_singleton, mks_start]
  rw [e0]
  have wf := same_upd (o := .lst ((mks n []).map V.bl)) nf
  have s0 := w0.trans wf
  have hf : (upd (upd H t0 (.lst [.bl false])) fa (.lst ((mks n []).map V.bl))) fa = some (.lst ((mks n []).map V.bl)) := upd_same
  have nfH := w0.free nf
  generalize upd (upd H t0 (.lst [.bl false])) fa (.lst ((mks n []).map V.bl)) = H0 at s0 hf ⊢
  have xl := hx.len
  refine ⟨_, rfl, p, rfl, ⟨_, SqL.of (s0 _ _ hp)⟩, ?_⟩
  refine for_list (K := K) (a := p) (xs := xs) (fun i σ H' => ∃ (v3 v4 v5 : Option V), σ = [some (.int (n : Int)), some (.ref p), some (.ref fa), v3, v4, v5] ∧ Same H H' ∧ H' fa = some (.lst ((mks n (W.take i)).map V.bl)))
    ⟨none, none, none, rfl, s0, hf⟩ (fun i σ H' _ ⟨_, _, _, _, sm, _⟩ => SqL.of (sm _ _ hp)) ?_ ?_
  · rintro i v σ H1 hi ⟨v3, v4, v5, rfl, sm, hfa⟩
    obtain ⟨y, hyi, hy⟩ := hx.nth hi
    obtain ⟨y12, yn⟩ := hW y (List.mem_of_getElem? hyi)
    obtain ⟨b, e⟩ := y
    dsimp only at y12 yn
    obtain ⟨yp, rfl, hyp⟩ := hy.same sm
    refine ⟨yp, _, rfl, SqT.of hyp, rfl, _, _, rfl, _, _, rfl, rfl, ?_⟩
    rw [take_more hyi]
    refine ⟨_, rfl, _, rfl, (b : Int), (e : Int), rfl, ⟨by omega, by omega, by omega, by omega⟩, ?_⟩
    rw [show ((e : Int) - (b : Int)).toNat = e - b by omega]
    refine for_range (lo := (b : Int)) (n := e - b) (fun j σ H' => ∃ v5 : Option V, σ = [some (.int (n : Int)), some (.ref p), some (.ref fa), some (.int (b : Int)), some (.int (e : Int)), v5] ∧ Same H H' ∧ H' fa = some (.lst ((mks n (W.take i ++ [(b, b + j)])).map V.bl)))
      ⟨v5, rfl, sm, by rw [Nat.add_zero, mks_none]; exact hfa⟩ ?_ ?_
    · rintro j σ H2 hj ⟨v5, rfl, sm2, hf2⟩
      have ix : ixN ((mks n (W.take i ++ [(b, b + j)])).map V.bl).length ((b : Int) + (j : Int)) = some (b + j) := by
        rw [List.length_map, mks_len]
        unfold ixN
        rw [if_pos (by omega), if_pos (by omega)]
        congr 1
      refine ⟨_, rfl, _, rfl, fa, _, _, _, rfl, rfl, hf2, ix, ?_⟩
      rw [mks_set (by omega) (by omega)]
      exact ⟨_, rfl, fun a o k => by rw [upd_ne (ne_of_none k nfH)]; exact sm2 _ _ k, upd_same⟩
    · rintro σ H2 ⟨v5, rfl, sm2, hf2⟩
      rw [show b + (e - b) = e by omega] at hf2
      exact ⟨_, _, _, rfl, sm2, hf2⟩
  · rintro σ H1 ⟨v3, v4, v5, rfl, sm, hfa⟩
    rw [xl, List.take_length] at hfa
    exact ⟨_, rfl, q H1 fa sm nfH hfa⟩
end
end LT

namespace LT
open PySem PySem.Spec PyProof.Rows L2
theorem par_le {n B M B' M' : Nat} {x : Nat × Nat} (p : isN n (B, B + M)) (m2 : 2 ≤ M) (h : isHalfP B M x) (p' : isN n (B', B' + M')) (m2' : 2 ≤ M') (h' : isHalfP B' M' x) (k1 : B ≤ B') (k2 : B' + M' ≤ B + M) : B = B' ∧ M = M' := by
  by_cases c : ((B', B' + M') : Nat × Nat) = (B, B + M)
  · have e1 := congrArg Prod.fst c
    have e2 := congrArg Prod.snd c
    dsimp only at e1 e2
    omega
  · exfalso
    obtain ⟨a1, a2, t⟩ := isN_tree p
    rw [show B + M - B = M by omega] at t
    obtain ⟨_, hh⟩ := in_half (b := B) (m := M) (by omega) t a2 p' k1 k2 c
    have g1 := gp_lt m2
    have g3 := gp_pos M
    have g4 := gp_lt m2'
    have g5 := gp_pos M'
    dsimp only at hh
    rcases h with rfl | rfl
    · rcases h' with h' | h'
      · have e1 := congrArg Prod.fst h'
        have e2 := congrArg Prod.snd h'
        dsimp only at e1 e2
        have := hh (by omega)
        omega
      · have e1 := congrArg Prod.fst h'
        dsimp only at e1
        omega
    · rcases h' with h' | h'
      · have e1 := congrArg Prod.fst h'
        have e2 := congrArg Prod.snd h'
        dsimp only at e1 e2
        omega
      · have e1 := congrArg Prod.fst h'
        have e2 := congrArg Prod.snd h'
        dsimp only at e1 e2
        by_cases z : B' < B + gp M
        · have := hh z
          omega
        · omega
theorem half_in {B M : Nat} {x : Nat × Nat} (m2 : 2 ≤ M) (h : isHalfP B M x) : B ≤ x.1 ∧ x.1 < x.2 ∧ x.2 ≤ B + M := by
  have g1 := gp_lt m2
  have g3 := gp_pos M
  rcases h with rfl | rfl <;> dsimp only <;> omega
theorem par_unique {n B M B' M' : Nat} {x : Nat × Nat} (p : isN n (B, B + M)) (m2 : 2 ≤ M) (h : isHalfP B M x) (p' : isN n (B', B' + M')) (m2' : 2 ≤ M') (h' : isHalfP B' M' x) : B = B' ∧ M = M' := by
  have a := half_in m2 h
  have b := half_in m2' h'
  rcases nested (i := x.1) p p' (by dsimp only; omega) (by dsimp only; omega) (by dsimp only; omega) (by dsimp only; omega) with ⟨k1, k2⟩ | ⟨k1, k2⟩
  · exact par_le p m2 h p' m2' h' k1 k2
  · obtain ⟨e1, e2⟩ := par_le p' m2' h' p m2 h k1 k2
    exact ⟨e1.symm, e2.symm⟩
/-- the nodes without marks whose node above has some -/
def dueF (W : List (Nat × Nat)) (x : Tw) : Bool := match x.2 with
  | none => false
  | some y => !meets x.1 W && meets y W
theorem dueF_iff {n : Nat} (n1 : 1 ≤ n) (n70 : n ≤ 70) {W : List (Nat × Nat)} (w1 : W ≠ []) (hW : Wn n W) (x : Nat × Nat) : x ∈ ((TW n).filter (dueF W)).map (·.1) ↔ Due n W x := by
  constructor
  · intro h
    obtain ⟨⟨y, a⟩, hy, rfl⟩ := List.mem_map.mp h
    obtain ⟨h1, h2⟩ := List.mem_filter.mp hy
    obtain ⟨k1, k2⟩ := TW_mem n1 h1
    rcases k2 with k2 | ⟨B, M, e, k2, m2, hh⟩
    · cases k2
      cases h2
    · dsimp only at e k1 hh
      subst e
      have h2 : (!meets y W && meets (B, B + M) W) = true := h2
      rw [Bool.and_eq_true, Bool.not_eq_true'] at h2
      refine ⟨k1, h2.1, fun B' M' p2 m2' hh' => ?_⟩
      obtain ⟨e1, e2⟩ := par_unique k2 m2 hh p2 m2' hh'
      rw [← e1, ← e2]
      exact h2.2
  · intro d
    obtain ⟨c, hc⟩ := TW_all n1 n70 d.1
    refine List.mem_map.mpr ⟨(x, c), List.mem_filter.mpr ⟨hc, ?_⟩, rfl⟩
    obtain ⟨k1, k2⟩ := TW_mem n1 hc
    rcases k2 with k2 | ⟨B, M, e, k2, m2, hh⟩
    · exfalso
      cases k2
      obtain ⟨s, l, rfl⟩ := List.exists_cons_of_ne_nil w1
      have hs := hW s List.mem_cons_self
      have := meets_has (x := (0, n)) (S := s :: l) List.mem_cons_self (by show s.1 < n; omega) (by show 0 < s.2; omega)
      rw [d.2.1] at this
      cases this
    · dsimp only at e hh
      subst e
      show (!meets x W && meets (B, B + M) W) = true
      rw [d.2.1, d.2.2 B M k2 m2 hh]
      rfl
theorem due32_is {n : Nat} (n1 : 1 ≤ n) (n70 : n ≤ 70) {W : List (Nat × Nat)} (w1 : W ≠ []) (hW : Wn n W) : srt (((TW n).filter (dueF W)).map (·.1)) = nb n 0 (srt W) := by
  have iff := dueF_iff n1 n70 w1 hW
  have nd' : (((TW n).filter (dueF W)).map (·.1)).Nodup := (List.filter_sublist.map _).nodup (TW_nodup n1)
  refine (nb_is hW (up_of (srt_pair _) ((srt_perm _).nodup_iff.mpr nd') (fun x hx => ?_) fun x hx y hy c => ?_) fun x => srt_mem.trans (iff x)).symm
  · exact (isN_tree (n := n) (b := x.1) (e := x.2) ((iff x).mp (srt_mem.mp hx)).1).1
  · have dx := (iff x).mp (srt_mem.mp hx)
    have dy := (iff y).mp (srt_mem.mp hy)
    have x12 := (isN_tree (n := n) (b := x.1) (e := x.2) dx.1).1
    have y12 := (isN_tree (n := n) (b := y.1) (e := y.2) dy.1).1
    by_cases k : x.2 ≤ y.1 ∨ y.2 ≤ x.1
    · exact k
    · exact absurd (due_one (i := max x.1 y.1) dx dy (by omega) (by omega) (by omega) (by omega)) c
theorem cut_meets {n : Nat} {W : List (Nat × Nat)} (hW : Wn n W) {x : Nat × Nat} (h : x.1 < x.2) (k : x.2 ≤ n) : (((mks n W).drop x.1).take (x.2 - x.1)).any (fun b => b == true) = meets x W := by
  rw [Bool.eq_iff_iff, mks_cut k, meets_cov hW h]
  exact ⟨fun ⟨i, a, b, c⟩ => ⟨i, a, b, covB_iff.mp c⟩, fun ⟨i, a, b, c⟩ => ⟨i, a, b, covB_iff.mpr c⟩⟩
section
variable {P : Program} {w : World} {K : PySem.W.Frag} {mg : Str → Option Value} {base : Heap}
theorem Nd.butL {b : Addr} {H H' : Hp} {v : V} {x : Nat × Nat} {zs : List V} (h : Nd H v x) (B : But b H H') (hb : H b = some (.lst zs)) : Nd H' v x := by
  obtain ⟨p, e, hp⟩ := h
  exact ⟨p, e, B p _ (ne_of hp hb (fun z => by cases z)) hp⟩
theorem Pa.butL {b : Addr} {H H' : Hp} {v : V} {x : Tw} {zs : List V} (h : Pa H v x) (B : But b H H') (hb : H b = some (.lst zs)) : Pa H' v x := by
  obtain ⟨p, u1, u2, e, hp, h1, h2⟩ := h
  refine ⟨p, u1, u2, e, B p _ (ne_of hp hb (fun z => by cases z)) hp, h1.butL B hb, ?_⟩
  cases hx : x.2 with
  | none =>
    rw [hx] at h2
    exact h2
  | some y =>
    rw [hx] at h2
    exact Nd.butL h2 B hb
end
end LT

namespace LT
open PySem PySem.Spec PyProof.Rows L2
theorem All2.erase {α : Type} {R : V → α → Prop} : ∀ {vs : List V} {xs : List α}, All2 R vs xs → ∀ k, All2 R (vs.eraseIdx k) (xs.eraseIdx k)
  | _, _, .nil, k => .nil
  | _, _, .cons h t, 0 => t
  | _, _, .cons h t, k + 1 => .cons h (t.erase k)
theorem erase_perm {α : Type} : ∀ {xs : List α} {k : Nat} {x : α}, xs[k]? = some x → (x :: xs.eraseIdx k).Perm xs
  | [], k, x, h => by simp at h
  | a :: xs, 0, x, h => by
    have h : a = x := Option.some.inj h
    rw [h]
    exact .refl _
  | a :: xs, k + 1, x, h => by
    have h : xs[k]? = some x := h
    exact (List.Perm.swap a x _).trans ((erase_perm h).cons a)
section
variable {P : Program} {w : World} {K : PySem.W.Frag} {mg : Str → Option Value} {base : Heap}
def spMixed : Sp := fun vs H Q _ => ∃ (bg p : Addr) (xs : List V) (W : List (Nat × Nat)), vs = [.ref bg, .ref p] ∧ BagAt H bg ∧ H p = some (.lst xs) ∧ All2 (Nd H) xs W ∧ W.length ≤ 4000 ∧
  ∀ (H' : Hp) (r : Addr) (ys : List V) (Z : List (Nat × Nat)), But bg H H' → BagAt H' bg → H r = none → H' r = some (.lst ys) → All2 (Nd H') ys Z → Z.Perm W → Q (.ref r) H'
theorem ok_law_mixed {f g1 : Addr} {fd d1 : FuncData} (F : Fun K "_law_mixed" "_law_mixed" sLawMixed f fd) (GLawPick : FnOk P w K mg base CX0 1 g1 d1 ["bag", "many"] spPick) (ALawPick : At K mg "_law_pick" g1 d1 ["bag", "many"])
    (z_list : mg "list" = none) (z_len : mg "len" = none) : FnOk P w K mg base CX0 2 f fd ["bag", "items"] spMixed := by
  refine F.ok scLawMixed (fun vs H Q E h => ?_) (fun cdv A outer s H vs Q E hr h => ?_)
  · obtain ⟨_, _, _, _, rfl, _⟩ := h
    rfl
  obtain ⟨bg, p, xs, W, rfl, hb, hp, hx, l4, q⟩ := h
  refine ⟨_, (pss_cons (ps_par (i := 2) (j := 3) (by rfl) scLawMixed.nd rfl rfl (by decide) rfl rfl (pa_cons (pe_callTy call_list_of (by rfl) z_list (by decide +kernel) (pa_cons (pv 1) pa_nil)) (pa_cons (pe_lst pa_nil) pa_nil)) (by rfl))
    (pss_cons (ps_while PassesOwn.never (pt_cmpR (op_neD hr.units) (pv 2) (pe_lst pa_nil) (nomark _))
    (pss_cons (ps_set (i := 4) scLawMixed.nd rfl (Or.inl rfl) (pe_call GLawPick (hr.mono (by decide)) rfl ALawPick.m ALawPick.kp ALawPick.b .nil pass0 (pa_cons (pv 0) (pa_cons (pe_callB call_len_seq (by rfl) z_len PySem.boot_len (pa_cons (pv 2) pa_nil)) pa_nil))))
    (pss_cons (ps_expr (pe_bm PySem.F.plainAttrs_list PySem.F.slot_list_append PySem.F.type_list_append mt_append (pv 3) (pa_cons (pe_ix ix_list (pv 2) (pv 4) (fun _ _ => rfl)) pa_nil)))
    (pss_one (ps_set (i := 2) scLawMixed.nd rfl (Or.inl rfl) (pe_op op_cat (pe_slice sl_list (pv 2) po_none (po_some (pv 4))) (pe_slice sl_list (pv 2) (po_some (pe_op op_add (pv 4) pe_int)) po_none)))))))
    (pss_one (ps_ret (pv 3))))), ?_⟩
  have xl := hx.len
  refine ⟨_, rfl, p, xs, rfl, .inl (SqL.of hp), fun lp nlp => ⟨Nat.zero_le _, fun fp nfp => ⟨_, _, rfl, ?_⟩⟩⟩
  have w1 := same_upd (o := .lst xs) nlp
  have w2 := same_upd (o := .lst []) nfp
  have hl1 := w2 _ _ (upd_same (H := H) (a := lp) (o := .lst xs))
  have hf1 := upd_same (H := upd H lp (.lst xs)) (a := fp) (o := .lst [])
  have s12 := w1.trans w2
  have hb1 := hb.same s12
  have lb := hb.ne nlp
  have fb := (hb.same w1).ne nfp
  have nfH : H fp = none := w1.free nfp
  have lf : lp ≠ fp := fun z => by rw [← z, upd_same] at nfp; cases nfp
  have hx1 := hx.mono fun v x (k : Nd H v x) => k.same s12
  have B1 := But.of (b := bg) s12
  generalize upd (upd H lp (.lst xs)) fp (.lst []) = H1 at hl1 hf1 s12 hb1 hx1 B1 ⊢
  refine ⟨fun mu σ H' => ∃ (lp : Addr) (v5 : Option V) (us ys : List V) (U Z : List (Nat × Nat)), σ = [some (.ref bg), some (.ref p), some (.ref lp), some (.ref fp), v5] ∧ But bg H H' ∧ BagAt H' bg ∧ H' lp = some (.lst us) ∧ lp ≠ bg ∧ lp ≠ fp ∧ H lp = none ∧ All2 (Nd H') us U ∧ H' fp = some (.lst ys) ∧ All2 (Nd H') ys Z ∧ (Z ++ U).Perm W ∧ mu = U.length + 0,
    ⟨_, lp, none, xs, [], W, [], rfl, B1, hb1, hl1, lb, lf, nlp, hx1, hf1, .nil, .refl _, rfl⟩, ?_⟩
  clear hl1 lb lf nlp w1 w2 nfp xl hx1 hf1 hb1 B1 s12
  rintro mu σ H2 ⟨lp, v5, us, ys, U, Z, rfl, B2, hb2, hl2, lb, lf, nlp, hu, hf2, hy, pm, rfl⟩
  have ul := hu.len
  have yl := hy.len
  have tl : Z.length + U.length = W.length := by rw [← List.length_append]; exact pm.length_eq
  refine ⟨_, rfl, Nat.zero_le _, fun em nem => ?_⟩
  have se := same_upd (o := .lst []) nem
  refine ⟨.list (U.map nd), .list (([] : List (Nat × Nat)).map nd), lst_dp (se _ _ hl2) (hu.mono fun v x (k : Nd H2 v x) => k.same se), .lst (SqL.of upd_same) .nil, nds_shaped _, nds_shaped _, ?_⟩
  rw [nds_eqv]
  have hb3 := hb2.same se
  have hl3 := se _ _ hl2
  have hf3 := se _ _ hf2
  have hu3 := hu.mono fun v x (k : Nd H2 v x) => k.same se
  have hy3 := hy.mono fun v x (k : Nd H2 v x) => k.same se
  have B3 := B2.trans (But.of se)
  generalize upd H2 em (.lst []) = H3 at hb3 hl3 hf3 hu3 hy3 B3 ⊢
  by_cases hz : U = []
  · rw [decide_eq_true hz]
    subst hz
    rw [List.append_nil] at pm
    exact ⟨false, rfl, _, rfl, q H3 fp ys Z B3 hb3 nfH hf3 hy3 pm⟩
  · rw [decide_eq_false hz]
    have u1 : 1 ≤ U.length := List.length_pos_iff.mpr hz
    refine ⟨true, rfl, _, fun σ' H' h => h, ?_⟩
    refine ⟨_, rfl, _, rfl, lp, us, rfl, .inl (SqL.of hl3), bg, ((us.length : Nat) : Int), rfl, by omega, Nat.lt_of_le_of_lt (show (((us.length : Nat) : Int)).natAbs ≤ 4000 by omega) (by decide), hb3, fun r H4 r0 r1 k4 hb4 => ?_⟩
    obtain ⟨i, rfl⟩ : ∃ i : Nat, r = (i : Int) := ⟨r.toNat, by omega⟩
    have il : i < U.length := by omega
    have hl4 : H4 lp = some (.lst us) := by rw [k4 lp lb]; exact hl3
    have hf4 : H4 fp = some (.lst ys) := by rw [k4 fp fb]; exact hf3
    have B34 : But bg H3 H4 := (But.refl bg H3).pick k4
    have nb : ∀ {v : V} {x : Nat × Nat}, Nd H3 v x → Nd H4 v x := fun {v x} h => h.but B34 hb3
    obtain ⟨v, hv, hN⟩ := hu3.nth2 (List.getElem?_eq_getElem il)
    have hy4 := hy3.mono fun v x k => nb k
    have hu4 := hu3.mono fun v x k => nb k
    have hN4 := nb hN
    have B4 := B3.trans B34
    clear hl3 hf3 hu3 hy3 hb3 k4
    refine ⟨_, rfl, .inl ⟨rfl, _, SqL.of hf4⟩, _, rfl, _, rfl, lp, us, _, _, rfl, rfl, SqL.of hl4, atI_nat (j := i) hv, fp, ys, v, rfl, rfl, hf4, szlt (by omega), ?_⟩
    have hf5 : (upd H4 fp (.lst (ys ++ [v]))) fp = some (.lst (ys ++ [v])) := upd_same
    have hl5 : (upd H4 fp (.lst (ys ++ [v]))) lp = some (.lst us) := by rw [upd_ne lf]; exact hl4
    have hb5 := hb4.upd (o := .lst (ys ++ [v])) fb
    have hu5 : All2 (Nd (upd H4 fp (.lst (ys ++ [v])))) us U := hu4.mono fun v x k => k.upd hf4
    have hy5 : All2 (Nd (upd H4 fp (.lst (ys ++ [v])))) (ys ++ [v]) (Z ++ [U[i]]) := (hy4.mono fun v x k => k.upd hf4).app (.cons (hN4.upd hf4) .nil)
    have B5 : But bg H (upd H4 fp (.lst (ys ++ [v]))) := fun a o z k => by rw [upd_ne (ne_of_none k nfH)]; exact B4 a o z k
    generalize upd H4 fp (.lst (ys ++ [v])) = H5 at hf5 hl5 hb5 hu5 hy5 B5 ⊢
    refine ⟨_, rfl, _, rfl, _, rfl, lp, us, rfl, SqL.of hl5, fun c1 n1 => ?_⟩
    rw [cut_take]
    have v1 := same_upd (o := .lst (us.take i)) n1
    have g1 := upd_same (H := H5) (a := c1) (o := .lst (us.take i))
    generalize upd H5 c1 (.lst (us.take i)) = H6 at v1 g1 ⊢
    refine ⟨_, rfl, _, rfl, _, _, rfl, rfl, _, rfl, lp, us, rfl, SqL.of (v1 _ _ hl5), fun c2 n2 => ?_⟩
    have eD : cutV us (some ((i : Int) + 1)) none = us.drop (i + 1) := cut_drop us (i + 1)
    rw [eD]
    have v2 := same_upd (o := .lst (us.drop (i + 1))) n2
    have g2 := upd_same (H := H6) (a := c2) (o := .lst (us.drop (i + 1)))
    have g1' := v2 _ _ g1
    have v12 := v1.trans v2
    generalize upd H6 c2 (.lst (us.drop (i + 1))) = H7 at v12 g1' g2 ⊢
    refine ⟨c1, c2, _, _, rfl, rfl, g1', g2, szle (by rw [List.length_take, List.length_drop]; omega), fun e ne => ?_⟩
    have v3 := same_upd (o := .lst (us.take i ++ us.drop (i + 1))) ne
    have v13 := v12.trans v3
    have s13 : But bg H _ := B5.trans (But.of v13)
    have ep := erase_perm (List.getElem?_eq_getElem il)
    have nH : H e = none := by
      cases h : H e with
      | none => rfl
      | some o =>
        have eb : e ≠ bg := (hb5.same v12).ne ne
        have := v12 _ _ (B5 e o eb h)
        rw [ne] at this
        cases this
    refine ⟨(U.eraseIdx i).length, ?_, e, _, us.take i ++ us.drop (i + 1), ys ++ [v], U.eraseIdx i, Z ++ [U[i]], rfl, s13, hb5.same v13, upd_same, (hb5.same v12).ne ne, ?_, nH, ?_, v13 _ _ hf5, hy5.mono fun v x (k : Nd H5 v x) => k.same v13, ?_, rfl⟩
    · rw [List.length_eraseIdx_of_lt il]
      omega
    · exact fun z => by
        have := v12 _ _ hf5
        rw [← z, ne] at this
        cases this
    · have h := hu5.erase i
      rw [List.eraseIdx_eq_take_drop_succ us] at h
      exact h.mono fun v x (k : Nd H5 v x) => k.same v13
    · rw [List.append_assoc]
      exact (ep.append_left Z).trans pm
end
end LT

namespace LT
open PySem PySem.Spec PyProof.Rows L2
theorem Pl.same {K : PySem.W.Frag} {H H' : Hp} {v : V} {t : String} (h : Pl K H v t) (s : Same H H') : Pl K H' v t := by
  cases h with
  | non => exact .non
  | bl b => exact .bl b
  | int i => exact .int i
  | str x => exact .str x
  | lst e => exact .lst (s _ _ e)
  | tup e => exact .tup (s _ _ e)
  | dict e => exact .dict (s _ _ e)
theorem Ask.same {K : PySem.W.Frag} {H H' : Hp} {n : Nat} {v : V} {r : Bool} (h : Ask K H n v r) (s : Same H H') : Ask K H' n v r := by
  cases h with
  | kind h t => exact .kind (h.same s) t
  | long h l k => exact .long (s _ _ h) l k
  | pair h p q => exact .pair (s _ _ h) (p.same s) (q.same s)
/-- all of a list are no nodes -/
def NoNd (K : PySem.W.Frag) (H : Hp) (n : Nat) (l : List V) : Prop := ∀ v ∈ l, Ask K H n v false
theorem NoNd.same {K : PySem.W.Frag} {H H' : Hp} {n : Nat} {l : List V} (h : NoNd K H n l) (s : Same H H') : NoNd K H' n l := fun v hv => (h v hv).same s
theorem NoNd.nil {K : PySem.W.Frag} {H : Hp} {n : Nat} : NoNd K H n [] := fun _ h => by cases h
theorem NoNd.put {K : PySem.W.Frag} {H : Hp} {n : Nat} {l : List V} {v : V} (h : NoNd K H n l) (a : Ask K H n v false) : NoNd K H n (l ++ [v]) := fun u hu => by
  rcases List.mem_append.mp hu with k | k
  · exact h u k
  · rw [List.mem_singleton] at k
    rw [k]
    exact a
theorem NoNd.lst {K : PySem.W.Frag} {H : Hp} {n : Nat} {l : List V} {p : Addr} {xs : List V} (h : NoNd K H n l) (np : H p = none) : NoNd K (upd H p (.lst xs)) n (l ++ [.ref p]) :=
  NoNd.put (h.same (same_upd np)) (.kind (.lst upd_same) (by decide))
theorem NoNd.dict {K : PySem.W.Frag} {H : Hp} {n : Nat} {l : List V} {p : Addr} {kvs : List (Key × V)} (h : NoNd K H n l) (np : H p = none) : NoNd K (upd H p (.dK kvs)) n (l ++ [.ref p]) :=
  NoNd.put (h.same (same_upd np)) (.kind (.dict upd_same) (by decide))
theorem NoNd.long {K : PySem.W.Frag} {H : Hp} {n : Nat} {l : List V} {p : Addr} {xs : List V} (h : NoNd K H n l) (np : H p = none) (hl : xs.length ≠ 2) (hk : xs.length ≤ 1000) : NoNd K (upd H p (.tup xs)) n (l ++ [.ref p]) :=
  NoNd.put (h.same (same_upd np)) (.long upd_same hl hk)
theorem NoNd.pair {K : PySem.W.Frag} {H : Hp} {n : Nat} {l : List V} {p : Addr} {v1 v2 : V} {t1 t2 : String} (h : NoNd K H n l) (np : H p = none) (p1 : ∀ H, Pl K H v1 t1) (p2 : ∀ H, Pl K H v2 t2) (e : tnV n v1 v2 = false) : NoNd K (upd H p (.tup [v1, v2])) n (l ++ [.ref p]) := by
  refine NoNd.put (h.same (same_upd np)) ?_
  rw [← e]
  exact .pair upd_same (p1 _) (p2 _)
end LT

namespace LT
open PySem PySem.Spec PyProof.Rows L2
theorem kit_list {t : String} {K : PySem.W.Frag} {H : Hp} {v : V} (h : Pl K H v t) (hn : t ≠ "list") : PySem.W.kitOne K (.type t) (.type "list") = some false := by
  cases h with
  | non => exact kit_ty (by decide +kernel)
  | bl _ => exact kit_ty (by decide +kernel)
  | int _ => exact kit_ty (by decide +kernel)
  | str _ => exact kit_ty (by decide +kernel)
  | lst _ => exact absurd rfl hn
  | tup _ => exact kit_ty (by decide +kernel)
  | dict _ => exact kit_ty (by decide +kernel)
section
variable {P : Program} {w : World} {K : PySem.W.Frag} {mg : Str → Option Value} {base : Heap}
/-- any other value is not what is needed -/
def NoList (K : PySem.W.Frag) (H : Hp) (n : Nat) (v : V) : Prop := (∃ t, Pl K H v t ∧ t ≠ "list") ∨ ∃ (p : Addr) (xs : List V) (rs : List Bool), v = .ref p ∧ H p = some (.lst xs) ∧ All2 (Ask K H n) xs rs ∧ xs.length ≤ 5000 ∧ rs.all id = false
theorem NoList.same {H H' : Hp} {n : Nat} {v : V} (h : NoList K H n v) (s : Same H H') : NoList K H' n v := by
  rcases h with ⟨t, a, b⟩ | ⟨p, xs, rs, e, hp, a, l, r⟩
  · exact .inl ⟨t, a.same s, b⟩
  · exact .inr ⟨p, xs, rs, e, s _ _ hp, a.mono fun v r (k : Ask K H n v r) => k.same s, l, r⟩
def spShowsN (K : PySem.W.Frag) : Sp := fun vs H Q _ => ∃ (n : Nat) (p1 : Addr) (xs : List V) (S : List (Nat × Nat)) (v : V), vs = [.int n, .ref p1, v] ∧ 1 ≤ n ∧ n ≤ 10 ^ 30 ∧ H p1 = some (.lst xs) ∧ All2 (Nd H) xs S ∧ 1 ≤ S.length ∧ S.length ≤ 12 ∧ So n 0 S ∧ NoList K H n v ∧ ∀ (H' : Hp), Same H H' → Q (.bl false) H'
theorem ok_showsN {f g1 g2 : Addr} {fd d1 d2 : FuncData} (F : Fun K "shows_needed" "shows_needed" sShowsNeeded f fd) (GNeeded : FnOk P w K mg base CX0 6 g1 d1 ["size", "spans"] spNeeded) (ANeeded : At K mg "needed" g1 d1 ["size", "spans"])
    (GIsTreeNode : FnOk P w K mg base CX0 3 g2 d2 ["size", "value"] (spTreeV K)) (AIsTreeNode : At K mg "is_tree_node" g2 d2 ["size", "value"]) (z_isinstance : mg "isinstance" = none) (z_list : mg "list" = none) (z_all : mg "all" = none) (z_sorted : mg "sorted" = none) : FnOk P w K mg base CX0 7 f fd ["size", "spans", "value"] (spShowsN K) := by
  refine F.ok scShowsNeeded (fun vs H Q E h => ?_) (fun cdv A outer s H vs Q E hr h => ?_)
  · obtain ⟨_, _, _, _, _, rfl, _⟩ := h
    rfl
  obtain ⟨n, p1, xs, S, v, rfl, n1, h30, hp1, hx1, l1, l12, hS, hv, q⟩ := h
  refine ⟨_, (pss_cons (ps_set (i := 3) scShowsNeeded.nd rfl (Or.inl rfl) (pe_call GNeeded (hr.mono (by decide)) rfl ANeeded.m ANeeded.kp ANeeded.b .nil pass0 (pa_cons (pv 0) (pa_cons (pv 1) pa_nil))))
    (pss_cons (ps_if (PW.pt (pw_or (pt_not (pt_val (pe_callB call_isi (by rfl) z_isinstance (by decide +kernel) (pa_cons (pv 2) (pa_cons (pe_bltn (v := .ty "list") (u := .type "list") (by rfl) z_list (by decide +kernel) rfl) pa_nil))))) (pw_or1 (pt_not (pt_val (pe_callB (cr_all rfl) (by rfl) z_all (by decide +kernel) (pa_cons (pe_lc (own := [("item", 4)]) rfl scShowsNeeded.nd (pi_list (pv 2)) (blkOk_by (N := ["size", "spans", "value", "wanted", "item"]) (sc := defScope sShowsNeeded) (by decide +kernel)) (fun _ _ _ _ _ => (pg_name (i := 4) scShowsNeeded.nd rfl (Or.inl rfl))) (fun _ _ _ _ _ => pts_nil) (fun _ _ _ _ _ => (pe_call GIsTreeNode (hr.mono (by decide)) rfl AIsTreeNode.m AIsTreeNode.kp AIsTreeNode.b .nil pass0 (pa_cons (pv 0) (pa_cons (pv 4) pa_nil))))) pa_nil)))))))
    (pss_one (ps_ret pe_bl))
    pss_nil)
    (pss_one (ps_ret (pe_cmpR (op_eqD hr.units) (pe_callB cr_sortedPO (by rfl) z_sorted (by decide +kernel) (pa_cons (pv 2) pa_nil)) (pv 3) (nomark _)))))), ?_⟩
  refine ⟨_, rfl, _, rfl, n, p1, xs, S, rfl, n1, h30, hp1, hx1, l1, l12, hS, fun H1 r zs s1 nr hr1 hz => ?_⟩
  rcases hv.same s1 with ⟨t, ht, hn⟩ | ⟨p2, ys, rs, rfl, hp2, hx2, yl, ra⟩
  · exact ⟨_, rfl, _, _, _, _, false, rfl, .ty "list", ht.ty, kit_list ht hn, false, rfl, q _ s1⟩
  · refine ⟨_, rfl, _, _, _, _, true, rfl, .ty "list", .base (.lst hp2), kit_ty (by decide +kernel), true, rfl, ?_⟩
    refine ⟨_, rfl, p2, rfl, ⟨_, SqL.of hp2⟩, fun D nD => ?_⟩
    have rl := hx2.len
    refine lc_list (K := K) (a := p2) (xs := ys) (fun j H' => Same H1 H' ∧ H' D = some (.lst ((rs.take j).map V.bl))) ⟨same_upd nD, upd_same⟩ (fun j H' _ ⟨s5, _⟩ => SqL.of (s5 _ _ hp2)) ?_ ?_
    · rintro j v H2 hj ⟨s2, hD⟩
      obtain ⟨y, hyj, hy⟩ := hx2.nth hj
      refine ⟨rfl, ?_⟩
      refine ⟨_, rfl, _, rfl, n, v, y, rfl, n1, Nat.le_trans h30 (by decide), hy.same s2, ?_⟩
      refine ⟨_, hD, by rw [List.length_map, List.length_take, PySem.sizeLine_eq]; omega, fun u o k => by rw [upd_ne (ne_of_none k nD)]; exact s2 _ _ k, ?_⟩
      rw [take_more hyj, List.map_append]
      exact upd_same
    rintro H2 ⟨s2, hD⟩
    rw [rl, List.take_length] at hD
    refine ⟨D, _, rfl, SqL.of hD, false, congrArg V.bl ra, ?_⟩
    exact q _ (s1.trans s2)
end
end LT

namespace LT
open PySem PySem.Spec PyProof.Rows L2
/-! ### what is shown fits -/
def small (x : Nat × Nat) : Prop := x.1 ≤ 1000 ∧ x.2 ≤ 1000
theorem int_short {a : Nat} (h : a ≤ 1000000) : (PyData.shown (.int ((a : Nat) : Int))).length ≤ 13 := PyData.shown_int_le (by show a < 10 ^ 12; omega)
theorem int_weight {a : Nat} (h : a ≤ 1000000) : PyData.weight (.int ((a : Nat) : Int)) ≤ 20 := by
  show (if ((a : Nat) : Int) == 0 then 0 else ((a : Nat) : Int).natAbs.log2 + 1) ≤ 20
  split
  · omega
  · rename_i z
    have : ((a : Nat) : Int).natAbs = a := rfl
    rw [this]
    have a0 : a ≠ 0 := fun e => z (by subst e; rfl)
    have := (Nat.log2_lt (k := 20) a0).mpr (by omega)
    omega
theorem nds_short : ∀ l : List (Nat × Nat), (∀ x ∈ l, small x) → PyData.intsShortAll 13 (l.map nd) = true
  | [], _ => rfl
  | x :: l, h => by
    have hx := h x List.mem_cons_self
    simp only [List.map_cons, PyData.intsShortAll, nd, PyData.intsShort, Bool.and_eq_true, decide_eq_true_eq, Bool.and_true]
    exact ⟨⟨int_short (by have := hx.1; omega), int_short (by have := hx.2; omega)⟩, nds_short l fun y hy => h y (List.mem_cons_of_mem _ hy)⟩
theorem nds_weight : ∀ l : List (Nat × Nat), (∀ x ∈ l, small x) → PyData.weightAll (l.map nd) ≤ 43 * l.length
  | [], _ => Nat.le_refl _
  | x :: l, h => by
    have hx := h x List.mem_cons_self
    have ih := nds_weight l fun y hy => h y (List.mem_cons_of_mem _ hy)
    have w1 := int_weight (a := x.1) (by have := hx.1; omega)
    have w2 := int_weight (a := x.2) (by have := hx.2; omega)
    have e : PyData.weightAll ((x :: l).map nd) = (PyData.weight (.int ((x.1 : Nat) : Int)) + 1 + (PyData.weight (.int ((x.2 : Nat) : Int)) + 1 + 0)) + 1 + PyData.weightAll (l.map nd) := by
      simp only [List.map_cons, PyData.weightAll, nd, PyData.weight]
    rw [e, List.length_cons]
    omega
theorem nds_fits (l : List (Nat × Nat)) (h : ∀ x ∈ l, small x) (hl : l.length ≤ 1000) : (PyData.list (l.map nd)).shown.length ≤ sizeLine := by
  have w := nds_weight l h
  refine PyData.shown_fits (B := 13) (by decide) (by decide) (PyData.leavesShort_of_canLay0 13 _ ?_ ?_) ?_
  · simp only [PyData.canLay0]
    exact nds_lay l
  · simp only [PyData.intsShort]
    exact nds_short l h
  · show PyData.weightAll (l.map nd) ≤ 2 ^ 20
    omega
theorem nds_showable : ∀ l : List (Nat × Nat), (∀ x ∈ l, small x) → PyData.showableAll (l.map nd) = true
  | [], _ => rfl
  | x :: l, h => by
    have hx := h x List.mem_cons_self
    simp only [List.map_cons, PyData.showableAll, nd, PyData.showable, Bool.and_eq_true, Bool.and_true]
    exact ⟨⟨decide_eq_true (Nat.lt_of_le_of_lt (Nat.log2_le_self _) (by have := hx.1; show ((x.1 : Nat) : Int).natAbs < 1920; omega)), decide_eq_true (Nat.lt_of_le_of_lt (Nat.log2_le_self _) (by have := hx.2; show ((x.2 : Nat) : Int).natAbs < 1920; omega))⟩, nds_showable l fun y hy => h y (List.mem_cons_of_mem _ hy)⟩
def nats (l : List Nat) : List PyData := l.map fun a => .int ((a : Nat) : Int)
theorem nats_short : ∀ l : List Nat, (∀ x ∈ l, x ≤ 1000) → PyData.intsShortAll 13 (nats l) = true
  | [], _ => rfl
  | x :: l, h => by
    have hx := h x List.mem_cons_self
    simp only [nats, List.map_cons, PyData.intsShortAll, PyData.intsShort, Bool.and_eq_true, decide_eq_true_eq]
    exact ⟨int_short (by omega), nats_short l fun y hy => h y (List.mem_cons_of_mem _ hy)⟩
theorem nats_weight : ∀ l : List Nat, (∀ x ∈ l, x ≤ 1000) → PyData.weightAll (nats l) ≤ 21 * l.length
  | [], _ => Nat.le_refl _
  | x :: l, h => by
    have hx := h x List.mem_cons_self
    have ih := nats_weight l fun y hy => h y (List.mem_cons_of_mem _ hy)
    have w1 := int_weight (a := x) (by omega)
    have e : PyData.weightAll (nats (x :: l)) = PyData.weight (.int ((x : Nat) : Int)) + 1 + PyData.weightAll (nats l) := by
      simp only [nats, List.map_cons, PyData.weightAll]
    rw [e, List.length_cons]
    omega
theorem nats_lay (l : List Nat) : PyData.canLayAll0 (nats l) = true := by
  unfold nats
  have := ints_lay (l.map fun a => ((a : Nat) : Int))
  rw [List.map_map] at this
  exact this
theorem nats_shaped (l : List Nat) : SeqAt.shaped (.list (nats l)) = true := by
  have := ints_shaped (l.map fun a => ((a : Nat) : Int))
  rw [List.map_map] at this
  exact this
theorem nats_dp {K : PySem.W.Frag} {H : Hp} (l : List Nat) : DpAll K H (l.map fun a => V.int ((a : Nat) : Int)) (nats l) := by
  have := ints_dp (K := K) (H := H) (l.map fun a => ((a : Nat) : Int))
  rw [List.map_map, List.map_map] at this
  exact this
theorem nats_fits (l : List Nat) (h : ∀ x ∈ l, x ≤ 1000) (hl : l.length ≤ 1000) : (PyData.list (nats l)).shown.length ≤ sizeLine := by
  have w := nats_weight l h
  refine PyData.shown_fits (B := 13) (by decide) (by decide) (PyData.leavesShort_of_canLay0 13 _ ?_ ?_) ?_
  · simp only [PyData.canLay0]
    exact nats_lay l
  · simp only [PyData.intsShort]
    exact nats_short l h
  · show PyData.weightAll (nats l) ≤ 2 ^ 20
    omega
theorem nats_showable : ∀ l : List Nat, (∀ x ∈ l, x ≤ 1000) → PyData.showableAll (nats l) = true
  | [], _ => rfl
  | x :: l, h => by
    have hx := h x List.mem_cons_self
    simp only [nats, List.map_cons, PyData.showableAll, PyData.showable, Bool.and_eq_true]
    exact ⟨decide_eq_true (Nat.lt_of_le_of_lt (Nat.log2_le_self _) (by show ((x : Nat) : Int).natAbs < 1920; omega)), nats_showable l fun y hy => h y (List.mem_cons_of_mem _ hy)⟩
/-- a whole number and a pair of them -/
def numPair (a b c : Nat) : PyData := .list [.int ((a : Nat) : Int), .tuple [.int ((b : Nat) : Int), .int ((c : Nat) : Int)]]
theorem numPair_shaped (a b c : Nat) : SeqAt.shaped (numPair a b c) = true := by
  show (PyData.canLay0 _ && decide (PyData.depth _ ≤ 64)) = true
  simp [numPair, PyData.canLay0, PyData.canLayAll0, PyData.depth, PyData.depthAll]
theorem numPair_showable {a b c : Nat} (h1 : a ≤ 1000000) (h2 : b ≤ 1000) (h3 : c ≤ 1000) : (numPair a b c).showable = true := by
  simp only [numPair, PyData.showable, PyData.showableAll, Bool.and_eq_true, Bool.and_true]
  have big : ∀ x : Nat, x ≤ 1000000 → decide (((x : Nat) : Int).natAbs.log2 < 1920) = true := fun x hx => decide_eq_true (by
    show x.log2 < 1920
    by_cases z : x = 0
    · subst z; decide
    · have := (Nat.log2_lt (k := 20) z).mpr (by omega)
      omega)
  exact ⟨big a h1, big b (by omega), big c (by omega)⟩
theorem numPair_fits {a b c : Nat} (h1 : a ≤ 1000000) (h2 : b ≤ 1000) (h3 : c ≤ 1000) : (numPair a b c).shown.length ≤ sizeLine := by
  have w1 := int_weight h1
  have w2 := int_weight (a := b) (by omega)
  have w3 := int_weight (a := c) (by omega)
  refine PyData.shown_fits (B := 13) (by decide) (by decide) (PyData.leavesShort_of_canLay0 13 _ ?_ ?_) ?_
  · simp [numPair, PyData.canLay0, PyData.canLayAll0]
  · simp only [numPair, PyData.intsShort, PyData.intsShortAll, Bool.and_eq_true, decide_eq_true_eq, Bool.and_true]
    exact ⟨int_short h1, int_short (by omega), int_short (by omega)⟩
  · have e : (numPair a b c).weight = PyData.weight (.int ((a : Nat) : Int)) + 1 + ((PyData.weight (.int ((b : Nat) : Int)) + 1 + (PyData.weight (.int ((c : Nat) : Int)) + 1 + 0)) + 1 + 0) := by
      simp only [numPair, PyData.weight, PyData.weightAll]
    rw [e]
    omega
/-! ### repr of single values -/
def reprS : V → Str
  | .int i => toString i
  | .bl b => if b then "True" else "False"
  | _ => "None"
def reprOk : V → Prop
  | .int i => i.natAbs.log2 < 1920
  | .bl _ => True
  | .non => True
  | _ => False
theorem call_reprS {X : Cx} : CallR X (.builtin "repr") (fun xs H Q => ∃ v, xs = [v] ∧ reprOk v ∧ Q (.str (reprS v)) H) := by
  intro pins s σ H xs us Q I r h
  obtain ⟨v, rfl, ok, q⟩ := h
  cases v with
  | int i =>
    obtain ⟨u, rfl, t, rfl⟩ := vals1 r
    exact PySem.P.repr_of_int ok ⟨.str _, H, I.tok _, ⟨_, rfl⟩, q⟩
  | bl b =>
    obtain ⟨u, rfl, e⟩ := vals1 r
    cases (show u = Value.bool b from e)
    exact PySem.P.repr_of_bool ⟨.str _, H, I.tok _, ⟨_, rfl⟩, q⟩
  | non =>
    obtain ⟨u, rfl, e⟩ := vals1 r
    cases (show u = Value.none from e)
    exact PySem.P.repr_of_none ⟨.str _, H, I.tok _, ⟨_, rfl⟩, q⟩
  | str _ => exact ok.elim
  | byt _ => exact ok.elim
  | flt _ => exact ok.elim
  | ref _ => exact ok.elim
  | ty _ => exact ok.elim
end LT

namespace LT
open PySem PySem.Spec PyProof.Rows L2
/-! ### promises of defs that show things: what is being shown around them is told to be nothing -/
structure GOk (P : Program) (w : World) (K : PySem.W.Frag) (mg : Str → Option Value) (base : Heap) (k : Nat) (f : Addr) (fd : FuncData) (ps : List Str) (sp : Sp) : Prop where
  len : ∀ vs H Q E, sp vs H Q E → vs.length = ps.length
  run : ∀ (A : Around) (outer : List Env) (s : Shared) (H : Hp) (args : Args) (us : List Value) (vs : List V) (Q : VK), A.guards = some [] → Room k A → Env0 P w K mg base A outer s H → BindsTo s fd args (ps.zip us) → Vals vs us → sp vs H Q E0 →
    codeAny (model P w) A (.call (.ref f) args) (CR CX0 outer P w H s Q E0) s
section
variable {P : Program} {w : World} {K : PySem.W.Frag} {mg : Str → Option Value} {base : Heap} {k : Nat} {f : Addr} {fd : FuncData} {ps : List Str} {sp : Sp}
theorem GOk.of (F : FnOk P w K mg base CX0 k f fd ps sp) : GOk P w K mg base k f fd ps sp := by
  refine ⟨F.len, ?_⟩
  intro A outer s H args us vs Q _
  exact F.run A outer s H args us vs Q E0
theorem GOk.mono {j : Nat} (F : GOk P w K mg base j f fd ps sp) (h : j ≤ k) : GOk P w K mg base k f fd ps sp := by
  refine ⟨F.len, ?_⟩
  intro A outer s H args us vs Q hg hr
  exact F.run A outer s H args us vs Q hg (hr.mono h)
/-- a def by its body, as Fun.ok -/
theorem okG {x qual : Str} {st : Stmt} {N : List Str} (F : Fun K x qual st f fd) (S : FnScope N ps (defScope st)) (len : ∀ vs H Q E, sp vs H Q E → vs.length = ps.length)
    (body : ∀ (cdv : Value) (A : Around) (outer : List Env) (s : Shared) (H : Hp) (vs : List V) (Q : VK), A.guards = some [] → Room k (A.deeper (envOfC qual (defScope st) s.heap.objs.size f cdv)) → sp vs H Q E0 →
      ∃ t, PSs (cxOf CX0 P w K mg base N qual (defScope st) f cdv A outer s H E0).nox (defBody st) t ∧ t { nx := fun _ H' => Q .non H', rt := Q } (start N vs) H) : GOk P w K mg base (k + 1) f fd ps sp := by
  obtain ⟨oc, od, kV, doc, pm, an, cdv, ct, osl, e, lk, hcd⟩ := F.ex
  subst e
  refine ⟨len, ?_⟩
  intro A outer s H args us vs Q hg hr ev hb rv hsp
  have nvs := len _ _ _ _ hsp
  have there : K.In s.heap := ev.mod.kin.keeps (fun b o q => (ev.bs b o q).1)
  have noLim : s.heap.NoLimit := ev.mod.nolimit.keeps (fun b o q => (ev.bs b o q).1)
  have kinds : ∀ y ∈ ps.zip us, (defScope st).names.lookup y.1 = some .local ∨ ((defScope st).names.lookup y.1 = some .cell ∧ ((cellsFrom (s.heap.objs.size + 1) (defScope st).names []).lookup y.1).isSome = true) := by
    intro y hy
    rcases S.par y.1 (List.of_mem_zip hy).1 with q | q
    · exact Or.inl q
    · exact Or.inr ⟨q, PySem.W.cellsFrom_some _ _ _ (Or.inl q)⟩
  apply codeAny_call_function hr.depth (there _ _ lk) rfl S.co S.gen rfl (PySem.W.codeRec_of there hcd)
  apply hb
  apply wpAny_newFunctionEnv_cells S.kind kinds
  intro env he s1 made
  subst he
  refine ⟨noLim.keeps made.toInCall.keep, codeAny_func ?_⟩
  obtain ⟨t, ht, hq⟩ := body cdv A outer s H vs Q hg (hr.deeper _) hsp
  have I : Inv (cxOf CX0 P w K mg base N qual (defScope st) f cdv A outer s H E0) [] (start N vs) H s1 := inv_start S hr.hd ev nvs rv made
  have ran := ht.nox.run [] s1 (start N vs) H _ I hq
  apply wpAny_mono ran
  · intro fl s' hs
    have fin : ∀ {σ' : L2.St} {H' : Hp} {v : V} {u : Value}, Inv (cxOf CX0 P w K mg base N qual (defScope st) f cdv A outer s H E0) [] σ' H' s' → RelV v u → Q v H' → CE outer P w H s Q u s' := by
      intro σ' H' v u J r q
      exact ⟨v, H', J.os, J.bare, J.base, J.hok, r, q⟩
    match fl, hs with
    | .ret u, ⟨v, σ', H', J, r, q⟩ => exact fin J r q
    | .next, ⟨σ', H', J, q⟩ => exact fin (v := V.non) (u := Value.none) J rfl q
    | .brk, ⟨_, _, _, q⟩ => exact False.elim q
    | .cont, ⟨_, _, _, q⟩ => exact False.elim q
  · intro e s' hs
    exact hs
end
section
variable {X : Cx} {k : Nat} {f : Addr} {fd : FuncData} {ps : List Str} {sp : Sp} {x : Str} {p pos : Pos} {e : Expr} {es : List Expr} {t : TA}
theorem runG {pins : List (Addr × Obj)} {σ : L2.St} {H : Hp} {s : Shared} {Q : VK} {us : List Value} {vs : List V} (F : GOk X.prog X.w X.K X.mg X.base k f fd ps sp) (hg : X.A.guards = some []) (hr : Room k X.A) (hb : Binds X.K fd ps [])
    (I : Inv X pins σ H s) (rv : Vals vs us) (h : sp vs H Q E0) : wpAny (model X.prog X.w) X.A (call (.ref f) us) (EP X pins σ Q) X.xe s := by
  have n : (us ++ []).length = ps.length := by
    rw [List.append_nil, ← rv.length]
    exact F.len _ _ _ _ h
  have b := hb s us I.kIn n
  rw [List.append_nil] at b
  apply wpAny_call
  apply codeAny_mono (F.run X.A X.stack s H ⟨us, []⟩ us vs Q hg hr I.env0 b rv h)
  intro res s' hq
  match res, hq with
  | .error _, hq => exact False.elim hq
  | .ok (.ret u), hq => exact I.after hq
  | .ok .next, hq => exact False.elim hq
  | .ok .brk, hq => exact False.elim hq
  | .ok .cont, hq => exact False.elim hq
theorem pe_callG (F : GOk X.prog X.w X.K X.mg X.base k f fd ps sp) (hgd : X.A.guards = some []) (hr : Room k X.A) (hg : Gl X x) (hm : X.mg x = some (.ref f)) (hk : PySem.W.keepIn X.K (.ref f) = true) (hb : Binds X.K fd ps [])
    (ha : PA X (e :: es) t) (hdb : (x == ("__debug__" : Str)) = false := by decide) (he : starEach (e :: es) X.env = (false, eval e X.env) :: starEach es X.env := by rfl) (hpl : (backTo pos (starEach es X.env)).any (·.1) = false := by rfl) :
    PE X (.Call (.Name x p) (e :: es) [] pos) (tCall sp [] E0 t) := by
  constructor
  intro pins s σ H Q I h
  apply wpAny_Call_Name_kw
  refine ld_glob I hg hm ?_ hdb
  apply PySem.W.callWith_K (h₀ := X.base) I.ok.mod.kin hk _ he hpl
  apply thn (ha.run pos pins s σ H _ I h)
  intro us s1 hh
  obtain ⟨vs, H1, I1, rv, q⟩ := hh
  rw [List.append_nil] at q
  exact ⟨I1.kIn, runG F hgd hr hb I1 rv q⟩
/-- repr of lists and tuples of plain data -/
theorem call_repr (hg : X.A.guards = some []) (hu : X.A.units + 65 < cLine) :
    CallR X (.builtin "repr") (fun xs H Q => ∃ y d, xs = [y] ∧ Dp X.K H y d ∧ PyProof.Rows.isDisplay d = true ∧ SeqAt.shaped d = true ∧ d.showable = true ∧ d.shown.length ≤ sizeLine ∧ Q (.str d.shown) H) := by
  intro pins s σ H xs us Q I r h
  obtain ⟨y, d, rfl, hd, hi, hsh, hs, hl, q⟩ := h
  obtain ⟨u, rfl, r1⟩ := vals1 r
  obtain ⟨as, r2⟩ := Dp.reads I d y u hd r1
  obtain ⟨a, rfl⟩ := PyProof.Rows.isRef_of_reads r2 hi
  have dp := SeqAt.depth_of_shaped hsh
  refine repr_of_reads' r2 hs (PyData.noDict_hsm (PyData.hasDict_of_canLay d (SeqAt.canLay_of_shaped hsh))) hg (by omega) (fun _ _ q => q) ?_ hl
  intro h' u tk kept
  exact ⟨.str d.shown, H, I.kept kept, ⟨_, rfl⟩, q⟩
theorem call_reprB {s : Shared} {H : Hp} {sc : Scope} {ce : Env} {fp : List Addr} (hg : X.A.guards = some []) (hu : X.A.units + 65 < cLine) :
    CallR (X.blk s H sc ce fp) (.builtin "repr") (fun xs H Q => ∃ y d, xs = [y] ∧ Dp X.K H y d ∧ PyProof.Rows.isDisplay d = true ∧ SeqAt.shaped d = true ∧ d.showable = true ∧ d.shown.length ≤ sizeLine ∧ Q (.str d.shown) H) := call_repr (X := X.blk s H sc ce fp) hg hu
end
end LT

namespace LT
open PySem PySem.Spec PyProof.Rows L2
/-! ### repr of lists and tuples within one another, with empty dicts (dk) or without -/
def RpZ (dk : Bool) (H : Hp) (v : V) (d : PyData) : Prop := (v = .non ∧ d = .none) ∨ (∃ b, v = .bl b ∧ d = .bool b) ∨ (∃ i, v = .int i ∧ d = .int i) ∨ (∃ x, v = .str x ∧ d = .str x) ∨ (dk = true ∧ ∃ p, v = .ref p ∧ H p = some (.dK []) ∧ d = .dict [])
def Rp (dk : Bool) : Nat → Hp → V → PyData → Prop
  | 0, H, v, d => RpZ dk H v d
  | k + 1, H, v, d => RpZ dk H v d ∨ (∃ p vs ds, v = .ref p ∧ H p = some (.tup vs) ∧ d = .tuple ds ∧ All2 (Rp dk k H) vs ds) ∨ (∃ p vs ds, v = .ref p ∧ H p = some (.lst vs) ∧ d = .list ds ∧ (dk = true → (p == sysModules) = false) ∧ All2 (Rp dk k H) vs ds)
theorem RpZ.same {dk : Bool} {H H' : Hp} {v : V} {d : PyData} (h : RpZ dk H v d) (s : Same H H') : RpZ dk H' v d := by
  rcases h with h | h | h | h | ⟨e, p, e1, hp, e2⟩
  · exact .inl h
  · exact .inr (.inl h)
  · exact .inr (.inr (.inl h))
  · exact .inr (.inr (.inr (.inl h)))
  · exact .inr (.inr (.inr (.inr ⟨e, p, e1, s _ _ hp, e2⟩)))
theorem Rp.same {dk : Bool} {H H' : Hp} (s : Same H H') : ∀ {k : Nat} {v : V} {d : PyData}, Rp dk k H v d → Rp dk k H' v d
  | 0, _, _, h => RpZ.same h s
  | k + 1, _, _, h => by
    rcases h with h | ⟨p, vs, ds, e, hp, e2, a⟩ | ⟨p, vs, ds, e, hp, e2, g, a⟩
    · exact .inl (h.same s)
    · exact .inr (.inl ⟨p, vs, ds, e, s _ _ hp, e2, a.mono fun v x (z : Rp dk k H v x) => Rp.same s z⟩)
    · exact .inr (.inr ⟨p, vs, ds, e, s _ _ hp, e2, g, a.mono fun v x (z : Rp dk k H v x) => Rp.same s z⟩)
theorem Rp.up {dk : Bool} {H : Hp} : ∀ {k : Nat} {v : V} {d : PyData}, Rp dk k H v d → Rp dk (k + 1) H v d
  | 0, _, _, h => .inl h
  | k + 1, _, _, h => by
    rcases h with h | ⟨p, vs, ds, e, hp, e2, a⟩ | ⟨p, vs, ds, e, hp, e2, g, a⟩
    · exact .inl h
    · exact .inr (.inl ⟨p, vs, ds, e, hp, e2, a.mono fun v x (z : Rp dk k H v x) => Rp.up z⟩)
    · exact .inr (.inr ⟨p, vs, ds, e, hp, e2, g, a.mono fun v x (z : Rp dk k H v x) => Rp.up z⟩)
theorem RpZ.weak {H : Hp} {v : V} {d : PyData} (h : RpZ false H v d) : RpZ true H v d := by
  rcases h with h | h | h | h | ⟨e, _⟩
  · exact .inl h
  · exact .inr (.inl h)
  · exact .inr (.inr (.inl h))
  · exact .inr (.inr (.inr (.inl h)))
  · cases e
theorem RpZ.no {H : Hp} {v : V} {d : PyData} (h : RpZ false H v d) : d.hasDict = false := by
  rcases h with ⟨_, rfl⟩ | ⟨_, _, rfl⟩ | ⟨_, _, rfl⟩ | ⟨_, _, rfl⟩ | ⟨e, _⟩
  · simp only [PyData.hasDict]
  · simp only [PyData.hasDict]
  · simp only [PyData.hasDict]
  · simp only [PyData.hasDict]
  · cases e
theorem all2_no {R : V → PyData → Prop} (f : ∀ v d, R v d → d.hasDict = false) {vs : List V} {ds : List PyData} (h : All2 R vs ds) : PyData.hasDictAll ds = false := by
  induction h with
  | nil => simp only [PyData.hasDictAll]
  | cons h _ ih => simp only [PyData.hasDictAll, f _ _ h, ih, Bool.or_self]
theorem Rp.no {H : Hp} : ∀ {k : Nat} {v : V} {d : PyData}, Rp false k H v d → d.hasDict = false
  | 0, _, _, h => RpZ.no h
  | k + 1, _, _, h => by
    rcases h with h | ⟨p, vs, ds, e, hp, rfl, a⟩ | ⟨p, vs, ds, e, hp, rfl, g, a⟩
    · exact h.no
    · simp only [PyData.hasDict]
      exact all2_no (fun v d z => Rp.no z) a
    · simp only [PyData.hasDict]
      exact all2_no (fun v d z => Rp.no z) a
theorem all2_deep {R : V → PyData → Prop} {n : Nat} (f : ∀ v d, R v d → d.depth ≤ n) {vs : List V} {ds : List PyData} (h : All2 R vs ds) : PyData.depthAll ds ≤ n := by
  induction h with
  | nil => simp only [PyData.depthAll]; exact Nat.zero_le _
  | cons h _ ih =>
    have := f _ _ h
    simp only [PyData.depthAll]
    omega
theorem RpZ.deep {dk : Bool} {H : Hp} {v : V} {d : PyData} (h : RpZ dk H v d) : d.depth ≤ 2 := by
  rcases h with ⟨_, rfl⟩ | ⟨_, _, rfl⟩ | ⟨_, _, rfl⟩ | ⟨_, _, rfl⟩ | ⟨_, _, _, _, rfl⟩ <;> simp [PyData.depth, PyData.depthAll, PyData.depthKv]
theorem Rp.deep {dk : Bool} {H : Hp} : ∀ {k : Nat} {v : V} {d : PyData}, Rp dk k H v d → d.depth ≤ k + 2
  | 0, _, _, h => RpZ.deep h
  | k + 1, _, _, h => by
    rcases h with h | ⟨p, vs, ds, e, hp, rfl, a⟩ | ⟨p, vs, ds, e, hp, rfl, g, a⟩
    · have := h.deep
      omega
    · have := all2_deep (fun v d z => Rp.deep z) a
      simp only [PyData.depth]
      omega
    · have := all2_deep (fun v d z => Rp.deep z) a
      simp only [PyData.depth]
      omega
section
variable {X : Cx} {pins : List (Addr × Obj)} {σ : L2.St} {H : Hp} {s : Shared}
theorem RpZ.reads (I : Inv X pins σ H s) {dk : Bool} {v : V} {d : PyData} {u : Value} (h : RpZ dk H v d) (r : RelV v u) : ∃ as, Reads s.heap u d as ∧ (dk = true → sysModules ∉ as) := by
  rcases h with ⟨rfl, rfl⟩ | ⟨b, rfl, rfl⟩ | ⟨i, rfl, rfl⟩ | ⟨x, rfl, rfl⟩ | ⟨_, p, rfl, e, rfl⟩
  · cases r
    exact ⟨_, Reads.none, fun _ => List.not_mem_nil⟩
  · cases r
    exact ⟨_, Reads.bool b, fun _ => List.not_mem_nil⟩
  · obtain ⟨t, rfl⟩ := r
    exact ⟨_, Reads.int i t, fun _ => List.not_mem_nil⟩
  · obtain ⟨t, rfl⟩ := r
    exact ⟨_, Reads.str x t, fun _ => List.not_mem_nil⟩
  · cases r
    obtain ⟨_, hs, vs, kv, o, es, ep, ho, hx, hd, _, hp, _⟩ := dk_of I.hok e
    cases kv
    have e0 : es.toList = [] := by
      cases h : es.toList with
      | nil => rfl
      | cons a l => rw [h] at hp; cases hp
    refine ⟨_, Reads.dict (kvs := []) (as := []) (bs := []) ho hx.1 hd ?_ ?_, fun _ z => ?_⟩
    · rw [e0]; exact .nil
    · rw [e0]; exact .nil
    · rcases List.mem_cons.mp z with z | z
      · rw [← z] at hs; exact absurd hs (by decide)
      · cases z
theorem all2_reads (I : Inv X pins σ H s) {dk : Bool} {R : V → PyData → Prop} (f : ∀ v d u, R v d → RelV v u → ∃ as, Reads s.heap u d as ∧ (dk = true → sysModules ∉ as)) : ∀ {vs : List V} {ds : List PyData} {us : List Value}, All2 R vs ds → Vals vs us → ∃ as, ReadsAll s.heap us ds as ∧ (dk = true → sysModules ∉ as)
  | _, _, _, .nil, r => by
    cases r
    exact ⟨_, .nil, fun _ => List.not_mem_nil⟩
  | _, _, _, .cons h t, r => by
    cases r with
    | cons r1 r2 =>
      obtain ⟨as, a1, a2⟩ := f _ _ _ h r1
      obtain ⟨bs, b1, b2⟩ := all2_reads I f t r2
      exact ⟨_, .cons a1 b1, fun z m => (List.mem_append.mp m).elim (a2 z) (b2 z)⟩
theorem Rp.reads (I : Inv X pins σ H s) {dk : Bool} : ∀ {k : Nat} {v : V} {d : PyData} {u : Value}, Rp dk k H v d → RelV v u → ∃ as, Reads s.heap u d as ∧ (dk = true → sysModules ∉ as)
  | 0, _, _, _, h, r => RpZ.reads I h r
  | k + 1, _, _, _, h, r => by
    rcases h with h | ⟨p, vs, ds, rfl, hp, rfl, a⟩ | ⟨p, vs, ds, rfl, hp, rfl, g, a⟩
    · exact h.reads I r
    · cases r
      obtain ⟨its, rv, ⟨o, ho, hc, n, hd⟩, _⟩ := I.tuple (SqT.of hp)
      obtain ⟨as, a1, a2⟩ := all2_reads I (dk := dk) (fun v d u z rr => Rp.reads I z rr) a rv
      exact ⟨_, Reads.tuple ho hc hd a1, a2⟩
    · cases r
      obtain ⟨its, rv, ⟨o, n, ho, hc, _, hd⟩, _⟩ := I.list (SqL.of hp)
      obtain ⟨as, a1, a2⟩ := all2_reads I (dk := dk) (fun v d u z rr => Rp.reads I z rr) a rv
      refine ⟨_, Reads.list ho hc hd a1, fun z m => ?_⟩
      rcases List.mem_cons.mp m with m | m
      · have := g z
        rw [← m] at this
        exact absurd this (by decide)
      · exact a2 z m
end
section
variable {X : Cx}
/-- repr of such a value -/
theorem call_rp (hg : X.A.guards = some []) (hu : X.A.units + 65 < cLine) :
    CallR X (.builtin "repr") (fun xs H Q => ∃ v d dk k, xs = [v] ∧ k ≤ 20 ∧ Rp dk k H v d ∧ d.showable = true ∧ d.shown.length ≤ sizeLine ∧ Q (.str d.shown) H) := by
  intro pins s σ H xs us Q I r h
  obtain ⟨v, d, dk, k, rfl, hk, hv, hsh, hlen, q⟩ := h
  obtain ⟨u, rfl, r1⟩ := vals1 r
  have dp := hv.deep
  obtain ⟨as, rd, hs⟩ := Rp.reads I hv r1
  have hn : d.hasDict = true → sysModules ∉ as := fun z => by
    cases dk with
    | true => exact hs rfl
    | false =>
      have := hv.no
      rw [this] at z
      cases z
  cases u with
  | ref a =>
    refine repr_of_reads' rd hsh hn hg (by omega) (fun _ _ q => q) ?_ hlen
    intro h' u tk kept
    exact ⟨.str d.shown, H, I.kept kept, ⟨_, rfl⟩, q⟩
  | none =>
    cases rd
    exact PySem.P.repr_of_none ⟨.str _, H, I.tok _, ⟨_, rfl⟩, q⟩
  | bool b =>
    cases rd
    exact PySem.P.repr_of_bool ⟨.str _, H, I.tok _, ⟨_, rfl⟩, q⟩
  | int i t =>
    cases rd
    simp only [PyData.showable, decide_eq_true_eq] at hsh
    simp only [PyData.shown] at q
    exact PySem.P.repr_of_int hsh ⟨.str _, H, I.tok _, ⟨_, rfl⟩, q⟩
  | str x t =>
    cases rd
    simp only [PyData.shown] at q hlen
    exact PySem.P.repr_of_str ⟨.str _, H, I.tok _, ⟨_, rfl⟩, q⟩ hlen
  | _ => cases rd
end
/-- what is shown is short -/
def Tn (n : Nat) (d : PyData) : Prop := d.showable = true ∧ d.shown.length ≤ n
theorem Tn.le {n m : Nat} {d : PyData} (h : Tn n d) (l : n ≤ m) : Tn m d := ⟨h.1, Nat.le_trans h.2 l⟩
theorem tn_none : Tn 10 .none := ⟨by simp only [PyData.showable], by simp only [PyData.shown]; decide +kernel⟩
theorem tn_bool (b : Bool) : Tn 10 (.bool b) := ⟨by simp only [PyData.showable], by cases b <;> simp only [PyData.shown] <;> decide +kernel⟩
theorem tn_dict : Tn 10 (.dict []) := ⟨by simp only [PyData.showable, PyData.showableKv], by simp only [PyData.shown, PyData.shownKv]; decide +kernel⟩
theorem tn_int {i : Int} (h : i.natAbs < 10 ^ 66) : Tn 70 (.int i) := by
  refine ⟨?_, ?_⟩
  · simp only [PyData.showable]
    refine decide_eq_true ?_
    by_cases z : i.natAbs = 0
    · rw [z]; decide
    · exact Nat.lt_of_lt_of_le ((Nat.log2_lt (k := 250) z).mpr (Nat.lt_of_lt_of_le h (by decide))) (by decide)
  · have e := int_text_length_le10 (a := i) (k := 66) (by decide) h
    simp only [PyData.shown]
    show (Str.ofString (toString i)).length ≤ 70
    rw [PySem.ofString_length]
    omega
theorem tn_all {n : Nat} : ∀ {ds : List PyData}, (∀ d ∈ ds, Tn n d) → PyData.showableAll ds = true ∧ ((PyData.shownAll ds).map (·.length)).sum ≤ ds.length * n ∧ (PyData.shownAll ds).length = ds.length
  | [], _ => ⟨by simp only [PyData.showableAll], by simp [PyData.shownAll], by simp only [PyData.shownAll, List.length_nil]⟩
  | d :: ds, h => by
    obtain ⟨a, b, c⟩ := tn_all (n := n) fun x m => h x (List.mem_cons_of_mem _ m)
    have t := h d List.mem_cons_self
    refine ⟨by simp only [PyData.showableAll, t.1, a, Bool.and_self], ?_, by simp only [PyData.shownAll, List.length_cons, c]⟩
    simp only [PyData.shownAll, List.map_cons, List.sum_cons, List.length_cons]
    have := t.2
    have e : (ds.length + 1) * n = ds.length * n + n := by rw [Nat.add_mul, Nat.one_mul]
    omega
theorem tn_list {n : Nat} {ds : List PyData} (h : ∀ d ∈ ds, Tn n d) : Tn (ds.length * (n + 2) + 3) (.list ds) := by
  obtain ⟨a, b, c⟩ := tn_all h
  have t := PySem.listText_len_le (PyData.shownAll ds)
  have e : ds.length * (n + 2) = ds.length * n + ds.length * 2 := Nat.mul_add ..
  exact ⟨by simp only [PyData.showable, a], by simp only [PyData.shown]; omega⟩
theorem tn_tup {n : Nat} {ds : List PyData} (h : ∀ d ∈ ds, Tn n d) : Tn (ds.length * (n + 2) + 3) (.tuple ds) := by
  obtain ⟨a, b, c⟩ := tn_all h
  have t := PySem.tupleText_len_le (PyData.shownAll ds)
  have e : ds.length * (n + 2) = ds.length * n + ds.length * 2 := Nat.mul_add ..
  exact ⟨by simp only [PyData.showable, a], by simp only [PyData.shown]; omega⟩
end LT

namespace LT
open PySem PySem.Spec PyProof.Rows L2
/-! ### repr of lists with empty dicts in any depth: each item is read by itself -/
def RD (P : Program) (w : World) (h : Heap) (v : Value) (d : PyData) : Prop := ∃ us bs, Reads h v d us ∧ ReadAtMost h d.depth bs ∧ ReprK P w bs h d.depth v d.shown
def RDs (P : Program) (w : World) (h : Heap) (vs : List Value) (ds : List PyData) : Prop := ∃ us bs, ReadsAll h vs ds us ∧ ReadAtMost h (PyData.depthAll ds) bs ∧ ReprAllK P w bs h (PyData.depthAll ds) vs (PyData.shownAll ds)
section
variable {P : Program} {w : World} {h : Heap}
theorem RDs.nil : RDs P w h [] [] := ⟨_, [], .nil, fun b m => (List.not_mem_nil m).elim, by simp only [PyData.shownAll]; exact .nil⟩
theorem RDs.cons {v : Value} {d : PyData} {vs : List Value} {ds : List PyData} : RD P w h v d → RDs P w h vs ds → RDs P w h (v :: vs) (d :: ds) := by
  rintro ⟨u1, c1, x1, y1, z1⟩ ⟨u2, c2, x2, y2, z2⟩
  have m1 : d.depth ≤ PyData.depthAll (d :: ds) := by simp only [PyData.depthAll]; omega
  have m2 : PyData.depthAll ds ≤ PyData.depthAll (d :: ds) := by simp only [PyData.depthAll]; omega
  refine ⟨_, c1 ++ c2, .cons x1 x2, (y1.mono m1).append (y2.mono m2), ?_⟩
  simp only [PyData.shownAll]
  exact .cons ((z1.more fun b m => List.mem_append.mpr (.inl m)).level_le m1) (z2.more_le (fun b m => List.mem_append.mpr (.inr m)) m2)
theorem RD.list {a : Addr} {o : Obj} {vs : Array Value} {n : Nat} {ds : List PyData} (g : h.get? a = some o) (c : o.cls = .type "list") (e : o.data = .seq vs n) : RDs P w h vs.toList ds → RD P w h (.ref a) (.list ds) := by
  rintro ⟨u, bs, x, y, z⟩
  have r := Reads.list g c e x
  have deep : PyData.depthAll ds < (PyData.list ds).depth := by simp only [PyData.depth]; omega
  have out := not_mem_of_deeper r deep y
  refine ⟨_, a :: bs, r, .cons r (Nat.le_of_lt deep) y, ?_⟩
  simp only [PyData.depth, PyData.shown]
  obtain ⟨l⟩ := vs
  cases l with
  | nil =>
    cases (show ReadsAll h [] ds _ from x)
    simp only [PyData.shownAll, listText_nil]
    exact .listEmpty g c e
  | cons v l =>
    have len := z.length_eq
    exact .list g c e out (by simpa using len) fun i q eq => z.item i q (by simpa using eq)
theorem RD.tup {a : Addr} {o : Obj} {vs : Array Value} {n : Nat} {ds : List PyData} (g : h.get? a = some o) (c : o.cls = .type "tuple") (e : o.data = .seq vs n) : RDs P w h vs.toList ds → RD P w h (.ref a) (.tuple ds) := by
  rintro ⟨u, bs, x, y, z⟩
  have r := Reads.tuple g c e x
  have deep : PyData.depthAll ds < (PyData.tuple ds).depth := by simp only [PyData.depth]; omega
  refine ⟨_, a :: bs, r, .cons r (Nat.le_of_lt deep) y, ?_⟩
  simp only [PyData.depth, PyData.shown]
  exact .tuple g c e (not_mem_of_deeper r deep y) z
end
def Rq : Nat → Hp → V → PyData → Prop
  | 0, H, v, d => RpZ true H v d
  | k + 1, H, v, d => RpZ true H v d ∨ (∃ p vs ds, v = .ref p ∧ H p = some (.tup vs) ∧ d = .tuple ds ∧ All2 (Rq k H) vs ds) ∨ (∃ p vs ds, v = .ref p ∧ H p = some (.lst vs) ∧ d = .list ds ∧ All2 (Rq k H) vs ds)
theorem Rq.same {H H' : Hp} (s : Same H H') : ∀ {k : Nat} {v : V} {d : PyData}, Rq k H v d → Rq k H' v d
  | 0, _, _, h => RpZ.same h s
  | k + 1, _, _, h => by
    rcases h with h | ⟨p, vs, ds, e, hp, e2, a⟩ | ⟨p, vs, ds, e, hp, e2, a⟩
    · exact .inl (h.same s)
    · exact .inr (.inl ⟨p, vs, ds, e, s _ _ hp, e2, a.mono fun v x (z : Rq k H v x) => Rq.same s z⟩)
    · exact .inr (.inr ⟨p, vs, ds, e, s _ _ hp, e2, a.mono fun v x (z : Rq k H v x) => Rq.same s z⟩)
theorem Rq.up {H : Hp} : ∀ {k : Nat} {v : V} {d : PyData}, Rq k H v d → Rq (k + 1) H v d
  | 0, _, _, h => .inl h
  | k + 1, _, _, h => by
    rcases h with h | ⟨p, vs, ds, e, hp, e2, a⟩ | ⟨p, vs, ds, e, hp, e2, a⟩
    · exact .inl h
    · exact .inr (.inl ⟨p, vs, ds, e, hp, e2, a.mono fun v x (z : Rq k H v x) => Rq.up z⟩)
    · exact .inr (.inr ⟨p, vs, ds, e, hp, e2, a.mono fun v x (z : Rq k H v x) => Rq.up z⟩)
theorem Rp.q {dk : Bool} {H : Hp} : ∀ {k : Nat} {v : V} {d : PyData}, Rp dk k H v d → Rq k H v d
  | 0, _, _, h => by
    cases dk with
    | true => exact h
    | false => exact RpZ.weak h
  | k + 1, _, _, h => by
    rcases h with h | ⟨p, vs, ds, e, hp, e2, a⟩ | ⟨p, vs, ds, e, hp, e2, _, a⟩
    · refine .inl ?_
      cases dk with
      | true => exact h
      | false => exact RpZ.weak h
    · exact .inr (.inl ⟨p, vs, ds, e, hp, e2, a.mono fun v x (z : Rp dk k H v x) => Rp.q z⟩)
    · exact .inr (.inr ⟨p, vs, ds, e, hp, e2, a.mono fun v x (z : Rp dk k H v x) => Rp.q z⟩)
theorem Rq.deep {H : Hp} : ∀ {k : Nat} {v : V} {d : PyData}, Rq k H v d → d.depth ≤ k + 2
  | 0, _, _, h => RpZ.deep h
  | k + 1, _, _, h => by
    rcases h with h | ⟨p, vs, ds, e, hp, rfl, a⟩ | ⟨p, vs, ds, e, hp, rfl, a⟩
    · have := h.deep
      omega
    · have := all2_deep (fun v d z => Rq.deep z) a
      simp only [PyData.depth]
      omega
    · have := all2_deep (fun v d z => Rq.deep z) a
      simp only [PyData.depth]
      omega
section
variable {X : Cx} {pins : List (Addr × Obj)} {σ : L2.St} {H : Hp} {s : Shared}
theorem all2_rd {R : V → PyData → Prop} (f : ∀ v d u, R v d → RelV v u → d.showable = true → d.shown.length ≤ sizeLine → RD X.prog X.w s.heap u d) : ∀ {vs : List V} {ds : List PyData} {us : List Value}, All2 R vs ds → Vals vs us → PyData.showableAll ds = true → (∀ t ∈ PyData.shownAll ds, t.length ≤ sizeLine) → RDs X.prog X.w s.heap us ds
  | _, _, _, .nil, r, _, _ => by
    cases r
    exact .nil
  | _, d :: ds, _, .cons h t, r, hs, hz => by
    simp only [PyData.showableAll, Bool.and_eq_true] at hs
    simp only [PyData.shownAll, List.mem_cons] at hz
    cases r with
    | cons r1 r2 => exact .cons (f _ _ _ h r1 hs.1 (hz _ (.inl rfl))) (all2_rd f t r2 hs.2 fun t m => hz t (.inr m))
theorem Rq.rd (I : Inv X pins σ H s) : ∀ {k : Nat} {v : V} {d : PyData} {u : Value}, Rq k H v d → RelV v u → d.showable = true → d.shown.length ≤ sizeLine → RD X.prog X.w s.heap u d
  | 0, _, _, _, h, r, hs, hz => by
    obtain ⟨as, a1, a2⟩ := RpZ.reads I h r
    obtain ⟨bs, b1, b2⟩ := ReprK.of_reads (prog := X.prog) (w := X.w) a1 hs (fun _ => a2 rfl) hz
    exact ⟨as, bs, a1, b1, b2⟩
  | k + 1, _, _, _, h, r, hs, hz => by
    rcases h with h | ⟨p, vs, ds, rfl, hp, rfl, a⟩ | ⟨p, vs, ds, rfl, hp, rfl, a⟩
    · obtain ⟨as, a1, a2⟩ := RpZ.reads I h r
      obtain ⟨bs, b1, b2⟩ := ReprK.of_reads (prog := X.prog) (w := X.w) a1 hs (fun _ => a2 rfl) hz
      exact ⟨as, bs, a1, b1, b2⟩
    · cases r
      simp only [PyData.showable] at hs
      simp only [PyData.shown] at hz
      obtain ⟨its, rv, ⟨o, ho, hc, n, hd⟩, _⟩ := I.tuple (SqT.of hp)
      exact .tup ho hc hd (all2_rd (fun v d u z rr ss zz => Rq.rd I z rr ss zz) a rv hs fun t m => Nat.le_trans (tupleText_mem_le m) hz)
    · cases r
      simp only [PyData.showable] at hs
      simp only [PyData.shown] at hz
      obtain ⟨its, rv, ⟨o, n, ho, hc, _, hd⟩, _⟩ := I.list (SqL.of hp)
      exact .list ho hc hd (all2_rd (fun v d u z rr ss zz => Rq.rd I z rr ss zz) a rv hs fun t m => Nat.le_trans (listText_mem_le m) hz)
end
section
variable {X : Cx}
/-- repr of a list -/
theorem call_rq (hg : X.A.guards = some []) (hu : X.A.units + 65 < cLine) :
    CallR X (.builtin "repr") (fun xs H Q => ∃ p vs ds k, xs = [.ref p] ∧ H p = some (.lst vs) ∧ k ≤ 20 ∧ All2 (Rq k H) vs ds ∧ (PyData.list ds).showable = true ∧ (PyData.list ds).shown.length ≤ sizeLine ∧ Q (.str (PyData.list ds).shown) H) := by
  intro pins s σ H xs us Q I r h
  obtain ⟨p, vs, ds, k, rfl, hp, hk, hv, hsh, hlen, q⟩ := h
  obtain ⟨u, rfl, r1⟩ := vals1 r
  cases r1
  obtain ⟨its, rv, ⟨o, n, ho, hc, _, hd⟩, _⟩ := I.list (SqL.of hp)
  have hs2 : PyData.showableAll ds = true := by simpa only [PyData.showable] using hsh
  have hz2 : (listText (PyData.shownAll ds)).length ≤ sizeLine := by simpa only [PyData.shown] using hlen
  obtain ⟨as, bs, x, y, z⟩ := all2_rd (X := X) (s := s) (fun v d u w rr ss zz => Rq.rd I w rr ss zz) hv rv hs2 fun t m => Nat.le_trans (listText_mem_le m) hz2
  have dp := all2_deep (fun v d w => Rq.deep w) hv
  have deep : PyData.depthAll ds < (PyData.list ds).depth := by simp only [PyData.depth]; omega
  have fin : ∀ (h' : Heap) (u : Tok) (tk : Nat), (∀ b o, s.heap.get? b = some o → h'.get? b = some o) → (fun v s₁ => EP X pins σ Q v s₁) (.str (listText (PyData.shownAll ds)) u) { s with heap := h', toks := tk } := fun h' u tk kept => by
    simp only [PyData.shown] at q
    exact ⟨.str (listText (PyData.shownAll ds)), H, I.kept kept, ⟨_, rfl⟩, q⟩
  refine call_repr_slot (by omega) ⟨o, ho, hc⟩ F.slot_list_repr.toG ?_
  have hu2 : X.A.in1.units + (PyData.depthAll ds + 1) < cLine := by
    show X.A.units + 1 + (PyData.depthAll ds + 1) < cLine
    omega
  cases its with
  | nil =>
    have e0 : ds = [] := by
      cases rv
      cases hv
      rfl
    subst e0
    refine call_list_repr_empty ⟨o, ho, hc⟩ ho hd ⟨_, _, rfl, ?_⟩
    exact fin s.heap _ _ fun _ _ e => e
  | cons v l =>
    have len := z.length_eq
    exact call_list_reprK ho hc hd (not_mem_of_deeper (Reads.list ho hc hd x) deep y) (by simpa using len) (fun i q eq => z.item i q (by simpa using eq)) (show X.A.in1.guards = some [] from hg) (fun b _ => Clear.nil b) hu2 (fun _ _ e => e) (fun h' u tk kept => ⟨_, _, rfl, fin h' u tk kept⟩) hz2
end
end LT

namespace LT
open PySem PySem.Spec PyProof.Rows L2
/-! ### lists of values that are no nodes, and can be shown -/
def sd : V → PyData
  | .bl b => .bool b
  | .int i => .int i
  | .str x => .str x
  | _ => .none
def isSc : V → Bool
  | .non => true
  | .bl _ => true
  | .int _ => true
  | .str _ => true
  | _ => false
def okS (v : V) : Prop := isSc v = true ∧ Tn 70 (sd v)
theorem okS_non : okS .non := ⟨rfl, tn_none.le (by decide)⟩
theorem okS_bl (b : Bool) : okS (.bl b) := ⟨rfl, (tn_bool b).le (by decide)⟩
theorem okS_int {i : Int} (h : i.natAbs < 10 ^ 66) : okS (.int i) := ⟨rfl, tn_int h⟩
theorem okS_str {x : Str} (h : (reprText x).length ≤ 70) : okS (.str x) := ⟨rfl, by simp only [sd, PyData.showable], by simp only [sd, PyData.shown]; exact h⟩
def okAll : List V → Prop
  | [] => True
  | x :: xs => okS x ∧ okAll xs
theorem rpz_sd {dk : Bool} {H : Hp} {v : V} (h : isSc v = true) : RpZ dk H v (sd v) := by
  cases v with
  | non => exact .inl ⟨rfl, rfl⟩
  | bl b => exact .inr (.inl ⟨b, rfl, rfl⟩)
  | int i => exact .inr (.inr (.inl ⟨i, rfl, rfl⟩))
  | str x => exact .inr (.inr (.inr (.inl ⟨x, rfl, rfl⟩)))
  | _ => cases h
theorem okAll_rp {dk : Bool} {H : Hp} : ∀ {xs : List V}, okAll xs → All2 (Rp dk 0 H) xs (xs.map sd)
  | [], _ => .nil
  | x :: xs, h => .cons (rpz_sd h.1.1) (okAll_rp h.2)
theorem okAll_tn : ∀ {xs : List V}, okAll xs → ∀ d ∈ xs.map sd, Tn 70 d
  | [], _, d, m => by cases m
  | x :: xs, h, d, m => by
    rw [List.map_cons] at m
    rcases List.mem_cons.mp m with rfl | m
    · exact h.1.2
    · exact okAll_tn h.2 d m
/-- no node, and can be shown -/
def Bx (K : PySem.W.Frag) (H : Hp) (n : Nat) (v : V) : Prop := Ask K H n v false ∧ ∃ dk d, Rp dk 2 H v d ∧ Tn 600 d
theorem Bx.same {K : PySem.W.Frag} {H H' : Hp} {n : Nat} {v : V} (h : Bx K H n v) (s : Same H H') : Bx K H' n v := by
  obtain ⟨a, dk, d, r, t⟩ := h
  exact ⟨a.same s, dk, d, r.same s, t⟩
def BadX (K : PySem.W.Frag) (H : Hp) (n : Nat) (l : List V) : Prop := ∀ v ∈ l, Bx K H n v
section
variable {K : PySem.W.Frag} {H : Hp} {n : Nat} {l m : List V} {p : Addr} {xs : List V} {v v1 v2 : V} {t1 t2 : String}
theorem BadX.same {H' : Hp} (h : BadX K H n l) (s : Same H H') : BadX K H' n l := fun v m => (h v m).same s
theorem BadX.nil : BadX K H n [] := fun _ h => by cases h
theorem BadX.app (h : BadX K H n l) (k : BadX K H n m) : BadX K H n (l ++ m) := fun u hu => (List.mem_append.mp hu).elim (h u) (k u)
theorem BadX.put (h : BadX K H n l) (a : Bx K H n v) : BadX K H n (l ++ [v]) := h.app fun u m => by
  rw [List.mem_singleton] at m
  rw [m]
  exact a
theorem BadX.sc {t : String} (h : BadX K H n l) (a : Pl K H v t) (ht : t ≠ "tuple") (o : okS v) : BadX K H n (l ++ [v]) :=
  h.put ⟨.kind a ht, false, sd v, .inl (rpz_sd o.1), o.2.le (by decide)⟩
theorem bx_tn (o : okAll xs) (hl : xs.length ≤ 3) : Tn 600 (.tuple (xs.map sd)) ∧ Tn 600 (.list (xs.map sd)) := by
  have l2 : (xs.map sd).length ≤ 3 := by rw [List.length_map]; exact hl
  have e : (xs.map sd).length * (70 + 2) + 3 ≤ 600 := by omega
  exact ⟨(tn_tup (okAll_tn o)).le e, (tn_list (okAll_tn o)).le e⟩
theorem rp_tup {dk : Bool} (e : H p = some (.tup xs)) (o : okAll xs) : Rp dk 1 H (.ref p) (.tuple (xs.map sd)) := .inr (.inl ⟨p, xs, _, rfl, e, rfl, okAll_rp o⟩)
theorem rp_lst (e : H p = some (.lst xs)) (o : okAll xs) : Rp false 1 H (.ref p) (.list (xs.map sd)) := .inr (.inr ⟨p, xs, _, rfl, e, rfl, (fun z => nomatch z), okAll_rp o⟩)
theorem BadX.lst (h : BadX K H n l) (np : H p = none) (hl : xs.length ≤ 3) (o : okAll xs) : BadX K (upd H p (.lst xs)) n (l ++ [.ref p]) :=
  (h.same (same_upd np)).put ⟨.kind (.lst upd_same) (by decide), false, _, (rp_lst upd_same o).up, (bx_tn o hl).2⟩
theorem BadX.dict (h : BadX K H n l) (np : H p = none) : BadX K (upd H p (.dK [])) n (l ++ [.ref p]) :=
  (h.same (same_upd np)).put ⟨.kind (.dict upd_same) (by decide), true, _, .inl (.inr (.inr (.inr (.inr ⟨rfl, p, rfl, upd_same, rfl⟩)))), tn_dict.le (by decide)⟩
theorem BadX.long (h : BadX K H n l) (np : H p = none) (hl : xs.length ≤ 3) (hk : xs.length ≠ 2) (o : okAll xs) : BadX K (upd H p (.tup xs)) n (l ++ [.ref p]) :=
  (h.same (same_upd np)).put ⟨.long upd_same hk (by omega), false, _, (rp_tup upd_same o).up, (bx_tn o hl).1⟩
theorem BadX.pair (h : BadX K H n l) (np : H p = none) (p1 : ∀ H, Pl K H v1 t1) (p2 : ∀ H, Pl K H v2 t2) (e : tnV n v1 v2 = false) (o : okAll [v1, v2]) : BadX K (upd H p (.tup [v1, v2])) n (l ++ [.ref p]) := by
  refine (h.same (same_upd np)).put ⟨?_, false, _, (rp_tup upd_same o).up, (bx_tn o (Nat.le_succ 2)).1⟩
  rw [← e]
  exact .pair upd_same (p1 _) (p2 _)
/-- a tuple within a pair -/
theorem BadX.nest {a : Addr} {ys : List V} (h : BadX K H n l) (hb : H a = some (.tup ys)) (hy : ys.length ≤ 3) (oy : okAll ys) (np : H p = none) (p2 : ∀ H, Pl K H v2 t2) (o : okS v2) : BadX K (upd H p (.tup [.ref a, v2])) n (l ++ [.ref p]) := by
  have s := same_upd (o := .tup [.ref a, v2]) np
  refine (h.same s).put ⟨?_, false, .tuple [.tuple (ys.map sd), sd v2], .inr (.inl ⟨p, _, _, rfl, upd_same, rfl, .cons (rp_tup (s _ _ hb) oy) (.cons (.inl (rpz_sd o.1)) .nil)⟩), ?_⟩
  · exact .pair (v1 := .ref a) (v2 := v2) upd_same (.tup (s _ _ hb)) (p2 _)
  · have l2 : (ys.map sd).length ≤ 3 := by rw [List.length_map]; exact hy
    have e : (ys.map sd).length * (70 + 2) + 3 ≤ 250 := by omega
    refine (tn_tup (n := 250) fun d m => ?_).le (by show 2 * (250 + 2) + 3 ≤ 600; decide)
    rcases List.mem_cons.mp m with rfl | m
    · exact (tn_tup (okAll_tn oy)).le e
    · rw [List.mem_singleton] at m
      rw [m]
      exact o.2.le (by decide)
theorem BadX.nest1 {a : Addr} {ys : List V} {lst : Bool} (h : BadX K H n l) (hb : H a = some (.tup ys)) (hy : ys.length ≤ 3) (oy : okAll ys) (np : H p = none) : BadX K (upd H p (.tup [.ref a])) n (l ++ [.ref p]) := by
  have s := same_upd (o := .tup [.ref a]) np
  refine (h.same s).put ⟨.long upd_same (by show (1 : Nat) ≠ 2; decide) (by show (1 : Nat) ≤ 1000; decide), false, .tuple [.tuple (ys.map sd)], .inr (.inl ⟨p, _, _, rfl, upd_same, rfl, .cons (rp_tup (s _ _ hb) oy) .nil⟩), ?_⟩
  have l2 : (ys.map sd).length ≤ 3 := by rw [List.length_map]; exact hy
  have e : (ys.map sd).length * (70 + 2) + 3 ≤ 250 := by omega
  refine (tn_tup (n := 250) fun d m => ?_).le (by show 1 * (250 + 2) + 3 ≤ 600; decide)
  rw [List.mem_singleton] at m
  rw [m]
  exact (tn_tup (okAll_tn oy)).le e
theorem BadX.nestL {a : Addr} {ys : List V} (h : BadX K H n l) (hb : H a = some (.tup ys)) (hy : ys.length ≤ 3) (oy : okAll ys) (np : H p = none) : BadX K (upd H p (.lst [.ref a])) n (l ++ [.ref p]) := by
  have s := same_upd (o := .lst [.ref a]) np
  refine (h.same s).put ⟨.kind (.lst upd_same) (by decide), false, .list [.tuple (ys.map sd)], .inr (.inr ⟨p, _, _, rfl, upd_same, rfl, (fun z => nomatch z), .cons (rp_tup (s _ _ hb) oy) .nil⟩), ?_⟩
  have l2 : (ys.map sd).length ≤ 3 := by rw [List.length_map]; exact hy
  have e : (ys.map sd).length * (70 + 2) + 3 ≤ 250 := by omega
  refine (tn_list (n := 250) fun d m => ?_).le (by show 1 * (250 + 2) + 3 ≤ 600; decide)
  rw [List.mem_singleton] at m
  rw [m]
  exact (tn_tup (okAll_tn oy)).le e
end
theorem tn_natB (n b e : Nat) : tnV n (.int (b : Int)) (.int (e : Int)) = decide (isN n (b, e)) := by
  show decide (0 ≤ (b : Int) ∧ isN n ((b : Int).toNat, (e : Int).toNat)) = decide (isN n (b, e))
  rw [Int.toNat_natCast, Int.toNat_natCast]
  by_cases k : isN n (b, e)
  · rw [decide_eq_true k, decide_eq_true ⟨Int.natCast_nonneg _, k⟩]
  · rw [decide_eq_false k, decide_eq_false (fun z => k z.2)]
theorem tn_no {n b e : Nat} (h : ¬ isN n (b, e)) : tnV n (.int (b : Int)) (.int (e : Int)) = false := by
  rw [tn_natB]
  exact decide_eq_false h
end LT

namespace LT
open PySem PySem.Spec PyProof.Rows L2
theorem All2.rep {α : Type} {R : V → α → Prop} {vs : List V} {xs : List α} (h : All2 R vs xs) : ∀ k, All2 R (List.replicate k vs).flatten (List.replicate k xs).flatten
  | 0 => .nil
  | k + 1 => by
    rw [List.replicate_succ, List.replicate_succ, List.flatten_cons, List.flatten_cons]
    exact h.app (h.rep k)
theorem All2.memR {α : Type} {R : V → α → Prop} : ∀ {vs : List V} {xs : List α} {x : α}, All2 R vs xs → x ∈ xs → ∃ v ∈ vs, R v x
  | _, _, _, .nil, m => by cases m
  | _, _, x, .cons h t, m => by
    rcases List.mem_cons.mp m with rfl | m
    · exact ⟨_, List.mem_cons_self, h⟩
    · obtain ⟨v, a, b⟩ := t.memR m
      exact ⟨v, List.mem_cons_of_mem _ a, b⟩
theorem All2.memL {α : Type} {R : V → α → Prop} : ∀ {vs : List V} {xs : List α} {v : V}, All2 R vs xs → v ∈ vs → ∃ x ∈ xs, R v x
  | _, _, _, .nil, m => by cases m
  | _, _, v, .cons h t, m => by
    rcases List.mem_cons.mp m with rfl | m
    · exact ⟨_, List.mem_cons_self, h⟩
    · obtain ⟨x, a, b⟩ := t.memL m
      exact ⟨x, List.mem_cons_of_mem _ a, b⟩
/-! ### lists of texts as data -/
def stD (ns : List Str) : PyData := .list (ns.map PyData.str)
theorem stD_all {K : PySem.W.Frag} {H : Hp} : ∀ ns : List Str, DpAll K H (ns.map V.str) (ns.map PyData.str)
  | [] => .nil
  | x :: ns => .cons (.str x) (stD_all ns)
theorem stD_dp {K : PySem.W.Frag} {H : Hp} {p : Addr} {ns : List Str} (h : H p = some (.lst (ns.map V.str))) : Dp K H (.ref p) (stD ns) := .lst (SqL.of h) (stD_all ns)
theorem okSt_iff {x : Str} : PyData.strOk x = true ↔ ∀ c ∈ x.cps.toList, c < 0x110000 := by
  unfold PyData.strOk
  rw [← Array.all_toList, List.all_eq_true]
  simp only [decide_eq_true_eq]
theorem okSt_of (s : String) : PyData.strOk (Str.ofString s) = true := okSt_iff.mpr fun c h => by
  rw [PyProof.Rows.signs_ofString] at h
  obtain ⟨k, _, rfl⟩ := List.mem_map.mp h
  have := k.valid
  show k.toNat < 0x110000
  unfold Char.toNat
  rcases this with z | z
  · exact Nat.lt_trans z (by decide)
  · exact z.2
theorem okSt_app {x y : Str} (a : PyData.strOk x = true) (b : PyData.strOk y = true) : PyData.strOk (x ++ y) = true := okSt_iff.mpr fun c h => by
  rcases PyProof.Rows.mem_cps_append.mp h with h | h
  · exact okSt_iff.mp a c h
  · exact okSt_iff.mp b c h
theorem stD_lay : ∀ ns : List Str, ns.all PyData.strOk = true → PyData.canLayAll0 (ns.map PyData.str) = true ∧ PyData.depthAll (ns.map PyData.str) ≤ 1
  | [], _ => by simp [PyData.canLayAll0, PyData.depthAll]
  | x :: ns, h => by
    rw [List.all_cons, Bool.and_eq_true] at h
    obtain ⟨a, b⟩ := stD_lay ns h.2
    refine ⟨by simp [PyData.canLayAll0, PyData.canLay0, a, h.1], ?_⟩
    simp only [List.map_cons, PyData.depthAll, PyData.depth]
    omega
theorem stD_shaped {ns : List Str} (h : ns.all PyData.strOk = true) : SeqAt.shaped (stD ns) = true := by
  obtain ⟨a, b⟩ := stD_lay ns h
  show (PyData.canLay0 _ && decide (PyData.depth _ ≤ 64)) = true
  rw [show PyData.canLay0 (stD ns) = true from by simp only [stD, PyData.canLay0, a], Bool.true_and]
  refine decide_eq_true ?_
  simp only [stD, PyData.depth]
  omega
theorem stD_eqvAll : ∀ ns : List Str, PyData.eqvAll (ns.map PyData.str) (ns.map PyData.str) = true
  | [] => by simp only [List.map_nil, PyData.eqvAll]
  | x :: ns => by simp only [List.map_cons, PyData.eqvAll, PyData.eqv, stD_eqvAll ns, beq_self_eq_true, Bool.and_self]
theorem stD_eqv (ns : List Str) : PyData.eqv (stD ns) (stD ns) = true := by
  simp only [stD, PyData.eqv, stD_eqvAll ns]
/-! ### nodes that are shown and asked -/
theorem ask_nd {K : PySem.W.Frag} {H : Hp} {n : Nat} {v : V} {y : Nat × Nat} (h : Nd H v y) (hy : isN n y) : Ask K H n v true := by
  obtain ⟨p, rfl, hp⟩ := h
  have e : tnV n (.int (y.1 : Int)) (.int (y.2 : Int)) = true := by
    rw [tn_natB]
    exact decide_eq_true hy
  exact e ▸ Ask.pair (n := n) hp (.int _) (.int _)
theorem nd_rp {dk : Bool} {H : Hp} {v : V} {y : Nat × Nat} (h : Nd H v y) : Rp dk 1 H v (nd y) := by
  obtain ⟨p, rfl, hp⟩ := h
  exact .inr (.inl ⟨p, _, _, rfl, hp, rfl, .cons (.inr (.inr (.inl ⟨_, rfl, rfl⟩))) (.cons (.inr (.inr (.inl ⟨_, rfl, rfl⟩))) .nil)⟩)
theorem nds_rp {dk : Bool} {H : Hp} {vs : List V} {S : List (Nat × Nat)} (h : All2 (Nd H) vs S) : All2 (Rp dk 1 H) vs (S.map nd) := by
  induction h with
  | nil => exact .nil
  | cons h _ ih => exact .cons (nd_rp h) ih
theorem nd_tn {y : Nat × Nat} (h : y.1 ≤ 10 ^ 30 ∧ y.2 ≤ 10 ^ 30) : Tn 150 (nd y) := by
  have d66 : (10 : Nat) ^ 30 < 10 ^ 66 := by decide
  refine (tn_tup (n := 70) fun d m => ?_).le (by show 2 * (70 + 2) + 3 ≤ 150; decide)
  rcases List.mem_cons.mp m with rfl | m
  · exact tn_int (by omega)
  · rw [List.mem_singleton] at m
    rw [m]
    exact tn_int (by omega)
theorem nds_tn {S : List (Nat × Nat)} (h : ∀ y ∈ S, y.1 ≤ 10 ^ 30 ∧ y.2 ≤ 10 ^ 30) : ∀ d ∈ S.map nd, Tn 150 d := fun d m => by
  obtain ⟨y, hy, rfl⟩ := List.mem_map.mp m
  exact nd_tn (h y hy)
theorem isN_bd {n : Nat} {y : Nat × Nat} (hn : n ≤ 10 ^ 30) (h : isN n y) : y.1 ≤ 10 ^ 30 ∧ y.2 ≤ 10 ^ 30 := by
  have a := h.1
  have b := h.2.1
  exact ⟨by omega, by omega⟩
/-- a list that can be shown -/
theorem tn_big {ds : List PyData} (h : ∀ d ∈ ds, Tn 600 d) (l : ds.length ≤ 5000) : Tn sizeLine (.list ds) := (tn_list h).le (by
  rw [PySem.sizeLine_eq]
  have : ds.length * (600 + 2) ≤ 5000 * 602 := Nat.mul_le_mul_right _ l
  omega)
theorem tn_bigT {ds : List PyData} (h : ∀ d ∈ ds, Tn 600 d) (l : ds.length ≤ 5000) : Tn sizeLine (.tuple ds) := (tn_tup h).le (by
  rw [PySem.sizeLine_eq]
  have : ds.length * (600 + 2) ≤ 5000 * 602 := Nat.mul_le_mul_right _ l
  omega)
end LT

namespace LT
open PySem PySem.Spec PyProof.Rows L2
section
variable {X : Cx} {s : Shared} {H : Hp} {sc : Scope} {ce : Env} {fp : List Addr}
theorem sl_listB : SlR (X.blk s H sc ce fp) (rSlL X.K) := sl_list (X := X.blk s H sc ce fp)
theorem sl_tupB : SlR (X.blk s H sc ce fp) (rSlT X.K) := sl_tup (X := X.blk s H sc ce fp)
end
end LT

namespace LT
open PySem PySem.Spec PyProof.Rows L2
theorem fw_head {S W : List (Nat × Nat)} : fw S W = ((List.range W.length).filter fun i => meets (W.getD i (0, 0)) S).head? := by
  unfold fw
  rw [List.head?_filter]
theorem nb_so {n : Nat} {S : List (Nat × Nat)} (h : So n 0 S) : nb n 0 (srt S) = nl n 0 S := by
  rw [srt_id (so_pair h), nb_nl h]
theorem vs_split {T : (List V → Hp → Prop) → Prop} {k : List V → Hp → Prop} (R : List V → Hp → Prop) (h : ∀ k', (∀ v H, R v H → k' v H) → T k') (h2 : ∀ v H, R v H → k v H) : T k := h k h2
theorem ne_no {x y : V} (h : x = y) : V.bl (!decide (x = y)) = V.bl false := by rw [decide_eq_true h]; rfl
theorem v_split {T : (V → Hp → Prop) → Prop} {k : V → Hp → Prop} (R : V → Hp → Prop) (h : ∀ k', (∀ v H, R v H → k' v H) → T k') (h2 : ∀ v H, R v H → k v H) : T k := h k h2
def headV : List Nat → V
  | [] => .non
  | i :: _ => .int (i : Int)
theorem fwV_head {S W : List (Nat × Nat)} {wr : List Nat} (h : fw S W = wr.head?) : fwV S W = headV wr := by
  unfold fwV
  rw [h]
  cases wr <;> rfl
theorem fw_emp {S W : List (Nat × Nat)} {wr : List Nat} (h : fw S W = wr.head?) : decide (fw S W = none) = wr.isEmpty := by
  rw [h]
  cases wr <;> rfl
/-- no entry is unmarked: the joined stretches are the whole -/
theorem all_marked {n : Nat} (n1 : 1 ≤ n) {L : List (Nat × Nat)} (hL : Wn n L) : (!(mks n L).any fun b => b == false) = decide (jn (srt L) = [(0, n)]) := by
  have k : (mks n L).any (fun b => b == false) = true ↔ ∃ i, 0 ≤ i ∧ i < n ∧ covB L i = false := by
    have := mks_cut (n := n) (a := 0) (b := n) (L := L) (Nat.le_refl n) false
    rw [List.drop_zero, Nat.sub_zero, List.take_of_length_le (by rw [mks_len]; exact Nat.le_refl n)] at this
    exact this
  cases h : (mks n L).any (fun b => b == false) with
  | true =>
    obtain ⟨i, _, hi, e⟩ := k.mp h
    rw [decide_eq_false (fun z => by
      have := covB_iff.mpr ((jn_cov n1 hL).mp z i hi)
      rw [this] at e
      cases e)]
    rfl
  | false =>
    rw [decide_eq_true ((jn_cov n1 hL).mpr fun i hi => ?_)]
    · rfl
    · refine covB_iff.mp ?_
      cases e : covB L i with
      | true => rfl
      | false => rw [k.mpr ⟨i, Nat.zero_le _, hi, e⟩] at h; cases h
/-- what serves and first_wrong tell, as data -/
def fwD (S W : List (Nat × Nat)) : PyData := match fw S W with
  | none => .none
  | some i => .int ((i : Nat) : Int)
theorem fwD_dp {K : PySem.W.Frag} {H : Hp} {S W : List (Nat × Nat)} : Dp K H (fwV S W) (fwD S W) := by
  unfold fwV fwD
  cases fw S W with
  | none => exact .non
  | some i => exact .int _
theorem fw_lt {S W : List (Nat × Nat)} {i : Nat} (h : fw S W = some i) : i < W.length := List.mem_range.mp (List.mem_of_find?_eq_some h)
/-- what stays while numbers are drawn -/
def Sm (n : Nat) (bg ps D mr : Addr) (xs ss : List V) (S N : List (Nat × Nat)) (H : Hp) : Prop := BagAt H bg ∧ H ps = some (.lst xs) ∧ All2 (Nd H) xs S ∧ H D = some (.lst ss) ∧ All2 (Nd H) ss N ∧ H mr = some (.lst ((mks n S).map V.bl))
theorem Sm.same {n : Nat} {bg ps D mr : Addr} {xs ss : List V} {S N : List (Nat × Nat)} {H H' : Hp} (h : Sm n bg ps D mr xs ss S N H) (s : Same H H') : Sm n bg ps D mr xs ss S N H' :=
  ⟨h.1.same s, s _ _ h.2.1, h.2.2.1.mono fun v y (k : Nd H v y) => k.same s, s _ _ h.2.2.2.1, h.2.2.2.2.1.mono fun v y (k : Nd H v y) => k.same s, s _ _ h.2.2.2.2.2⟩
theorem Sm.but {n : Nat} {bg ps D mr : Addr} {xs ss : List V} {S N : List (Nat × Nat)} {H H' : Hp} (h : Sm n bg ps D mr xs ss S N H) (psb : ps ≠ bg) (Db : D ≠ bg) (mrb : mr ≠ bg) (B : But bg H H') (hb : BagAt H' bg) : Sm n bg ps D mr xs ss S N H' :=
  ⟨hb, B.at psb h.2.1, h.2.2.1.mono fun v y (k : Nd H v y) => k.but B h.1, B.at Db h.2.2.2.1, h.2.2.2.2.1.mono fun v y (k : Nd H v y) => k.but B h.1, B.at mrb h.2.2.2.2.2⟩
section
variable {P : Program} {w : World} {K : PySem.W.Frag} {mg : Str → Option Value} {base : Heap}
def spSmall : Sp := fun vs H Q _ => ∃ (bg : Addr), vs = [.ref bg] ∧ BagAt H bg ∧ ∀ H', But bg H H' → BagAt H' bg → Q (.bl true) H'
theorem ok_law_small {f g1 g2 g3 g4 g5 g6 g7 g8 g9 g10 : Addr} {fd d1 d2 d3 d4 d5 d6 d7 d8 d9 d10 : FuncData} (F : Fun K "_law_small_right" "_law_small_right" sLawSmallRight f fd)
    (GLawPick : FnOk P w K mg base CX0 1 g1 d1 ["bag", "many"] spPick) (ALawPick : At K mg "_law_pick" g1 d1 ["bag", "many"])
    (GLawTree : FnOk P w K mg base CX0 2 g2 d2 ["size"] spTreeL) (ALawTree : At K mg "_law_tree" g2 d2 ["size"])
    (GLawSize : FnOk P w K mg base CX0 2 g3 d3 ["bag", "most"] spSizeM) (ALawSize : At K mg "_law_size" g3 d3 ["bag", "most"])
    (GLawSpans : FnOk P w K mg base CX0 2 g4 d4 ["bag", "size", "most"] spLawSpans) (ALawSpans : At K mg "_law_spans" g4 d4 ["bag", "size", "most"])
    (GLawMarked : FnOk P w K mg base CX0 1 g5 d5 ["size", "spans"] spMarked) (ALawMarked : At K mg "_law_marked" g5 d5 ["size", "spans"])
    (GLawMixed : FnOk P w K mg base CX0 2 g6 d6 ["bag", "items"] spMixed) (ALawMixed : At K mg "_law_mixed" g6 d6 ["bag", "items"])
    (GNeeded : FnOk P w K mg base CX0 6 g7 d7 ["size", "spans"] spNeeded) (ANeeded : At K mg "needed" g7 d7 ["size", "spans"])
    (GServes : FnOk P w K mg base CX0 7 g8 d8 ["size", "spans", "nodes"] spServes) (AServes : At K mg "serves" g8 d8 ["size", "spans", "nodes"])
    (GFirstWrong : FnOk P w K mg base CX0 6 g9 d9 ["size", "spans", "nodes"] spFirstW) (AFirstWrong : At K mg "first_wrong" g9 d9 ["size", "spans", "nodes"])
    (GLacking : FnOk P w K mg base CX0 6 g10 d10 ["size", "spans", "nodes"] spLack) (ALacking : At K mg "lacking" g10 d10 ["size", "spans", "nodes"])
    (z_range : mg "range" = none) (z_len : mg "len" = none) (z_enumerate : mg "enumerate" = none) (z_sorted : mg "sorted" = none) (z_repr : mg "repr" = none) : GOk P w K mg base 8 f fd ["bag"] spSmall := by
  refine okG F scLawSmallRight (fun vs H Q E h => ?_) (fun cdv A outer s H vs Q hg hr h => ?_)
  · obtain ⟨_, rfl, _⟩ := h
    rfl
  obtain ⟨bg, rfl, hb, q⟩ := h
  refine' ⟨_, (pss_cons (ps_set (i := 1) scLawSmallRight.nd rfl (Or.inl rfl) (pe_call GLawSize (hr.mono (by decide)) rfl ALawSize.m ALawSize.kp ALawSize.b .nil pass0 (pa_cons (pv 0) (pa_cons pe_int pa_nil))))
    (pss_cons (ps_par (i := 4) (j := 5) (by rfl) scLawSmallRight.nd rfl rfl (by decide) rfl rfl (pa_cons (pe_call GLawSpans (hr.mono (by decide)) rfl ALawSpans.m ALawSpans.kp ALawSpans.b .nil pass0 (pa_cons (pv 0) (pa_cons (pv 1) (pa_cons pe_int pa_nil)))) (pa_cons (pe_lc (own := [("node", 2), ("above", 3)]) rfl scLawSmallRight.nd (pi_list (pe_call GLawTree (hr.mono (by decide)) rfl ALawTree.m ALawTree.kp ALawTree.b .nil pass0 (pa_cons (pv 1) pa_nil))) (blkOk_by (N := ["bag", "size", "node", "above", "spans", "some", "mine", "nodes", "turn", "wrong", "due", "first", "both", "lacks", "told", "spot"]) (sc := defScope sLawSmallRight) (by decide +kernel)) (fun _ _ _ _ _ => (pg_tupB (n := 2) rfl (pgs_cons (pg_name (i := 2) scLawSmallRight.nd rfl (Or.inl rfl)) (pgs_cons (pg_name (i := 3) scLawSmallRight.nd rfl (Or.inl rfl)) pgs_nil)))) (fun _ _ _ _ _ => pts_nil) (fun _ _ _ _ _ => (pv 2))) pa_nil)) (by rfl))
    (pss_cons (ps_asg (pe_tup (pa_cons (pe_call GLawMarked (hr.mono (by decide)) rfl ALawMarked.m ALawMarked.kp ALawMarked.b .nil pass0 (pa_cons (pv 1) (pa_cons (pv 4) pa_nil))) (pa_cons (pe_lst pa_nil) pa_nil))) (pg_tup (by rfl) (pgs_cons (pg_name (i := 6) scLawSmallRight.nd rfl (Or.inr rfl)) (pgs_cons (pg_name (i := 7) scLawSmallRight.nd rfl (Or.inl rfl)) pgs_nil))))
    (pss_cons (ps_for PassesOwn.never rfl (pi_range1 (by rfl) z_range (pa_cons (pe_op op_add pe_int (pe_call GLawPick (hr.mono (by decide)) rfl ALawPick.m ALawPick.kp ALawPick.b .nil pass0 (pa_cons (pv 0) (pa_cons pe_int pa_nil)))) pa_nil)) (pg_name (i := 8) scLawSmallRight.nd rfl (Or.inl rfl))
    (pss_one (ps_expr (pe_bm PySem.F.plainAttrs_list PySem.F.slot_list_append PySem.F.type_list_append mt_append (pv 7) (pa_cons (pe_ix ix_list (pv 5) (pe_call GLawPick (hr.mono (by decide)) rfl ALawPick.m ALawPick.kp ALawPick.b .nil pass0 (pa_cons (pv 0) (pa_cons (pe_callB call_len_seq (by rfl) z_len PySem.boot_len (pa_cons (pv 5) pa_nil)) pa_nil))) (fun _ _ => rfl)) pa_nil)))))
    (pss_cons (ps_if (pt_cmpR op_eq (pe_call GLawPick (hr.mono (by decide)) rfl ALawPick.m ALawPick.kp ALawPick.b .nil pass0 (pa_cons (pv 0) (pa_cons pe_int pa_nil))) pe_int (nomark _))
    (pss_cons ?cc1
    (pss_one (ps_set (i := 7) scLawSmallRight.nd rfl (Or.inl rfl) (pe_op op_cat (pv 7) (pe_slice sl_list (pe_call GNeeded (hr.mono (by decide)) rfl ANeeded.m ANeeded.kp ANeeded.b .nil pass0 (pa_cons (pv 1) (pa_cons (pv 4) pa_nil))) (po_some (pe_call GLawPick (hr.mono (by decide)) rfl ALawPick.m ALawPick.kp ALawPick.b .nil pass0 (pa_cons (pv 0) (pa_cons pe_int pa_nil)))) po_none)))))
    pss_nil)
    (pss_cons (ps_set (i := 7) scLawSmallRight.nd rfl (Or.inl rfl) (pe_slice sl_list (pe_call GLawMixed (hr.mono (by decide)) rfl ALawMixed.m ALawMixed.kp ALawMixed.b .nil pass0 (pa_cons (pv 0) (pa_cons (pe_ifExp (pt_cmpR (op_neD hr.units) (pv 7) (pe_lst pa_nil) (nomark _)) (pv 7) (pe_slice sl_list (pv 5) po_none (po_some pe_int))) pa_nil))) po_none (po_some pe_int)))
    (pss_cons ?cc2
    (pss_cons (ps_set (i := 10) scLawSmallRight.nd rfl (Or.inl rfl) (pe_and (pe_cmpR (op_eqD hr.units) (pv 9) (pe_lst pa_nil) (nomark _)) (pe_one (pe_cmpR (op_notInD (units1 hr)) pe_bl (pe_call GLawMarked (hr.mono (by decide)) rfl ALawMarked.m ALawMarked.kp ALawMarked.b .nil pass0 (pa_cons (pv 1) (pa_cons (pe_op op_cat (pv 4) (pv 7)) pa_nil))) (by rfl)))))
    (pss_cons (ps_set (i := 11) scLawSmallRight.nd rfl (Or.inl rfl) (pe_ifExp (pt_cmpR (op_neD hr.units) (pv 9) (pe_lst pa_nil) (nomark _)) (pe_ix ix_list (pv 9) pe_int (fun _ _ => rfl)) pe_non))
    (pss_cons (ps_if (pt_cmpR op_ne (pe_callB (call_repr hg (units1 hr)) (by rfl) z_repr (by decide +kernel) (pa_cons (pe_lst (pa_cons (pe_call GServes (hr.mono (by decide)) rfl AServes.m AServes.kp AServes.b .nil pass0 (pa_cons (pv 1) (pa_cons (pv 4) (pa_cons (pv 7) pa_nil)))) (pa_cons (pe_call GFirstWrong (hr.mono (by decide)) rfl AFirstWrong.m AFirstWrong.kp AFirstWrong.b .nil pass0 (pa_cons (pv 1) (pa_cons (pv 4) (pa_cons (pv 7) pa_nil)))) pa_nil))) pa_nil)) (pe_callB (call_repr hg (units1 hr)) (by rfl) z_repr (by decide +kernel) (pa_cons (pe_lst (pa_cons (pv 10) (pa_cons (pv 11) pa_nil))) pa_nil)) (nomark _))
    (pss_one (ps_ret pe_bl))
    pss_nil)
    (pss_cons (ps_par (i := 12) (j := 13) (by rfl) scLawSmallRight.nd rfl rfl (by decide) rfl rfl (pa_cons (pe_call GLawMarked (hr.mono (by decide)) rfl ALawMarked.m ALawMarked.kp ALawMarked.b .nil pass0 (pa_cons (pv 1) (pa_cons (pe_op op_cat (pv 4) (pv 7)) pa_nil))) (pa_cons (pe_lst pa_nil) pa_nil)) (by rfl))
    (pss_cons (ps_for PassesOwn.never rfl (pi_list (pe_call GLawTree (hr.mono (by decide)) rfl ALawTree.m ALawTree.kp ALawTree.b .nil pass0 (pa_cons (pv 1) pa_nil))) (pg_tup (by rfl) (pgs_cons (pg_name (i := 2) scLawSmallRight.nd rfl (Or.inl rfl)) (pgs_cons (pg_name (i := 3) scLawSmallRight.nd rfl (Or.inl rfl)) pgs_nil)))
    (pss_one (ps_if (PW.pt (pw_and (pt_cmpR op_notN (pv 3) pe_non (nomark _)) (pw_and (pt_cmpR (op_notInD (units1 hr)) pe_bl (pe_slice sl_list (pv 12) (po_some (pe_ix ix_tup (pv 2) pe_int (fun _ _ => rfl))) (po_some (pe_ix ix_tup (pv 2) pe_int (fun _ _ => rfl)))) (by rfl)) (pw_and1 (pt_cmpR (op_inD (units1 hr)) pe_bl (pe_slice sl_list (pv 12) (po_some (pe_ix ix_tup (pv 3) pe_int (fun _ _ => rfl))) (po_some (pe_ix ix_tup (pv 3) pe_int (fun _ _ => rfl)))) (by rfl))))))
    (pss_one (ps_expr (pe_bm PySem.F.plainAttrs_list PySem.F.slot_list_append PySem.F.type_list_append mt_append (pv 13) (pa_cons (pv 2) pa_nil))))
    pss_nil)))
    (pss_cons (ps_set (i := 14) scLawSmallRight.nd rfl (Or.inl rfl) (pe_call GLacking (hr.mono (by decide)) rfl ALacking.m ALacking.kp ALacking.b .nil pass0 (pa_cons (pv 1) (pa_cons (pv 4) (pa_cons (pv 7) pa_nil)))))
    (pss_cons (ps_if (pt_cmpR op_ne (pe_callB (call_repr hg (units1 hr)) (by rfl) z_repr (by decide +kernel) (pa_cons (pv 14) pa_nil)) (pe_callB (call_repr hg (units1 hr)) (by rfl) z_repr (by decide +kernel) (pa_cons (pe_callB cr_sortedPO (by rfl) z_sorted (by decide +kernel) (pa_cons (pv 13) pa_nil)) pa_nil)) (nomark _))
    (pss_one (ps_ret pe_bl))
    pss_nil)
    (pss_cons (ps_expr (pe_bm PySem.F.plainAttrs_list PySem.F.slot_list_append PySem.F.type_list_append mt_append (pv 14) (pa_cons pe_non pa_nil)))
    (pss_one (ps_ret (pe_cmpR (op_eqD hr.units) (pe_call GLacking (hr.mono (by decide)) rfl ALacking.m ALacking.kp ALacking.b .nil pass0 (pa_cons (pv 1) (pa_cons (pv 4) (pa_cons (pv 7) pa_nil)))) (pe_callB cr_sortedPO (by rfl) z_sorted (by decide +kernel) (pa_cons (pv 13) pa_nil)) (nomark _))))))))))))))))))), ?_⟩
  case cc1 => exact (ps_setLc (i := 7) (own := [("node", 2)]) rfl scLawSmallRight.nd rfl rfl (sw_true rfl rfl rfl (by decide +kernel)) (pi_list (pv 7)) (blkOk_by (N := ["bag", "size", "node", "above", "spans", "some", "mine", "nodes", "turn", "wrong", "due", "first", "both", "lacks", "told", "spot"]) (sc := defScope sLawSmallRight) (by decide +kernel)) (fun _ _ _ _ _ => (pg_name (i := 2) scLawSmallRight.nd rfl (Or.inl rfl))) (fun _ _ _ _ _ => pts_one (pt_cmpR (op_notInDB (units1 hr)) pe_bl (pe_slice sl_listB (pv 6) (po_some (pe_ix ix_tupB (pv 2) pe_int (fun _ _ => rfl))) (po_some (pe_ix ix_tupB (pv 2) pe_int (fun _ _ => rfl)))) (by rfl))) (fun _ _ _ _ _ => (pv 2)))
  case cc2 => exact (ps_setLc (i := 9) (own := [("spot", 15), ("node", 2)]) rfl scLawSmallRight.nd rfl rfl (sw_true rfl rfl rfl (by decide +kernel)) (pi_enum (by rfl) z_enumerate (pa_cons (pv 7) pa_nil)) (blkOk_by (N := ["bag", "size", "node", "above", "spans", "some", "mine", "nodes", "turn", "wrong", "due", "first", "both", "lacks", "told", "spot"]) (sc := defScope sLawSmallRight) (by decide +kernel)) (fun _ _ _ _ _ => (pg_tupB (n := 2) rfl (pgs_cons (pg_name (i := 15) scLawSmallRight.nd rfl (Or.inl rfl)) (pgs_cons (pg_name (i := 2) scLawSmallRight.nd rfl (Or.inl rfl)) pgs_nil)))) (fun _ _ _ _ _ => pts_one (pt_cmpR (op_inDB (units1 hr)) pe_bl (pe_slice sl_listB (pv 6) (po_some (pe_ix ix_tupB (pv 2) pe_int (fun _ _ => rfl))) (po_some (pe_ix ix_tupB (pv 2) pe_int (fun _ _ => rfl)))) (by rfl))) (fun _ _ _ _ _ => (pv 15)))
  have one1 : 1 ≤ sizeLine := by decide
  have two : 2 ≤ sizeLine := by decide
  refine ⟨_, rfl, bg, 60, rfl, by decide, by decide, hb, fun n H1 n1 n60 B1 hb1 => ?_⟩
  refine ⟨_, rfl, _, rfl, bg, n, 6, rfl, hb1, n1, Nat.le_trans n60 (by decide), by decide, by decide, fun H2 ps xs S B2 hb2 nps hp2 hx2 s1' s12 hSo => ?_⟩
  have psb := hb1.ne nps
  refine ⟨_, rfl, n, rfl, n1, by omega, fun H3 tr ts s3 ntr htr hts => ⟨tr, rfl, ⟨_, SqL.of htr⟩, fun D nD => ?_⟩⟩
  have tl := hts.len
  have Tl := TW_len n1
  refine lc_list (K := K) (a := tr) (xs := ts) (fun j H' => ∃ zs : List V, Same H3 H' ∧ H' D = some (.lst zs) ∧ All2 (Nd H') zs (((TW n).take j).map (·.1))) ⟨[], same_upd nD, upd_same, .nil⟩ (fun j H' _ ⟨_, s5, _⟩ => SqL.of (s5 _ _ htr)) ?_ ?_
  · rintro j v H4 hj ⟨zs, s4, hD, hz⟩
    obtain ⟨y, hyj, hy⟩ := hts.nth hj
    obtain ⟨tp, u1, u2, rfl, htp, hu1, hu2⟩ := hy.same s4
    have jl := (List.getElem?_eq_some_iff.mp hyj).1
    have zl := hz.len
    refine ⟨tp, _, rfl, SqT.of htp, rfl, _, _, rfl, _, _, rfl, rfl, rfl, ?_⟩
    refine ⟨_, rfl, zs, hD, szlt (by rw [zl, List.length_map, List.length_take]; omega), zs ++ [u1], ?_, upd_same, ?_⟩
    · exact fun a o k => by rw [upd_ne (ne_of_none k nD)]; exact s4 _ _ k
    · rw [take_more hyj, List.map_append]
      exact (hz.mono fun v x (k : Nd H4 v x) => k.upd hD).app (.cons (hu1.upd hD) .nil)
  rintro H4 ⟨ss, s4, hD, hss⟩
  rw [tl, List.take_length] at hss
  have N1 : ∀ x ∈ (TW n).map (·.1), isN n x := fun x hx => by
    obtain ⟨y, hy, rfl⟩ := List.mem_map.mp hx
    exact (TW_mem n1 hy).1
  have Nl : ((TW n).map (·.1)).length ≤ 119 := by rw [List.length_map]; omega
  have Nl1 : 1 ≤ ((TW n).map (·.1)).length := by rw [List.length_map]; exact List.length_pos_iff.mpr TW_ne
  generalize (TW n).map (·.1) = N at hss N1 Nl Nl1
  clear tl hts
  have s24 := s3.trans s4
  have hb4 := hb2.same s24
  have Db : D ≠ bg := (hb2.same s3).ne nD
  have sl := hss.len
  have wS : Wn n S := hSo.wn
  have hp4 := s24 _ _ hp2
  have hx4 := hx2.mono fun v x (k : Nd H2 v x) => k.same s24
  have B4 := (B1.trans B2).trans (But.of s24)
  refine ⟨_, _, rfl, ?_⟩
  refine ⟨_, rfl, _, rfl, n, ps, xs, S, rfl, by omega, hp4, hx4, wS, fun H5 mr s5 nmr hmr => ⟨Nat.zero_le _, fun Dn nDn => ⟨two, fun tt ntt => ⟨tt, _, rfl, SqT.of upd_same, rfl, ?_⟩⟩⟩⟩
  have u1 := same_upd (o := .lst []) nDn
  have u2 := same_upd (o := .tup [.ref mr, .ref Dn]) ntt
  have hDn := u2 _ _ (upd_same (H := H5) (a := Dn) (o := .lst []))
  have s46 := s5.trans (u1.trans u2)
  have mrb := hb4.ne nmr
  have Dnb := (hb4.same s5).ne nDn
  have K6 : Sm n bg ps D mr xs ss S N (upd (upd H5 Dn (.lst [])) tt (.tup [.ref mr, .ref Dn])) := ⟨hb4.same s46, s46 _ _ hp4, hx4.mono fun v y (k : Nd H4 v y) => k.same s46, s46 _ _ hD, hss.mono fun v y (k : Nd H4 v y) => k.same s46, u2 _ _ (u1 _ _ hmr)⟩
  have B6 := B4.trans (But.of s46)
  have nDn5 : H5 Dn = none := nDn
  have DnD : Dn ≠ D := fun z => by rw [z, (s5 _ _ hD)] at nDn; cases nDn
  have Dnp : Dn ≠ ps := fun z => by rw [z, (s5 _ _ hp4)] at nDn; cases nDn
  have Dnm : Dn ≠ mr := fun z => by rw [z, hmr] at nDn; cases nDn
  have nDnH : ∀ (a : Addr) (o : HO), a ≠ bg → H a = some o → a ≠ Dn := fun a o z k e => by
    have := s5 _ _ (B4 a o z k)
    rw [e, nDn] at this
    cases this
  generalize upd (upd H5 Dn (.lst [])) tt (.tup [.ref mr, .ref Dn]) = H6 at hDn K6 B6 ⊢
  clear hb4 hD hss hp4 hx4 s46 u1 u2 hmr nmr s5 B4 s24 s4 s3 hb1 hb2 B1 B2 hp2 hx2
  refine ⟨_, _, rfl, _, _, rfl, rfl, _, rfl, bg, 12, rfl, by decide, by decide, K6.1, fun r1 H7 r10 r11 k7 hb7 => ⟨_, _, rfl, rfl, ?_⟩⟩
  have B67 : But bg H6 H7 := (But.refl bg H6).pick k7
  have K7 := K6.but psb Db mrb B67 hb7
  have hDn7 := B67.at Dnb hDn
  have B7 := B6.trans B67
  obtain ⟨m, rfl⟩ : ∃ m : Nat, r1 = (m : Int) := ⟨r1.toNat, by omega⟩
  clear k7 hb7 B67 K6 B6 hDn
  refine ⟨((1 + m : Nat) : Int), congrArg (fun z => [V.int z]) (by omega), by omega, by omega, for_range (lo := 0) (n := 1 + m) (fun i σ H' => ∃ (v8 : Option V) (ws : List V) (W : List (Nat × Nat)), σ = [some (.ref bg), some (.int (n : Int)), none, none, some (.ref ps), some (.ref D), some (.ref mr), some (.ref Dn), v8, none, none, none, none, none, none, none] ∧ But bg H H' ∧ Sm n bg ps D mr xs ss S N H' ∧ H' Dn = some (.lst ws) ∧ All2 (Nd H') ws W ∧ (∀ x ∈ W, isN n x) ∧ W.length = i)
    ⟨none, [], [], rfl, B7, K7, hDn7, .nil, (fun _ h => absurd h List.not_mem_nil), rfl⟩ ?_ ?_⟩
  · rintro j σ H8 hj ⟨v8, ws, W, rfl, B8, K8, hDn8, hws, hW, lW⟩
    refine ⟨_, rfl, .inl ⟨rfl, _, SqL.of hDn8⟩, _, rfl, _, rfl, _, rfl, D, ss, rfl, .inl (SqL.of K8.2.2.2.1), bg, ((ss.length : Nat) : Int), rfl, by omega, Nat.lt_of_le_of_lt (show (((ss.length : Nat) : Int)).natAbs ≤ 119 by omega) (by decide), K8.1, fun r H9 r0 r1 k9 hb9 => ?_⟩
    obtain ⟨t, rfl⟩ : ∃ t : Nat, r = (t : Int) := ⟨r.toNat, by omega⟩
    have B89 : But bg H8 H9 := (But.refl bg H8).pick k9
    have K9 := K8.but psb Db mrb B89 hb9
    have tl : t < N.length := by omega
    obtain ⟨v, hv, hN⟩ := K9.2.2.2.2.1.nth2 (List.getElem?_eq_getElem tl)
    have hDn9 := B89.at Dnb hDn8
    refine ⟨D, _, _, _, rfl, rfl, SqL.of K9.2.2.2.1, atI_nat (j := t) hv, Dn, ws, v, rfl, rfl, hDn9, szlt (by rw [hws.len, lW]; omega), ?_⟩
    refine ⟨_, ws ++ [v], W ++ [N[t]], rfl, ?_, ?_, upd_same, ?_, ?_, by rw [List.length_append, List.length_singleton, lW]⟩
    · exact fun a o z k => by rw [upd_ne (nDnH a o z k)]; exact B89 a o z (B8 a o z k)
    · exact ⟨hb9.upd Dnb, by rw [upd_ne Dnp.symm]; exact K9.2.1, K9.2.2.1.mono fun v x (k : Nd H9 v x) => k.upd hDn9, by rw [upd_ne DnD.symm]; exact K9.2.2.2.1, K9.2.2.2.2.1.mono fun v x (k : Nd H9 v x) => k.upd hDn9, by rw [upd_ne Dnm.symm]; exact K9.2.2.2.2.2⟩
    · exact ((hws.mono fun v x (k : Nd H8 v x) => k.but B89 K8.1).mono fun v x (k : Nd H9 v x) => k.upd hDn9).app (.cons (hN.upd hDn9) .nil)
    · intro y hy
      rcases List.mem_append.mp hy with hy | hy
      · exact hW y hy
      · rw [List.mem_singleton.mp hy]
        exact N1 _ (List.getElem_mem tl)
  rintro σ H8 ⟨v8, ws, W, rfl, B8, K8, hDn8, hws, hW, lW⟩
  have W13 : W.length ≤ 132 := by omega
  clear K7 B7 hDn7 lW nDnH Dnp DnD Dnm ntt nDn nDn5
  have cutm : ∀ (S' : List (Nat × Nat)) (x1 x2 : Nat), cutV ((mks n S').map V.bl) (some (x1 : Int)) (some (x2 : Int)) = (((mks n S').drop x1).take (x2 - x1)).map V.bl := fun S' x1 x2 => by
    rw [cut_mid, List.map_take, List.map_drop]
  refine' (fun J : ∀ (Dn : Addr) (ws : List V) (W : List (Nat × Nat)) (H9 : Hp), But bg H H9 → Sm n bg ps D mr xs ss S N H9 → Dn ≠ bg → H9 Dn = some (.lst ws) → All2 (Nd H9) ws W → (∀ x ∈ W, isN n x) → W.length ≤ 300 → (_ : L2.St → Hp → Prop) [some (.ref bg), some (.int (n : Int)), none, none, some (.ref ps), some (.ref D), some (.ref mr), some (.ref Dn), v8, none, none, none, none, none, none, none] H9 => ?_) ?_
  rotate_left 1
  · refine ⟨_, rfl, bg, 2, rfl, by decide, by decide, K8.1, fun r H9 r0 r1 k9 hb9 => ?_⟩
    have B89 : But bg H8 H9 := (But.refl bg H8).pick k9
    have K9 := K8.but psb Db mrb B89 hb9
    have hDn9 := B89.at Dnb hDn8
    have hws9 := hws.mono fun v x (k : Nd H8 v x) => k.but B89 K8.1
    have B9 := B8.trans B89
    rcases (show r = 1 ∨ r = 0 by omega) with rfl | rfl
    · refine ⟨rfl, false, rfl, ?_⟩
      refine iteF ?_
      exact J Dn ws W H9 B9 K9 Dnb hDn9 hws9 hW (by omega)
    · refine ⟨rfl, true, rfl, ?_⟩
      refine iteT ?_
      refine ⟨_, rfl, Dn, rfl, ⟨_, SqL.of hDn9⟩, fun D3 nD3 => ?_⟩
      have D3b := K9.1.ne nD3
      refine lc_list (K := K) (a := Dn) (xs := ws) (fun j H' => ∃ zs : List V, Same H9 H' ∧ H' D3 = some (.lst zs) ∧ All2 (Nd H') zs ((W.take j).filter fun x => !meets x S)) ⟨[], same_upd nD3, upd_same, .nil⟩ (fun j H' _ ⟨_, s9, _⟩ => SqL.of (s9 _ _ hDn9)) ?_ ?_
      · rintro j v H10 hj ⟨zs, s9, hD3, hz⟩
        obtain ⟨y, hyj, hy⟩ := hws9.nth hj
        have jl := (List.getElem?_eq_some_iff.mp hyj).1
        obtain ⟨y12, yn, _⟩ := isN_tree (n := n) (b := y.1) (e := y.2) (hW y (List.mem_of_getElem? hyj))
        obtain ⟨y1, y2⟩ := y
        obtain ⟨up, rfl, hup⟩ := hy.same s9
        have y0 : atI [V.int (y1 : Int), V.int (y2 : Int)] 0 = some (.int (y1 : Int)) := atI_nat (j := 0) rfl
        have y1' : atI [V.int (y1 : Int), V.int (y2 : Int)] 1 = some (.int (y2 : Int)) := atI_nat (j := 1) rfl
        have zl := hz.len
        have z200 : zs.length ≤ 132 := by
          have := List.length_filter_le (fun x => !meets x S) (W.take j)
          rw [List.length_take] at this
          omega
        refine ⟨rfl, ?_⟩
        refine ⟨_, rfl, _, rfl, up, _, _, _, rfl, rfl, SqT.of hup, y0, (y1 : Int), rfl, _, rfl, up, _, _, _, rfl, rfl, SqT.of hup, y1', (y2 : Int), rfl, mr, _, rfl, SqL.of (s9 _ _ K9.2.2.2.2.2), fun c nc => ?_⟩
        rw [cutm]
        have wc := same_upd (o := .lst ((((mks n S).drop y1).take (y2 - y1)).map V.bl)) nc
        refine ⟨.bool true, (((mks n S).drop y1).take (y2 - y1)).map PyData.bool, .bl true, .lst (SqL.of upd_same) (bools_dp _), bool_shaped true, bools_shaped _, ?_⟩
        rw [bools_in, cut_meets (x := (y1, y2)) wS y12 yn]
        have hD3c := wc _ _ hD3
        have s10 := s9.trans wc
        generalize upd H10 c (.lst ((((mks n S).drop y1).take (y2 - y1)).map V.bl)) = H11 at wc hD3c s10 ⊢
        rw [take_more hyj, List.filter_append]
        cases hm : meets (y1, y2) S with
        | true =>
          refine ⟨false, rfl, zs, s10, hD3c, ?_⟩
          rw [List.filter_cons_of_neg (by rw [hm]; decide), List.filter_nil, List.append_nil]
          exact hz.mono fun v x (k : Nd H10 v x) => k.same wc
        | false =>
          refine ⟨true, rfl, _, rfl, zs, hD3c, szlt (by omega), zs ++ [.ref up], ?_, upd_same, ?_⟩
          · exact fun a o k => by rw [upd_ne (ne_of_none k nD3)]; exact s10 _ _ k
          · rw [List.filter_cons_of_pos (by rw [hm]; rfl), List.filter_nil]
            exact (hz.mono fun v x (k : Nd H10 v x) => (k.same wc).upd hD3c).app (.cons (Nd.upd (xs := zs) ⟨up, rfl, wc _ _ hup⟩ hD3c) .nil)
      rintro H10 ⟨fs, s10, hD3, hfs⟩
      rw [hws9.len, List.take_length] at hfs
      have FN : ∀ x ∈ W.filter (fun x => !meets x S), isN n x := fun x hx => hW x (List.mem_filter.mp hx).1
      have Fl : (W.filter (fun x => !meets x S)).length ≤ 132 := Nat.le_trans (List.length_filter_le _ _) W13
      generalize W.filter (fun x => !meets x S) = FR at hfs FN Fl
      have fl := hfs.len
      have K10 := K9.same s10
      have B10 := B9.trans (But.of s10)
      clear hws9 hDn9 K9 B9 B89 k9 hb9 hws hDn8 K8
      refine ⟨_, rfl, _, rfl, _, rfl, n, ps, xs, S, rfl, n1, Nat.le_trans n60 (by decide), K10.2.1, K10.2.2.1, s1', s12, hSo, fun H11 dr ds s11 ndr hdr hds => ?_⟩
      have K11 := K10.same s11
      have drb := K10.1.ne ndr
      have S1 : S ≠ [] := fun z => by rw [z] at s1'; exact absurd s1' (by decide)
      have iss := due32_is n1 (by omega) S1 wS
      rw [nb_so hSo] at iss
      have Dl : (nl n 0 S).length ≤ 119 := by
        rw [← iss, srt_len, List.length_map]
        have := List.length_filter_le (dueF S) (TW n)
        omega
      have DN : ∀ x ∈ nl n 0 S, isN n x := fun x hx => by
        rw [← nb_so hSo] at hx
        exact (nb_srt_due wS hx).1
      refine ⟨_, rfl, bg, 2, rfl, by decide, by decide, K11.1, fun r2 H12 r20 r21 k12 hb12 => ?_⟩
      have B12 : But bg H11 H12 := (But.refl bg H11).pick k12
      have K12 := K11.but psb Db mrb B12 hb12
      obtain ⟨c2, rfl⟩ : ∃ c2 : Nat, r2 = (c2 : Int) := ⟨r2.toNat, by omega⟩
      refine ⟨(c2 : Int), rfl, dr, ds, rfl, SqL.of (B12.at drb hdr), fun c nc => ?_⟩
      rw [cut_drop]
      have wc := same_upd (o := .lst (ds.drop c2)) nc
      have hfs12 := ((hfs.mono fun v x (k : Nd H10 v x) => (k.same s11).but B12 K11.1)).mono fun v x (k : Nd H12 v x) => k.same wc
      have hds12 := ((hds.mono fun v x (k : Nd H11 v x) => k.but B12 K11.1).dropN c2).mono fun v x (k : Nd H12 v x) => k.same wc
      have hc := upd_same (H := H12) (a := c) (o := .lst (ds.drop c2))
      have hD12 := wc _ _ (B12.at D3b (s11 _ _ hD3))
      have K13 := K12.same wc
      have B13 := ((B10.trans (But.of s11)).trans B12).trans (But.of wc)
      generalize upd H12 c (.lst (ds.drop c2)) = H13 at hfs12 hds12 hc hD12 K13 B13 ⊢
      have dl := hds.len
      refine ⟨D3, c, _, _, rfl, rfl, hD12, hc, szle (by rw [List.length_drop]; omega), fun e ne => ?_⟩
      have we := same_upd (o := .lst (fs ++ ds.drop c2)) ne
      exact J e _ (FR ++ (nl n 0 S).drop c2) _ (B13.trans (But.of we)) (K13.same we) (K13.1.ne ne) upd_same ((hfs12.app hds12).mono fun v x (k : Nd H13 v x) => k.same we) (fun x hx => (List.mem_append.mp hx).elim (FN x) fun h => DN x (List.mem_of_mem_drop h)) (by rw [List.length_append, List.length_drop]; omega)
  · intro Dn ws W H9 B9 K9 Dnb hDn hws hW Wl
    clear B8 K8
    refine ⟨_, rfl, vs_split (T := fun k => tCons (tIf _ _ _) tNil _ _ k) (fun vs H10 => ∃ (p : Addr) (us : List V) (U : List (Nat × Nat)), vs = [.ref p] ∧ Same H9 H10 ∧ H10 p = some (.lst us) ∧ All2 (Nd H10) us U ∧ (∀ x ∈ U, isN n x) ∧ 1 ≤ U.length ∧ U.length ≤ 300) (fun k J => ?_) ?_⟩
    · refine ⟨_, rfl, Nat.zero_le _, fun em nem => ?_⟩
      have se := same_upd (o := .lst []) nem
      refine ⟨.list (W.map nd), .list (([] : List (Nat × Nat)).map nd), lst_dp (se _ _ hDn) (hws.mono fun v x (k : Nd H9 v x) => k.same se), .lst (SqL.of upd_same) .nil, nds_shaped _, nds_shaped _, ?_⟩
      rw [nds_eqv]
      generalize upd H9 em (.lst []) = H10 at se ⊢
      by_cases hz : W = []
      · rw [decide_eq_true hz]
        refine ⟨false, rfl, ?_⟩
        refine ⟨_, rfl, 1, rfl, D, ss, rfl, SqL.of (se _ _ K9.2.2.2.1), fun c nc => ?_⟩
        have wc := same_upd (o := .lst (ss.take 1)) nc
        have e1 : cutV ss none (some 1) = ss.take 1 := cut_take ss 1
        rw [e1]
        exact J _ _ ⟨c, ss.take 1, N.take 1, rfl, se.trans wc, upd_same, ((K9.2.2.2.2.1.takeN 1).mono fun v x (k : Nd H9 v x) => k.same (se.trans wc)), (fun x hx => N1 x (List.mem_of_mem_take hx)), (by rw [List.length_take]; omega), (by rw [List.length_take]; omega)⟩
      · rw [decide_eq_false hz]
        refine ⟨true, rfl, ?_⟩
        refine ⟨_, rfl, ?_⟩
        exact J _ _ ⟨Dn, ws, W, rfl, se, se _ _ hDn, (hws.mono fun v x (k : Nd H9 v x) => k.same se), hW, List.length_pos_iff.mpr hz, Wl⟩
    · rintro _ H10 ⟨p, us, U, rfl, s10, hp10, hus, hU, U1, U300⟩
      refine ⟨bg, p, us, U, rfl, K9.1.same s10, hp10, hus, by omega, fun H11 r ys Z B11 hb11 nr hr hys pm => ⟨60, rfl, r, ys, rfl, SqL.of hr, fun c nc => ?_⟩⟩
      have e60 : cutV ys none (some 60) = ys.take 60 := cut_take ys 60
      rw [e60]
      have wc := same_upd (o := .lst (ys.take 60)) nc
      have hc := upd_same (H := H11) (a := c) (o := .lst (ys.take 60))
      have K11 := ((K9.same s10).but psb Db mrb B11 hb11).same wc
      have hv11 := (hys.takeN 60).mono fun v x (k : Nd H11 v x) => k.same wc
      have B11' := (B9.trans (But.of s10)).trans (B11.trans (But.of wc))
      have Zl := pm.length_eq
      have X1 : 1 ≤ (Z.take 60).length := by rw [List.length_take]; omega
      have X60 : (Z.take 60).length ≤ 60 := by rw [List.length_take]; omega
      have hX : ∀ x ∈ Z.take 60, isN n x := fun x hx => hU x (pm.mem_iff.mp (List.mem_of_mem_take hx))
      generalize Z.take 60 = X at hv11 X1 X60 hX
      generalize ys.take 60 = vs at hv11 hc wc K11 B11'
      generalize upd H11 c (.lst vs) = HF at hv11 hc wc K11 B11' ⊢
      clear Zl pm hys hr nr hus hp10 s10 hb11 B11 U1 U300 hU hws hDn B9 K9 hW Wl e60 wc nc
      have vl := hv11.len
      have wX : Wn n X := nodes_wn hX
      have wSX : Wn n (S ++ X) := wS.app wX
      have SX1 : S ++ X ≠ [] := fun z => by
        have := congrArg List.length z
        rw [List.length_append] at this
        have e : ([] : List (Nat × Nat)).length = 0 := rfl
        omega
      have h30 : n ≤ 10 ^ 30 := Nat.le_trans n60 (by decide)
      -- wrong
      refine ⟨_, rfl, c, vs, rfl, SqL.of hc, fun Dw nDw => ?_⟩
      refine lc_enum (K := K) (a := c) (xs := vs) (fun j H' => Same HF H' ∧ H' Dw = some (.lst (((List.range j).filter fun i => meets (X.getD i (0, 0)) S).map fun i : Nat => V.int (i : Int)))) ⟨same_upd nDw, upd_same⟩ (fun j H' ⟨s5, _⟩ => SqL.of (s5 _ _ hc)) ?_ ?_
      · rintro j v T H1' hj ⟨s5, hDw⟩ nT
        obtain ⟨x, hxj, hv⟩ := hv11.nth hj
        have jl := (List.getElem?_eq_some_iff.mp hxj).1
        have hxW := List.mem_of_getElem? hxj
        have wT := same_upd (o := .tup [.int ((j : Nat) : Int), v]) nT
        have s6 := s5.trans wT
        have hDw6 := wT _ _ hDw
        have hT6 : (upd H1' T (.tup [.int ((j : Nat) : Int), v])) T = some (.tup [.int ((j : Nat) : Int), v]) := upd_same
        generalize upd H1' T (.tup [.int ((j : Nat) : Int), v]) = H6' at s6 hDw6 hT6 ⊢
        refine ⟨T, _, rfl, SqT.of hT6, rfl, _, _, rfl, _, _, rfl, rfl, rfl, ?_⟩
        have more : (List.range (j + 1)).filter (fun i => meets (X.getD i (0, 0)) S) = (List.range j).filter (fun i => meets (X.getD i (0, 0)) S) ++ (if meets x S = true then [j] else []) := by
          rw [List.range_succ, List.filter_append]
          congr 1
          by_cases k : meets x S = true
          · rw [if_pos k]
            exact List.filter_cons_of_pos (l := []) (by rw [getD_at hxj]; exact k)
          · rw [if_neg k]
            exact List.filter_cons_of_neg (l := []) (by rw [getD_at hxj]; exact k)
        obtain ⟨y12, yn⟩ := wX x hxW
        obtain ⟨y1, y2⟩ := x
        obtain ⟨up, rfl, hup⟩ := hv.same s6
        have y0 : atI [V.int (y1 : Int), V.int (y2 : Int)] 0 = some (.int (y1 : Int)) := atI_nat (j := 0) rfl
        have y1' : atI [V.int (y1 : Int), V.int (y2 : Int)] 1 = some (.int (y2 : Int)) := atI_nat (j := 1) rfl
        refine ⟨_, rfl, _, rfl, up, _, _, _, rfl, rfl, SqT.of hup, y0, (y1 : Int), rfl, _, rfl, up, _, _, _, rfl, rfl, SqT.of hup, y1', (y2 : Int), rfl, mr, _, rfl, SqL.of (s6 _ _ K11.2.2.2.2.2), fun c nc => ?_⟩
        rw [cutm]
        have wc := same_upd (o := .lst ((((mks n S).drop y1).take (y2 - y1)).map V.bl)) nc
        refine ⟨.bool true, (((mks n S).drop y1).take (y2 - y1)).map PyData.bool, .bl true, .lst (SqL.of upd_same) (bools_dp _), bool_shaped true, bools_shaped _, ?_⟩
        rw [bools_in, cut_meets (x := (y1, y2)) wS y12 yn]
        have hDw7 := wc _ _ hDw6
        have s7 := s6.trans wc
        generalize upd H6' c (.lst ((((mks n S).drop y1).take (y2 - y1)).map V.bl)) = H7' at hDw7 s7 ⊢
        cases h : meets (y1, y2) S with
        | true =>
          rw [h, if_pos rfl] at more
          refine ⟨true, rfl, _, rfl, _, hDw7, szlt (by rw [List.length_map]; have := List.length_filter_le (fun i => meets (X.getD i (0, 0)) S) (List.range j); rw [List.length_range] at this; omega), fun u o k => by rw [upd_ne (ne_of_none k nDw)]; exact s7 _ _ k, ?_⟩
          rw [more, List.map_append]
          exact upd_same
        | false =>
          rw [h, if_neg (by decide), List.append_nil] at more
          exact ⟨false, rfl, s7, by rw [more]; exact hDw7⟩
      rintro HG ⟨sG, hDw⟩
      rw [vl] at hDw
      have fwh := fw_head (S := S) (W := X)
      have hDw' : HG Dw = some (.lst ((((List.range X.length).filter fun i => meets (X.getD i (0, 0)) S).map fun i : Nat => (i : Int)).map V.int)) := by
        rw [hDw, List.map_map]
        rfl
      clear hDw
      generalize (List.range X.length).filter (fun i => meets (X.getD i (0, 0)) S) = wr at hDw' fwh
      have KG := K11.same sG
      have hcG := sG _ _ hc
      have hvG := hv11.mono fun v x (k : Nd HF v x) => k.same sG
      have BG := B11'.trans (But.of sG)
      clear K11 hc hv11 B11' sG nDw
      have fwe := fwV_head fwh
      have fwb := fw_emp fwh
      -- whether it serves
      unfold gName
      dsimp only
      unfold tSeq
      dsimp only
      show tAsg _ _ _ _ _
      unfold tAsg
      refine v_split (T := fun k => tAndV _ _ _ _ k) (fun v H' => v = .bl (decide (fw S X = none) && decide (jn (srt (S ++ X)) = [(0, n)])) ∧ Same HG H') (fun k J => ?_) ?_
      · refine ⟨_, rfl, Nat.zero_le _, fun l nl => ?_⟩
        have w2 := same_upd (o := .lst []) nl
        refine ⟨_, _, .lst (SqL.of (w2 _ _ hDw')) (ints_dp _), .lst (SqL.of upd_same) .nil, ints_shaped _, nil_shaped, ?_⟩
        rw [ints_nil]
        refine ⟨(wr.map fun i : Nat => (i : Int)).isEmpty, rfl, ?_⟩
        cases wr with
        | cons i wt =>
          refine iteF ?_
          exact J _ _ ⟨by rw [fwb]; rfl, w2⟩
        | nil =>
          refine iteT ?_
          refine ⟨_, rfl, _, rfl, _, rfl, ps, c, xs, vs, rfl, rfl, w2 _ _ KG.2.1, w2 _ _ hcG, szle (by have := KG.2.2.1.len; omega), fun e ne => ?_⟩
          have w3 := same_upd (o := .lst (xs ++ vs)) ne
          have w23 := w2.trans w3
          refine ⟨n, e, xs ++ vs, S ++ X, rfl, by omega, upd_same, (KG.2.2.1.app hvG).mono fun v x (k : Nd HG v x) => k.same w23, wSX, fun H' r s' nr hr => ?_⟩
          refine ⟨.bool false, (mks n (S ++ X)).map PyData.bool, .bl false, .lst (SqL.of hr) (bools_dp _), bool_shaped false, bools_shaped _, ?_⟩
          rw [bools_in, all_marked n1 wSX]
          exact J _ _ ⟨by rw [fwb]; rfl, w23.trans s'⟩
      rintro _ HH ⟨rfl, sH⟩
      dsimp only
      -- the first wrong one
      refine v_split (T := fun k => tIf _ _ _ _ _ k) (fun v H' => v = fwV S X ∧ Same HG H') (fun k J => ?_) ?_
      · have hDwH := sH _ _ hDw'
        refine ⟨_, rfl, Nat.zero_le _, fun l nl => ?_⟩
        have w2 := same_upd (o := .lst []) nl
        have s2 := sH.trans w2
        refine ⟨_, _, .lst (SqL.of (w2 _ _ hDwH)) (ints_dp _), .lst (SqL.of upd_same) .nil, ints_shaped _, nil_shaped, ?_⟩
        rw [ints_nil]
        refine ⟨!(wr.map fun i : Nat => (i : Int)).isEmpty, rfl, ?_⟩
        cases wr with
        | cons i wt =>
          refine iteT ?_
          refine ⟨_, rfl, Dw, _, _, _, rfl, rfl, SqL.of (w2 _ _ hDwH), atI_nat (j := 0) rfl, ?_⟩
          exact J _ _ ⟨by rw [fwe]; rfl, s2⟩
        | nil =>
          refine iteF ?_
          exact J _ _ ⟨by rw [fwe]; rfl, s2⟩
      clear sH
      rintro _ HI ⟨rfl, sI⟩
      have KI := KG.same sI
      have hcI := sI _ _ hcG
      have hvI := hvG.mono fun v x (k : Nd HG v x) => k.same sI
      have hDwI := sI _ _ hDw'
      have BI := BG.trans (But.of sI)
      clear KG hcG hvG hDw' BG sI
      have PI : ∀ {G : Hp}, Same HI G → Papers n ps c xs vs S X G := fun {G} s => Papers.same ⟨n1, h30, KI.2.1, KI.2.2.1, s1', s12, hSo, hcI, hvI, X1, X60, hX⟩ s
      refine ⟨_, rfl, _, rfl, _, rfl, n, ps, c, xs, vs, S, X, rfl, PI (Same.refl _), fun H1' t1 => ⟨_, rfl, _, rfl, _, rfl, n, ps, c, xs, vs, S, X, rfl, PI t1, fun H2' t2 => ⟨two, fun l nl => ?_⟩⟩⟩
      have w2 := same_upd (o := .lst [.bl (decide (fw S X = none) && decide (jn (srt (S ++ X)) = [(0, n)])), fwV S X]) nl
      have tF : Tn 200 (.list [.bool (decide (fw S X = none) && decide (jn (srt (S ++ X)) = [(0, n)])), fwD S X]) := (tn_list (n := 70) fun d m => by
        rcases List.mem_cons.mp m with rfl | m
        · exact (tn_bool _).le (by decide)
        · rw [List.mem_singleton.mp m]
          unfold fwD
          cases e : fw S X with
          | none => exact tn_none.le (by decide)
          | some i =>
            have := fw_lt e
            exact tn_int (Nat.lt_of_le_of_lt (show ((i : Nat) : Int).natAbs ≤ 60 by omega) (by decide))).le (by show 2 * 72 + 3 ≤ 200; decide)
      have sF : SeqAt.shaped (.list [.bool (decide (fw S X = none) && decide (jn (srt (S ++ X)) = [(0, n)])), fwD S X]) = true := by
        unfold fwD
        cases fw S X <;> rfl
      have lF := szle (Nat.le_trans tF.2 (show 200 ≤ 100000 by decide))
      refine ⟨_, _, rfl, .lst (SqL.of upd_same) (.cons (.bl _) (.cons fwD_dp .nil)), rfl, sF, tF.1, lF, ?_⟩
      have w12 := t1.trans (t2.trans w2)
      generalize upd H2' l _ = H3' at w12 ⊢
      refine ⟨_, rfl, _, rfl, two, fun l2 nl2 => ?_⟩
      have w3 := same_upd (o := .lst [.bl (decide (fw S X = none) && decide (jn (srt (S ++ X)) = [(0, n)])), fwV S X]) nl2
      refine ⟨_, _, rfl, .lst (SqL.of upd_same) (.cons (.bl _) (.cons fwD_dp .nil)), rfl, sF, tF.1, lF, ?_⟩
      refine ⟨rfl, false, ne_no rfl, ?_⟩
      have w13 := w12.trans w3
      generalize upd H3' l2 _ = HJ at w13 ⊢
      clear w12 w2 w3 t1 t2
      refine iteF ?_
      have KJ := KI.same w13
      have hcJ := w13 _ _ hcI
      have hvJ := hvI.mono fun v x (k : Nd HI v x) => k.same w13
      have BJ := BI.trans (But.of w13)
      clear KI hcI hvI hDwI BI w13 PI
      -- what is lacking
      refine ⟨_, rfl, _, rfl, _, rfl, ps, c, xs, vs, rfl, rfl, KJ.2.1, hcJ, szle (by have := KJ.2.2.1.len; omega), fun e ne => ?_⟩
      have w3 := same_upd (o := .lst (xs ++ vs)) ne
      refine ⟨n, e, xs ++ vs, S ++ X, rfl, by omega, upd_same, (KJ.2.2.1.app hvJ).mono fun v x (k : Nd HJ v x) => k.same w3, wSX, fun H1' m2 s1' nm2 hm2 => ⟨Nat.zero_le _, fun fa nf => ⟨_, _, rfl, ?_⟩⟩⟩
      have wf := same_upd (o := .lst []) nf
      have hf2 : (upd H1' fa (.lst [])) fa = some (.lst []) := upd_same
      have hm2f := wf _ _ hm2
      have s2 := (w3.trans s1').trans wf
      have nfJ := (w3.trans s1').free nf
      have m2f : m2 ≠ fa := ne_of_none hm2 nf
      generalize upd H1' fa (.lst []) = H2' at hf2 hm2f s2 ⊢
      clear w3 s1' wf
      refine ⟨_, rfl, n, rfl, n1, by omega, fun H3' tr ts s3 ntr htr hts => ?_⟩
      have s03 := s2.trans s3
      have hf3 := s3 _ _ hf2
      have hmr3 := s3 _ _ hm2f
      have tl := hts.len
      refine ⟨tr, rfl, ⟨_, SqL.of htr⟩, ?_⟩
      have trf : tr ≠ fa := fun z => by rw [z, hf2] at ntr; cases ntr
      generalize hL : S ++ X = L at wSX SX1 hm2f hmr3
      refine for_list (K := K) (a := tr) (xs := ts) (fun i σ H' => ∃ (v2 v3 : Option V) (zs : List V), σ = [some (.ref bg), some (.int (n : Int)), v2, v3, some (.ref ps), some (.ref D), some (.ref mr), some (.ref c), v8, some (.ref Dw), some (.bl (decide (fw S X = none) && decide (jn (srt L) = [(0, n)]))), some (fwV S X), some (.ref m2), some (.ref fa), none, none] ∧ Same HJ H' ∧ But fa H3' H' ∧ H' fa = some (.lst zs) ∧ All2 (Nd H') zs ((((TW n).take i).filter (dueF L)).map (·.1)))
        ⟨none, none, [], by rw [← hL]; rfl, s03, But.refl _ _, hf3, .nil⟩ (fun i σ H' _ ⟨_, _, _, _, _, B, _⟩ => SqL.of (B _ _ trf htr)) ?_ ?_
      · rintro i v σ H4 hi ⟨v2, v3, zs, rfl, sm, B4, hf4, hz⟩
        obtain ⟨⟨y, a⟩, hyi, hy⟩ := hts.nth hi
        have il := (List.getElem?_eq_some_iff.mp hyi).1
        have hyT := List.mem_of_getElem? hyi
        obtain ⟨yN, yk⟩ := TW_mem n1 hyT
        obtain ⟨tp, u1, u2, rfl, htp, hu1, hu2⟩ := hy.butL B4 hf3
        have hmr4 := B4 _ _ m2f hmr3
        have zl := hz.len
        have z200 : zs.length ≤ 200 := by
          have := List.length_filter_le (dueF L) ((TW n).take i)
          rw [zl, List.length_map]
          rw [List.length_take] at this
          omega
        refine ⟨tp, _, rfl, SqT.of htp, rfl, _, _, rfl, _, _, rfl, rfl, ?_⟩
        rw [take_more hyi, List.filter_append, List.map_append]
        have skip : dueF L (y, a) = false → ∀ (H5 : Hp), Same H4 H5 → ∃ (v2 v3 : Option V) (zs : List V), [some (.ref bg), some (.int (n : Int)), some u1, some u2, some (.ref ps), some (.ref D), some (.ref mr), some (.ref c), v8, some (.ref Dw), some (.bl (decide (fw S X = none) && decide (jn (srt L) = [(0, n)]))), some (fwV S X), some (.ref m2), some (.ref fa), none, none] = [some (.ref bg), some (.int (n : Int)), v2, v3, some (.ref ps), some (.ref D), some (.ref mr), some (.ref c), v8, some (.ref Dw), some (.bl (decide (fw S X = none) && decide (jn (srt L) = [(0, n)]))), some (fwV S X), some (.ref m2), some (.ref fa), none, none] ∧ Same HJ H5 ∧ But fa H3' H5 ∧ H5 fa = some (.lst zs) ∧ All2 (Nd H5) zs ((((TW n).take i).filter (dueF L)).map (·.1) ++ ([(y, a)].filter (dueF L)).map (·.1)) := fun hd H5 s5 => by
          refine ⟨_, _, zs, rfl, sm.trans s5, B4.trans (But.of s5), s5 _ _ hf4, ?_⟩
          rw [List.filter_cons_of_neg (by rw [hd]; decide)]
          simp only [List.filter_nil, List.map_nil, List.append_nil]
          exact hz.mono fun v x (k : Nd H4 v x) => k.same s5
        cases a with
        | none =>
          have e : u2 = .non := hu2
          subst e
          exact ⟨_, rfl, rfl, false, rfl, skip rfl H4 (Same.refl H4)⟩
        | some z =>
          obtain ⟨z1, z2⟩ := z
          obtain ⟨y1, y2⟩ := y
          obtain ⟨up, rfl, hup⟩ := hu1
          obtain ⟨zp, rfl, hzp⟩ := (hu2 : Nd H4 u2 (z1, z2))
          have zN : isN n (z1, z2) := by
            rcases yk with e | ⟨B, M, e, k, _⟩
            · cases e
            · cases e
              exact k
          obtain ⟨y12, yn, _⟩ := isN_tree yN
          obtain ⟨z12, zn, _⟩ := isN_tree zN
          have y0 : atI [V.int (y1 : Int), V.int (y2 : Int)] 0 = some (.int (y1 : Int)) := atI_nat (j := 0) rfl
          have y1' : atI [V.int (y1 : Int), V.int (y2 : Int)] 1 = some (.int (y2 : Int)) := atI_nat (j := 1) rfl
          have z0 : atI [V.int (z1 : Int), V.int (z2 : Int)] 0 = some (.int (z1 : Int)) := atI_nat (j := 0) rfl
          have z1' : atI [V.int (z1 : Int), V.int (z2 : Int)] 1 = some (.int (z2 : Int)) := atI_nat (j := 1) rfl
          refine ⟨_, rfl, rfl, true, rfl, ?_⟩
          refine ⟨_, rfl, _, rfl, up, _, _, _, rfl, rfl, SqT.of hup, y0, (y1 : Int), rfl, _, rfl, up, _, _, _, rfl, rfl, SqT.of hup, y1', (y2 : Int), rfl, m2, _, rfl, SqL.of hmr4, fun c1 nc => ?_⟩
          rw [cutm]
          have wc := same_upd (o := .lst ((((mks n L).drop y1).take (y2 - y1)).map V.bl)) nc
          refine ⟨.bool true, (((mks n L).drop y1).take (y2 - y1)).map PyData.bool, .bl true, .lst (SqL.of upd_same) (bools_dp _), bool_shaped true, bools_shaped _, ?_⟩
          rw [bools_in, cut_meets (x := (y1, y2)) wSX y12 yn]
          generalize upd H4 c1 (.lst ((((mks n L).drop y1).take (y2 - y1)).map V.bl)) = H5 at wc ⊢
          have hd : dueF L ((y1, y2), some (z1, z2)) = (!meets (y1, y2) L && meets (z1, z2) L) := rfl
          cases hm : meets (y1, y2) L with
          | true =>
            refine ⟨false, rfl, skip (by rw [hd, hm]; rfl) H5 wc⟩
          | false =>
            refine ⟨true, rfl, ?_⟩
            refine ⟨_, rfl, _, rfl, zp, _, _, _, rfl, rfl, SqT.of (wc _ _ hzp), z0, (z1 : Int), rfl, _, rfl, zp, _, _, _, rfl, rfl, SqT.of (wc _ _ hzp), z1', (z2 : Int), rfl, m2, _, rfl, SqL.of (wc _ _ hmr4), fun c2 nc2 => ?_⟩
            rw [cutm]
            have wc2 := same_upd (o := .lst ((((mks n L).drop z1).take (z2 - z1)).map V.bl)) nc2
            refine ⟨.bool true, (((mks n L).drop z1).take (z2 - z1)).map PyData.bool, .bl true, .lst (SqL.of upd_same) (bools_dp _), bool_shaped true, bools_shaped _, ?_⟩
            rw [bools_in, cut_meets (x := (z1, z2)) wSX z12 zn]
            have s6 := wc.trans wc2
            generalize upd H5 c2 (.lst ((((mks n L).drop z1).take (z2 - z1)).map V.bl)) = H6 at s6 ⊢
            cases hm2 : meets (z1, z2) L with
            | false => exact ⟨false, rfl, skip (by rw [hd, hm, hm2]; rfl) H6 s6⟩
            | true =>
              refine ⟨true, rfl, ?_⟩
              have hf6 := s6 _ _ hf4
              refine ⟨_, rfl, .inl ⟨rfl, _, SqL.of hf6⟩, _, rfl, fa, _, _, rfl, rfl, hf6, szlt (by omega), ?_⟩
              refine ⟨_, _, zs ++ [.ref up], rfl, fun a o k => by rw [upd_ne (ne_of_none k nfJ)]; exact s6 _ _ (sm _ _ k), (B4.trans (But.of s6)).trans fun a o na k => by rw [upd_ne na]; exact k, upd_same, ?_⟩
              rw [List.filter_cons_of_pos (by rw [hd, hm, hm2]; rfl)]
              refine (hz.mono fun v x (k : Nd H4 v x) => (k.same s6).upd hf6).app (.cons ?_ .nil)
              exact Nd.upd (xs := zs) ⟨up, rfl, s6 _ _ hup⟩ hf6
      rintro σ H4 ⟨v2, v3, zs, rfl, sm, _, hf4, hz⟩
      rw [tl, List.take_length] at hz
      have iss := due32_is n1 (by omega) SX1 wSX
      have fl' := List.length_filter_le (dueF L) (TW n)
      have zl := hz.len
      have P4 : ∀ {G : Hp}, Same H4 G → Papers n ps c xs vs S X G := fun {G} s => Papers.same ⟨n1, h30, KJ.2.1, KJ.2.2.1, s1', s12, hSo, hcJ, hvJ, X1, X60, hX⟩ (sm.trans s)
      have Dl : (nb n 0 (srt L)).length ≤ 119 := by
        rw [← iss, srt_len, List.length_map]
        omega
      have DN : ∀ x ∈ nb n 0 (srt L), small x := fun x hx => by
        obtain ⟨a, b, _⟩ := isN_tree (n := n) (b := x.1) (e := x.2) (nb_srt_due wSX hx).1
        exact ⟨by omega, by omega⟩
      rw [List.length_map] at zl
      have hz' := hz
      generalize ((TW n).filter (dueF L)).map (·.1) = G1 at hz iss hz'
      generalize hDL : nb n 0 (srt L) = DL at iss Dl DN
      have shD : (PyData.list (DL.map nd)).showable = true := by
        simp only [PyData.showable]
        exact nds_showable DL DN
      have fiD := nds_fits DL DN (by omega)
      refine ⟨_, rfl, _, rfl, _, rfl, n, ps, c, xs, vs, S, X, rfl, P4 (Same.refl _), fun H5 dr ds s5 ndr hdr hds => ?_⟩
      rw [hL, hDL] at hds
      have dl := hds.len
      refine ⟨_, rfl, _, .list (DL.map nd), rfl, lst_dp hdr hds, rfl, nds_shaped _, shD, fiD, ?_⟩
      have hf5 := s5 _ _ hf4
      have hz5 := hz.mono fun v x (k : Nd H4 v x) => k.same s5
      refine ⟨_, rfl, fa, zs, kOf H5, rfl, SqL.of hf5, fun x hx => ?_, fun ys r srtd stb nr => ?_⟩
      · obtain ⟨z, _, pz, e, hzz⟩ := hz5.mem hx
        refine ⟨pz, e, ?_⟩
        rw [kOf_nd ⟨pz, e, hzz⟩]
        exact hzz
      have wr5 := same_upd (o := .lst ys) nr
      have hy := sorted_srt hz5 srtd stb.perm
      rw [iss] at hy
      refine ⟨_, .list (DL.map nd), rfl, lst_dp upd_same (hy.mono fun v x (k : Nd H5 v x) => k.same wr5), rfl, nds_shaped _, shD, fiD, rfl, false, ne_no rfl, ?_⟩
      have hdr6 := wr5 _ _ hdr
      have s46 := s5.trans wr5
      generalize upd H5 r (.lst ys) = H6 at hdr6 s46 ⊢
      refine ⟨_, rfl, .inl ⟨rfl, _, SqL.of hdr6⟩, dr, _, _, rfl, rfl, hdr6, szlt (by omega), ?_⟩
      have s47 : Same H4 (upd H6 dr (.lst (ds ++ [.non]))) := fun a o k => by rw [upd_ne (ne_of_none k ndr)]; exact s46 _ _ k
      generalize upd H6 dr (.lst (ds ++ [.non])) = H7 at s47 ⊢
      refine ⟨_, rfl, _, rfl, _, rfl, n, ps, c, xs, vs, S, X, rfl, P4 s47, fun H8 dr2 ds2 s8 ndr2 hdr2 hds2 => ?_⟩
      rw [hL, hDL] at hds2
      have s48 := s47.trans s8
      have hf8 := s48 _ _ hf4
      have hz8 := hz.mono fun v x (k : Nd H4 v x) => k.same s48
      refine ⟨_, rfl, fa, zs, kOf H8, rfl, SqL.of hf8, fun x hx => ?_, fun ys2 r2 srtd2 stb2 nr2 => ?_⟩
      · obtain ⟨z, _, pz, e, hzz⟩ := hz8.mem hx
        refine ⟨pz, e, ?_⟩
        rw [kOf_nd ⟨pz, e, hzz⟩]
        exact hzz
      have wr8 := same_upd (o := .lst ys2) nr2
      have hy2 := sorted_srt hz8 srtd2 stb2.perm
      rw [iss] at hy2
      refine ⟨.list (DL.map nd), .list (DL.map nd), lst_dp (wr8 _ _ hdr2) (hds2.mono fun v x (k : Nd H8 v x) => k.same wr8), lst_dp upd_same (hy2.mono fun v x (k : Nd H8 v x) => k.same wr8), nds_shaped _, nds_shaped _, ?_⟩
      rw [nds_eqv, decide_eq_true rfl]
      have sE := sm.trans (s48.trans wr8)
      exact q _ (BJ.trans (But.of (b := bg) sE)) (KJ.1.same sE)
end
end LT

namespace LT
open PySem PySem.Spec PyProof.Rows L2
/-! ### the heap without one object -/
def wo (b : Addr) (H : Hp) : Hp := fun a => if a = b then none else H a
theorem wo_at {b a : Addr} {H : Hp} {o : HO} (h : H a = some o) (n : a ≠ b) : wo b H a = some o := by
  unfold wo
  rw [if_neg n]
  exact h
theorem wo_sub {b : Addr} {H : Hp} : Same (wo b H) H := fun a o h => by
  unfold wo at h
  split at h
  · cases h
  · exact h
theorem wo_same {b : Addr} {H H' : Hp} (s : Same H H') : Same (wo b H) (wo b H') := fun a o h => by
  unfold wo at h ⊢
  split at h
  · cases h
  · rename_i c
    rw [if_neg c]
    exact s a o h
theorem wo_upd {b : Addr} {H : Hp} {o : HO} : wo b (upd H b o) = wo b H := by
  funext a
  unfold wo
  split
  · rfl
  · rename_i c
    exact upd_ne c
theorem wo_new {b : Addr} {H H' : Hp} (n : H b = none) (s : Same H H') : Same H (wo b H') := fun a o h => wo_at (s a o h) (ne_of_none h n)
theorem Nd.wo {b : Addr} {H : Hp} {v : V} {x : Nat × Nat} {zs : List V} (h : Nd H v x) (hb : H b = some (.lst zs)) : Nd (wo b H) v x := by
  obtain ⟨p, e, hp⟩ := h
  exact ⟨p, e, wo_at hp (ne_of hp hb fun z => by cases z)⟩
/-! ### the values that are tried, and what is told of each -/
def SR (H : Hp) (v : V) : Prop := ∃ dk d, Rp dk 3 H v d ∧ Tn 1000000 d
theorem SR.same {H H' : Hp} {v : V} (h : SR H v) (s : Same H H') : SR H' v := by
  obtain ⟨dk, d, a, b⟩ := h
  exact ⟨dk, d, a.same s, b⟩
def Tells (K : PySem.W.Frag) (n : Nat) (D : List (Nat × Nat)) (H : Hp) (v : V) (b : Bool) : Prop :=
  (∃ (p : Addr) (xs : List V) (W : List (Nat × Nat)), v = .ref p ∧ H p = some (.lst xs) ∧ All2 (Nd H) xs W ∧ W.length ≤ 5000 ∧ (∀ x ∈ W, isN n x) ∧ decide (srt W = D) = b) ∨ (NoList K H n v ∧ b = false)
theorem Tells.same {K : PySem.W.Frag} {n : Nat} {D : List (Nat × Nat)} {H H' : Hp} {v : V} {b : Bool} (h : Tells K n D H v b) (s : Same H H') : Tells K n D H' v b := by
  rcases h with ⟨p, xs, W, e, hp, hx, l, hW, d⟩ | ⟨h, e⟩
  · exact .inl ⟨p, xs, W, e, s _ _ hp, hx.mono fun v y (k : Nd H v y) => k.same s, l, hW, d⟩
  · exact .inr ⟨h.same s, e⟩
def Nr (K : PySem.W.Frag) (n : Nat) (D : List (Nat × Nat)) (H : Hp) (y : V) : Prop := ∃ (a : Addr) (v : V) (b : Bool), y = .ref a ∧ H a = some (.lst [v, .bl b]) ∧ SR H v ∧ Tells K n D H v b
theorem Nr.same {K : PySem.W.Frag} {n : Nat} {D : List (Nat × Nat)} {H H' : Hp} {y : V} (h : Nr K n D H y) (s : Same H H') : Nr K n D H' y := by
  obtain ⟨a, v, b, e, ha, k, t⟩ := h
  exact ⟨a, v, b, e, s _ _ ha, k.same s, t.same s⟩
section
variable {K : PySem.W.Frag} {n : Nat} {D : List (Nat × Nat)} {H : Hp} {p : Addr}
theorem Nr.sc {a : Addr} {v : V} {t : String} (ha : H a = some (.lst [v, .bl false])) (h : Pl K H v t) (e : t ≠ "list") (d : PyData) (r : RpZ true H v d) (q : Tn 10 d) : Nr K n D H (.ref a) := ⟨a, v, false, rfl, ha, ⟨true, d, .inl r, q.le (by decide)⟩, .inr ⟨.inl ⟨t, h, e⟩, rfl⟩⟩
/-- a list of nodes -/
theorem Nr.nds {a : Addr} {xs : List V} {W : List (Nat × Nat)} {b : Bool} (h30 : n ≤ 10 ^ 30) (ha : H a = some (.lst [.ref p, .bl b])) (hp : H p = some (.lst xs)) (hx : All2 (Nd H) xs W) (l : W.length ≤ 5000) (hW : ∀ x ∈ W, isN n x) (hd : decide (srt W = D) = b) : Nr K n D H (.ref a) := by
  refine ⟨a, .ref p, b, rfl, ha, ⟨false, .list (W.map nd), .inr (.inr ⟨p, xs, _, rfl, hp, rfl, (fun z => nomatch z), (nds_rp (dk := false) hx).mono fun v d (k : Rp false 1 H v d) => k.up⟩), (tn_list (nds_tn fun y hy => isN_bd h30 (hW y hy))).le ?_⟩, .inl ⟨p, xs, W, rfl, hp, hx, l, hW, hd⟩⟩
  rw [List.length_map]
  have : W.length * (150 + 2) ≤ 5000 * 152 := Nat.mul_le_mul_right _ l
  omega
/-- a tuple of nodes -/
theorem Nr.tup {a : Addr} {xs : List V} {W : List (Nat × Nat)} (h30 : n ≤ 10 ^ 30) (ha : H a = some (.lst [.ref p, .bl false])) (hp : H p = some (.tup xs)) (hx : All2 (Nd H) xs W) (l : W.length ≤ 5000) (hW : ∀ x ∈ W, isN n x) : Nr K n D H (.ref a) := by
  refine ⟨a, .ref p, false, rfl, ha, ⟨false, .tuple (W.map nd), .inr (.inl ⟨p, xs, _, rfl, hp, rfl, (nds_rp (dk := false) hx).mono fun v d (k : Rp false 1 H v d) => k.up⟩), (tn_tup (nds_tn fun y hy => isN_bd h30 (hW y hy))).le ?_⟩, .inr ⟨.inl ⟨"tuple", .tup hp, by decide⟩, rfl⟩⟩
  rw [List.length_map]
  have : W.length * (150 + 2) ≤ 5000 * 152 := Nat.mul_le_mul_right _ l
  omega
theorem asks_ex {xs : List V} : (∀ v ∈ xs, ∃ r, Ask K H n v r) → ∃ rs, All2 (Ask K H n) xs rs := by
  induction xs with
  | nil => exact fun _ => ⟨[], .nil⟩
  | cons x l ih =>
    intro h
    obtain ⟨r, hr⟩ := h x List.mem_cons_self
    obtain ⟨rs, k⟩ := ih fun v m => h v (List.mem_cons_of_mem _ m)
    exact ⟨r :: rs, .cons hr k⟩
theorem asks_no {y : V} (hy : Ask K H n y false) {xs : List V} : (∀ v ∈ xs, ∃ r, Ask K H n v r) → y ∈ xs → ∃ rs, All2 (Ask K H n) xs rs ∧ rs.all id = false := by
  induction xs with
  | nil => exact fun _ m => absurd m List.not_mem_nil
  | cons x l ih =>
    intro h m
    rcases List.mem_cons.mp m with rfl | m
    · obtain ⟨rs, k⟩ := asks_ex (xs := l) fun v m => h v (List.mem_cons_of_mem _ m)
      exact ⟨false :: rs, .cons hy k, rfl⟩
    · obtain ⟨r, hr⟩ := h x List.mem_cons_self
      obtain ⟨rs, k, e⟩ := ih (fun v m => h v (List.mem_cons_of_mem _ m)) m
      refine ⟨r :: rs, .cons hr k, ?_⟩
      rw [List.all_cons, e, Bool.and_false]
/-- nodes, one value that is none, nodes -/
theorem Nr.odd {a : Addr} {A B : List V} {y : V} {WA WB : List (Nat × Nat)} {d : PyData} (h30 : n ≤ 10 ^ 30) (ha : H a = some (.lst [.ref p, .bl false])) (hp : H p = some (.lst (A ++ y :: B))) (hA : All2 (Nd H) A WA) (hB : All2 (Nd H) B WB) (lAB : WA.length + WB.length ≤ 4000) (nA : ∀ x ∈ WA, isN n x) (nB : ∀ x ∈ WB, isN n x)
    (hy : Ask K H n y false) (r : Rp false 2 H y d) (q : Tn 150 d) : Nr K n D H (.ref a) := by
  have la := hA.len
  have lb := hB.len
  have up : ∀ {xs : List V} {W : List (Nat × Nat)}, All2 (Nd H) xs W → All2 (Rp false 2 H) xs (W.map nd) := fun z => (nds_rp (dk := false) z).mono fun v d (k : Rp false 1 H v d) => k.up
  refine ⟨a, .ref p, false, rfl, ha, ⟨false, .list (WA.map nd ++ d :: WB.map nd), .inr (.inr ⟨p, _, _, rfl, hp, rfl, (fun z => nomatch z), (up hA).app (.cons r (up hB))⟩), (tn_list (n := 150) fun e m => ?_).le ?_⟩, .inr ⟨?_, rfl⟩⟩
  · rcases List.mem_append.mp m with m | m
    · exact nds_tn (fun y hy => isN_bd h30 (nA y hy)) e m
    · rcases List.mem_cons.mp m with rfl | m
      · exact q
      · exact nds_tn (fun y hy => isN_bd h30 (nB y hy)) e m
  · have l2 : (WA.map nd ++ d :: WB.map nd).length ≤ 4001 := by
      rw [List.length_append, List.length_cons, List.length_map, List.length_map]
      omega
    have : (WA.map nd ++ d :: WB.map nd).length * (150 + 2) ≤ 4001 * 152 := Nat.mul_le_mul_right _ l2
    omega
  · have ask : ∀ {xs : List V} {W : List (Nat × Nat)}, All2 (Nd H) xs W → (∀ x ∈ W, isN n x) → ∀ v ∈ xs, ∃ r, Ask K H n v r := fun hx hW v m => by
      obtain ⟨x, hx, k⟩ := hx.memL m
      exact ⟨true, ask_nd k (hW x hx)⟩
    obtain ⟨rs, k, e⟩ := asks_no (K := K) (n := n) hy (xs := A ++ y :: B) (fun v m => by
      rcases List.mem_append.mp m with m | m
      · exact ask hA nA v m
      · rcases List.mem_cons.mp m with rfl | m
        · exact ⟨false, hy⟩
        · exact ask hB nB v m) (List.mem_append_right _ List.mem_cons_self)
    exact .inr ⟨p, _, rs, rfl, hp, k, by rw [List.length_append, List.length_cons]; omega, e⟩
/-- the nodes as lists -/
def Ls (H : Hp) (v : V) (x : Nat × Nat) : Prop := ∃ q, v = .ref q ∧ H q = some (.lst [.int (x.1 : Int), .int (x.2 : Int)])
theorem Ls.same {H H' : Hp} {v : V} {x : Nat × Nat} (h : Ls H v x) (s : Same H H') : Ls H' v x := by
  obtain ⟨q, e, hq⟩ := h
  exact ⟨q, e, s _ _ hq⟩
def ldt (x : Nat × Nat) : PyData := .list [.int (x.1 : Int), .int (x.2 : Int)]
theorem Nr.lists {a : Addr} {xs : List V} {W : List (Nat × Nat)} (h30 : n ≤ 10 ^ 30) (hD : W = D) (sD : srt D = D) (ha : H a = some (.lst [.ref p, .bl (decide (W = []))])) (hp : H p = some (.lst xs)) (hx : All2 (Ls H) xs W) (l : W.length ≤ 4000) (hW : ∀ x ∈ W, isN n x) : Nr K n D H (.ref a) := by
  have xl := hx.len
  have rp : ∀ {xs : List V} {W : List (Nat × Nat)}, All2 (Ls H) xs W → All2 (Rp false 2 H) xs (W.map ldt) := fun z => by
    induction z with
    | nil => exact .nil
    | cons h _ ih =>
      obtain ⟨q, rfl, hq⟩ := h
      exact .cons (.inr (.inr ⟨q, _, _, rfl, hq, rfl, (fun z => nomatch z), .cons (.inl (.inr (.inr (.inl ⟨_, rfl, rfl⟩)))) (.cons (.inl (.inr (.inr (.inl ⟨_, rfl, rfl⟩)))) .nil)⟩)) ih
  have d66 : (10 : Nat) ^ 30 < 10 ^ 66 := by decide
  refine ⟨a, .ref p, decide (W = []), rfl, ha, ⟨false, .list (W.map ldt), .inr (.inr ⟨p, xs, _, rfl, hp, rfl, (fun z => nomatch z), rp hx⟩), (tn_list (n := 150) fun d m => ?_).le ?_⟩, ?_⟩
  · obtain ⟨y, hy, rfl⟩ := List.mem_map.mp m
    have := isN_bd h30 (hW y hy)
    refine (tn_list (n := 70) fun d m => ?_).le (by show 2 * (70 + 2) + 3 ≤ 150; decide)
    rcases List.mem_cons.mp m with rfl | m
    · exact tn_int (by omega)
    · rw [List.mem_singleton] at m
      rw [m]
      exact tn_int (by omega)
  · rw [List.length_map]
    have : W.length * (150 + 2) ≤ 4000 * 152 := Nat.mul_le_mul_right _ l
    omega
  · cases hx with
    | nil => exact .inl ⟨p, [], [], rfl, hp, .nil, Nat.zero_le _, (fun _ h => absurd h List.not_mem_nil), by
        rw [← hD, show srt ([] : List (Nat × Nat)) = [] from List.length_eq_zero_iff.mp (by rw [srt_len]; rfl)]⟩
    | @cons v x xs' W' h t =>
      refine .inr ⟨?_, rfl⟩
      have ask : ∀ u ∈ v :: xs', ∃ r, Ask K H n u r := fun u m => by
        obtain ⟨x, _, q, e, hq⟩ := (All2.cons h t : All2 (Ls H) (v :: xs') (x :: W')).memL m
        rw [e]
        exact ⟨false, .kind (.lst hq) (by decide)⟩
      obtain ⟨q, rfl, hq⟩ := h
      obtain ⟨rs, k, e⟩ := asks_no (K := K) (n := n) (H := H) (y := .ref q) (.kind (.lst hq) (by decide)) ask List.mem_cons_self
      exact .inr ⟨p, _, rs, rfl, hp, k, by rw [xl]; omega, e⟩
end
def Bs (bg dr so ps : Addr) (ds zs xs : List V) (D Z S : List (Nat × Nat)) (H : Hp) : Prop := BagAt H bg ∧ H dr = some (.lst ds) ∧ All2 (Nd H) ds D ∧ H so = some (.lst zs) ∧ All2 (Nd H) zs Z ∧ H ps = some (.lst xs) ∧ All2 (Nd H) xs S
theorem Bs.same {bg dr so ps : Addr} {ds zs xs : List V} {D Z S : List (Nat × Nat)} {H H' : Hp} (h : Bs bg dr so ps ds zs xs D Z S H) (s : Same H H') : Bs bg dr so ps ds zs xs D Z S H' :=
  ⟨h.1.same s, s _ _ h.2.1, h.2.2.1.mono fun v y (k : Nd H v y) => k.same s, s _ _ h.2.2.2.1, h.2.2.2.2.1.mono fun v y (k : Nd H v y) => k.same s, s _ _ h.2.2.2.2.2.1, h.2.2.2.2.2.2.mono fun v y (k : Nd H v y) => k.same s⟩
/-- the list of what is tried, as it grows -/
def NS (K : PySem.W.Frag) (n : Nat) (D : List (Nat × Nat)) (H2 : Hp) (ne : Addr) (c : Nat) (H : Hp) : Prop := ∃ I : List V, Same H2 H ∧ H ne = some (.lst I) ∧ (∀ y ∈ I, Nr K n D (wo ne H) y) ∧ I.length ≤ c
theorem NS.same {K : PySem.W.Frag} {n : Nat} {D : List (Nat × Nat)} {H2 H H' : Hp} {ne : Addr} {c : Nat} (h : NS K n D H2 ne c H) (s : Same H H') : NS K n D H2 ne c H' := by
  obtain ⟨I, a, b, e, l⟩ := h
  exact ⟨I, a.trans s, s _ _ b, fun y hy => (e y hy).same (wo_same s), l⟩
theorem NS.le {K : PySem.W.Frag} {n : Nat} {D : List (Nat × Nat)} {H2 H : Hp} {ne : Addr} {c d : Nat} (h : NS K n D H2 ne c H) (l : c ≤ d) : NS K n D H2 ne d H := by
  obtain ⟨I, a, b, e, k⟩ := h
  exact ⟨I, a, b, e, Nat.le_trans k l⟩
theorem NS.add {K : PySem.W.Frag} {n : Nat} {D : List (Nat × Nat)} {H2 H : Hp} {ne : Addr} {c : Nat} {I : List V} {y : V} (s : Same H2 H) (n2 : H2 ne = none) (e : ∀ y ∈ I, Nr K n D (wo ne H) y) (l : I.length ≤ c) (hy : Nr K n D (wo ne H) y) : NS K n D H2 ne (c + 1) (upd H ne (.lst (I ++ [y]))) := by
  refine ⟨I ++ [y], fun a o k => by rw [upd_ne (ne_of_none k n2)]; exact s a o k, upd_same, fun z hz => ?_, by rw [List.length_append, List.length_singleton]; omega⟩
  rw [wo_upd]
  rcases List.mem_append.mp hz with hz | hz
  · exact e z hz
  · rw [List.mem_singleton.mp hz]
    exact hy
theorem srt_ne {W D : List (Nat × Nat)} (h : W.length ≠ D.length) : decide (srt W = D) = false := decide_eq_false fun z => h (by rw [← z, srt_len])
theorem srt_dup {W D : List (Nat × Nat)} (h : ¬ W.Nodup) (k : D.Nodup) : decide (srt W = D) = false := decide_eq_false fun z => h ((srt_perm W).nodup_iff.mp (by rw [z]; exact k))
end LT

namespace LT
open PySem PySem.Spec PyProof.Rows L2
section
open PySem L2
variable {X : Cx} {s : Shared} {H : Hp} {sc : Scope} {ce : Env} {fp : List Addr}
theorem call_list_ofB : CallR (X.blk s H sc ce fp) (.type "list") (fun xs H Q => ∃ p ys, xs = [.ref p] ∧ (SqL X.K H p ys ∨ SqT X.K H p ys) ∧ ∀ l, H l = none → Q (.ref l) (upd H l (.lst ys))) := call_list_of (X := X.blk s H sc ce fp)
end
theorem cut_last (xs : List V) : cutV xs none (some (-1)) = xs.dropLast := by
  unfold cutV
  have e : HT.sIx xs.length xs.length (some (-1)) = xs.length - 1 := by
    show (if (-1 : Int) < 0 then ((-1 : Int) + (xs.length : Int)).toNat else min (-1 : Int).toNat xs.length) = _
    rw [if_pos (by decide)]
    omega
  rw [e, HT.sIx_none, List.drop_zero, Nat.sub_zero, List.dropLast_eq_take]
theorem s_split {t rest : TS} {D : Ends} {σ : L2.St} {H : Hp} (R : L2.St → Hp → Prop) (h : ∀ p : L2.St → Hp → Prop, (∀ σ' H', R σ' H' → p σ' H') → t { D with nx := p } σ H) (h2 : ∀ σ' H', R σ' H' → rest D σ' H') : tSeq t rest D σ H := h (rest D) h2
section
variable {P : Program} {w : World} {K : PySem.W.Frag} {mg : Str → Option Value} {base : Heap}
def spShownR : Sp := fun vs H Q _ => ∃ (bg ps : Addr) (n : Nat) (xs : List V) (S : List (Nat × Nat)), vs = [.ref bg, .int n, .ref ps] ∧ BagAt H bg ∧ ps ≠ bg ∧ 1 ≤ n ∧ n ≤ 10 ^ 30 ∧ H ps = some (.lst xs) ∧ All2 (Nd H) xs S ∧ 1 ≤ S.length ∧ S.length ≤ 12 ∧ So n 0 S ∧ ∀ H', But bg H H' → BagAt H' bg → Q (.bl true) H'
theorem ok_law_shown {f g1 g2 g3 g4 : Addr} {fd d1 d2 d3 d4 : FuncData} (F : Fun K "_law_shown_right" "_law_shown_right" sLawShownRight f fd)
    (GNeeded : FnOk P w K mg base CX0 6 g1 d1 ["size", "spans"] spNeeded) (ANeeded : At K mg "needed" g1 d1 ["size", "spans"])
    (GLawMixed : FnOk P w K mg base CX0 2 g2 d2 ["bag", "items"] spMixed) (ALawMixed : At K mg "_law_mixed" g2 d2 ["bag", "items"])
    (GLawParted : FnOk P w K mg base CX0 1 g3 d3 ["node"] spParted) (ALawParted : At K mg "_law_parted" g3 d3 ["node"])
    (GShowsNeeded : FnOk P w K mg base CX0 7 g4 d4 ["size", "spans", "value"] (fun vs H Q E => spShows vs H Q E ∨ spShowsN K vs H Q E)) (AShowsNeeded : At K mg "shows_needed" g4 d4 ["size", "spans", "value"])
    (z_len : mg "len" = none) (z_enumerate : mg "enumerate" = none) (z_tuple : mg "tuple" = none) (z_list : mg "list" = none) (z_repr : mg "repr" = none) : GOk P w K mg base 8 f fd ["bag", "size", "spans"] spShownR := by
  refine okG F scLawShownRight (fun vs H Q E h => ?_) (fun cdv A outer s H vs Q hg hr h => ?_)
  · obtain ⟨_, _, _, _, _, rfl, _⟩ := h
    rfl
  obtain ⟨bg, ps, n, xs, S, rfl, hb, psb, n1, n30, hp, hx, s1', s12, hSo, q⟩ := h
  refine' ⟨_, (pss_cons (ps_set (i := 3) scLawShownRight.nd rfl (Or.inl rfl) (pe_call GNeeded (hr.mono (by decide)) rfl ANeeded.m ANeeded.kp ANeeded.b .nil pass0 (pa_cons (pv 1) (pa_cons (pv 2) pa_nil))))
    (pss_cons (ps_set (i := 4) scLawShownRight.nd rfl (Or.inl rfl) (pe_call GLawMixed (hr.mono (by decide)) rfl ALawMixed.m ALawMixed.kp ALawMixed.b .nil pass0 (pa_cons (pv 0) (pa_cons (pv 3) pa_nil))))
    (pss_cons (ps_set (i := 5) scLawShownRight.nd rfl (Or.inl rfl) (pe_lst (pa_cons (pe_lst (pa_cons (pv 4) (pa_cons pe_bl pa_nil))) (pa_cons (pe_lst (pa_cons (pe_op op_cat (pv 3) (pe_lst (pa_cons (pe_tup (pa_cons pe_int (pa_cons (pv 1) pa_nil))) pa_nil))) (pa_cons pe_bl pa_nil))) (pa_cons (pe_lst (pa_cons (pe_op op_cat (pv 4) (pe_slice sl_list (pv 4) po_none (po_some pe_int))) (pa_cons (pe_cmpR (op_eqD hr.units) (pv 4) (pe_lst pa_nil) (nomark _)) pa_nil))) (pa_cons (pe_lst (pa_cons (pe_callTy call_tuple_of (by rfl) z_tuple (by decide +kernel) (pa_cons (pv 3) pa_nil)) (pa_cons pe_bl pa_nil))) (pa_cons (pe_lst (pa_cons pe_non (pa_cons pe_bl pa_nil))) pa_nil)))))))
    (pss_cons (ps_set (i := 5) scLawShownRight.nd rfl (Or.inl rfl) (pe_op op_cat (pv 5) (pe_lst (pa_cons (pe_lst (pa_cons (pe_slice sl_list (pv 4) (po_some pe_int) po_none) (pa_cons (pe_cmpR (op_eqD hr.units) (pv 4) (pe_lst pa_nil) (nomark _)) pa_nil))) (pa_cons (pe_lst (pa_cons (pe_lc (own := [("node", 6)]) rfl scLawShownRight.nd (pi_list (pv 3)) (blkOk_by (N := ["bag", "size", "spans", "due", "some", "near", "node", "spot", "value", "truth", "kept"]) (sc := defScope sLawShownRight) (by decide +kernel)) (fun _ _ _ _ _ => (pg_name (i := 6) scLawShownRight.nd rfl (Or.inl rfl))) (fun _ _ _ _ _ => pts_nil) (fun _ _ _ _ _ => (pe_callTy call_list_ofB (by rfl) z_list (by decide +kernel) (pa_cons (pv 6) pa_nil)))) (pa_cons (pe_cmpR (op_eqD hr.units) (pv 3) (pe_lst pa_nil) (nomark _)) pa_nil))) (pa_cons (pe_lst (pa_cons (pe_op op_cat (pv 3) (pe_lst (pa_cons pe_non pa_nil))) (pa_cons pe_bl pa_nil))) pa_nil))))))
    (pss_cons (ps_if (pt_cmpR op_gt (pe_callB call_len_seq (by rfl) z_len PySem.boot_len (pa_cons (pv 4) pa_nil)) pe_int (nomark _))
    (pss_one (ps_expr (pe_bm PySem.F.plainAttrs_list PySem.F.slot_list_append PySem.F.type_list_append mt_append (pv 5) (pa_cons (pe_lst (pa_cons (pe_op op_cat (pe_slice sl_list (pv 4) (po_some pe_int) po_none) (pe_slice sl_list (pv 4) (po_some pe_int) (po_some pe_int))) (pa_cons pe_bl pa_nil))) pa_nil))))
    pss_nil)
    (pss_cons (ps_for PassesOwn.never rfl (pi_enum (by rfl) z_enumerate (pa_cons (pv 3) pa_nil)) (pg_tup (by rfl) (pgs_cons (pg_name (i := 7) scLawShownRight.nd rfl (Or.inl rfl)) (pgs_cons (pg_name (i := 6) scLawShownRight.nd rfl (Or.inl rfl)) pgs_nil)))
    (pss_cons (ps_if (pt_cmpR op_lt (pe_ix ix_tup (pv 6) pe_int (fun _ _ => rfl)) pe_int (nomark _))
    (pss_one (ps_expr (pe_bm PySem.F.plainAttrs_list PySem.F.slot_list_append PySem.F.type_list_append mt_append (pv 5) (pa_cons (pe_lst (pa_cons (pe_op op_cat (pe_op op_cat (pe_slice sl_list (pv 3) po_none (po_some (pv 7))) (pe_lst (pa_cons (pe_tup (pa_cons (pe_cmpR op_eq (pe_ix ix_tup (pv 6) pe_int (fun _ _ => rfl)) pe_int (nomark _)) (pa_cons (pe_ix ix_tup (pv 6) pe_int (fun _ _ => rfl)) pa_nil))) pa_nil))) (pe_slice sl_list (pv 3) (po_some (pe_op op_add (pv 7) pe_int)) po_none)) (pa_cons pe_bl pa_nil))) pa_nil))))
    pss_nil)
    (pss_one (ps_if (pt_cmpR op_eq (pe_ix ix_tup (pv 6) pe_int (fun _ _ => rfl)) pe_int (nomark _))
    (pss_one (ps_expr (pe_bm PySem.F.plainAttrs_list PySem.F.slot_list_append PySem.F.type_list_append mt_append (pv 5) (pa_cons (pe_lst (pa_cons (pe_op op_cat (pe_op op_cat (pe_slice sl_list (pv 3) po_none (po_some (pv 7))) (pe_lst (pa_cons (pe_tup (pa_cons (pe_ix ix_tup (pv 6) pe_int (fun _ _ => rfl)) (pa_cons pe_bl pa_nil))) pa_nil))) (pe_slice sl_list (pv 3) (po_some (pe_op op_add (pv 7) pe_int)) po_none)) (pa_cons pe_bl pa_nil))) pa_nil))))
    pss_nil))))
    (pss_cons (ps_if (PW.pt (pw_and (pt_cmpR (op_neD hr.units) (pv 3) (pe_lst pa_nil) (nomark _)) (pw_and1 (pt_cmpR op_gt (pe_op op_sub (pe_ix ix_tup (pe_ix ix_list (pv 3) (pe_un un_neg pe_int) (fun _ _ => rfl)) pe_int (fun _ _ => rfl)) (pe_ix ix_tup (pe_ix ix_list (pv 3) (pe_un un_neg pe_int) (fun _ _ => rfl)) pe_int (fun _ _ => rfl))) pe_int (nomark _)))))
    (pss_one (ps_expr (pe_bm PySem.F.plainAttrs_list PySem.F.slot_list_append PySem.F.type_list_append mt_append (pv 5) (pa_cons (pe_lst (pa_cons (pe_op op_cat (pe_slice sl_list (pv 3) po_none (po_some (pe_un un_neg pe_int))) (pe_callTy call_list_of (by rfl) z_list (by decide +kernel) (pa_cons (pe_call GLawParted (hr.mono (by decide)) rfl ALawParted.m ALawParted.kp ALawParted.b .nil pass0 (pa_cons (pe_ix ix_list (pv 3) (pe_un un_neg pe_int) (fun _ _ => rfl)) pa_nil)) pa_nil))) (pa_cons pe_bl pa_nil))) pa_nil))))
    pss_nil)
    (pss_cons (ps_for PassesOwn.never rfl (pi_list (pe_op op_cat (pv 5) (pe_lst (pa_cons (pe_lst (pa_cons pe_str (pa_cons pe_bl pa_nil))) (pa_cons (pe_lst (pa_cons pe_int (pa_cons pe_bl pa_nil))) (pa_cons (pe_lst (pa_cons pe_dnewK (pa_cons pe_bl pa_nil))) (pa_cons (pe_lst (pa_cons (pe_op op_cat (pv 3) (pe_lst (pa_cons (pe_tup (pa_cons pe_bl (pa_cons pe_int pa_nil))) pa_nil))) (pa_cons pe_bl pa_nil))) (pa_cons (pe_lst (pa_cons (pe_op op_cat (pv 3) (pe_lst (pa_cons (pe_lst pa_nil) pa_nil))) (pa_cons pe_bl pa_nil))) pa_nil)))))))) (pg_lst (by rfl) (pgs_cons (pg_name (i := 8) scLawShownRight.nd rfl (Or.inl rfl)) (pgs_cons (pg_name (i := 9) scLawShownRight.nd rfl (Or.inl rfl)) pgs_nil)))
    (pss_cons (ps_set (i := 10) scLawShownRight.nd rfl (Or.inl rfl) (pe_callB (call_rp hg (units1 hr)) (by rfl) z_repr (by decide +kernel) (pa_cons (pv 8) pa_nil)))
    (pss_one (ps_if (PW.pt (pw_or (pt_cmpR op_ne (pe_callB (call_rp hg (units1 hr)) (by rfl) z_repr (by decide +kernel) (pa_cons (pe_call GShowsNeeded (hr.mono (by decide)) rfl AShowsNeeded.m AShowsNeeded.kp AShowsNeeded.b .nil pass0 (pa_cons (pv 1) (pa_cons (pv 2) (pa_cons (pv 8) pa_nil)))) pa_nil)) (pe_callB (call_rp hg (units1 hr)) (by rfl) z_repr (by decide +kernel) (pa_cons (pv 9) pa_nil)) (nomark _)) (pw_or1 (pt_cmpR op_ne (pe_callB (call_rp hg (units1 hr)) (by rfl) z_repr (by decide +kernel) (pa_cons (pv 8) pa_nil)) (pv 10) (nomark _)))))
    (pss_one (ps_ret pe_bl))
    pss_nil))))
    (pss_one (ps_ret pe_bl)))))))))), ?_⟩
  have one1 : 1 ≤ sizeLine := by decide
  have two : 2 ≤ sizeLine := by decide
  have wS : Wn n S := hSo.wn
  refine ⟨_, rfl, _, rfl, n, ps, xs, S, rfl, n1, n30, hp, hx, s1', s12, hSo, fun H1 dr ds s1 ndr hdr hds => ?_⟩
  have drb := hb.ne ndr
  have hb1 := hb.same s1
  have Dl : (nl n 0 S).length ≤ 2700 := by
    have := nl_len (n := n) (Nat.le_trans n30 (by decide)) S 0 hSo
    omega
  have DN : ∀ x ∈ nl n 0 S, isN n x := fun x hx => by
    rw [← nb_so hSo] at hx
    exact (nb_srt_due wS hx).1
  have Dup : Up 0 (nl n 0 S) := nl_up S 0 hSo
  have sD : srt (nl n 0 S) = nl n 0 S := Dup.srt
  have Dnd : (nl n 0 S).Nodup := Dup.pair.imp_of_mem (fun {a b} ha hb h e => by
    have := (Dup.mem b hb).2
    rw [e] at h
    omega)
  generalize hDD : nl n 0 S = D at hds Dl DN Dup sD Dnd
  refine ⟨_, rfl, _, rfl, bg, dr, ds, D, rfl, hb1, hdr, hds, by omega, fun H2 so zs Z B2 hb2 nso hso hzs pm => ?_⟩
  have sob := hb1.ne nso
  have hdr2 := B2.at drb hdr
  have hds2 := hds.mono fun v x (k : Nd H1 v x) => k.but B2 hb1
  have hp2 := B2.at psb (s1 _ _ hp)
  have hx2 := (hx.mono fun v x (k : Nd H v x) => k.same s1).mono fun v x (k : Nd H1 v x) => k.but B2 hb1
  have BH2 := (But.of (b := bg) s1).trans B2
  have ZN : ∀ x ∈ Z, isN n x := fun x hx => DN x (pm.mem_iff.mp hx)
  have Zl := pm.length_eq
  have sZ : srt Z = D := by rw [srt_eq pm, sD]
  have Znd : Z.Nodup := pm.nodup_iff.mpr Dnd
  clear hb1 hds hdr B2 s1 hb hx hp
  have K2 : Bs bg dr so ps ds zs xs D Z S H2 := ⟨hb2, hdr2, hds2, hso, hzs, hp2, hx2⟩
  clear hdr2 hds2 hso hzs hp2 hx2 hb2 ndr nso
  have dl := K2.2.2.1.len
  have zl := K2.2.2.2.2.1.len
  have sl : ∀ m : Nat, m ≤ 9000 → m ≤ sizeLine := fun m h => by rw [PySem.sizeLine_eq]; omega
  have rootN : isN n (0, n) := ⟨by show 0 < n; omega, Nat.le_refl n, tree_root n⟩
  have z0 : Z = [] ↔ D = [] := ⟨fun z => List.length_eq_zero_iff.mp (by rw [← Zl, z]; rfl), fun z => List.length_eq_zero_iff.mp (by rw [Zl, z]; rfl)⟩
  -- the first list
  refine ⟨_, rfl, two, fun a1 m1 => ⟨_, rfl, _, rfl, two, fun t2 m2 => ⟨one1, fun l2 m3 => ?_⟩⟩⟩
  have u1 := same_upd (o := .lst [.ref so, .bl true]) m1
  have u2 := same_upd (o := .tup [.int 0, .int (n : Int)]) m2
  have u3 := same_upd (o := .lst [.ref t2]) m3
  have K3 := (K2.same u1)
  have q1 : Nr K n D (upd H2 a1 (.lst [.ref so, .bl true])) (.ref a1) := Nr.nds n30 upd_same K3.2.2.2.1 K3.2.2.2.2.1 (by omega) ZN (decide_eq_true sZ)
  have h2t := u3 _ _ (upd_same (H := upd H2 a1 (.lst [.ref so, .bl true])) (a := t2) (o := .tup [.int 0, .int (n : Int)]))
  have h2l := upd_same (H := upd (upd H2 a1 (.lst [.ref so, .bl true])) t2 (.tup [.int 0, .int (n : Int)])) (a := l2) (o := .lst [.ref t2])
  have q1 := q1.same (u2.trans u3)
  have u13 := u1.trans (u2.trans u3)
  generalize upd (upd (upd H2 a1 (.lst [.ref so, .bl true])) t2 (.tup [.int 0, .int (n : Int)])) l2 (.lst [.ref t2]) = H3 at q1 h2t h2l u13 ⊢
  have K3 := K2.same u13
  refine ⟨dr, l2, _, _, rfl, rfl, K3.2.1, h2l, sl _ (by rw [dl, List.length_singleton]; omega), fun c2 m4 => ⟨two, fun a2 m5 => ?_⟩⟩
  have u4 := same_upd (o := .lst (ds ++ [.ref t2])) m4
  have u5 := same_upd (o := .lst [.ref c2, .bl false]) m5
  have u45 := u4.trans u5
  have q2 : Nr K n D (upd (upd H3 c2 (.lst (ds ++ [.ref t2]))) a2 (.lst [.ref c2, .bl false])) (.ref a2) :=
    Nr.nds (W := D ++ [(0, n)]) n30 upd_same (u5 _ _ upd_same) ((K3.same u45).2.2.1.app (.cons ⟨t2, rfl, u45 _ _ h2t⟩ .nil)) (by rw [List.length_append, List.length_singleton]; omega) (fun x hx => (List.mem_append.mp hx).elim (DN x) fun h => by rw [List.mem_singleton.mp h]; exact rootN) (srt_ne (by rw [List.length_append, List.length_singleton]; omega))
  have q1 := q1.same u45
  have u15 := u13.trans u45
  generalize upd (upd H3 c2 (.lst (ds ++ [.ref t2]))) a2 (.lst [.ref c2, .bl false]) = H4 at q1 q2 u15 ⊢
  clear u1 u2 u3 u13 u4 u5 u45 h2t h2l K3
  have K4 := K2.same u15
  have e1 : cutV zs none (some 1) = zs.take 1 := cut_take zs 1
  refine ⟨_, rfl, _, rfl, 1, rfl, so, zs, rfl, SqL.of K4.2.2.2.1, fun c3 m6 => ?_⟩
  rw [e1]
  have u6 := same_upd (o := .lst (zs.take 1)) m6
  have K5 := K4.same u6
  refine ⟨so, c3, _, _, rfl, rfl, K5.2.2.2.1, upd_same, sl _ (by rw [zl, List.length_take]; omega), fun d3 m7 => ?_⟩
  have u7 := same_upd (o := .lst (zs ++ zs.take 1)) m7
  have h3 := upd_same (H := upd H4 c3 (.lst (zs.take 1))) (a := d3) (o := .lst (zs ++ zs.take 1))
  have u67 := u6.trans u7
  generalize upd (upd H4 c3 (.lst (zs.take 1))) d3 (.lst (zs ++ zs.take 1)) = H5 at h3 u67 ⊢
  have K5 := K4.same u67
  refine ⟨_, rfl, Nat.zero_le _, fun e3 m8 => ?_⟩
  have u8 := same_upd (o := .lst []) m8
  have K6 := K5.same u8
  refine ⟨.list (Z.map nd), .list (([] : List (Nat × Nat)).map nd), lst_dp K6.2.2.2.1 K6.2.2.2.2.1, .lst (SqL.of upd_same) .nil, nds_shaped _, nds_shaped _, ?_⟩
  rw [nds_eqv]
  refine ⟨two, fun a3 m9 => ?_⟩
  have u9 := same_upd (o := .lst [.ref d3, .bl (decide (Z = []))]) m9
  have u89 := u8.trans u9
  have q3 : Nr K n D (upd (upd H5 e3 (.lst [])) a3 (.lst [.ref d3, .bl (decide (Z = []))])) (.ref a3) :=
    Nr.nds (W := Z ++ Z.take 1) n30 upd_same (u89 _ _ h3) ((K5.same u89).2.2.2.2.1.app ((K5.same u89).2.2.2.2.1.takeN 1)) (by rw [List.length_append, List.length_take]; omega) (fun x hx => (List.mem_append.mp hx).elim (ZN x) fun h => ZN x (List.mem_of_mem_take h)) (by
      by_cases c : Z = []
      · rw [c, decide_eq_true rfl, decide_eq_true]
        show srt ([] ++ []) = D
        rw [List.append_nil, ← c, sZ]
      · rw [decide_eq_false c]
        have := List.length_pos_iff.mpr c
        exact srt_ne (by rw [List.length_append, List.length_take]; omega))
  have u69 := u67.trans u89
  have q1 := q1.same u69
  have q2 := q2.same u69
  have u1 := u15.trans u69
  generalize upd (upd H5 e3 (.lst [])) a3 (.lst [.ref d3, .bl (decide (Z = []))]) = H6 at q1 q2 q3 u1 ⊢
  clear u15 u6 u7 u8 u9 u67 u89 u69 h3 K4 K5 K6
  have K6 := K2.same u1
  refine ⟨_, rfl, dr, ds, rfl, .inl ⟨SqL.of K6.2.1, fun t4 m10 => ⟨two, fun a4 m11 => ⟨two, fun a5 m12 => ⟨by show 5 ≤ sizeLine; decide, fun ne0 m13 => ?_⟩⟩⟩⟩⟩
  have v1 := same_upd (o := .tup ds) m10
  have v2 := same_upd (o := .lst [.ref t4, .bl false]) m11
  have v3 := same_upd (o := .lst [.non, .bl false]) m12
  have v4 := same_upd (o := .lst [.ref a1, .ref a2, .ref a3, .ref a4, .ref a5]) m13
  have q4 : Nr K n D (upd (upd H6 t4 (.tup ds)) a4 (.lst [.ref t4, .bl false])) (.ref a4) := Nr.tup n30 upd_same (v2 _ _ upd_same) (K6.same (v1.trans v2)).2.2.1 (by omega) DN
  have q5 : Nr K n D (upd (upd (upd H6 t4 (.tup ds)) a4 (.lst [.ref t4, .bl false])) a5 (.lst [.non, .bl false])) (.ref a5) := Nr.sc upd_same .non (by decide) .none (.inl ⟨rfl, rfl⟩) tn_none
  have hne := upd_same (H := upd (upd (upd H6 t4 (.tup ds)) a4 (.lst [.ref t4, .bl false])) a5 (.lst [.non, .bl false])) (a := ne0) (o := .lst [.ref a1, .ref a2, .ref a3, .ref a4, .ref a5])
  have v14 := v1.trans (v2.trans (v3.trans v4))
  have q1 := q1.same v14
  have q2 := q2.same v14
  have q3 := q3.same v14
  have q4 := q4.same (v3.trans v4)
  have q5 := q5.same v4
  have u1 := u1.trans v14
  generalize upd (upd (upd (upd H6 t4 (.tup ds)) a4 (.lst [.ref t4, .bl false])) a5 (.lst [.non, .bl false])) ne0 (.lst [.ref a1, .ref a2, .ref a3, .ref a4, .ref a5]) = H7 at q1 q2 q3 q4 q5 hne u1 ⊢
  have I5 : ∀ y ∈ [V.ref a1, .ref a2, .ref a3, .ref a4, .ref a5], Nr K n D H7 y := by
    intro y hy
    simp only [List.mem_cons, List.not_mem_nil, or_false] at hy
    rcases hy with rfl | rfl | rfl | rfl | rfl <;> assumption
  clear v1 v2 v3 v4 v14 q1 q2 q3 q4 q5 K6
  have K7 := K2.same u1
  -- the second list
  have e1' : cutV zs (some 1) none = zs.drop 1 := cut_drop zs 1
  refine ⟨_, rfl, _, rfl, 1, rfl, so, zs, rfl, SqL.of K7.2.2.2.1, fun c6 m1 => ⟨_, rfl, Nat.zero_le _, fun e6 m2 => ?_⟩⟩
  rw [e1'] at m2 ⊢
  have v1 := same_upd (o := .lst (zs.drop 1)) m1
  have v2 := same_upd (o := .lst []) m2
  have v12 := v1.trans v2
  have K8 := K7.same v12
  have h6 := v2 _ _ (upd_same (H := H7) (a := c6) (o := .lst (zs.drop 1)))
  refine ⟨.list (Z.map nd), .list (([] : List (Nat × Nat)).map nd), lst_dp K8.2.2.2.1 K8.2.2.2.2.1, .lst (SqL.of upd_same) .nil, nds_shaped _, nds_shaped _, ?_⟩
  rw [nds_eqv]
  generalize upd (upd H7 c6 (.lst (zs.drop 1))) e6 (.lst []) = H8 at v12 K8 h6 ⊢
  refine ⟨two, fun a6 m3 => ?_⟩
  have v3 := same_upd (o := .lst [.ref c6, .bl (decide (Z = []))]) m3
  have q6 : Nr K n D (upd H8 a6 (.lst [.ref c6, .bl (decide (Z = []))])) (.ref a6) :=
    Nr.nds (W := Z.drop 1) n30 upd_same (v3 _ _ h6) ((K8.same v3).2.2.2.2.1.dropN 1) (by rw [List.length_drop]; omega) (fun x hx => ZN x (List.mem_of_mem_drop hx)) (by
      by_cases c : Z = []
      · rw [c, decide_eq_true rfl, decide_eq_true]
        show srt [] = D
        rw [← c, sZ]
      · rw [decide_eq_false c]
        have := List.length_pos_iff.mpr c
        exact srt_ne (by rw [List.length_drop]; omega))
  have v13 := v12.trans v3
  generalize upd H8 a6 (.lst [.ref c6, .bl (decide (Z = []))]) = H9 at q6 v13 ⊢
  clear v1 v2 v3 v12 K8 h6 m1 m2 m3
  have K9 := K7.same v13
  refine ⟨_, rfl, dr, rfl, ⟨_, SqL.of K9.2.1⟩, fun D7 nD7 => ?_⟩
  refine lc_list (K := K) (a := dr) (xs := ds) (fun j H' => ∃ us : List V, Same H9 H' ∧ H' D7 = some (.lst us) ∧ All2 (Ls (wo D7 H')) us (D.take j)) ⟨[], same_upd nD7, upd_same, .nil⟩ (fun j H' _ ⟨_, s5, _⟩ => SqL.of (s5 _ _ K9.2.1)) ?_ ?_
  · rintro j v H10 hj ⟨us, s10, hD7, hus⟩
    obtain ⟨y, hyj, hy⟩ := K9.2.2.1.nth hj
    have jl := (List.getElem?_eq_some_iff.mp hyj).1
    obtain ⟨yp, rfl, hyp⟩ := hy.same s10
    have ul := hus.len
    rw [List.length_take] at ul
    refine ⟨rfl, _, rfl, yp, _, rfl, .inr (SqT.of hyp), fun l nl => ?_⟩
    have wl := same_upd (o := .lst [.int (y.1 : Int), .int (y.2 : Int)]) nl
    have hD7' := wl _ _ hD7
    have lD : l ≠ D7 := fun z => by rw [z, hD7] at nl; cases nl
    refine ⟨us, hD7', szlt (by omega), us ++ [.ref l], ?_, upd_same, ?_⟩
    · exact fun a o k => by rw [upd_ne (ne_of_none k nD7)]; exact wl _ _ (s10 _ _ k)
    · rw [take_more hyj, wo_upd]
      exact (hus.mono fun v x (k : Ls _ v x) => k.same (wo_same wl)).app (.cons ⟨l, rfl, wo_at upd_same lD⟩ .nil)
  rintro H10 ⟨us, s10, hD7, hus⟩
  rw [dl, List.take_length] at hus
  have hus := hus.mono fun v x (k : Ls _ v x) => k.same wo_sub
  have K10 := K9.same s10
  refine ⟨_, rfl, Nat.zero_le _, fun e7 m1 => ?_⟩
  have v1 := same_upd (o := .lst []) m1
  have K11 := K10.same v1
  refine ⟨.list (D.map nd), .list (([] : List (Nat × Nat)).map nd), lst_dp K11.2.1 K11.2.2.1, .lst (SqL.of upd_same) .nil, nds_shaped _, nds_shaped _, ?_⟩
  rw [nds_eqv]
  refine ⟨two, fun a7 m2 => ⟨_, rfl, one1, fun l8 m3 => ?_⟩⟩
  have v2 := same_upd (o := .lst [.ref D7, .bl (decide (D = []))]) m2
  have v3 := same_upd (o := .lst [.non]) m3
  have q7 : Nr K n D (upd (upd H10 e7 (.lst [])) a7 (.lst [.ref D7, .bl (decide (D = []))])) (.ref a7) :=
    Nr.lists (W := D) n30 rfl sD upd_same ((v1.trans v2) _ _ hD7) (hus.mono fun v x (k : Ls H10 v x) => k.same (v1.trans v2)) (by omega) DN
  have h8 := upd_same (H := upd (upd H10 e7 (.lst [])) a7 (.lst [.ref D7, .bl (decide (D = []))])) (a := l8) (o := .lst [.non])
  have q7 := q7.same v3
  have w1 := s10.trans (v1.trans (v2.trans v3))
  have q6 := q6.same w1
  have v13 := v13.trans w1
  generalize upd (upd (upd H10 e7 (.lst [])) a7 (.lst [.ref D7, .bl (decide (D = []))])) l8 (.lst [.non]) = H11 at q6 q7 h8 v13 ⊢
  clear v1 v2 v3 w1 K11 K10 K9 hus hD7 s10 m1 m2 m3 nD7
  have K11 := K7.same v13
  refine ⟨dr, l8, _, _, rfl, rfl, K11.2.1, h8, sl _ (by rw [dl, List.length_singleton]; omega), fun c8 m1 => ⟨two, fun a8 m2 => ⟨by show 3 ≤ sizeLine; decide, fun l9 m3 => ?_⟩⟩⟩
  have v1 := same_upd (o := .lst (ds ++ [.non])) m1
  have v2 := same_upd (o := .lst [.ref c8, .bl false]) m2
  have v3 := same_upd (o := .lst [.ref a6, .ref a7, .ref a8]) m3
  have q8 : Nr K n D (upd (upd H11 c8 (.lst (ds ++ [.non]))) a8 (.lst [.ref c8, .bl false])) (.ref a8) :=
    Nr.odd (A := ds) (B := []) (WA := D) (WB := []) n30 upd_same (v2 _ _ upd_same) (K11.same (v1.trans v2)).2.2.1 .nil (by show D.length + 0 ≤ 4000; omega) DN (fun _ h => absurd h List.not_mem_nil) (.kind .non (by decide)) (.inl (.inl ⟨rfl, rfl⟩)) (tn_none.le (by decide))
  have h9 := upd_same (H := upd (upd H11 c8 (.lst (ds ++ [.non]))) a8 (.lst [.ref c8, .bl false])) (a := l9) (o := .lst [.ref a6, .ref a7, .ref a8])
  have w1 := v1.trans (v2.trans v3)
  have q6 := q6.same w1
  have q7 := q7.same w1
  have q8 := q8.same v3
  have v13 := v13.trans w1
  generalize upd (upd (upd H11 c8 (.lst (ds ++ [.non]))) a8 (.lst [.ref c8, .bl false])) l9 (.lst [.ref a6, .ref a7, .ref a8]) = H12 at q6 q7 q8 h9 v13 ⊢
  refine ⟨ne0, l9, _, _, rfl, rfl, v13 _ _ hne, h9, by show 5 + 3 ≤ sizeLine; decide, fun ne m4 => ?_⟩
  have v4 := same_upd (o := .lst ([V.ref a1, .ref a2, .ref a3, .ref a4, .ref a5] ++ [.ref a6, .ref a7, .ref a8])) m4
  have hneb : ne ≠ bg := (K7.1.same v13).ne m4
  have nrb := ne_of_none K2.2.1 (u1.free (v13.free m4))
  have I8 : ∀ y ∈ [V.ref a1, .ref a2, .ref a3, .ref a4, .ref a5] ++ [.ref a6, .ref a7, .ref a8], Nr K n D H12 y := by
    intro y hy
    rcases List.mem_append.mp hy with hy | hy
    · exact (I5 y hy).same v13
    · simp only [List.mem_cons, List.not_mem_nil, or_false] at hy
      rcases hy with rfl | rfl | rfl <;> assumption
  have l8' : List.length ([V.ref a1, .ref a2, .ref a3, .ref a4, .ref a5] ++ [.ref a6, .ref a7, .ref a8]) ≤ 8 := by show 8 ≤ 8; decide
  have nH2 : H2 ne = none := u1.free (v13.free m4)
  have u2 := (u1.trans v13).trans v4
  have IW : ∀ y ∈ [V.ref a1, .ref a2, .ref a3, .ref a4, .ref a5] ++ [.ref a6, .ref a7, .ref a8], Nr K n D (wo ne (upd H12 ne (.lst ([V.ref a1, .ref a2, .ref a3, .ref a4, .ref a5] ++ [.ref a6, .ref a7, .ref a8])))) y := fun y hy => (I8 y hy).same (wo_new m4 v4)
  have hnn := upd_same (H := H12) (a := ne) (o := .lst ([V.ref a1, .ref a2, .ref a3, .ref a4, .ref a5] ++ [.ref a6, .ref a7, .ref a8]))
  generalize upd H12 ne (.lst ([V.ref a1, .ref a2, .ref a3, .ref a4, .ref a5] ++ [.ref a6, .ref a7, .ref a8])) = H13 at u2 IW hnn ⊢
  generalize [V.ref a1, .ref a2, .ref a3, .ref a4, .ref a5] ++ [.ref a6, .ref a7, .ref a8] = I at l8' IW hnn
  clear v1 v2 v3 v4 w1 q6 q7 q8 h8 h9 K11 v13 m1 m2 m3 m4 I8 I5 hne u1 K7
  have K13 := K2.same u2
  have ns13 : NS K n D H2 ne 8 H13 := ⟨I, u2, hnn, IW, l8'⟩
  clear u2 hnn IW l8' K13
  have KK : ∀ {G : Hp} {c : Nat}, NS K n D H2 ne c G → Bs bg dr so ps ds zs xs D Z S G := fun h => by
    obtain ⟨_, s, _⟩ := h
    exact K2.same s
  unfold gName
  dsimp only
  -- one node twice
  refine s_split (fun σ' H' => ∃ v7 v8 v9 v10 : Option V, σ' = [some (.ref bg), some (.int (n : Int)), some (.ref ps), some (.ref dr), some (.ref so), some (.ref ne), none, v7, v8, v9, v10] ∧ NS K n D H2 ne 9 H') (fun p J => ?_) ?_
  · have KG := KK ns13
    refine ⟨_, rfl, so, zs, rfl, .inl (SqL.of KG.2.2.2.1), _, _, rfl, rfl, decide (1 < zs.length), ltc 1 _, ?_⟩
    cases hl : decide (1 < zs.length) with
    | false => exact iteF (J _ _ ⟨_, _, _, _, rfl, ns13.le (by decide)⟩)
    | true =>
      have hl := of_decide_eq_true hl
      refine iteT ?_
      obtain ⟨I, sI, hI, eI, lI⟩ := ns13
      have e12 : cutV zs (some 1) (some 2) = (zs.drop 1).take 1 := cut_mid zs 1 2
      refine ⟨_, rfl, .inl ⟨rfl, _, SqL.of hI⟩, _, rfl, 1, rfl, so, zs, rfl, SqL.of KG.2.2.2.1, fun c1 m1 => ⟨_, rfl, 1, rfl, 2, rfl, so, zs, rfl, SqL.of (same_upd m1 _ _ KG.2.2.2.1), fun c2 m2 => ?_⟩⟩
      rw [e1', e12] at *
      have v1 := same_upd (o := .lst (zs.drop 1)) m1
      have v2 := same_upd (o := .lst ((zs.drop 1).take 1)) m2
      have h1 := v2 _ _ (upd_same (H := H13) (a := c1) (o := .lst (zs.drop 1)))
      have h2 := upd_same (H := upd H13 c1 (.lst (zs.drop 1))) (a := c2) (o := .lst ((zs.drop 1).take 1))
      have v12 := v1.trans v2
      generalize upd (upd H13 c1 (.lst (zs.drop 1))) c2 (.lst ((zs.drop 1).take 1)) = H14 at h1 h2 v12 ⊢
      refine ⟨c1, c2, _, _, rfl, rfl, h1, h2, sl _ (by rw [List.length_take, List.length_drop]; omega), fun c3 m3 => ⟨two, fun a3 m4 => ?_⟩⟩
      have v3 := same_upd (o := .lst (zs.drop 1 ++ (zs.drop 1).take 1)) m3
      have v4 := same_upd (o := .lst [.ref c3, .bl false]) m4
      have v34 := v3.trans v4
      have v14 := v12.trans v34
      have hI4 := v14 _ _ hI
      have h3 := v4 _ _ (upd_same (H := H14) (a := c3) (o := .lst (zs.drop 1 ++ (zs.drop 1).take 1)))
      have h4 := upd_same (H := upd H14 c3 (.lst (zs.drop 1 ++ (zs.drop 1).take 1))) (a := a3) (o := .lst [.ref c3, .bl false])
      have n3 : c3 ≠ ne := fun z => by rw [z, v12 _ _ hI] at m3; cases m3
      have n4 : a3 ≠ ne := fun z => by rw [z, v3 _ _ (v12 _ _ hI)] at m4; cases m4
      have KH := KG.same v14
      generalize upd (upd H14 c3 (.lst (zs.drop 1 ++ (zs.drop 1).take 1))) a3 (.lst [.ref c3, .bl false]) = H15 at hI4 h3 h4 v14 KH ⊢
      have qy : Nr K n D (wo ne H15) (.ref a3) := Nr.nds (W := Z.drop 1 ++ (Z.drop 1).take 1) n30 (wo_at h4 n4) (wo_at h3 n3) (((KH.2.2.2.2.1.dropN 1).app ((KH.2.2.2.2.1.dropN 1).takeN 1)).mono fun v x (k : Nd H15 v x) => k.wo hI4) (by rw [List.length_append, List.length_take, List.length_drop]; omega)
        (fun x hx => (List.mem_append.mp hx).elim (fun h => ZN x (List.mem_of_mem_drop h)) fun h => ZN x (List.mem_of_mem_drop (List.mem_of_mem_take h))) (srt_dup (fun nd2 => by
          match Z, zl, hl, nd2 with
          | a :: b :: r, _, _, nd2 =>
            have nd2 : (b :: r ++ [b]).Nodup := nd2
            exact (List.nodup_append.mp nd2).2.2 b List.mem_cons_self b (List.mem_singleton.mpr rfl) rfl
          | [a], e, h, _ => rw [e] at h; exact absurd h (Nat.lt_irrefl 1)
          | [], e, h, _ => rw [e] at h; exact absurd h (Nat.not_lt_zero 1)) Dnd)
      refine ⟨ne, _, _, rfl, rfl, hI4, szlt (by omega), ?_⟩
      exact J _ _ ⟨_, _, _, _, rfl, NS.add (sI.trans v14) nH2 (fun y hy => (eI y hy).same (wo_same v14)) lI qy⟩
  clear ns13
  rintro _ H14 ⟨v7, v8, v9, v10, rfl, ns14⟩
  -- a truth in a place of a number
  have d66 : (10 : Nat) ^ 30 < 10 ^ 66 := by decide
  refine s_split (fun σ' H' => ∃ v6 v7 v8 v9 v10 : Option V, σ' = [some (.ref bg), some (.int (n : Int)), some (.ref ps), some (.ref dr), some (.ref so), some (.ref ne), v6, v7, v8, v9, v10] ∧ NS K n D H2 ne 6000 H') (fun p J => ?_) ?_
  · refine ⟨_, rfl, dr, ds, rfl, SqL.of (KK ns14).2.1, ?_⟩
    refine for_enum (a := dr) (xs := ds) (fun i σ H' => ∃ v6 v7 : Option V, σ = [some (.ref bg), some (.int (n : Int)), some (.ref ps), some (.ref dr), some (.ref so), some (.ref ne), v6, v7, v8, v9, v10] ∧ NS K n D H2 ne (9 + 2 * i) H')
      ⟨_, _, rfl, ns14⟩ (fun i σ H' _ ⟨_, _, _, h⟩ => SqL.of (KK h).2.1) ?_ ?_
    · rintro i x σ H15 T hi ⟨v6, v7, rfl, ns15⟩ nT
      have sT := same_upd (o := .tup [.int ((i : Nat) : Int), x]) nT
      have ns16 := ns15.same sT
      obtain ⟨y, hyi, hy⟩ := K2.2.2.1.nth hi
      have yN := DN y (List.mem_of_getElem? hyi)
      have ybd := isN_bd n30 yN
      have il := (List.getElem?_eq_some_iff.mp hyi).1
      refine ⟨T, _, rfl, SqT.of upd_same, rfl, _, _, rfl, _, _, rfl, rfl, ?_⟩
      generalize upd H15 T (.tup [.int ((i : Nat) : Int), x]) = G at ns16 ⊢
      clear ns15 sT
      obtain ⟨yp, rfl, hyp0⟩ := id hy
      refine s_split (fun σ' H' => σ' = [some (.ref bg), some (.int (n : Int)), some (.ref ps), some (.ref dr), some (.ref so), some (.ref ne), some (.ref yp), some (.int ((i : Nat) : Int)), v8, v9, v10] ∧ NS K n D H2 ne (9 + 2 * i + 1) H') (fun p J => ?_) ?_
      · obtain ⟨_, sG, _⟩ := id ns16
        have hypG := sG _ _ hyp0
        have NSH := ns16
        refine ⟨_, rfl, yp, _, _, _, rfl, rfl, SqT.of hypG, atI_nat (j := 0) rfl, _, _, rfl, rfl, decide (y.1 < 2), ltc _ 2, ?_⟩
        cases hl : decide (y.1 < 2) with
        | false => exact iteF (J _ _ ⟨rfl, ns16.le (by omega)⟩)
        | true =>
          refine iteT ?_
          obtain ⟨I, sI, hI, eI, lI⟩ := NSH
          have KG := K2.same sI
          have hyp := sI _ _ hyp0
          refine ⟨_, rfl, .inl ⟨rfl, _, SqL.of hI⟩, _, rfl, _, rfl, _, rfl, dr, ds, rfl, SqL.of KG.2.1, fun c1 m1 => ?_⟩
          have eT : cutV ds none (some ((i : Nat) : Int)) = ds.take i := cut_take ds i
          rw [eT]
          have v1 := same_upd (o := .lst (ds.take i)) m1
          have h1 := upd_same (H := G) (a := c1) (o := .lst (ds.take i))
          generalize upd G c1 (.lst (ds.take i)) = G1 at v1 h1 ⊢
          refine ⟨_, rfl, yp, _, _, _, rfl, rfl, SqT.of (v1 _ _ hyp), atI_nat (j := 0) rfl, rfl, _, rfl, yp, _, _, _, rfl, rfl, SqT.of (v1 _ _ hyp), atI_nat (j := 1) rfl, two, fun t2 m2 => ⟨one1, fun l2 m3 => ?_⟩⟩
          have v2 := same_upd (o := .tup [.bl (decide (V.int (y.1 : Int) = V.int 1)), .int (y.2 : Int)]) m2
          have v3 := same_upd (o := .lst [.ref t2]) m3
          have h2t := v3 _ _ (upd_same (H := G1) (a := t2) (o := .tup [.bl (decide (V.int (y.1 : Int) = V.int 1)), .int (y.2 : Int)]))
          have h2 := upd_same (H := upd G1 t2 (.tup [.bl (decide (V.int (y.1 : Int) = V.int 1)), .int (y.2 : Int)])) (a := l2) (o := .lst [.ref t2])
          have n2 : t2 ≠ ne := fun z => by rw [z, v1 _ _ hI] at m2; cases m2
          have v23 := v2.trans v3
          have v13 := v1.trans v23
          have h1 := v23 _ _ h1
          generalize upd (upd G1 t2 (.tup [.bl (decide (V.int (y.1 : Int) = V.int 1)), .int (y.2 : Int)])) l2 (.lst [.ref t2]) = G3 at h1 h2 h2t v13 ⊢
          refine ⟨c1, l2, _, _, rfl, rfl, h1, h2, sl _ (by rw [List.length_take, List.length_singleton]; omega), fun c3 m4 => ?_⟩
          have v4 := same_upd (o := .lst (ds.take i ++ [.ref t2])) m4
          have h3 := upd_same (H := G3) (a := c3) (o := .lst (ds.take i ++ [.ref t2]))
          have h2t := v4 _ _ h2t
          have v14 := v13.trans v4
          generalize upd G3 c3 (.lst (ds.take i ++ [.ref t2])) = G4 at h3 h2t v14 ⊢
          refine ⟨_, rfl, _, rfl, _, _, rfl, rfl, _, rfl, dr, ds, rfl, SqL.of (v14 _ _ KG.2.1), fun c4 m5 => ?_⟩
          have eD : cutV ds (some (((i : Nat) : Int) + 1)) none = ds.drop (i + 1) := cut_drop ds (i + 1)
          rw [eD]
          have v5 := same_upd (o := .lst (ds.drop (i + 1))) m5
          have h4 := upd_same (H := G4) (a := c4) (o := .lst (ds.drop (i + 1)))
          have h3 := v5 _ _ h3
          have h2t := v5 _ _ h2t
          have v15 := v14.trans v5
          generalize upd G4 c4 (.lst (ds.drop (i + 1))) = G5 at h3 h4 h2t v15 ⊢
          refine ⟨c3, c4, _, _, rfl, rfl, h3, h4, sl _ (by rw [List.length_append, List.length_take, List.length_drop, List.length_singleton]; omega), fun c5 m6 => ⟨two, fun a5 m7 => ?_⟩⟩
          have v6 := same_upd (o := .lst (ds.take i ++ [.ref t2] ++ ds.drop (i + 1))) m6
          have v7 := same_upd (o := .lst [.ref c5, .bl false]) m7
          have h5 := v7 _ _ (upd_same (H := G5) (a := c5) (o := .lst (ds.take i ++ [.ref t2] ++ ds.drop (i + 1))))
          have h6 := upd_same (H := upd G5 c5 (.lst (ds.take i ++ [.ref t2] ++ ds.drop (i + 1)))) (a := a5) (o := .lst [.ref c5, .bl false])
          have n5 : c5 ≠ ne := fun z => by rw [z, v15 _ _ hI] at m6; cases m6
          have n6 : a5 ≠ ne := fun z => by rw [z, v6 _ _ (v15 _ _ hI)] at m7; cases m7
          have h2t := (v6.trans v7) _ _ h2t
          have v17 := v15.trans (v6.trans v7)
          have hI5 := v17 _ _ hI
          have KH := KG.same v17
          generalize upd (upd G5 c5 (.lst (ds.take i ++ [.ref t2] ++ ds.drop (i + 1)))) a5 (.lst [.ref c5, .bl false]) = G7 at h5 h6 h2t hI5 v17 KH ⊢
          have h5 : G7 c5 = some (.lst (ds.take i ++ .ref t2 :: ds.drop (i + 1))) := by rw [h5, List.append_assoc]; rfl
          have qy : Nr K n D (wo ne G7) (.ref a5) := Nr.odd (A := ds.take i) (B := ds.drop (i + 1)) (WA := D.take i) (WB := D.drop (i + 1)) n30 (wo_at h6 n6) (wo_at h5 n5) ((KH.2.2.1.takeN i).mono fun v x (k : Nd G7 v x) => k.wo hI5) ((KH.2.2.1.dropN (i + 1)).mono fun v x (k : Nd G7 v x) => k.wo hI5)
            (by rw [List.length_take, List.length_drop]; omega) (fun x hx => DN x (List.mem_of_mem_take hx)) (fun x hx => DN x (List.mem_of_mem_drop hx)) (.pair (v1 := .bl (decide (V.int (y.1 : Int) = V.int 1))) (wo_at h2t n2) (.bl _) (.int _)) (.inr (.inl ⟨t2, _, _, rfl, wo_at h2t n2, rfl, .cons (.inl (.inr (.inl ⟨_, rfl, rfl⟩))) (.cons (.inl (.inr (.inr (.inl ⟨_, rfl, rfl⟩)))) .nil)⟩)) ((tn_tup (n := 70) (ds := [.bool (decide (V.int (y.1 : Int) = V.int 1)), .int (y.2 : Int)]) fun d m => by
              rcases List.mem_cons.mp m with rfl | m
              · exact (tn_bool _).le (by decide)
              · rw [List.mem_singleton.mp m]
                exact tn_int (by omega)).le (by show 2 * (70 + 2) + 3 ≤ 150; decide))
          refine ⟨ne, _, _, rfl, rfl, hI5, szlt (by omega), ?_⟩
          exact J _ _ ⟨rfl, (NS.add (sI.trans v17) nH2 (fun y hy => (eI y hy).same (wo_same v17)) lI qy).le (by omega)⟩
      clear ns16
      rintro _ G ⟨rfl, NSH⟩
      obtain ⟨_, sG, _⟩ := id NSH
      have hypG := sG _ _ hyp0
      refine ⟨_, rfl, yp, _, _, _, rfl, rfl, SqT.of hypG, atI_nat (j := 1) rfl, rfl, decide (V.int (y.2 : Int) = V.int 1), rfl, ?_⟩
      cases hl : decide (V.int (y.2 : Int) = V.int 1) with
      | false => exact iteF ⟨_, _, rfl, NSH.le (by omega)⟩
      | true =>
        refine iteT ?_
        obtain ⟨I, sI, hI, eI, lI⟩ := NSH
        have KG := K2.same sI
        have hyp := sI _ _ hyp0
        refine ⟨_, rfl, .inl ⟨rfl, _, SqL.of hI⟩, _, rfl, _, rfl, _, rfl, dr, ds, rfl, SqL.of KG.2.1, fun c1 m1 => ?_⟩
        have eT : cutV ds none (some ((i : Nat) : Int)) = ds.take i := cut_take ds i
        rw [eT]
        have v1 := same_upd (o := .lst (ds.take i)) m1
        have h1 := upd_same (H := G) (a := c1) (o := .lst (ds.take i))
        generalize upd G c1 (.lst (ds.take i)) = G1 at v1 h1 ⊢
        refine ⟨_, rfl, yp, _, _, _, rfl, rfl, SqT.of (v1 _ _ hyp), atI_nat (j := 0) rfl, two, fun t2 m2 => ⟨one1, fun l2 m3 => ?_⟩⟩
        have v2 := same_upd (o := .tup [.int (y.1 : Int), .bl true]) m2
        have v3 := same_upd (o := .lst [.ref t2]) m3
        have h2t := v3 _ _ (upd_same (H := G1) (a := t2) (o := .tup [.int (y.1 : Int), .bl true]))
        have h2 := upd_same (H := upd G1 t2 (.tup [.int (y.1 : Int), .bl true])) (a := l2) (o := .lst [.ref t2])
        have n2 : t2 ≠ ne := fun z => by rw [z, v1 _ _ hI] at m2; cases m2
        have v23 := v2.trans v3
        have v13 := v1.trans v23
        have h1 := v23 _ _ h1
        generalize upd (upd G1 t2 (.tup [.int (y.1 : Int), .bl true])) l2 (.lst [.ref t2]) = G3 at h1 h2 h2t v13 ⊢
        refine ⟨c1, l2, _, _, rfl, rfl, h1, h2, sl _ (by rw [List.length_take, List.length_singleton]; omega), fun c3 m4 => ?_⟩
        have v4 := same_upd (o := .lst (ds.take i ++ [.ref t2])) m4
        have h3 := upd_same (H := G3) (a := c3) (o := .lst (ds.take i ++ [.ref t2]))
        have h2t := v4 _ _ h2t
        have v14 := v13.trans v4
        generalize upd G3 c3 (.lst (ds.take i ++ [.ref t2])) = G4 at h3 h2t v14 ⊢
        refine ⟨_, rfl, _, rfl, _, _, rfl, rfl, _, rfl, dr, ds, rfl, SqL.of (v14 _ _ KG.2.1), fun c4 m5 => ?_⟩
        have eD : cutV ds (some (((i : Nat) : Int) + 1)) none = ds.drop (i + 1) := cut_drop ds (i + 1)
        rw [eD]
        have v5 := same_upd (o := .lst (ds.drop (i + 1))) m5
        have h4 := upd_same (H := G4) (a := c4) (o := .lst (ds.drop (i + 1)))
        have h3 := v5 _ _ h3
        have h2t := v5 _ _ h2t
        have v15 := v14.trans v5
        generalize upd G4 c4 (.lst (ds.drop (i + 1))) = G5 at h3 h4 h2t v15 ⊢
        refine ⟨c3, c4, _, _, rfl, rfl, h3, h4, sl _ (by rw [List.length_append, List.length_take, List.length_drop, List.length_singleton]; omega), fun c5 m6 => ⟨two, fun a5 m7 => ?_⟩⟩
        have v6 := same_upd (o := .lst (ds.take i ++ [.ref t2] ++ ds.drop (i + 1))) m6
        have v7 := same_upd (o := .lst [.ref c5, .bl false]) m7
        have h5 := v7 _ _ (upd_same (H := G5) (a := c5) (o := .lst (ds.take i ++ [.ref t2] ++ ds.drop (i + 1))))
        have h6 := upd_same (H := upd G5 c5 (.lst (ds.take i ++ [.ref t2] ++ ds.drop (i + 1)))) (a := a5) (o := .lst [.ref c5, .bl false])
        have n5 : c5 ≠ ne := fun z => by rw [z, v15 _ _ hI] at m6; cases m6
        have n6 : a5 ≠ ne := fun z => by rw [z, v6 _ _ (v15 _ _ hI)] at m7; cases m7
        have h2t := (v6.trans v7) _ _ h2t
        have v17 := v15.trans (v6.trans v7)
        have hI5 := v17 _ _ hI
        have KH := KG.same v17
        generalize upd (upd G5 c5 (.lst (ds.take i ++ [.ref t2] ++ ds.drop (i + 1)))) a5 (.lst [.ref c5, .bl false]) = G7 at h5 h6 h2t hI5 v17 KH ⊢
        have h5 : G7 c5 = some (.lst (ds.take i ++ .ref t2 :: ds.drop (i + 1))) := by rw [h5, List.append_assoc]; rfl
        have qy : Nr K n D (wo ne G7) (.ref a5) := Nr.odd (A := ds.take i) (B := ds.drop (i + 1)) (WA := D.take i) (WB := D.drop (i + 1)) n30 (wo_at h6 n6) (wo_at h5 n5) ((KH.2.2.1.takeN i).mono fun v x (k : Nd G7 v x) => k.wo hI5) ((KH.2.2.1.dropN (i + 1)).mono fun v x (k : Nd G7 v x) => k.wo hI5)
          (by rw [List.length_take, List.length_drop]; omega) (fun x hx => DN x (List.mem_of_mem_take hx)) (fun x hx => DN x (List.mem_of_mem_drop hx)) (.pair (v2 := .bl true) (wo_at h2t n2) (.int _) (.bl _)) (.inr (.inl ⟨t2, _, _, rfl, wo_at h2t n2, rfl, .cons (.inl (.inr (.inr (.inl ⟨_, rfl, rfl⟩)))) (.cons (.inl (.inr (.inl ⟨_, rfl, rfl⟩))) .nil)⟩)) ((tn_tup (n := 70) (ds := [.int (y.1 : Int), .bool true]) fun d m => by
            rcases List.mem_cons.mp m with rfl | m
            · exact tn_int (by omega)
            · rw [List.mem_singleton.mp m]
              exact (tn_bool _).le (by decide)).le (by show 2 * (70 + 2) + 3 ≤ 150; decide))
        refine ⟨ne, _, _, rfl, rfl, hI5, szlt (by omega), ?_⟩
        exact ⟨_, _, rfl, (NS.add (sI.trans v17) nH2 (fun y hy => (eI y hy).same (wo_same v17)) lI qy).le (by omega)⟩
    · rintro σ H15 ⟨v6, v7, rfl, ns15⟩
      exact J _ _ ⟨_, _, _, _, _, rfl, ns15.le (by omega)⟩
  clear ns14
  rintro _ H15 ⟨v6, v7, v8, v9, v10, rfl, ns15⟩
  -- the last one parted
  refine s_split (fun σ' H' => σ' = [some (.ref bg), some (.int (n : Int)), some (.ref ps), some (.ref dr), some (.ref so), some (.ref ne), v6, v7, v8, v9, v10] ∧ NS K n D H2 ne 6001 H') (fun p J => ?_) ?_
  · have KG := KK ns15
    refine ⟨_, rfl, Nat.zero_le _, fun em m0 => ?_⟩
    have v0 := same_upd (o := .lst []) m0
    have ns16 := ns15.same v0
    have KG := KG.same v0
    refine ⟨.list (D.map nd), .list (([] : List (Nat × Nat)).map nd), lst_dp KG.2.1 KG.2.2.1, .lst (SqL.of upd_same) .nil, nds_shaped _, nds_shaped _, ?_⟩
    rw [nds_eqv]
    generalize upd H15 em (.lst []) = G at ns16 KG ⊢
    clear ns15 v0
    rcases List.eq_nil_or_concat D with c | ⟨D', y, c⟩
    · rw [c, decide_eq_true rfl]
      refine ⟨false, rfl, ?_⟩
      refine iteF ?_
      refine iteF ?_
      rw [c] at J
      rw [c] at ns16
      exact J _ _ ⟨rfl, ns16.le (by decide)⟩
    · rw [decide_eq_false (show ¬ D = [] from fun z => by rw [z] at c; exact absurd c (by simp))]
      refine ⟨true, rfl, ?_⟩
      refine iteT ?_
      have c : D = D' ++ [y] := by rw [c]; simp
      obtain ⟨ds', v, eds, hds', hv⟩ := splitEnd (by rw [← c]; exact KG.2.2.1)
      obtain ⟨yp, rfl, hyp⟩ := hv
      have yN := DN y (by rw [c]; exact List.mem_append_right _ (List.mem_singleton.mpr rfl))
      obtain ⟨y12, yn, yt⟩ := isN_tree (n := n) (b := y.1) (e := y.2) yN
      have hdr := KG.2.1
      rw [eds] at hdr
      refine ⟨_, rfl, 1, rfl, dr, _, _, _, rfl, rfl, SqL.of hdr, atI_last ds' (.ref yp), yp, _, _, _, rfl, rfl, SqT.of hyp, atI_nat (j := 1) rfl, ?_⟩
      refine ⟨_, rfl, 1, rfl, dr, _, _, _, rfl, rfl, SqL.of hdr, atI_last ds' (.ref yp), yp, _, _, _, rfl, rfl, SqT.of hyp, atI_nat (j := 0) rfl, ?_⟩
      refine ⟨_, _, rfl, rfl, _, _, rfl, rfl, decide (1 < y.2 - y.1), congrArg V.bl (decide_eq_decide.mpr (by omega)), ?_⟩
      cases hl : decide (1 < y.2 - y.1) with
      | false => exact iteF (J _ _ ⟨rfl, ns16.le (by decide)⟩)
      | true =>
        have hl := of_decide_eq_true hl
        refine iteT ?_
        obtain ⟨I, sI, hI, eI, lI⟩ := ns16
        refine ⟨_, rfl, .inl ⟨rfl, _, SqL.of hI⟩, _, rfl, 1, rfl, -1, rfl, dr, _, rfl, SqL.of hdr, fun c1 m1 => ?_⟩
        rw [cut_last, List.dropLast_concat]
        have v1 := same_upd (o := .lst ds') m1
        have h1 := upd_same (H := G) (a := c1) (o := .lst ds')
        have n1' : c1 ≠ ne := fun z => by rw [z, hI] at m1; cases m1
        generalize upd G c1 (.lst ds') = G1 at v1 h1 ⊢
        refine ⟨_, rfl, 1, rfl, dr, _, _, _, rfl, rfl, SqL.of (v1 _ _ hdr), atI_last ds' (.ref yp), y.1, y.2, .ref yp, rfl, ⟨yp, rfl, v1 _ _ hyp⟩, by omega, by omega, fun G2 qq lo hi s2 nq hq hlo hhi => ⟨qq, _, rfl, .inr (SqT.of hq), fun l2 m2 => ?_⟩⟩
        have v3 := same_upd (o := .lst [lo, hi]) m2
        have h2 := upd_same (H := G2) (a := l2) (o := .lst [lo, hi])
        have v13 := v1.trans (s2.trans v3)
        have h1 := (s2.trans v3) _ _ h1
        have hlo := hlo.same v3
        have hhi := hhi.same v3
        generalize upd G2 l2 (.lst [lo, hi]) = G3 at h1 h2 v13 hlo hhi ⊢
        have dl' := hds'.len
        have Dl2 : D.length = D'.length + 1 := by rw [c, List.length_append, List.length_singleton]
        refine ⟨c1, l2, _, _, rfl, rfl, h1, h2, sl _ (by show ds'.length + 2 ≤ 9000; omega), fun c5 m6 => ⟨two, fun a5 m7 => ?_⟩⟩
        have v6 := same_upd (o := .lst (ds' ++ [lo, hi])) m6
        have v7 := same_upd (o := .lst [.ref c5, .bl false]) m7
        have h5 := v7 _ _ (upd_same (H := G3) (a := c5) (o := .lst (ds' ++ [lo, hi])))
        have h6 := upd_same (H := upd G3 c5 (.lst (ds' ++ [lo, hi]))) (a := a5) (o := .lst [.ref c5, .bl false])
        have n5 : c5 ≠ ne := fun z => by rw [z, v13 _ _ hI] at m6; cases m6
        have n6 : a5 ≠ ne := fun z => by rw [z, v6 _ _ (v13 _ _ hI)] at m7; cases m7
        have v17 := v13.trans (v6.trans v7)
        have hlo := hlo.same (v6.trans v7)
        have hhi := hhi.same (v6.trans v7)
        have hI5 := v17 _ _ hI
        have hds5 := hds'.mono fun v x (k : Nd G v x) => k.same v17
        generalize upd (upd G3 c5 (.lst (ds' ++ [lo, hi]))) a5 (.lst [.ref c5, .bl false]) = G7 at h5 h6 hI5 v17 hlo hhi hds5 ⊢
        have lowN : isN n (y.1, y.1 + gp (y.2 - y.1)) := half_low_isN (n := n) (by omega) yt (by omega)
        have highN : isN n (y.1 + gp (y.2 - y.1), y.2) := by
          have := half_high_isN (n := n) (b := y.1) (m := y.2 - y.1) (by omega) yt (by omega)
          rw [show y.1 + (y.2 - y.1) = y.2 by omega] at this
          exact this
        have qy : Nr K n D (wo ne G7) (.ref a5) := Nr.nds (W := D' ++ [(y.1, y.1 + gp (y.2 - y.1)), (y.1 + gp (y.2 - y.1), y.2)]) n30 (wo_at h6 n6) (wo_at h5 n5) ((hds5.app (.cons hlo (.cons hhi .nil))).mono fun v x (k : Nd G7 v x) => k.wo hI5)
          (by show (D' ++ [_, _]).length ≤ 5000; rw [List.length_append]; show D'.length + 2 ≤ 5000; omega) (fun x hx => by
            rcases List.mem_append.mp hx with hx | hx
            · exact DN x (by rw [c]; exact List.mem_append_left _ hx)
            · rcases List.mem_cons.mp hx with rfl | hx
              · exact lowN
              · rw [List.mem_singleton.mp hx]
                exact highN) (srt_ne (by rw [List.length_append]; show D'.length + 2 ≠ D.length; omega))
        refine ⟨ne, _, _, rfl, rfl, hI5, szlt (by omega), ?_⟩
        exact J _ _ ⟨rfl, NS.add (sI.trans v17) nH2 (fun y hy => (eI y hy).same (wo_same v17)) lI qy⟩
  clear ns15
  rintro _ H16 ⟨rfl, ns16⟩
  -- all of them
  obtain ⟨I, sI, hI, eI, lI⟩ := ns16
  have I0 : ∀ y ∈ I, Nr K n D H16 y := fun y hy => (eI y hy).same wo_sub
  clear eI
  have KG := K2.same sI
  refine ⟨_, rfl, two, fun a1 m1 => ⟨two, fun a2 m2 => fun d3 m3 => ⟨two, fun a3 m4 => ?_⟩⟩⟩
  have v1 := same_upd (o := .lst [.str "", .bl false]) m1
  have v2 := same_upd (o := .lst [.int 0, .bl false]) m2
  have v3 := same_upd (o := .dK []) m3
  have v4 := same_upd (o := .lst [.ref d3, .bl false]) m4
  have q1 : Nr K n D (upd H16 a1 (.lst [.str "", .bl false])) (.ref a1) := Nr.sc upd_same (.str _) (by decide) (.str "") (.inr (.inr (.inr (.inl ⟨_, rfl, rfl⟩)))) ⟨by simp only [PyData.showable], by simp only [PyData.shown]; decide +kernel⟩
  have q2 : Nr K n D (upd (upd H16 a1 (.lst [.str "", .bl false])) a2 (.lst [.int 0, .bl false])) (.ref a2) := Nr.sc upd_same (.int _) (by decide) (.int 0) (.inr (.inr (.inl ⟨_, rfl, rfl⟩))) ⟨by simp only [PyData.showable]; decide +kernel, by simp only [PyData.shown]; decide +kernel⟩
  have q3 : Nr K n D (upd (upd (upd (upd H16 a1 (.lst [.str "", .bl false])) a2 (.lst [.int 0, .bl false])) d3 (.dK [])) a3 (.lst [.ref d3, .bl false])) (.ref a3) := Nr.sc upd_same (.dict (v4 _ _ upd_same)) (by decide) (.dict []) (.inr (.inr (.inr (.inr ⟨rfl, d3, rfl, v4 _ _ upd_same, rfl⟩)))) tn_dict
  have q1 := q1.same (v2.trans (v3.trans v4))
  have q2 := q2.same (v3.trans v4)
  have u1 := v1.trans (v2.trans (v3.trans v4))
  generalize upd (upd (upd (upd H16 a1 (.lst [.str "", .bl false])) a2 (.lst [.int 0, .bl false])) d3 (.dK [])) a3 (.lst [.ref d3, .bl false]) = G1 at q1 q2 q3 u1 ⊢
  clear v1 v2 v3 v4 m1 m2 m3 m4
  have K1 := KG.same u1
  refine ⟨_, rfl, two, fun t4 m1 => ⟨one1, fun l4 m2 => ?_⟩⟩
  have v1 := same_upd (o := .tup [.bl true, .int 1]) m1
  have v2 := same_upd (o := .lst [.ref t4]) m2
  have ht4 := v2 _ _ (upd_same (H := G1) (a := t4) (o := .tup [.bl true, .int 1]))
  have hl4 := upd_same (H := upd G1 t4 (.tup [.bl true, .int 1])) (a := l4) (o := .lst [.ref t4])
  have v12 := v1.trans v2
  generalize upd (upd G1 t4 (.tup [.bl true, .int 1])) l4 (.lst [.ref t4]) = G2 at ht4 hl4 v12 ⊢
  refine ⟨dr, l4, _, _, rfl, rfl, v12 _ _ K1.2.1, hl4, sl _ (by rw [dl, List.length_singleton]; omega), fun c4 m3 => ⟨two, fun a4 m4 => ?_⟩⟩
  have v3 := same_upd (o := .lst (ds ++ [.ref t4])) m3
  have v4 := same_upd (o := .lst [.ref c4, .bl false]) m4
  have v34 := v3.trans v4
  have v14 := v12.trans v34
  have q4 : Nr K n D (upd (upd G2 c4 (.lst (ds ++ [.ref t4]))) a4 (.lst [.ref c4, .bl false])) (.ref a4) :=
    Nr.odd (A := ds) (B := []) (WA := D) (WB := []) n30 upd_same (v4 _ _ upd_same) (K1.same v14).2.2.1 .nil (by show D.length + 0 ≤ 4000; omega) DN (fun _ h => absurd h List.not_mem_nil)
      (.pair (v1 := .bl true) (v34 _ _ ht4) (.bl _) (.int _)) (.inr (.inl ⟨t4, _, _, rfl, v34 _ _ ht4, rfl, .cons (.inl (.inr (.inl ⟨_, rfl, rfl⟩))) (.cons (.inl (.inr (.inr (.inl ⟨_, rfl, rfl⟩)))) .nil)⟩))
      ((tn_tup (n := 70) (ds := [.bool true, .int 1]) fun d m => by
          rcases List.mem_cons.mp m with rfl | m
          · exact (tn_bool _).le (by decide)
          · rw [List.mem_singleton.mp m]
            exact tn_int (by decide)).le (by show 2 * (70 + 2) + 3 ≤ 150; decide))
  have q1 := q1.same v14
  have q2 := q2.same v14
  have q3 := q3.same v14
  have u2 := u1.trans v14
  generalize upd (upd G2 c4 (.lst (ds ++ [.ref t4]))) a4 (.lst [.ref c4, .bl false]) = G3 at q1 q2 q3 q4 u2 ⊢
  clear v1 v2 v3 v4 v12 v34 v14 ht4 hl4 m1 m2 m3 m4 u1 K1
  have K3 := KG.same u2
  refine ⟨_, rfl, Nat.zero_le _, fun e5 m1 => ⟨one1, fun l5 m2 => ?_⟩⟩
  have v1 := same_upd (o := .lst []) m1
  have v2 := same_upd (o := .lst [.ref e5]) m2
  have he5 := v2 _ _ (upd_same (H := G3) (a := e5) (o := .lst []))
  have hl5 := upd_same (H := upd G3 e5 (.lst [])) (a := l5) (o := .lst [.ref e5])
  have v12 := v1.trans v2
  generalize upd (upd G3 e5 (.lst [])) l5 (.lst [.ref e5]) = G4 at he5 hl5 v12 ⊢
  refine ⟨dr, l5, _, _, rfl, rfl, v12 _ _ K3.2.1, hl5, sl _ (by rw [dl, List.length_singleton]; omega), fun c5 m3 => ⟨two, fun a5 m4 => ⟨by show 5 ≤ sizeLine; decide, fun l9 m5 => ?_⟩⟩⟩
  have v3 := same_upd (o := .lst (ds ++ [.ref e5])) m3
  have v4 := same_upd (o := .lst [.ref c5, .bl false]) m4
  have v5 := same_upd (o := .lst [.ref a1, .ref a2, .ref a3, .ref a4, .ref a5]) m5
  have v34 := v3.trans v4
  have v14 := v12.trans v34
  have q5 : Nr K n D (upd (upd G4 c5 (.lst (ds ++ [.ref e5]))) a5 (.lst [.ref c5, .bl false])) (.ref a5) :=
    Nr.odd (A := ds) (B := []) (WA := D) (WB := []) n30 upd_same (v4 _ _ upd_same) (K3.same v14).2.2.1 .nil (by show D.length + 0 ≤ 4000; omega) DN (fun _ h => absurd h List.not_mem_nil)
      (.kind (.lst (v34 _ _ he5)) (by decide)) (.inr (.inr ⟨e5, _, _, rfl, v34 _ _ he5, rfl, (fun z => nomatch z), .nil⟩)) ((tn_list (n := 10) (ds := []) fun d m => absurd m List.not_mem_nil).le (by show 0 * (10 + 2) + 3 ≤ 150; decide))
  have h9 := upd_same (H := upd (upd G4 c5 (.lst (ds ++ [.ref e5]))) a5 (.lst [.ref c5, .bl false])) (a := l9) (o := .lst [.ref a1, .ref a2, .ref a3, .ref a4, .ref a5])
  have v15 := v14.trans v5
  have q1 := q1.same v15
  have q2 := q2.same v15
  have q3 := q3.same v15
  have q4 := q4.same v15
  have q5 := q5.same v5
  have u3 := u2.trans v15
  generalize upd (upd (upd G4 c5 (.lst (ds ++ [.ref e5]))) a5 (.lst [.ref c5, .bl false])) l9 (.lst [.ref a1, .ref a2, .ref a3, .ref a4, .ref a5]) = G5 at q1 q2 q3 q4 q5 h9 u3 ⊢
  refine ⟨ne, l9, _, _, rfl, rfl, u3 _ _ hI, h9, sl _ (by show I.length + 5 ≤ 9000; omega), fun nn m6 => ?_⟩
  have v6 := same_upd (o := .lst (I ++ [.ref a1, .ref a2, .ref a3, .ref a4, .ref a5])) m6
  have A0 : ∀ y ∈ I ++ [V.ref a1, .ref a2, .ref a3, .ref a4, .ref a5], Nr K n D (upd G5 nn (.lst (I ++ [.ref a1, .ref a2, .ref a3, .ref a4, .ref a5]))) y := by
    intro y hy
    refine Nr.same ?_ v6
    rcases List.mem_append.mp hy with hy | hy
    · exact (I0 y hy).same u3
    · simp only [List.mem_cons, List.not_mem_nil, or_false] at hy
      rcases hy with rfl | rfl | rfl | rfl | rfl <;> assumption
  have hnn := upd_same (H := G5) (a := nn) (o := .lst (I ++ [.ref a1, .ref a2, .ref a3, .ref a4, .ref a5]))
  have u4 := u3.trans v6
  generalize upd G5 nn (.lst (I ++ [.ref a1, .ref a2, .ref a3, .ref a4, .ref a5])) = G6 at A0 hnn u4 ⊢
  generalize I ++ [V.ref a1, .ref a2, .ref a3, .ref a4, .ref a5] = J at A0 hnn
  clear v1 v2 v3 v4 v5 v6 v12 v34 v14 v15 q1 q2 q3 q4 q5 u3 u2 h9 he5 hl5 K3 I0 hI
  have K6 := KG.same u4
  have BE := BH2.trans (But.of (b := bg) (sI.trans u4))
  refine ⟨nn, rfl, ⟨_, SqL.of hnn⟩, for_list (K := K) (a := nn) (xs := J) (fun i σ H' => ∃ v8 v9 v10 : Option V, σ = [some (.ref bg), some (.int (n : Int)), some (.ref ps), some (.ref dr), some (.ref so), some (.ref ne), v6, v7, v8, v9, v10] ∧ Same G6 H')
    ⟨v8, v9, v10, rfl, Same.refl _⟩ (fun i σ H' _ ⟨_, _, _, _, s5⟩ => SqL.of (s5 _ _ hnn)) ?_ ?_⟩
  · rintro i y σ G hi ⟨v8, v9, v10, rfl, sm⟩
    obtain ⟨a, v, b, rfl, ha, ⟨dk, d, rp, tn⟩, tl⟩ := (A0 y (List.mem_of_getElem? hi)).same sm
    have big : (1000000 : Nat) ≤ sizeLine := by rw [PySem.sizeLine_eq]; decide
    have KQ := K6.same sm
    have tb := (tn_bool b).le (show 10 ≤ 1000000 by decide)
    refine ⟨a, _, rfl, SqL.of ha, rfl, _, _, rfl, _, _, rfl, rfl, ?_⟩
    refine ⟨_, rfl, v, d, dk, 3, rfl, by decide, rp, tn.1, Nat.le_trans tn.2 big, ?_⟩
    rcases tl with ⟨pp, us, W, rfl, hpp, hus, wl, hW, hd⟩ | ⟨hno, rfl⟩
    · refine ⟨_, rfl, _, rfl, _, rfl, .inl ⟨n, ps, pp, xs, us, S, W, rfl, n1, n30, KQ.2.2.2.2.2.1, KQ.2.2.2.2.2.2, s1', s12, hSo, hpp, hus, by omega, hW, fun H5 s5 => ?_⟩⟩
      rw [hDD, hd]
      refine ⟨_, .bool b, false, 0, rfl, by decide, .inr (.inl ⟨_, rfl, rfl⟩), tb.1, Nat.le_trans tb.2 big, ?_⟩
      refine ⟨_, rfl, _, .bool b, false, 0, rfl, by decide, .inr (.inl ⟨_, rfl, rfl⟩), tb.1, Nat.le_trans tb.2 big, rfl, false, ne_no rfl, ?_⟩
      refine ⟨_, rfl, _, d, dk, 3, rfl, by decide, rp.same s5, tn.1, Nat.le_trans tn.2 big, _, rfl, rfl, false, ne_no rfl, ?_⟩
      exact ⟨_, _, _, rfl, sm.trans s5⟩
    · refine ⟨_, rfl, _, rfl, _, rfl, .inr ⟨n, ps, xs, S, v, rfl, n1, n30, KQ.2.2.2.2.2.1, KQ.2.2.2.2.2.2, s1', s12, hSo, hno, fun H5 s5 => ?_⟩⟩
      refine ⟨_, .bool false, false, 0, rfl, by decide, .inr (.inl ⟨_, rfl, rfl⟩), tb.1, Nat.le_trans tb.2 big, ?_⟩
      refine ⟨_, rfl, _, .bool false, false, 0, rfl, by decide, .inr (.inl ⟨_, rfl, rfl⟩), tb.1, Nat.le_trans tb.2 big, rfl, false, ne_no rfl, ?_⟩
      refine ⟨_, rfl, _, d, dk, 3, rfl, by decide, rp.same s5, tn.1, Nat.le_trans tn.2 big, _, rfl, rfl, false, ne_no rfl, ?_⟩
      exact ⟨_, _, _, rfl, sm.trans s5⟩
  rintro σ G ⟨v8, v9, v10, rfl, sm⟩
  exact q _ (BE.trans (But.of sm)) (K6.same sm).1
end
end LT

namespace LT
open PySem PySem.Spec PyProof.Rows L2
theorem script_at {ns : List Int} {lo hi : Option Int} {i : Nat} {x : V} (h : (cutV (ns.map V.int) lo hi ++ [.int 0])[i]? = some x) : ∃ c : Int, x = .int c := by
  have m := List.mem_of_getElem? h
  rcases List.mem_append.mp m with m | m
  · unfold cutV at m
    have m2 := List.mem_of_mem_drop (List.mem_of_mem_take m)
    obtain ⟨c, _, e⟩ := List.mem_map.mp m2
    exact ⟨c, e.symm⟩
  · exact ⟨0, List.mem_singleton.mp m⟩
theorem sqSame {K : PySem.W.Frag} {H H' : Hp} {a : Addr} {xs : List V} (h : SqL K H a xs) (e : Same H H') : SqL K H' a xs :=
  h.elim (fun h => .inl (h.elim (fun h => .inl (e _ _ h)) fun ⟨o, h⟩ => .inr ⟨o, e _ _ h⟩)) fun h => .inr h
def spLaw (K : PySem.W.Frag) : Sp := fun vs H Q _ => ∃ (a : Addr) (ns : List Int), vs = [.ref a] ∧ SqL K H a (ns.map V.int) ∧ ns.length ≤ 63 ∧ ∀ H', Q (.bl true) H'
end LT

namespace LT
open PySem PySem.Spec PyProof.Rows L2
theorem srt_of {l k : List (Nat × Nat)} (h : l.Perm k) (p : k.Pairwise (fun x y => leN x y = true)) : srt l = k := by rw [srt_eq h, srt_id p]
theorem n7 : ∀ x ∈ [(0, 2), (2, 4), (4, 5), (6, 7), (0, 4), (4, 7), (5, 6)], isN 7 x := by
  intro x hx
  simp only [List.mem_cons, List.not_mem_nil, or_false] at hx
  rcases hx with rfl | rfl | rfl | rfl | rfl | rfl | rfl
  · exact full_isN (n := 7) (b := 0) (k := 1) (by decide) (by decide)
  · exact full_isN (n := 7) (b := 2) (k := 1) (by decide) (by decide)
  · exact full_isN (n := 7) (b := 4) (k := 0) (by decide) (by decide)
  · exact full_isN (n := 7) (b := 6) (k := 0) (by decide) (by decide)
  · exact full_isN (n := 7) (b := 0) (k := 2) (by decide) (by decide)
  · exact isN_of (n := 7) (b := 4) (m := 3) (by decide) (by decide) ⟨by decide +kernel, .inr rfl⟩
  · exact full_isN (n := 7) (b := 5) (k := 0) (by decide) (by decide)
theorem s7 : (decide (fw [(5, 6)] [(0, 2), (2, 4), (4, 5), (6, 7)] = none) && decide (jn (srt ([(5, 6)] ++ [(0, 2), (2, 4), (4, 5), (6, 7)])) = [(0, 7)])) = true := by
  rw [srt_of (k := [(0, 2), (2, 4), (4, 5), (5, 6), (6, 7)]) (by decide) (by decide +kernel)]
  decide +kernel
theorem f7 : fwV [(5, 6)] [(0, 4), (4, 7), (5, 6)] = .int 1 := by decide +kernel
theorem k7 : nb 7 0 (srt ([(5, 6)] ++ [(0, 2), (6, 7)])) = [(2, 4), (4, 5)] := by
  rw [srt_of (k := [(0, 2), (5, 6), (6, 7)]) (by decide) (by decide +kernel)]
  decide +kernel
section
variable {P : Program} {w : World} {K : PySem.W.Frag} {mg : Str → Option Value} {base : Heap}
theorem ok_law {f g1 g2 g3 g4 g5 g6 g7 g8 g9 : Addr} {fd d1 d2 d3 d4 d5 d6 d7 d8 d9 : FuncData} (F : Fun K "law" "law" sLaw f fd)
    (GLawBag : FnOk P w K mg base CX0 1 g1 d1 ["cell"] spBag) (ALawBag : At K mg "_law_bag" g1 d1 ["cell"])
    (GLawSize : FnOk P w K mg base CX0 2 g2 d2 ["bag", "most"] spSizeM) (ALawSize : At K mg "_law_size" g2 d2 ["bag", "most"])
    (GLawSpans : FnOk P w K mg base CX0 2 g3 d3 ["bag", "size", "most"] spLawSpans) (ALawSpans : At K mg "_law_spans" g3 d3 ["bag", "size", "most"])
    (GLawSmallRight : GOk P w K mg base 8 g4 d4 ["bag"] spSmall) (ALawSmallRight : At K mg "_law_small_right" g4 d4 ["bag"])
    (GLawShownRight : GOk P w K mg base 8 g5 d5 ["bag", "size", "spans"] spShownR) (ALawShownRight : At K mg "_law_shown_right" g5 d5 ["bag", "size", "spans"])
    (GShowsNeeded : FnOk P w K mg base CX0 7 g6 d6 ["size", "spans", "value"] (fun vs H Q E => spShows vs H Q E ∨ spShowsN K vs H Q E)) (AShowsNeeded : At K mg "shows_needed" g6 d6 ["size", "spans", "value"])
    (GServes : FnOk P w K mg base CX0 7 g7 d7 ["size", "spans", "nodes"] spServes) (AServes : At K mg "serves" g7 d7 ["size", "spans", "nodes"])
    (GFirstWrong : FnOk P w K mg base CX0 6 g8 d8 ["size", "spans", "nodes"] spFirstW) (AFirstWrong : At K mg "first_wrong" g8 d8 ["size", "spans", "nodes"])
    (GLacking : FnOk P w K mg base CX0 6 g9 d9 ["size", "spans", "nodes"] spLack) (ALacking : At K mg "lacking" g9 d9 ["size", "spans", "nodes"])
    (z_range : mg "range" = none) : GOk P w K mg base 9 f fd ["script"] (spLaw K) := by
  refine okG F scLaw (fun vs H Q E h => ?_) (fun cdv A outer s H vs Q hg hr h => ?_)
  · obtain ⟨_, _, rfl, _⟩ := h
    rfl
  obtain ⟨a, ns, rfl, hs, hn, q⟩ := h
  refine' ⟨_, (pss_cons (ps_for PassesOwn.never rfl (pi_list (pe_op op_cat (pe_slice sl_list (pv 0) po_none (po_some pe_int)) (pe_lst (pa_cons pe_int pa_nil)))) (pg_name (i := 1) scLaw.nd rfl (Or.inl rfl))
    (pss_cons (ps_set (i := 2) scLaw.nd rfl (Or.inl rfl) (pe_call GLawBag (hr.mono (by decide)) rfl ALawBag.m ALawBag.kp ALawBag.b .nil pass0 (pa_cons (pv 1) pa_nil)))
    (pss_cons (ps_for PassesOwn.never rfl (pi_range1 (by rfl) z_range (pa_cons pe_int pa_nil)) (pg_name (i := 3) scLaw.nd rfl (Or.inl rfl))
    (pss_one (ps_if (pt_not (pt_val (pe_callG GLawSmallRight hg (hr.mono (by decide)) rfl ALawSmallRight.m ALawSmallRight.kp ALawSmallRight.b (pa_cons (pv 2) pa_nil))))
    (pss_one (ps_ret pe_bl))
    pss_nil)))
    (pss_one (ps_for PassesOwn.never rfl (pi_tup (pe_tup (pa_cons pe_int (pa_cons pe_int (pa_cons (pe_op op_pow pe_int pe_int) pa_nil))))) (pg_name (i := 4) scLaw.nd rfl (Or.inl rfl))
    (pss_cons (ps_set (i := 5) scLaw.nd rfl (Or.inl rfl) (pe_call GLawSize (hr.mono (by decide)) rfl ALawSize.m ALawSize.kp ALawSize.b .nil pass0 (pa_cons (pv 2) (pa_cons (pv 4) pa_nil))))
    (pss_one (ps_if (pt_not (pt_val (pe_callG GLawShownRight hg (hr.mono (by decide)) rfl ALawShownRight.m ALawShownRight.kp ALawShownRight.b (pa_cons (pv 2) (pa_cons (pv 5) (pa_cons (pe_call GLawSpans (hr.mono (by decide)) rfl ALawSpans.m ALawSpans.kp ALawSpans.b .nil pass0 (pa_cons (pv 2) (pa_cons (pv 5) (pa_cons pe_int pa_nil)))) pa_nil))))))
    (pss_one (ps_ret pe_bl))
    pss_nil))))))))
    (pss_cons (ps_if (PW.pt (pw_or (pt_val (pe_call GShowsNeeded (hr.mono (by decide)) rfl AShowsNeeded.m AShowsNeeded.kp AShowsNeeded.b .nil pass0 (pa_cons pe_int (pa_cons (pe_lst (pa_cons (pe_tup (pa_cons pe_int (pa_cons pe_int pa_nil))) pa_nil)) (pa_cons (pe_lst (pa_cons (pe_tup (pa_cons pe_bl (pa_cons pe_int pa_nil))) pa_nil)) pa_nil))))) (pw_or1 (pt_val (pe_call GShowsNeeded (hr.mono (by decide)) rfl AShowsNeeded.m AShowsNeeded.kp AShowsNeeded.b .nil pass0 (pa_cons pe_int (pa_cons (pe_lst (pa_cons (pe_tup (pa_cons pe_int (pa_cons pe_int pa_nil))) pa_nil)) (pa_cons (pe_lst (pa_cons (pe_tup (pa_cons pe_bl (pa_cons pe_int pa_nil))) (pa_cons (pe_tup (pa_cons pe_int (pa_cons pe_int pa_nil))) (pa_cons (pe_tup (pa_cons pe_int (pa_cons pe_int pa_nil))) pa_nil)))) pa_nil))))))))
    (pss_one (ps_ret pe_bl))
    pss_nil)
    (pss_cons (ps_set (i := 6) scLaw.nd rfl (Or.inl rfl) (pe_lst (pa_cons (pe_call GServes (hr.mono (by decide)) rfl AServes.m AServes.kp AServes.b .nil pass0 (pa_cons pe_int (pa_cons (pe_lst (pa_cons (pe_tup (pa_cons pe_int (pa_cons pe_int pa_nil))) pa_nil)) (pa_cons (pe_lst (pa_cons (pe_tup (pa_cons pe_int (pa_cons pe_int pa_nil))) (pa_cons (pe_tup (pa_cons pe_int (pa_cons pe_int pa_nil))) (pa_cons (pe_tup (pa_cons pe_int (pa_cons pe_int pa_nil))) (pa_cons (pe_tup (pa_cons pe_int (pa_cons pe_int pa_nil))) pa_nil))))) pa_nil)))) (pa_cons (pe_call GFirstWrong (hr.mono (by decide)) rfl AFirstWrong.m AFirstWrong.kp AFirstWrong.b .nil pass0 (pa_cons pe_int (pa_cons (pe_lst (pa_cons (pe_tup (pa_cons pe_int (pa_cons pe_int pa_nil))) pa_nil)) (pa_cons (pe_lst (pa_cons (pe_tup (pa_cons pe_int (pa_cons pe_int pa_nil))) (pa_cons (pe_tup (pa_cons pe_int (pa_cons pe_int pa_nil))) (pa_cons (pe_tup (pa_cons pe_int (pa_cons pe_int pa_nil))) pa_nil)))) pa_nil)))) pa_nil))))
    (pss_one (ps_ret (pe_and (pe_cmpR (op_eqD hr.units) (pv 6) (pe_lst (pa_cons pe_bl (pa_cons pe_int pa_nil))) (nomark _)) (pe_one (pe_cmpR (op_eqD hr.units) (pe_call GLacking (hr.mono (by decide)) rfl ALacking.m ALacking.kp ALacking.b .nil pass0 (pa_cons pe_int (pa_cons (pe_lst (pa_cons (pe_tup (pa_cons pe_int (pa_cons pe_int pa_nil))) pa_nil)) (pa_cons (pe_lst (pa_cons (pe_tup (pa_cons pe_int (pa_cons pe_int pa_nil))) (pa_cons (pe_tup (pa_cons pe_int (pa_cons pe_int pa_nil))) pa_nil))) pa_nil)))) (pe_lst (pa_cons (pe_tup (pa_cons pe_int (pa_cons pe_int pa_nil))) (pa_cons (pe_tup (pa_cons pe_int (pa_cons pe_int pa_nil))) pa_nil))) (nomark _))))))))), ?_⟩
  have one1 : 1 ≤ sizeLine := by decide
  have two : 2 ≤ sizeLine := by decide
  have e30 : (10 : Int) ^ Int.toNat 30 = ((10 ^ 30 : Nat) : Int) := by decide
  refine ⟨_, rfl, 6, rfl, a, _, rfl, hs, fun c nc => ⟨one1, fun z nz => ?_⟩⟩
  have s1 := same_upd (o := .lst (cutV (ns.map V.int) none (some 6))) nc
  have s2 := same_upd (o := .lst [.int 0]) nz
  have hcl := cutV_length (ns.map V.int) none (some 6)
  rw [List.length_map] at hcl
  refine ⟨c, z, _, _, rfl, rfl, s2 _ _ upd_same, upd_same, szle (by rw [List.length_singleton]; omega), fun r nr => ?_⟩
  have hr0 : (upd (upd (upd H c (.lst (cutV (ns.map V.int) none (some 6)))) z (.lst [.int 0])) r (.lst (cutV (ns.map V.int) none (some 6) ++ [.int 0]))) r = some (.lst (cutV (ns.map V.int) none (some 6) ++ [.int 0])) := upd_same
  generalize upd (upd (upd H c (.lst (cutV (ns.map V.int) none (some 6)))) z (.lst [.int 0])) r (.lst (cutV (ns.map V.int) none (some 6) ++ [.int 0])) = H0 at hr0
  refine ⟨r, rfl, ⟨_, SqL.of hr0⟩, for_list (K := K) (a := r) (xs := cutV (ns.map V.int) none (some 6) ++ [.int 0]) (fun i σ H' => ∃ v1 v2 v3 v4 v5 : Option V, σ = [some (.ref a), v1, v2, v3, v4, v5, none] ∧ Same H0 H')
    ⟨none, none, none, none, none, rfl, Same.refl _⟩ (fun i σ H' _ ⟨_, _, _, _, _, _, s5⟩ => SqL.of (s5 _ _ hr0)) ?_ ?_⟩
  · rintro i x σ H1 hi ⟨v1, v2, v3, v4, v5, rfl, sm1⟩
    obtain ⟨cell, rfl⟩ := script_at hi
    refine ⟨_, rfl, cell, rfl, fun H2 b sm2 nb hb => ?_⟩
    have nb0 : H0 b = none := sm1.free nb
    have B2 : But b H0 H2 := But.of (sm1.trans sm2)
    refine ⟨3, rfl, by decide, by decide, for_range (lo := 0) (n := 3) (fun j σ H' => ∃ v3 : Option V, σ = [some (.ref a), some (.int cell), some (.ref b), v3, v4, v5, none] ∧ But b H0 H' ∧ BagAt H' b)
      ⟨v3, rfl, B2, hb⟩ ?_ ?_⟩
    · rintro j σ H3 hj ⟨v3, rfl, B3, hb3⟩
      refine ⟨_, rfl, b, rfl, hb3, fun H4 B4 hb4 => ⟨true, rfl, ?_⟩⟩
      exact ⟨_, rfl, B3.trans B4, hb4⟩
    clear B2 hb
    rintro σ H2 ⟨v3, rfl, B2, hb⟩
    refine ⟨_, _, rfl, rfl, ⟨by decide, by decide, by decide⟩, by show 3 ≤ sizeLine; decide, fun t nt => ?_⟩
    have s4 := same_upd (o := .tup [.int 9, .int 60, .int (10 ^ Int.toNat 30)]) nt
    have ht := upd_same (H := H2) (a := t) (o := .tup [.int 9, .int 60, .int (10 ^ Int.toNat 30)])
    have tb := hb.ne nt
    have B3 := B2.trans (But.of s4)
    have b3 := hb.same s4
    generalize upd H2 t (.tup [.int 9, .int 60, .int (10 ^ Int.toNat 30)]) = H3 at ht B3 b3 ⊢
    refine ⟨t, rfl, ⟨_, SqT.of ht⟩, for_tup (K := K) (a := t) (xs := [.int 9, .int 60, .int (10 ^ Int.toNat 30)]) (fun j σ H' => ∃ v4 v5 : Option V, σ = [some (.ref a), some (.int cell), some (.ref b), v3, v4, v5, none] ∧ But b H3 H' ∧ BagAt H' b)
      ⟨v4, v5, rfl, But.refl _ _, b3⟩ (fun i σ H' _ ⟨_, _, _, k, _⟩ => SqT.of (k _ _ tb ht)) ?_ ?_⟩
    · rintro j x σ H4 hj ⟨v4, v5, rfl, B4, b4⟩
      obtain ⟨m, rfl, m1, m30⟩ : ∃ m : Nat, x = .int (m : Int) ∧ 1 ≤ m ∧ m ≤ 10 ^ 30 := by
        have hm := List.mem_of_getElem? hj
        rcases List.mem_cons.mp hm with rfl | hm
        · exact ⟨9, rfl, by decide, by decide⟩
        · rcases List.mem_cons.mp hm with rfl | hm
          · exact ⟨60, rfl, by decide, by decide⟩
          · rw [List.mem_singleton] at hm
            exact ⟨10 ^ 30, by rw [hm, e30], by decide, Nat.le_refl _⟩
      refine ⟨_, rfl, _, rfl, b, m, rfl, m1, m30, b4, fun n H5 n1 nm B5 b5 => ?_⟩
      refine ⟨_, rfl, _, rfl, _, rfl, _, rfl, b, n, 6, rfl, b5, n1, by omega, by decide, by decide, fun H6 ps xs S B6 b6 nps hp hx s1 s12 hSo => ?_⟩
      refine ⟨b, ps, n, xs, S, rfl, b6, b5.ne nps, n1, by omega, hp, hx, s1, s12, hSo, fun H7 B7 b7 => ⟨true, rfl, ?_⟩⟩
      exact ⟨_, _, rfl, B4.trans (B5.trans (B6.trans B7)), b7⟩
    · rintro σ H4 ⟨v4, v5, rfl, B4, b4⟩
      exact ⟨_, _, _, _, _, rfl, fun u o k => (B3.trans B4) u o (ne_of_none k nb0) k⟩
  · rintro σ H1 ⟨v1, v2, v3, v4, v5, rfl, sm1⟩
    -- truths are no numbers
    refine ⟨two, fun t1 m1 => ⟨one1, fun l1 m2 => ⟨two, fun t2 m3 => ⟨one1, fun l2 m4 => ?_⟩⟩⟩⟩
    have w1 := same_upd (o := .tup [.int 0, .int 1]) m1
    have w2 := same_upd (o := .lst [.ref t1]) m2
    have w3 := same_upd (o := .tup [.bl true, .int 2]) m3
    have w4 := same_upd (o := .lst [.ref t2]) m4
    have h1t := (w2.trans (w3.trans w4)) _ _ (upd_same (H := H1) (a := t1) (o := .tup [.int 0, .int 1]))
    have h1 := (w3.trans w4) _ _ (upd_same (H := upd H1 t1 (.tup [.int 0, .int 1])) (a := l1) (o := .lst [.ref t1]))
    have h2t := w4 _ _ (upd_same (H := upd (upd H1 t1 (.tup [.int 0, .int 1])) l1 (.lst [.ref t1])) (a := t2) (o := .tup [.bl true, .int 2]))
    have h2 := upd_same (H := upd (upd (upd H1 t1 (.tup [.int 0, .int 1])) l1 (.lst [.ref t1])) t2 (.tup [.bl true, .int 2])) (a := l2) (o := .lst [.ref t2])
    generalize upd (upd (upd (upd H1 t1 (.tup [.int 0, .int 1])) l1 (.lst [.ref t1])) t2 (.tup [.bl true, .int 2])) l2 (.lst [.ref t2]) = G1 at h1t h1 h2t h2 ⊢
    clear w1 w2 w3 w4 m1 m2 m3 m4
    refine .inr ⟨2, l1, _, [(0, 1)], .ref l2, rfl, by decide, by decide, h1, .cons ⟨t1, rfl, h1t⟩ .nil, by decide, by decide, by simp [So], .inr ⟨l2, _, [false], rfl, h2, .cons (.pair (v1 := .bl true) h2t (.bl _) (.int _)) .nil, by show 1 ≤ 5000; decide, rfl⟩, fun G2 s2 => ⟨false, rfl, ?_⟩⟩
    clear h1t h1 h2t h2
    refine ⟨two, fun t1 m1 => ⟨(by show 1 ≤ sizeLine; decide), fun l1 m2 => ⟨two, fun t2 m3 => ⟨two, fun t3 m4 => ⟨two, fun t4 m5 => ⟨(by show 3 ≤ sizeLine; decide), fun l2 m6 => ?_⟩⟩⟩⟩⟩⟩
    have w1 := same_upd (H := G2) (p := t1) (o := .tup [.int 2, .int 3]) m1
    have w2 := same_upd (H := (upd G2 t1 (.tup [.int 2, .int 3]))) (p := l1) (o := .lst [.ref t1]) m2
    have w3 := same_upd (H := (upd (upd G2 t1 (.tup [.int 2, .int 3])) l1 (.lst [.ref t1]))) (p := t2) (o := .tup [.bl false, .int 2]) m3
    have w4 := same_upd (H := (upd (upd (upd G2 t1 (.tup [.int 2, .int 3])) l1 (.lst [.ref t1])) t2 (.tup [.bl false, .int 2]))) (p := t3) (o := .tup [.int 3, .int 4]) m4
    have w5 := same_upd (H := (upd (upd (upd (upd G2 t1 (.tup [.int 2, .int 3])) l1 (.lst [.ref t1])) t2 (.tup [.bl false, .int 2])) t3 (.tup [.int 3, .int 4]))) (p := t4) (o := .tup [.int 4, .int 7]) m5
    have w6 := same_upd (H := (upd (upd (upd (upd (upd G2 t1 (.tup [.int 2, .int 3])) l1 (.lst [.ref t1])) t2 (.tup [.bl false, .int 2])) t3 (.tup [.int 3, .int 4])) t4 (.tup [.int 4, .int 7]))) (p := l2) (o := .lst [.ref t2, .ref t3, .ref t4]) m6
    have h_t1 := (w2.trans (w3.trans (w4.trans (w5.trans (w6))))) _ _ (upd_same (H := G2) (a := t1) (o := .tup [.int 2, .int 3]))
    have h_l1 := (w3.trans (w4.trans (w5.trans (w6)))) _ _ (upd_same (H := (upd G2 t1 (.tup [.int 2, .int 3]))) (a := l1) (o := .lst [.ref t1]))
    have h_t2 := (w4.trans (w5.trans (w6))) _ _ (upd_same (H := (upd (upd G2 t1 (.tup [.int 2, .int 3])) l1 (.lst [.ref t1]))) (a := t2) (o := .tup [.bl false, .int 2]))
    have h_t3 := (w5.trans (w6)) _ _ (upd_same (H := (upd (upd (upd G2 t1 (.tup [.int 2, .int 3])) l1 (.lst [.ref t1])) t2 (.tup [.bl false, .int 2]))) (a := t3) (o := .tup [.int 3, .int 4]))
    have h_t4 := (w6) _ _ (upd_same (H := (upd (upd (upd (upd G2 t1 (.tup [.int 2, .int 3])) l1 (.lst [.ref t1])) t2 (.tup [.bl false, .int 2])) t3 (.tup [.int 3, .int 4]))) (a := t4) (o := .tup [.int 4, .int 7]))
    have h_l2 := upd_same (H := (upd (upd (upd (upd (upd G2 t1 (.tup [.int 2, .int 3])) l1 (.lst [.ref t1])) t2 (.tup [.bl false, .int 2])) t3 (.tup [.int 3, .int 4])) t4 (.tup [.int 4, .int 7]))) (a := l2) (o := .lst [.ref t2, .ref t3, .ref t4])
    generalize (upd (upd (upd (upd (upd (upd G2 t1 (.tup [.int 2, .int 3])) l1 (.lst [.ref t1])) t2 (.tup [.bl false, .int 2])) t3 (.tup [.int 3, .int 4])) t4 (.tup [.int 4, .int 7])) l2 (.lst [.ref t2, .ref t3, .ref t4])) = G3 at h_t1 h_l1 h_t2 h_t3 h_t4 h_l2 ⊢
    clear w1 w2 w3 w4 w5 w6 m1 m2 m3 m4 m5 m6
    refine .inr ⟨7, l1, _, [(2, 3)], .ref l2, rfl, by decide, by decide, h_l1, .cons ⟨t1, rfl, h_t1⟩ .nil, by decide, by decide, by simp [So], .inr ⟨l2, _, [false, true, true], rfl, h_l2, .cons (.pair (v1 := .bl false) h_t2 (.bl _) (.int _)) (.cons (ask_nd (y := (3, 4)) ⟨t3, rfl, h_t3⟩ (full_isN (n := 7) (b := 3) (k := 0) (by decide) (by decide))) (.cons (ask_nd (y := (4, 7)) ⟨t4, rfl, h_t4⟩ (n7 _ (by decide))) .nil)), by show 3 ≤ 5000; decide, rfl⟩, fun G4 s4 => ⟨false, rfl, ?_⟩⟩
    clear h_l1 h_l2 h_t1 h_t2 h_t3 h_t4
    refine ⟨two, fun t1 m1 => ⟨(by show 1 ≤ sizeLine; decide), fun l1 m2 => ⟨two, fun t2 m3 => ⟨two, fun t3 m4 => ⟨two, fun t4 m5 => ⟨two, fun t5 m6 => ⟨(by show 4 ≤ sizeLine; decide), fun l2 m7 => ?_⟩⟩⟩⟩⟩⟩⟩
    have w1 := same_upd (H := G4) (p := t1) (o := .tup [.int 5, .int 6]) m1
    have w2 := same_upd (H := (upd G4 t1 (.tup [.int 5, .int 6]))) (p := l1) (o := .lst [.ref t1]) m2
    have w3 := same_upd (H := (upd (upd G4 t1 (.tup [.int 5, .int 6])) l1 (.lst [.ref t1]))) (p := t2) (o := .tup [.int 0, .int 2]) m3
    have w4 := same_upd (H := (upd (upd (upd G4 t1 (.tup [.int 5, .int 6])) l1 (.lst [.ref t1])) t2 (.tup [.int 0, .int 2]))) (p := t3) (o := .tup [.int 2, .int 4]) m4
    have w5 := same_upd (H := (upd (upd (upd (upd G4 t1 (.tup [.int 5, .int 6])) l1 (.lst [.ref t1])) t2 (.tup [.int 0, .int 2])) t3 (.tup [.int 2, .int 4]))) (p := t4) (o := .tup [.int 4, .int 5]) m5
    have w6 := same_upd (H := (upd (upd (upd (upd (upd G4 t1 (.tup [.int 5, .int 6])) l1 (.lst [.ref t1])) t2 (.tup [.int 0, .int 2])) t3 (.tup [.int 2, .int 4])) t4 (.tup [.int 4, .int 5]))) (p := t5) (o := .tup [.int 6, .int 7]) m6
    have w7 := same_upd (H := (upd (upd (upd (upd (upd (upd G4 t1 (.tup [.int 5, .int 6])) l1 (.lst [.ref t1])) t2 (.tup [.int 0, .int 2])) t3 (.tup [.int 2, .int 4])) t4 (.tup [.int 4, .int 5])) t5 (.tup [.int 6, .int 7]))) (p := l2) (o := .lst [.ref t2, .ref t3, .ref t4, .ref t5]) m7
    have h_t1 := (w2.trans (w3.trans (w4.trans (w5.trans (w6.trans (w7)))))) _ _ (upd_same (H := G4) (a := t1) (o := .tup [.int 5, .int 6]))
    have h_l1 := (w3.trans (w4.trans (w5.trans (w6.trans (w7))))) _ _ (upd_same (H := (upd G4 t1 (.tup [.int 5, .int 6]))) (a := l1) (o := .lst [.ref t1]))
    have h_t2 := (w4.trans (w5.trans (w6.trans (w7)))) _ _ (upd_same (H := (upd (upd G4 t1 (.tup [.int 5, .int 6])) l1 (.lst [.ref t1]))) (a := t2) (o := .tup [.int 0, .int 2]))
    have h_t3 := (w5.trans (w6.trans (w7))) _ _ (upd_same (H := (upd (upd (upd G4 t1 (.tup [.int 5, .int 6])) l1 (.lst [.ref t1])) t2 (.tup [.int 0, .int 2]))) (a := t3) (o := .tup [.int 2, .int 4]))
    have h_t4 := (w6.trans (w7)) _ _ (upd_same (H := (upd (upd (upd (upd G4 t1 (.tup [.int 5, .int 6])) l1 (.lst [.ref t1])) t2 (.tup [.int 0, .int 2])) t3 (.tup [.int 2, .int 4]))) (a := t4) (o := .tup [.int 4, .int 5]))
    have h_t5 := (w7) _ _ (upd_same (H := (upd (upd (upd (upd (upd G4 t1 (.tup [.int 5, .int 6])) l1 (.lst [.ref t1])) t2 (.tup [.int 0, .int 2])) t3 (.tup [.int 2, .int 4])) t4 (.tup [.int 4, .int 5]))) (a := t5) (o := .tup [.int 6, .int 7]))
    have h_l2 := upd_same (H := (upd (upd (upd (upd (upd (upd G4 t1 (.tup [.int 5, .int 6])) l1 (.lst [.ref t1])) t2 (.tup [.int 0, .int 2])) t3 (.tup [.int 2, .int 4])) t4 (.tup [.int 4, .int 5])) t5 (.tup [.int 6, .int 7]))) (a := l2) (o := .lst [.ref t2, .ref t3, .ref t4, .ref t5])
    generalize (upd (upd (upd (upd (upd (upd (upd G4 t1 (.tup [.int 5, .int 6])) l1 (.lst [.ref t1])) t2 (.tup [.int 0, .int 2])) t3 (.tup [.int 2, .int 4])) t4 (.tup [.int 4, .int 5])) t5 (.tup [.int 6, .int 7])) l2 (.lst [.ref t2, .ref t3, .ref t4, .ref t5])) = G5 at h_t1 h_l1 h_t2 h_t3 h_t4 h_t5 h_l2 ⊢
    clear w1 w2 w3 w4 w5 w6 w7 m1 m2 m3 m4 m5 m6 m7
    refine ⟨7, l1, l2, _, _, [(5, 6)], [(0, 2), (2, 4), (4, 5), (6, 7)], rfl, ⟨by decide, by decide, h_l1, .cons ⟨t1, rfl, h_t1⟩ .nil, by decide, by decide, by simp [So], h_l2, (.cons ⟨t2, rfl, h_t2⟩ (.cons ⟨t3, rfl, h_t3⟩ (.cons ⟨t4, rfl, h_t4⟩ (.cons ⟨t5, rfl, h_t5⟩ .nil)))), by decide, by decide, fun x hx => n7 x (by revert hx; revert x; decide)⟩, fun G6 s6 => ?_⟩
    rw [s7]
    clear h_l1 h_l2 h_t1 h_t2 h_t3 h_t4 h_t5
    refine ⟨two, fun t1 m1 => ⟨(by show 1 ≤ sizeLine; decide), fun l1 m2 => ⟨two, fun t2 m3 => ⟨two, fun t3 m4 => ⟨two, fun t4 m5 => ⟨(by show 3 ≤ sizeLine; decide), fun l2 m6 => ?_⟩⟩⟩⟩⟩⟩
    have w1 := same_upd (H := G6) (p := t1) (o := .tup [.int 5, .int 6]) m1
    have w2 := same_upd (H := (upd G6 t1 (.tup [.int 5, .int 6]))) (p := l1) (o := .lst [.ref t1]) m2
    have w3 := same_upd (H := (upd (upd G6 t1 (.tup [.int 5, .int 6])) l1 (.lst [.ref t1]))) (p := t2) (o := .tup [.int 0, .int 4]) m3
    have w4 := same_upd (H := (upd (upd (upd G6 t1 (.tup [.int 5, .int 6])) l1 (.lst [.ref t1])) t2 (.tup [.int 0, .int 4]))) (p := t3) (o := .tup [.int 4, .int 7]) m4
    have w5 := same_upd (H := (upd (upd (upd (upd G6 t1 (.tup [.int 5, .int 6])) l1 (.lst [.ref t1])) t2 (.tup [.int 0, .int 4])) t3 (.tup [.int 4, .int 7]))) (p := t4) (o := .tup [.int 5, .int 6]) m5
    have w6 := same_upd (H := (upd (upd (upd (upd (upd G6 t1 (.tup [.int 5, .int 6])) l1 (.lst [.ref t1])) t2 (.tup [.int 0, .int 4])) t3 (.tup [.int 4, .int 7])) t4 (.tup [.int 5, .int 6]))) (p := l2) (o := .lst [.ref t2, .ref t3, .ref t4]) m6
    have h_t1 := (w2.trans (w3.trans (w4.trans (w5.trans (w6))))) _ _ (upd_same (H := G6) (a := t1) (o := .tup [.int 5, .int 6]))
    have h_l1 := (w3.trans (w4.trans (w5.trans (w6)))) _ _ (upd_same (H := (upd G6 t1 (.tup [.int 5, .int 6]))) (a := l1) (o := .lst [.ref t1]))
    have h_t2 := (w4.trans (w5.trans (w6))) _ _ (upd_same (H := (upd (upd G6 t1 (.tup [.int 5, .int 6])) l1 (.lst [.ref t1]))) (a := t2) (o := .tup [.int 0, .int 4]))
    have h_t3 := (w5.trans (w6)) _ _ (upd_same (H := (upd (upd (upd G6 t1 (.tup [.int 5, .int 6])) l1 (.lst [.ref t1])) t2 (.tup [.int 0, .int 4]))) (a := t3) (o := .tup [.int 4, .int 7]))
    have h_t4 := (w6) _ _ (upd_same (H := (upd (upd (upd (upd G6 t1 (.tup [.int 5, .int 6])) l1 (.lst [.ref t1])) t2 (.tup [.int 0, .int 4])) t3 (.tup [.int 4, .int 7]))) (a := t4) (o := .tup [.int 5, .int 6]))
    have h_l2 := upd_same (H := (upd (upd (upd (upd (upd G6 t1 (.tup [.int 5, .int 6])) l1 (.lst [.ref t1])) t2 (.tup [.int 0, .int 4])) t3 (.tup [.int 4, .int 7])) t4 (.tup [.int 5, .int 6]))) (a := l2) (o := .lst [.ref t2, .ref t3, .ref t4])
    generalize (upd (upd (upd (upd (upd (upd G6 t1 (.tup [.int 5, .int 6])) l1 (.lst [.ref t1])) t2 (.tup [.int 0, .int 4])) t3 (.tup [.int 4, .int 7])) t4 (.tup [.int 5, .int 6])) l2 (.lst [.ref t2, .ref t3, .ref t4])) = G7 at h_t1 h_l1 h_t2 h_t3 h_t4 h_l2 ⊢
    clear w1 w2 w3 w4 w5 w6 m1 m2 m3 m4 m5 m6
    refine ⟨7, l1, l2, _, _, [(5, 6)], [(0, 4), (4, 7), (5, 6)], rfl, ⟨by decide, by decide, h_l1, .cons ⟨t1, rfl, h_t1⟩ .nil, by decide, by decide, by simp [So], h_l2, (.cons ⟨t2, rfl, h_t2⟩ (.cons ⟨t3, rfl, h_t3⟩ (.cons ⟨t4, rfl, h_t4⟩ .nil))), by decide, by decide, fun x hx => n7 x (by revert hx; revert x; decide)⟩, fun G8 s8 => ⟨two, fun lt mt => ?_⟩⟩
    rw [f7]
    clear h_l1 h_l2 h_t1 h_t2 h_t3 h_t4
    have wt := same_upd (o := .lst [.bl true, .int 1]) mt
    have hlt := upd_same (H := G8) (a := lt) (o := .lst [.bl true, .int 1])
    generalize upd G8 lt (.lst [.bl true, .int 1]) = G9 at hlt wt ⊢
    refine ⟨_, rfl, two, fun lu mu => ?_⟩
    have wu := same_upd (o := .lst [.bl true, .int 1]) mu
    refine ⟨.list [.bool true, .int 1], .list [.bool true, .int 1], .lst (SqL.of (wu _ _ hlt)) (.cons (.bl _) (.cons (.int _) .nil)), .lst (SqL.of upd_same) (.cons (.bl _) (.cons (.int _) .nil)), rfl, rfl, ?_⟩
    rw [show PyData.eqv (.list [.bool true, .int 1]) (.list [.bool true, .int 1]) = true by decide +kernel]
    refine ⟨true, rfl, ?_⟩
    generalize upd G9 lu (.lst [.bl true, .int 1]) = G10
    refine ⟨two, fun t1 m1 => ⟨(by show 1 ≤ sizeLine; decide), fun l1 m2 => ⟨two, fun t2 m3 => ⟨two, fun t3 m4 => ⟨(by show 2 ≤ sizeLine; decide), fun l2 m5 => ?_⟩⟩⟩⟩⟩
    have w1 := same_upd (H := G10) (p := t1) (o := .tup [.int 5, .int 6]) m1
    have w2 := same_upd (H := (upd G10 t1 (.tup [.int 5, .int 6]))) (p := l1) (o := .lst [.ref t1]) m2
    have w3 := same_upd (H := (upd (upd G10 t1 (.tup [.int 5, .int 6])) l1 (.lst [.ref t1]))) (p := t2) (o := .tup [.int 0, .int 2]) m3
    have w4 := same_upd (H := (upd (upd (upd G10 t1 (.tup [.int 5, .int 6])) l1 (.lst [.ref t1])) t2 (.tup [.int 0, .int 2]))) (p := t3) (o := .tup [.int 6, .int 7]) m4
    have w5 := same_upd (H := (upd (upd (upd (upd G10 t1 (.tup [.int 5, .int 6])) l1 (.lst [.ref t1])) t2 (.tup [.int 0, .int 2])) t3 (.tup [.int 6, .int 7]))) (p := l2) (o := .lst [.ref t2, .ref t3]) m5
    have h_t1 := (w2.trans (w3.trans (w4.trans (w5)))) _ _ (upd_same (H := G10) (a := t1) (o := .tup [.int 5, .int 6]))
    have h_l1 := (w3.trans (w4.trans (w5))) _ _ (upd_same (H := (upd G10 t1 (.tup [.int 5, .int 6]))) (a := l1) (o := .lst [.ref t1]))
    have h_t2 := (w4.trans (w5)) _ _ (upd_same (H := (upd (upd G10 t1 (.tup [.int 5, .int 6])) l1 (.lst [.ref t1]))) (a := t2) (o := .tup [.int 0, .int 2]))
    have h_t3 := (w5) _ _ (upd_same (H := (upd (upd (upd G10 t1 (.tup [.int 5, .int 6])) l1 (.lst [.ref t1])) t2 (.tup [.int 0, .int 2]))) (a := t3) (o := .tup [.int 6, .int 7]))
    have h_l2 := upd_same (H := (upd (upd (upd (upd G10 t1 (.tup [.int 5, .int 6])) l1 (.lst [.ref t1])) t2 (.tup [.int 0, .int 2])) t3 (.tup [.int 6, .int 7]))) (a := l2) (o := .lst [.ref t2, .ref t3])
    generalize (upd (upd (upd (upd (upd G10 t1 (.tup [.int 5, .int 6])) l1 (.lst [.ref t1])) t2 (.tup [.int 0, .int 2])) t3 (.tup [.int 6, .int 7])) l2 (.lst [.ref t2, .ref t3])) = G11 at h_t1 h_l1 h_t2 h_t3 h_l2 ⊢
    clear w1 w2 w3 w4 w5 m1 m2 m3 m4 m5
    refine ⟨7, l1, l2, _, _, [(5, 6)], [(0, 2), (6, 7)], rfl, ⟨by decide, by decide, h_l1, .cons ⟨t1, rfl, h_t1⟩ .nil, by decide, by decide, by simp [So], h_l2, (.cons ⟨t2, rfl, h_t2⟩ (.cons ⟨t3, rfl, h_t3⟩ .nil)), by decide, by decide, fun x hx => n7 x (by revert hx; revert x; decide)⟩, fun G12 rr rs s12 nr hr hrs => ?_⟩
    rw [k7] at hrs
    clear h_l1 h_l2 h_t1 h_t2 h_t3
    refine ⟨two, fun t1 m1 => ⟨two, fun t2 m2 => ⟨(by show 2 ≤ sizeLine; decide), fun l1 m3 => ?_⟩⟩⟩
    have w1 := same_upd (H := G12) (p := t1) (o := .tup [.int 2, .int 4]) m1
    have w2 := same_upd (H := (upd G12 t1 (.tup [.int 2, .int 4]))) (p := t2) (o := .tup [.int 4, .int 5]) m2
    have w3 := same_upd (H := (upd (upd G12 t1 (.tup [.int 2, .int 4])) t2 (.tup [.int 4, .int 5]))) (p := l1) (o := .lst [.ref t1, .ref t2]) m3
    have h_t1 := (w2.trans (w3)) _ _ (upd_same (H := G12) (a := t1) (o := .tup [.int 2, .int 4]))
    have h_t2 := (w3) _ _ (upd_same (H := (upd G12 t1 (.tup [.int 2, .int 4]))) (a := t2) (o := .tup [.int 4, .int 5]))
    have h_l1 := upd_same (H := (upd (upd G12 t1 (.tup [.int 2, .int 4])) t2 (.tup [.int 4, .int 5]))) (a := l1) (o := .lst [.ref t1, .ref t2])
    have w123 := w1.trans (w2.trans w3)
    generalize (upd (upd (upd G12 t1 (.tup [.int 2, .int 4])) t2 (.tup [.int 4, .int 5])) l1 (.lst [.ref t1, .ref t2])) = G13 at w123 h_t1 h_t2 h_l1 ⊢
    clear w1 w2 w3 m1 m2 m3
    refine ⟨.list ([(2, 4), (4, 5)].map nd), .list ([(2, 4), (4, 5)].map nd), lst_dp (w123 _ _ hr) (hrs.mono fun v x (k : Nd G12 v x) => k.same w123), lst_dp h_l1 (.cons ⟨t1, rfl, h_t1⟩ (.cons ⟨t2, rfl, h_t2⟩ .nil)), nds_shaped _, nds_shaped _, ?_⟩
    rw [nds_eqv, decide_eq_true rfl]
    exact q _
end
end LT

namespace LT
open PySem PySem.Spec PyProof.Rows L2
section
variable {P : Program} {w : World} {K : PySem.W.Frag} {mg : Str → Option Value} {base : Heap} {k : Nat} {f : Addr} {fd : FuncData} {ps : List Str} {sp1 sp2 : Sp} {CY : CXT}
theorem both34 (A : FnOk P w K mg base CY k f fd ps sp1) (B : FnOk P w K mg base CY k f fd ps sp2) : FnOk P w K mg base CY k f fd ps (fun vs H Q E => sp1 vs H Q E ∨ sp2 vs H Q E) :=
  ⟨fun vs H Q E h => h.elim (A.len vs H Q E) (B.len vs H Q E), fun A' outer s H args us vs Q E hr ev hb rv h => h.elim (A.run A' outer s H args us vs Q E hr ev hb rv) (B.run A' outer s H args us vs Q E hr ev hb rv)⟩
end
end LT

namespace LT
open PySem PySem.Spec PyProof.Rows L2
section
variable {P : Program} {w : World} {K : PySem.W.Frag} {mg mb : Str → Option Value} {k : Nat} {fa a : Addr} {fd : FuncData} {x : Str} {sp : Sp} {s₁ : Shared} {vs : List Value} {ns : List Int}
/-- what is told of the heap ahead of the law's call: the script alone, where it is no object of the top -/
def told (K : PySem.W.Frag) (a : Addr) (ob : Obj) (ns : List Int) : Hp := fun b => if b = a ∧ K.lookup a = none then some (.frz ob (.lst (ns.map V.int))) else none
theorem told_at {ob : Obj} {b : Addr} {u : HO} (h : told K a ob ns b = some u) : b = a ∧ K.lookup a = none ∧ u = .frz ob (.lst (ns.map V.int)) := by
  unfold told at h
  by_cases c : b = a ∧ K.lookup a = none
  · rw [if_pos c] at h
    exact ⟨c.1, c.2, (Option.some.inj h).symm⟩
  · rw [if_neg c] at h
    cases h
/-- the law's call, from a promise that asks that nothing is being shown -/
theorem lawG (there : K.In s₁.heap) (globs : s₁.heap.Ns mainGlobals mg) (blts : s₁.heap.Ns builtinsNs mb) (boot : ∀ y : Str, y ≠ "__name__" → mb y = bootBuiltins y) (noLim : s₁.heap.NoLimit) (noGens : s₁.gens = #[])
    (obj : s₁.heap.get? a = some { cls := .type "list", data := .seq vs.toArray }) (areI : IntsAre vs ns) (few : ns.length ≤ sizeLine) (hr : Room k callerA)
    (F : ∀ base : Heap, K.In base → base.Ns mainGlobals mg → GOk P w K mg base k fa fd [x] sp) (binds : ∀ (s : Shared) (u : Value), BindsTo s fd ⟨[u], []⟩ [(x, u)])
    (keeps : ∀ H : Hp, Only H → SqL K H a (ns.map V.int) → sp [.ref a] H (fun v _ => v = .bl true) E0) :
    codeAny (model P w) callerA (.call (.ref fa) ⟨[.ref a], []⟩) (fun r s' => r = .ok (.ret (.bool true)) ∧ OldK s₁.heap s'.heap ∧ s'.os = s₁.os ∧ AllBare s'.gens) s₁ := by
  generalize ho : ({ cls := .type "list", data := .seq vs.toArray } : Obj) = ob at obj
  have items := vals_ints areI
  have only : Only (told K a ob ns) := by
    intro b
    cases q : told K a ob ns b with
    | none => exact Or.inl rfl
    | some u => exact Or.inr ⟨ob, ns.map V.int, by rw [(told_at q).2.2]⟩
  have sq : SqL K (told K a ob ns) a (ns.map V.int) := by
    cases q : K.lookup a with
    | none => exact Or.inl (Or.inr ⟨ob, if_pos ⟨rfl, q⟩⟩)
    | some o =>
      have same : o = ob := Option.some.inj ((there a o q).symm.trans obj)
      subst same
      subst ho
      refine Or.inr ⟨_, vs.toArray, _, q, rfl, rfl, rfl, ?_, by simpa using items⟩
      rw [List.size_toArray, areI.length]
      exact few
  have fits : HOk P w (told K a ob ns) s₁.heap := by
    intro b u q
    obtain ⟨rfl, _, rfl⟩ := told_at q
    subst ho
    exact ⟨obj, by rw [List.length_map]; exact few, vs, _, items, obj⟩
  have behind : ∀ {b : Addr} {o : Obj}, s₁.heap.get? b = some o → told K a ob ns b = none → (hidT s₁.heap (told K a ob ns)).get? b = some o := fun q n => hidT_get q n
  have nsp : ∀ {b : Addr} {m : Str → Option Value}, s₁.heap.Ns b m → (hidT s₁.heap (told K a ob ns)).Ns b m := by
    rintro b m ⟨o, es, ep, q, d, r⟩
    refine ⟨o, es, ep, behind q ?_, d, r⟩
    cases z : told K a ob ns b with
    | none => rfl
    | some u =>
      obtain ⟨rfl, _, _⟩ := told_at z
      rw [obj] at q
      cases q
      subst ho
      cases (show Data.seq vs.toArray _ = Data.dict es ep from d)
  have inB : K.In (hidT s₁.heap (told K a ob ns)) := by
    intro b o q
    refine behind (there b o q) ?_
    cases z : told K a ob ns b with
    | none => rfl
    | some u =>
      obtain ⟨rfl, n, _⟩ := told_at z
      rw [n] at q
      cases q
  have M : Mod K mg (hidT s₁.heap (told K a ob ns)) := by
    obtain ⟨mc, c1, c2⟩ := noLim
    exact ⟨inB, nsp globs, ⟨mb, nsp blts, boot⟩, ⟨mc, nsp c1, c2⟩⟩
  have ev : Env0 P w K mg (hidT s₁.heap (told K a ob ns)) callerA [] s₁ (told K a ob ns) :=
    { frames := rfl, mod := M, bs := fun _ _ q => of_hidT q, bsz := Nat.le_of_eq (hidT_size _ _), funs := trivial, frf := fun b q => absurd (show b ∈ ([] : List Addr) from q) List.not_mem_nil, hok := fits, bare := .of_eq noGens }
  have ran := (F _ inB (nsp globs)).run callerA [] s₁ (told K a ob ns) ⟨[.ref a], []⟩ [.ref a] [.ref a] _ rfl hr ev (binds s₁ (.ref a)) (.cons rfl .nil) (keeps _ only sq)
  apply codeAny_mono ran
  intro res s' h
  match res, h with
  | .error _, h => exact False.elim h
  | .ok .next, h => exact False.elim h
  | .ok .brk, h => exact False.elim h
  | .ok .cont, h => exact False.elim h
  | .ok (.ret u), ⟨v, H', os, bare, un, hok', rv, q⟩ =>
    have qv : v = .bl true := q
    subst qv
    have qu : u = Value.bool true := rv
    subst qu
    refine ⟨rfl, OldK.of_keep ?_, os, bare⟩
    intro b o q1
    cases z : told K a ob ns b with
    | none => exact un.keep b o q1 z (fun m => absurd (show b ∈ ([] : List Addr) from m) List.not_mem_nil) List.not_mem_nil
    | some c =>
      obtain ⟨rfl, n, rfl⟩ := told_at z
      obtain ⟨e1, _⟩ := fits _ _ z
      obtain ⟨e2, _⟩ := hok' _ _ (un.frzs _ _ _ z)
      rw [q1] at e1
      cases e1
      exact e2
end
theorem walkG {l : PySem.W.OpenLaw} {n k : Nat} {q : Program} {loose : List Str} {XP : (Str → Option Value) → Heap → Prop} {YP : World → Heap → Prop} {d : DefRec} {K : Params → PySem.W.Frag} {sp : World → Sp} {x : Str}
    (hn : l.most = some n) (hn2 : n ≤ sizeLine) (hdf : d.params.defaults = []) (hr : Room k callerA) (hY : ∀ (w : World) (h : Heap), YP w h → (K w.params).In h)
    (F : ∀ (w : World) (mg : Str → Option Value) (fa : Addr) (h : Heap), (K w.params).In h → h.Ns mainGlobals mg → mg d.name = some (.ref fa) →
      ∃ fd : FuncData, (∀ (s : Shared) (u : Value), BindsTo s fd ⟨[u], []⟩ [(x, u)]) ∧ ∀ base : Heap, (K w.params).In base → base.Ns mainGlobals mg → GOk l.prog w (K w.params) mg base k fa fd [x] (sp w))
    (keeps : ∀ (w : World) (H : Hp) (a : Addr) (ns : List Int), ns.length ≤ n → Only H → SqL (K w.params) H a (ns.map V.int) → sp w [.ref a] H (fun v _ => v = .bl true) E0) :
    PySem.W.WalkO q loose XP YP l.row.toRowW d [] (fun f vs => PySem.call f vs) := by
  apply Att.attach_call hn hdf
  intro w s₀ s₁ mg mb fa o pm cd doc a vs ns G Y ho hd hcd hmg hobj hints hlen hg
  obtain ⟨fd, hb, hF⟩ := F w mg fa _ (hY w _ Y) G.T.g hmg
  exact lawG (hY w _ Y) G.T.g G.T.b G.T.builtins G.T.nolimit hg hobj hints (Nat.le_trans hlen hn2) hr hF hb (fun H hO hS => keeps w H a ns hlen hO hS)
end LT

namespace LT
open PySem PySem.Spec PyProof.Rows L2
theorem all_mk {l : PySem.W.OpenLaw} {w : World} {K : PySem.W.Frag} {h : Heap} {mg : Str → Option Value} {fa f0 f1 f2 f3 f4 f5 f6 f7 f8 f9 f10 f11 f12 f13 f14 f15 f16 f17 f18 f19 f20 f21 f22 f23 f24 f25 f26 f27 f28 f29 f30 : Addr} (X : K.In h) (G : h.Ns mainGlobals mg) (hfa : mg "law" = some (.ref fa))
    {od0 an0 od1 an1 od2 an2 od3 an3 od4 an4 od5 an5 od6 an6 od7 an7 od8 an8 od9 an9 od10 an10 od11 an11 od12 an12 od13 an13 od14 an14 od15 an15 od16 an16 od17 an17 od18 an18 od19 an19 od20 an20 od21 an21 od22 an22 od23 an23 od24 an24 od25 an25 od26 an26 od27 an27 od28 an28 od29 an29 od30 an30 : Option Addr} {sl0 sl1 sl2 sl3 sl4 sl5 sl6 sl7 sl8 sl9 sl10 sl11 sl12 sl13 sl14 sl15 sl16 sl17 sl18 sl19 sl20 sl21 sl22 sl23 sl24 sl25 sl26 sl27 sl28 sl29 sl30 : Array (Option Value)} {oc0 kV0 dc0 pm0 cd0 ct0 oc1 kV1 dc1 pm1 cd1 ct1 oc2 kV2 dc2 pm2 cd2 ct2 oc3 kV3 dc3 pm3 cd3 ct3 oc4 kV4 dc4 pm4 cd4 ct4 oc5 kV5 dc5 pm5 cd5 ct5 oc6 kV6 dc6 pm6 cd6 ct6 oc7 kV7 dc7 pm7 cd7 ct7 oc8 kV8 dc8 pm8 cd8 ct8 oc9 kV9 dc9 pm9 cd9 ct9 oc10 kV10 dc10 pm10 cd10 ct10 oc11 kV11 dc11 pm11 cd11 ct11 oc12 kV12 dc12 pm12 cd12 ct12 oc13 kV13 dc13 pm13 cd13 ct13 oc14 kV14 dc14 pm14 cd14 ct14 oc15 kV15 dc15 pm15 cd15 ct15 oc16 kV16 dc16 pm16 cd16 ct16 oc17 kV17 dc17 pm17 cd17 ct17 oc18 kV18 dc18 pm18 cd18 ct18 oc19 kV19 dc19 pm19 cd19 ct19 oc20 kV20 dc20 pm20 cd20 ct20 oc21 kV21 dc21 pm21 cd21 ct21 oc22 kV22 dc22 pm22 cd22 ct22 oc23 kV23 dc23 pm23 cd23 ct23 oc24 kV24 dc24 pm24 cd24 ct24 oc25 kV25 dc25 pm25 cd25 ct25 oc26 kV26 dc26 pm26 cd26 ct26 oc27 kV27 dc27 pm27 cd27 ct27 oc28 kV28 dc28 pm28 cd28 ct28 oc29 kV29 dc29 pm29 cd29 ct29 oc30 kV30 dc30 pm30 cd30 ct30 : Value}
    (a0 : PySem.W.nsIn K mainGlobals "is_whole" = some (some (.ref f0))) (l0 : K.lookup f0 = some ⟨oc0, od0, .func (PySem.W.fnOf "is_whole" "is_whole" (defArgs sIsWhole) (defBody sIsWhole) (defScope sIsWhole) .none kV0 dc0 pm0 an0 cd0 ct0), sl0⟩) (c0 : PySem.W.codeIn K cd0 "is_whole" = true) (k0 : PySem.W.keepIn K (.ref f0) = true)
    (a1 : PySem.W.nsIn K mainGlobals "is_between" = some (some (.ref f1))) (l1 : K.lookup f1 = some ⟨oc1, od1, .func (PySem.W.fnOf "is_between" "is_between" (defArgs sIsBetween) (defBody sIsBetween) (defScope sIsBetween) .none kV1 dc1 pm1 an1 cd1 ct1), sl1⟩) (c1 : PySem.W.codeIn K cd1 "is_between" = true) (k1 : PySem.W.keepIn K (.ref f1) = true)
    (a2 : PySem.W.nsIn K mainGlobals "is_tree_node" = some (some (.ref f2))) (l2 : K.lookup f2 = some ⟨oc2, od2, .func (PySem.W.fnOf "is_tree_node" "is_tree_node" (defArgs sIsTreeNode) (defBody sIsTreeNode) (defScope sIsTreeNode) .none kV2 dc2 pm2 an2 cd2 ct2), sl2⟩) (c2 : PySem.W.codeIn K cd2 "is_tree_node" = true) (k2 : PySem.W.keepIn K (.ref f2) = true)
    (a3 : PySem.W.nsIn K mainGlobals "is_list_of" = some (some (.ref f3))) (l3 : K.lookup f3 = some ⟨oc3, od3, .func (PySem.W.fnOf "is_list_of" "is_list_of" (defArgs sIsListOf) (defBody sIsListOf) (defScope sIsListOf) .none kV3 dc3 pm3 an3 cd3 ct3), sl3⟩) (c3 : PySem.W.codeIn K cd3 "is_list_of" = true) (k3 : PySem.W.keepIn K (.ref f3) = true)
    (a4 : PySem.W.nsIn K mainGlobals "is_span_from" = some (some (.ref f4))) (l4 : K.lookup f4 = some ⟨oc4, od4, .func (PySem.W.fnOf "is_span_from" "is_span_from" (defArgs sIsSpanFrom) (defBody sIsSpanFrom) (defScope sIsSpanFrom) .none kV4 dc4 pm4 an4 cd4 ct4), sl4⟩) (c4 : PySem.W.codeIn K cd4 "is_span_from" = true) (k4 : PySem.W.keepIn K (.ref f4) = true)
    (a5 : PySem.W.nsIn K mainGlobals "check_size" = some (some (.ref f5))) (l5 : K.lookup f5 = some ⟨oc5, od5, .func (PySem.W.fnOf "check_size" "check_size" (defArgs sCheckSize) (defBody sCheckSize) (defScope sCheckSize) .none kV5 dc5 pm5 an5 cd5 ct5), sl5⟩) (c5 : PySem.W.codeIn K cd5 "check_size" = true) (k5 : PySem.W.keepIn K (.ref f5) = true)
    (a6 : PySem.W.nsIn K mainGlobals "check_spans" = some (some (.ref f6))) (l6 : K.lookup f6 = some ⟨oc6, od6, .func (PySem.W.fnOf "check_spans" "check_spans" (defArgs sCheckSpans) (defBody sCheckSpans) (defScope sCheckSpans) .none kV6 dc6 pm6 an6 cd6 ct6), sl6⟩) (c6 : PySem.W.codeIn K cd6 "check_spans" = true) (k6 : PySem.W.keepIn K (.ref f6) = true)
    {dT7 : Addr} {tc7 : Value} {td7 : Option Addr} {tits7 : Array Value} {tn7 : Nat} {tsl7 : Array (Option Value)}
    (a7 : PySem.W.nsIn K mainGlobals "check_nodes" = some (some (.ref f7))) (l7 : K.lookup f7 = some ⟨oc7, od7, .func (PySem.W.fnOf "check_nodes" "check_nodes" (defArgs sCheckNodes) (defBody sCheckNodes) (defScope sCheckNodes) (.ref dT7) kV7 dc7 pm7 an7 cd7 ct7), sl7⟩) (c7 : PySem.W.codeIn K cd7 "check_nodes" = true) (k7 : PySem.W.keepIn K (.ref f7) = true)
    (lT7 : K.lookup dT7 = some ⟨tc7, td7, .seq tits7 tn7, tsl7⟩) (vT7 : Vals [.int 1, .int 60] tits7.toList)
    (a8 : PySem.W.nsIn K mainGlobals "power_within" = some (some (.ref f8))) (l8 : K.lookup f8 = some ⟨oc8, od8, .func (PySem.W.fnOf "power_within" "power_within" (defArgs sPowerWithin) (defBody sPowerWithin) (defScope sPowerWithin) .none kV8 dc8 pm8 an8 cd8 ct8), sl8⟩) (c8 : PySem.W.codeIn K cd8 "power_within" = true) (k8 : PySem.W.keepIn K (.ref f8) = true)
    (a9 : PySem.W.nsIn K mainGlobals "_first_full" = some (some (.ref f9))) (l9 : K.lookup f9 = some ⟨oc9, od9, .func (PySem.W.fnOf "_first_full" "_first_full" (defArgs sFirstFull) (defBody sFirstFull) (defScope sFirstFull) .none kV9 dc9 pm9 an9 cd9 ct9), sl9⟩) (c9 : PySem.W.codeIn K cd9 "_first_full" = true) (k9 : PySem.W.keepIn K (.ref f9) = true)
    (a10 : PySem.W.nsIn K mainGlobals "nodes_within" = some (some (.ref f10))) (l10 : K.lookup f10 = some ⟨oc10, od10, .func (PySem.W.fnOf "nodes_within" "nodes_within" (defArgs sNodesWithin) (defBody sNodesWithin) (defScope sNodesWithin) .none kV10 dc10 pm10 an10 cd10 ct10), sl10⟩) (c10 : PySem.W.codeIn K cd10 "nodes_within" = true) (k10 : PySem.W.keepIn K (.ref f10) = true)
    (a11 : PySem.W.nsIn K mainGlobals "nodes_beside" = some (some (.ref f11))) (l11 : K.lookup f11 = some ⟨oc11, od11, .func (PySem.W.fnOf "nodes_beside" "nodes_beside" (defArgs sNodesBeside) (defBody sNodesBeside) (defScope sNodesBeside) .none kV11 dc11 pm11 an11 cd11 ct11), sl11⟩) (c11 : PySem.W.codeIn K cd11 "nodes_beside" = true) (k11 : PySem.W.keepIn K (.ref f11) = true)
    (a12 : PySem.W.nsIn K mainGlobals "joined" = some (some (.ref f12))) (l12 : K.lookup f12 = some ⟨oc12, od12, .func (PySem.W.fnOf "joined" "joined" (defArgs sJoined) (defBody sJoined) (defScope sJoined) .none kV12 dc12 pm12 an12 cd12 ct12), sl12⟩) (c12 : PySem.W.codeIn K cd12 "joined" = true) (k12 : PySem.W.keepIn K (.ref f12) = true)
    (a13 : PySem.W.nsIn K mainGlobals "needed" = some (some (.ref f13))) (l13 : K.lookup f13 = some ⟨oc13, od13, .func (PySem.W.fnOf "needed" "needed" (defArgs sNeeded) (defBody sNeeded) (defScope sNeeded) .none kV13 dc13 pm13 an13 cd13 ct13), sl13⟩) (c13 : PySem.W.codeIn K cd13 "needed" = true) (k13 : PySem.W.keepIn K (.ref f13) = true)
    (a14 : PySem.W.nsIn K mainGlobals "shows_needed" = some (some (.ref f14))) (l14 : K.lookup f14 = some ⟨oc14, od14, .func (PySem.W.fnOf "shows_needed" "shows_needed" (defArgs sShowsNeeded) (defBody sShowsNeeded) (defScope sShowsNeeded) .none kV14 dc14 pm14 an14 cd14 ct14), sl14⟩) (c14 : PySem.W.codeIn K cd14 "shows_needed" = true) (k14 : PySem.W.keepIn K (.ref f14) = true)
    (a15 : PySem.W.nsIn K mainGlobals "_check" = some (some (.ref f15))) (l15 : K.lookup f15 = some ⟨oc15, od15, .func (PySem.W.fnOf "_check" "_check" (defArgs sCheck) (defBody sCheck) (defScope sCheck) .none kV15 dc15 pm15 an15 cd15 ct15), sl15⟩) (c15 : PySem.W.codeIn K cd15 "_check" = true) (k15 : PySem.W.keepIn K (.ref f15) = true)
    (a16 : PySem.W.nsIn K mainGlobals "serves" = some (some (.ref f16))) (l16 : K.lookup f16 = some ⟨oc16, od16, .func (PySem.W.fnOf "serves" "serves" (defArgs sServes) (defBody sServes) (defScope sServes) .none kV16 dc16 pm16 an16 cd16 ct16), sl16⟩) (c16 : PySem.W.codeIn K cd16 "serves" = true) (k16 : PySem.W.keepIn K (.ref f16) = true)
    (a17 : PySem.W.nsIn K mainGlobals "_meets" = some (some (.ref f17))) (l17 : K.lookup f17 = some ⟨oc17, od17, .func (PySem.W.fnOf "_meets" "_meets" (defArgs sMeets) (defBody sMeets) (defScope sMeets) .none kV17 dc17 pm17 an17 cd17 ct17), sl17⟩) (c17 : PySem.W.codeIn K cd17 "_meets" = true) (k17 : PySem.W.keepIn K (.ref f17) = true)
    (a18 : PySem.W.nsIn K mainGlobals "first_wrong" = some (some (.ref f18))) (l18 : K.lookup f18 = some ⟨oc18, od18, .func (PySem.W.fnOf "first_wrong" "first_wrong" (defArgs sFirstWrong) (defBody sFirstWrong) (defScope sFirstWrong) .none kV18 dc18 pm18 an18 cd18 ct18), sl18⟩) (c18 : PySem.W.codeIn K cd18 "first_wrong" = true) (k18 : PySem.W.keepIn K (.ref f18) = true)
    (a19 : PySem.W.nsIn K mainGlobals "lacking" = some (some (.ref f19))) (l19 : K.lookup f19 = some ⟨oc19, od19, .func (PySem.W.fnOf "lacking" "lacking" (defArgs sLacking) (defBody sLacking) (defScope sLacking) .none kV19 dc19 pm19 an19 cd19 ct19), sl19⟩) (c19 : PySem.W.codeIn K cd19 "lacking" = true) (k19 : PySem.W.keepIn K (.ref f19) = true)
    (a20 : PySem.W.nsIn K mainGlobals "_law_bag" = some (some (.ref f20))) (l20 : K.lookup f20 = some ⟨oc20, od20, .func (PySem.W.fnOf "_law_bag" "_law_bag" (defArgs sLawBag) (defBody sLawBag) (defScope sLawBag) .none kV20 dc20 pm20 an20 cd20 ct20), sl20⟩) (c20 : PySem.W.codeIn K cd20 "_law_bag" = true) (k20 : PySem.W.keepIn K (.ref f20) = true)
    (a21 : PySem.W.nsIn K mainGlobals "_law_pick" = some (some (.ref f21))) (l21 : K.lookup f21 = some ⟨oc21, od21, .func (PySem.W.fnOf "_law_pick" "_law_pick" (defArgs sLawPick) (defBody sLawPick) (defScope sLawPick) .none kV21 dc21 pm21 an21 cd21 ct21), sl21⟩) (c21 : PySem.W.codeIn K cd21 "_law_pick" = true) (k21 : PySem.W.keepIn K (.ref f21) = true)
    (a22 : PySem.W.nsIn K mainGlobals "_law_size" = some (some (.ref f22))) (l22 : K.lookup f22 = some ⟨oc22, od22, .func (PySem.W.fnOf "_law_size" "_law_size" (defArgs sLawSize) (defBody sLawSize) (defScope sLawSize) .none kV22 dc22 pm22 an22 cd22 ct22), sl22⟩) (c22 : PySem.W.codeIn K cd22 "_law_size" = true) (k22 : PySem.W.keepIn K (.ref f22) = true)
    (a23 : PySem.W.nsIn K mainGlobals "_law_parted" = some (some (.ref f23))) (l23 : K.lookup f23 = some ⟨oc23, od23, .func (PySem.W.fnOf "_law_parted" "_law_parted" (defArgs sLawParted) (defBody sLawParted) (defScope sLawParted) .none kV23 dc23 pm23 an23 cd23 ct23), sl23⟩) (c23 : PySem.W.codeIn K cd23 "_law_parted" = true) (k23 : PySem.W.keepIn K (.ref f23) = true)
    (a24 : PySem.W.nsIn K mainGlobals "_law_tree" = some (some (.ref f24))) (l24 : K.lookup f24 = some ⟨oc24, od24, .func (PySem.W.fnOf "_law_tree" "_law_tree" (defArgs sLawTree) (defBody sLawTree) (defScope sLawTree) .none kV24 dc24 pm24 an24 cd24 ct24), sl24⟩) (c24 : PySem.W.codeIn K cd24 "_law_tree" = true) (k24 : PySem.W.keepIn K (.ref f24) = true)
    (a25 : PySem.W.nsIn K mainGlobals "_law_spans" = some (some (.ref f25))) (l25 : K.lookup f25 = some ⟨oc25, od25, .func (PySem.W.fnOf "_law_spans" "_law_spans" (defArgs sLawSpans) (defBody sLawSpans) (defScope sLawSpans) .none kV25 dc25 pm25 an25 cd25 ct25), sl25⟩) (c25 : PySem.W.codeIn K cd25 "_law_spans" = true) (k25 : PySem.W.keepIn K (.ref f25) = true)
    (a26 : PySem.W.nsIn K mainGlobals "_law_mixed" = some (some (.ref f26))) (l26 : K.lookup f26 = some ⟨oc26, od26, .func (PySem.W.fnOf "_law_mixed" "_law_mixed" (defArgs sLawMixed) (defBody sLawMixed) (defScope sLawMixed) .none kV26 dc26 pm26 an26 cd26 ct26), sl26⟩) (c26 : PySem.W.codeIn K cd26 "_law_mixed" = true) (k26 : PySem.W.keepIn K (.ref f26) = true)
    (a27 : PySem.W.nsIn K mainGlobals "_law_marked" = some (some (.ref f27))) (l27 : K.lookup f27 = some ⟨oc27, od27, .func (PySem.W.fnOf "_law_marked" "_law_marked" (defArgs sLawMarked) (defBody sLawMarked) (defScope sLawMarked) .none kV27 dc27 pm27 an27 cd27 ct27), sl27⟩) (c27 : PySem.W.codeIn K cd27 "_law_marked" = true) (k27 : PySem.W.keepIn K (.ref f27) = true)
    (a28 : PySem.W.nsIn K mainGlobals "_law_small_right" = some (some (.ref f28))) (l28 : K.lookup f28 = some ⟨oc28, od28, .func (PySem.W.fnOf "_law_small_right" "_law_small_right" (defArgs sLawSmallRight) (defBody sLawSmallRight) (defScope sLawSmallRight) .none kV28 dc28 pm28 an28 cd28 ct28), sl28⟩) (c28 : PySem.W.codeIn K cd28 "_law_small_right" = true) (k28 : PySem.W.keepIn K (.ref f28) = true)
    (a29 : PySem.W.nsIn K mainGlobals "_law_shown_right" = some (some (.ref f29))) (l29 : K.lookup f29 = some ⟨oc29, od29, .func (PySem.W.fnOf "_law_shown_right" "_law_shown_right" (defArgs sLawShownRight) (defBody sLawShownRight) (defScope sLawShownRight) .none kV29 dc29 pm29 an29 cd29 ct29), sl29⟩) (c29 : PySem.W.codeIn K cd29 "_law_shown_right" = true) (k29 : PySem.W.keepIn K (.ref f29) = true)
    (a30 : PySem.W.nsIn K mainGlobals "law" = some (some (.ref f30))) (l30 : K.lookup f30 = some ⟨oc30, od30, .func (PySem.W.fnOf "law" "law" (defArgs sLaw) (defBody sLaw) (defScope sLaw) .none kV30 dc30 pm30 an30 cd30 ct30), sl30⟩) (c30 : PySem.W.codeIn K cd30 "law" = true) (k30 : PySem.W.keepIn K (.ref f30) = true)
    (z_all : PySem.W.nsIn K mainGlobals "all" = some none)
    (z_any : PySem.W.nsIn K mainGlobals "any" = some none)
    (z_bool : PySem.W.nsIn K mainGlobals "bool" = some none)
    (z_enumerate : PySem.W.nsIn K mainGlobals "enumerate" = some none)
    (z_int : PySem.W.nsIn K mainGlobals "int" = some none)
    (z_isinstance : PySem.W.nsIn K mainGlobals "isinstance" = some none)
    (z_len : PySem.W.nsIn K mainGlobals "len" = some none)
    (z_list : PySem.W.nsIn K mainGlobals "list" = some none)
    (z_max : PySem.W.nsIn K mainGlobals "max" = some none)
    (z_min : PySem.W.nsIn K mainGlobals "min" = some none)
    (z_range : PySem.W.nsIn K mainGlobals "range" = some none)
    (z_repr : PySem.W.nsIn K mainGlobals "repr" = some none)
    (z_sorted : PySem.W.nsIn K mainGlobals "sorted" = some none)
    (z_sum : PySem.W.nsIn K mainGlobals "sum" = some none)
    (z_tuple : PySem.W.nsIn K mainGlobals "tuple" = some none)
    {t_MOST_ENTRIES : Tok} (g_MOST_ENTRIES : PySem.W.nsIn K mainGlobals "MOST_ENTRIES" = some (some (.int 1000000000000000000000000000000 t_MOST_ENTRIES)))
    {t_MOST_SPANS : Tok} (g_MOST_SPANS : PySem.W.nsIn K mainGlobals "MOST_SPANS" = some (some (.int 12 t_MOST_SPANS)))
    : ∃ fd : FuncData, (∀ (s : Shared) (v : Value), BindsTo s fd ⟨[v], []⟩ [("script", v)]) ∧ ∀ base : Heap, K.In base → base.Ns mainGlobals mg → GOk l.prog w K mg base 9 fa fd ["script"] (spLaw K) := by
  have e := hfa.symm.trans (PySem.W.mg_of X G a30)
  cases e
  have FIsWhole := fun_mk (st := sIsWhole) l0 c0 k0
  have FIsBetween := fun_mk (st := sIsBetween) l1 c1 k1
  have FIsTreeNode := fun_mk (st := sIsTreeNode) l2 c2 k2
  have FIsListOf := fun_mk (st := sIsListOf) l3 c3 k3
  have FIsSpanFrom := fun_mk (st := sIsSpanFrom) l4 c4 k4
  have FCheckSize := fun_mk (st := sCheckSize) l5 c5 k5
  have FCheckSpans := fun_mk (st := sCheckSpans) l6 c6 k6
  have FCheckNodes := funT_mk (st := sCheckNodes) l7 c7 k7 lT7 vT7
  have FPowerWithin := fun_mk (st := sPowerWithin) l8 c8 k8
  have FFirstFull := fun_mk (st := sFirstFull) l9 c9 k9
  have FNodesWithin := fun_mk (st := sNodesWithin) l10 c10 k10
  have FNodesBeside := fun_mk (st := sNodesBeside) l11 c11 k11
  have FJoined := fun_mk (st := sJoined) l12 c12 k12
  have FNeeded := fun_mk (st := sNeeded) l13 c13 k13
  have FShowsNeeded := fun_mk (st := sShowsNeeded) l14 c14 k14
  have FCheck := fun_mk (st := sCheck) l15 c15 k15
  have FServes := fun_mk (st := sServes) l16 c16 k16
  have FMeets := fun_mk (st := sMeets) l17 c17 k17
  have FFirstWrong := fun_mk (st := sFirstWrong) l18 c18 k18
  have FLacking := fun_mk (st := sLacking) l19 c19 k19
  have FLawBag := fun_mk (st := sLawBag) l20 c20 k20
  have FLawPick := fun_mk (st := sLawPick) l21 c21 k21
  have FLawSize := fun_mk (st := sLawSize) l22 c22 k22
  have FLawParted := fun_mk (st := sLawParted) l23 c23 k23
  have FLawTree := fun_mk (st := sLawTree) l24 c24 k24
  have FLawSpans := fun_mk (st := sLawSpans) l25 c25 k25
  have FLawMixed := fun_mk (st := sLawMixed) l26 c26 k26
  have FLawMarked := fun_mk (st := sLawMarked) l27 c27 k27
  have FLawSmallRight := fun_mk (st := sLawSmallRight) l28 c28 k28
  have FLawShownRight := fun_mk (st := sLawShownRight) l29 c29 k29
  have FLaw := fun_mk (st := sLaw) l30 c30 k30
  have AIsWhole : At K mg "is_whole" f0 (PySem.W.fnOf "is_whole" "is_whole" (defArgs sIsWhole) (defBody sIsWhole) (defScope sIsWhole) .none kV0 dc0 pm0 an0 cd0 ct0) ["value"] := ⟨PySem.W.mg_of X G a0, k0, FIsWhole.binds (ps := ["value"]) fun _ _ _ _ _ _ us hl => match us, hl with | [_], _ => rfl⟩
  have AIsBetween : At K mg "is_between" f1 (PySem.W.fnOf "is_between" "is_between" (defArgs sIsBetween) (defBody sIsBetween) (defScope sIsBetween) .none kV1 dc1 pm1 an1 cd1 ct1) ["value", "low", "high"] := ⟨PySem.W.mg_of X G a1, k1, FIsBetween.binds (ps := ["value", "low", "high"]) fun _ _ _ _ _ _ us hl => match us, hl with | [_, _, _], _ => rfl⟩
  have AIsTreeNode : At K mg "is_tree_node" f2 (PySem.W.fnOf "is_tree_node" "is_tree_node" (defArgs sIsTreeNode) (defBody sIsTreeNode) (defScope sIsTreeNode) .none kV2 dc2 pm2 an2 cd2 ct2) ["size", "value"] := ⟨PySem.W.mg_of X G a2, k2, FIsTreeNode.binds (ps := ["size", "value"]) fun _ _ _ _ _ _ us hl => match us, hl with | [_, _], _ => rfl⟩
  have AIsListOf : At K mg "is_list_of" f3 (PySem.W.fnOf "is_list_of" "is_list_of" (defArgs sIsListOf) (defBody sIsListOf) (defScope sIsListOf) .none kV3 dc3 pm3 an3 cd3 ct3) ["value", "least", "most"] := ⟨PySem.W.mg_of X G a3, k3, FIsListOf.binds (ps := ["value", "least", "most"]) fun _ _ _ _ _ _ us hl => match us, hl with | [_, _, _], _ => rfl⟩
  have AIsSpanFrom : At K mg "is_span_from" f4 (PySem.W.fnOf "is_span_from" "is_span_from" (defArgs sIsSpanFrom) (defBody sIsSpanFrom) (defScope sIsSpanFrom) .none kV4 dc4 pm4 an4 cd4 ct4) ["size", "value", "least"] := ⟨PySem.W.mg_of X G a4, k4, FIsSpanFrom.binds (ps := ["size", "value", "least"]) fun _ _ _ _ _ _ us hl => match us, hl with | [_, _, _], _ => rfl⟩
  have ACheckSize : At K mg "check_size" f5 (PySem.W.fnOf "check_size" "check_size" (defArgs sCheckSize) (defBody sCheckSize) (defScope sCheckSize) .none kV5 dc5 pm5 an5 cd5 ct5) ["size"] := ⟨PySem.W.mg_of X G a5, k5, FCheckSize.binds (ps := ["size"]) fun _ _ _ _ _ _ us hl => match us, hl with | [_], _ => rfl⟩
  have ACheckSpans : At K mg "check_spans" f6 (PySem.W.fnOf "check_spans" "check_spans" (defArgs sCheckSpans) (defBody sCheckSpans) (defScope sCheckSpans) .none kV6 dc6 pm6 an6 cd6 ct6) ["size", "spans"] := ⟨PySem.W.mg_of X G a6, k6, FCheckSpans.binds (ps := ["size", "spans"]) fun _ _ _ _ _ _ us hl => match us, hl with | [_, _], _ => rfl⟩
  have ACheckNodes : AtT K mg "check_nodes" f7 _ ["size", "nodes", "least", "most"] tits7.toList [.int 1, .int 60] := ⟨PySem.W.mg_of X G a7, k7, FCheckNodes.binds (n := 2) (m := 2) rfl (fun _ _ _ _ _ _ _ us its hl hi => match us, hl, its, hi with | [_, _], _, [_, _], _ => ⟨_, rfl, rfl⟩) , vT7⟩
  have APowerWithin : At K mg "power_within" f8 (PySem.W.fnOf "power_within" "power_within" (defArgs sPowerWithin) (defBody sPowerWithin) (defScope sPowerWithin) .none kV8 dc8 pm8 an8 cd8 ct8) ["number"] := ⟨PySem.W.mg_of X G a8, k8, FPowerWithin.binds (ps := ["number"]) fun _ _ _ _ _ _ us hl => match us, hl with | [_], _ => rfl⟩
  have AFirstFull : At K mg "_first_full" f9 (PySem.W.fnOf "_first_full" "_first_full" (defArgs sFirstFull) (defBody sFirstFull) (defScope sFirstFull) .none kV9 dc9 pm9 an9 cd9 ct9) ["begin", "end"] := ⟨PySem.W.mg_of X G a9, k9, FFirstFull.binds (ps := ["begin", "end"]) fun _ _ _ _ _ _ us hl => match us, hl with | [_, _], _ => rfl⟩
  have ANodesWithin : At K mg "nodes_within" f10 (PySem.W.fnOf "nodes_within" "nodes_within" (defArgs sNodesWithin) (defBody sNodesWithin) (defScope sNodesWithin) .none kV10 dc10 pm10 an10 cd10 ct10) ["size", "begin", "end"] := ⟨PySem.W.mg_of X G a10, k10, FNodesWithin.binds (ps := ["size", "begin", "end"]) fun _ _ _ _ _ _ us hl => match us, hl with | [_, _, _], _ => rfl⟩
  have ANodesBeside : At K mg "nodes_beside" f11 (PySem.W.fnOf "nodes_beside" "nodes_beside" (defArgs sNodesBeside) (defBody sNodesBeside) (defScope sNodesBeside) .none kV11 dc11 pm11 an11 cd11 ct11) ["size", "stretches"] := ⟨PySem.W.mg_of X G a11, k11, FNodesBeside.binds (ps := ["size", "stretches"]) fun _ _ _ _ _ _ us hl => match us, hl with | [_, _], _ => rfl⟩
  have AJoined : At K mg "joined" f12 (PySem.W.fnOf "joined" "joined" (defArgs sJoined) (defBody sJoined) (defScope sJoined) .none kV12 dc12 pm12 an12 cd12 ct12) ["stretches"] := ⟨PySem.W.mg_of X G a12, k12, FJoined.binds (ps := ["stretches"]) fun _ _ _ _ _ _ us hl => match us, hl with | [_], _ => rfl⟩
  have ANeeded : At K mg "needed" f13 (PySem.W.fnOf "needed" "needed" (defArgs sNeeded) (defBody sNeeded) (defScope sNeeded) .none kV13 dc13 pm13 an13 cd13 ct13) ["size", "spans"] := ⟨PySem.W.mg_of X G a13, k13, FNeeded.binds (ps := ["size", "spans"]) fun _ _ _ _ _ _ us hl => match us, hl with | [_, _], _ => rfl⟩
  have AShowsNeeded : At K mg "shows_needed" f14 (PySem.W.fnOf "shows_needed" "shows_needed" (defArgs sShowsNeeded) (defBody sShowsNeeded) (defScope sShowsNeeded) .none kV14 dc14 pm14 an14 cd14 ct14) ["size", "spans", "value"] := ⟨PySem.W.mg_of X G a14, k14, FShowsNeeded.binds (ps := ["size", "spans", "value"]) fun _ _ _ _ _ _ us hl => match us, hl with | [_, _, _], _ => rfl⟩
  have ACheck : At K mg "_check" f15 (PySem.W.fnOf "_check" "_check" (defArgs sCheck) (defBody sCheck) (defScope sCheck) .none kV15 dc15 pm15 an15 cd15 ct15) ["size", "spans", "nodes"] := ⟨PySem.W.mg_of X G a15, k15, FCheck.binds (ps := ["size", "spans", "nodes"]) fun _ _ _ _ _ _ us hl => match us, hl with | [_, _, _], _ => rfl⟩
  have AServes : At K mg "serves" f16 (PySem.W.fnOf "serves" "serves" (defArgs sServes) (defBody sServes) (defScope sServes) .none kV16 dc16 pm16 an16 cd16 ct16) ["size", "spans", "nodes"] := ⟨PySem.W.mg_of X G a16, k16, FServes.binds (ps := ["size", "spans", "nodes"]) fun _ _ _ _ _ _ us hl => match us, hl with | [_, _, _], _ => rfl⟩
  have AMeets : At K mg "_meets" f17 (PySem.W.fnOf "_meets" "_meets" (defArgs sMeets) (defBody sMeets) (defScope sMeets) .none kV17 dc17 pm17 an17 cd17 ct17) ["node", "spans"] := ⟨PySem.W.mg_of X G a17, k17, FMeets.binds (ps := ["node", "spans"]) fun _ _ _ _ _ _ us hl => match us, hl with | [_, _], _ => rfl⟩
  have AFirstWrong : At K mg "first_wrong" f18 (PySem.W.fnOf "first_wrong" "first_wrong" (defArgs sFirstWrong) (defBody sFirstWrong) (defScope sFirstWrong) .none kV18 dc18 pm18 an18 cd18 ct18) ["size", "spans", "nodes"] := ⟨PySem.W.mg_of X G a18, k18, FFirstWrong.binds (ps := ["size", "spans", "nodes"]) fun _ _ _ _ _ _ us hl => match us, hl with | [_, _, _], _ => rfl⟩
  have ALacking : At K mg "lacking" f19 (PySem.W.fnOf "lacking" "lacking" (defArgs sLacking) (defBody sLacking) (defScope sLacking) .none kV19 dc19 pm19 an19 cd19 ct19) ["size", "spans", "nodes"] := ⟨PySem.W.mg_of X G a19, k19, FLacking.binds (ps := ["size", "spans", "nodes"]) fun _ _ _ _ _ _ us hl => match us, hl with | [_, _, _], _ => rfl⟩
  have ALawBag : At K mg "_law_bag" f20 (PySem.W.fnOf "_law_bag" "_law_bag" (defArgs sLawBag) (defBody sLawBag) (defScope sLawBag) .none kV20 dc20 pm20 an20 cd20 ct20) ["cell"] := ⟨PySem.W.mg_of X G a20, k20, FLawBag.binds (ps := ["cell"]) fun _ _ _ _ _ _ us hl => match us, hl with | [_], _ => rfl⟩
  have ALawPick : At K mg "_law_pick" f21 (PySem.W.fnOf "_law_pick" "_law_pick" (defArgs sLawPick) (defBody sLawPick) (defScope sLawPick) .none kV21 dc21 pm21 an21 cd21 ct21) ["bag", "many"] := ⟨PySem.W.mg_of X G a21, k21, FLawPick.binds (ps := ["bag", "many"]) fun _ _ _ _ _ _ us hl => match us, hl with | [_, _], _ => rfl⟩
  have ALawSize : At K mg "_law_size" f22 (PySem.W.fnOf "_law_size" "_law_size" (defArgs sLawSize) (defBody sLawSize) (defScope sLawSize) .none kV22 dc22 pm22 an22 cd22 ct22) ["bag", "most"] := ⟨PySem.W.mg_of X G a22, k22, FLawSize.binds (ps := ["bag", "most"]) fun _ _ _ _ _ _ us hl => match us, hl with | [_, _], _ => rfl⟩
  have ALawParted : At K mg "_law_parted" f23 (PySem.W.fnOf "_law_parted" "_law_parted" (defArgs sLawParted) (defBody sLawParted) (defScope sLawParted) .none kV23 dc23 pm23 an23 cd23 ct23) ["node"] := ⟨PySem.W.mg_of X G a23, k23, FLawParted.binds (ps := ["node"]) fun _ _ _ _ _ _ us hl => match us, hl with | [_], _ => rfl⟩
  have ALawTree : At K mg "_law_tree" f24 (PySem.W.fnOf "_law_tree" "_law_tree" (defArgs sLawTree) (defBody sLawTree) (defScope sLawTree) .none kV24 dc24 pm24 an24 cd24 ct24) ["size"] := ⟨PySem.W.mg_of X G a24, k24, FLawTree.binds (ps := ["size"]) fun _ _ _ _ _ _ us hl => match us, hl with | [_], _ => rfl⟩
  have ALawSpans : At K mg "_law_spans" f25 (PySem.W.fnOf "_law_spans" "_law_spans" (defArgs sLawSpans) (defBody sLawSpans) (defScope sLawSpans) .none kV25 dc25 pm25 an25 cd25 ct25) ["bag", "size", "most"] := ⟨PySem.W.mg_of X G a25, k25, FLawSpans.binds (ps := ["bag", "size", "most"]) fun _ _ _ _ _ _ us hl => match us, hl with | [_, _, _], _ => rfl⟩
  have ALawMixed : At K mg "_law_mixed" f26 (PySem.W.fnOf "_law_mixed" "_law_mixed" (defArgs sLawMixed) (defBody sLawMixed) (defScope sLawMixed) .none kV26 dc26 pm26 an26 cd26 ct26) ["bag", "items"] := ⟨PySem.W.mg_of X G a26, k26, FLawMixed.binds (ps := ["bag", "items"]) fun _ _ _ _ _ _ us hl => match us, hl with | [_, _], _ => rfl⟩
  have ALawMarked : At K mg "_law_marked" f27 (PySem.W.fnOf "_law_marked" "_law_marked" (defArgs sLawMarked) (defBody sLawMarked) (defScope sLawMarked) .none kV27 dc27 pm27 an27 cd27 ct27) ["size", "spans"] := ⟨PySem.W.mg_of X G a27, k27, FLawMarked.binds (ps := ["size", "spans"]) fun _ _ _ _ _ _ us hl => match us, hl with | [_, _], _ => rfl⟩
  have ALawSmallRight : At K mg "_law_small_right" f28 (PySem.W.fnOf "_law_small_right" "_law_small_right" (defArgs sLawSmallRight) (defBody sLawSmallRight) (defScope sLawSmallRight) .none kV28 dc28 pm28 an28 cd28 ct28) ["bag"] := ⟨PySem.W.mg_of X G a28, k28, FLawSmallRight.binds (ps := ["bag"]) fun _ _ _ _ _ _ us hl => match us, hl with | [_], _ => rfl⟩
  have ALawShownRight : At K mg "_law_shown_right" f29 (PySem.W.fnOf "_law_shown_right" "_law_shown_right" (defArgs sLawShownRight) (defBody sLawShownRight) (defScope sLawShownRight) .none kV29 dc29 pm29 an29 cd29 ct29) ["bag", "size", "spans"] := ⟨PySem.W.mg_of X G a29, k29, FLawShownRight.binds (ps := ["bag", "size", "spans"]) fun _ _ _ _ _ _ us hl => match us, hl with | [_, _, _], _ => rfl⟩
  have z_all := PySem.W.mg_none_of X G z_all
  have z_any := PySem.W.mg_none_of X G z_any
  have z_bool := PySem.W.mg_none_of X G z_bool
  have z_enumerate := PySem.W.mg_none_of X G z_enumerate
  have z_int := PySem.W.mg_none_of X G z_int
  have z_isinstance := PySem.W.mg_none_of X G z_isinstance
  have z_len := PySem.W.mg_none_of X G z_len
  have z_list := PySem.W.mg_none_of X G z_list
  have z_max := PySem.W.mg_none_of X G z_max
  have z_min := PySem.W.mg_none_of X G z_min
  have z_range := PySem.W.mg_none_of X G z_range
  have z_repr := PySem.W.mg_none_of X G z_repr
  have z_sorted := PySem.W.mg_none_of X G z_sorted
  have z_sum := PySem.W.mg_none_of X G z_sum
  have z_tuple := PySem.W.mg_none_of X G z_tuple
  have g_MOST_ENTRIES := PySem.W.mg_of X G g_MOST_ENTRIES
  have g_MOST_SPANS := PySem.W.mg_of X G g_MOST_SPANS
  refine ⟨PySem.W.fnOf "law" "law" (defArgs sLaw) (defBody sLaw) (defScope sLaw) .none kV30 dc30 pm30 an30 cd30 ct30, fun s v => .of_eq rfl, fun base _ _ => ?_⟩
  have GIsWholeV := ok_is_wholeV (P := l.prog) (w := w) (base := base) FIsWhole z_isinstance z_int z_bool
  have GIsWhole := ok_is_whole (P := l.prog) (w := w) (base := base) FIsWhole z_isinstance z_int z_bool
  have GIsBetweenV := ok_is_betweenV FIsBetween GIsWholeV AIsWhole
  have GIsBetween := ok_is_between FIsBetween GIsWhole AIsWhole
  have GTreeV := ok_is_tree_nodeV FIsTreeNode GIsBetweenV AIsBetween z_isinstance z_tuple z_len
  have GIsListOf := ok_is_list_of (P := l.prog) (w := w) (base := base) FIsListOf z_isinstance z_list z_len
  have GIsSpanFrom := ok_is_span_from FIsSpanFrom GIsBetween AIsBetween z_isinstance z_tuple z_len
  have GCheckSize := ok_check_size FCheckSize GIsBetween AIsBetween g_MOST_ENTRIES
  have GCheckSpans := ok_check_spans FCheckSpans GIsListOf AIsListOf GIsSpanFrom AIsSpanFrom g_MOST_SPANS z_enumerate
  have GCheckNodes := ok_check_nodes (P := l.prog) (w := w) (base := base) FCheckNodes GIsListOf AIsListOf GTreeV AIsTreeNode z_enumerate
  have GPowerWithin := ok_power_within (P := l.prog) (w := w) (mg := mg) (base := base) FPowerWithin
  have GFirstFull := ok_first_full FFirstFull GPowerWithin APowerWithin z_min
  have GNodesWithinX := ok_nodes_withinX FNodesWithin GTreeV AIsTreeNode GFirstFull AFirstFull
  have GNodesBeside := ok_nodes_beside FNodesBeside GNodesWithinX ANodesWithin z_sorted z_max
  have GJoined := ok_joined (P := l.prog) (w := w) (base := base) FJoined z_sorted z_max
  have GNeeded := ok_needed FNeeded GCheckSize ACheckSize GCheckSpans ACheckSpans GNodesBeside ANodesBeside
  have GShows := ok_shows FShowsNeeded GNeeded ANeeded GTreeV AIsTreeNode z_isinstance z_list z_all z_sorted
  have GShowsN := ok_showsN FShowsNeeded GNeeded ANeeded GTreeV AIsTreeNode z_isinstance z_list z_all z_sorted
  have GShowsB := both34 GShows GShowsN
  have GCheck := ok_check_papers FCheck GCheckSize ACheckSize GCheckSpans ACheckSpans GCheckNodes ACheckNodes
  have GMeets := ok_meets (P := l.prog) (w := w) (base := base) FMeets z_any
  have GFirstWrong := ok_first_wrong FFirstWrong GCheck ACheck GMeets AMeets z_enumerate
  have GServes := ok_serves FServes GFirstWrong AFirstWrong GJoined AJoined
  have GLacking := ok_lacking FLacking GCheck ACheck GNodesBeside ANodesBeside
  have GLawBag := ok_law_bag (P := l.prog) (w := w) (base := base) FLawBag z_max
  have GLawPick := ok_law_pick (P := l.prog) (w := w) (base := base) FLawPick z_int
  have GLawSize := ok_law_sizeM FLawSize GLawPick ALawPick z_max z_min z_sum z_range
  have GLawParted := ok_law_parted (P := l.prog) (w := w) (mg := mg) (base := base) FLawParted
  have GLawTree := ok_law_tree FLawTree GLawParted ALawParted
  have GLawSpans := ok_law_spans FLawSpans GLawPick ALawPick z_range z_min
  have GLawMixed := ok_law_mixed FLawMixed GLawPick ALawPick z_list z_len
  have GLawMarked := ok_law_marked (P := l.prog) (w := w) (base := base) FLawMarked z_range
  have GLawSmallRight := ok_law_small FLawSmallRight GLawPick ALawPick GLawTree ALawTree GLawSize ALawSize GLawSpans ALawSpans GLawMarked ALawMarked GLawMixed ALawMixed GNeeded ANeeded GServes AServes GFirstWrong AFirstWrong GLacking ALacking z_range z_len z_enumerate z_sorted z_repr
  have GLawShownRight := ok_law_shown FLawShownRight GNeeded ANeeded GLawMixed ALawMixed GLawParted ALawParted GShowsB AShowsNeeded z_len z_enumerate z_tuple z_list z_repr
  exact ok_law FLaw GLawBag ALawBag GLawSize ALawSize GLawSpans ALawSpans GLawSmallRight ALawSmallRight GLawShownRight ALawShownRight GShowsB AShowsNeeded GServes AServes GFirstWrong AFirstWrong GLacking ALacking z_range
end LT
open PySem PySem.W PyProof.Rows
set_option maxRecDepth 100000 in
set_option maxHeartbeats 0 in
theorem PySem.Challenge.cw_logtrees_k34_judged_papers_holds : PySem.Challenge.rw_logtrees_k34_judged_papers.Holds := by
  w_on; o_law; k_head; (case hw => w_witness2)
  k_fill
  refine LT.walkG (l := PySem.Challenge.rw_logtrees_k34_judged_papers) (n := 63) (k := 9) (x := "script") (sp := fun w => LT.spLaw _) rfl (by decide) rfl ⟨rfl, by decide, by decide⟩ (fun w h Y => PySem.W.kIn_of Y) ?F (fun _ _ a ns hl _ hS => ⟨a, ns, rfl, hS, hl, fun _ => rfl⟩)
  case F =>
    intro w mg fa h KX G hmg
    refine' LT.all_mk KX G hmg ?a0 ?l0 ?c0 ?k0 ?a1 ?l1 ?c1 ?k1 ?a2 ?l2 ?c2 ?k2 ?a3 ?l3 ?c3 ?k3 ?a4 ?l4 ?c4 ?k4 ?a5 ?l5 ?c5 ?k5 ?a6 ?l6 ?c6 ?k6 ?a7 ?l7 ?c7 ?k7 ?lT7 ?vT7 ?a8 ?l8 ?c8 ?k8 ?a9 ?l9 ?c9 ?k9 ?a10 ?l10 ?c10 ?k10 ?a11 ?l11 ?c11 ?k11 ?a12 ?l12 ?c12 ?k12 ?a13 ?l13 ?c13 ?k13 ?a14 ?l14 ?c14 ?k14 ?a15 ?l15 ?c15 ?k15 ?a16 ?l16 ?c16 ?k16 ?a17 ?l17 ?c17 ?k17 ?a18 ?l18 ?c18 ?k18 ?a19 ?l19 ?c19 ?k19 ?a20 ?l20 ?c20 ?k20 ?a21 ?l21 ?c21 ?k21 ?a22 ?l22 ?c22 ?k22 ?a23 ?l23 ?c23 ?k23 ?a24 ?l24 ?c24 ?k24 ?a25 ?l25 ?c25 ?k25 ?a26 ?l26 ?c26 ?k26 ?a27 ?l27 ?c27 ?k27 ?a28 ?l28 ?c28 ?k28 ?a29 ?l29 ?c29 ?k29 ?a30 ?l30 ?c30 ?k30 ?z_all ?z_any ?z_bool ?z_enumerate ?z_int ?z_isinstance ?z_len ?z_list ?z_max ?z_min ?z_range ?z_repr ?z_sorted ?z_sum ?z_tuple ?g_MOST_ENTRIES ?g_MOST_SPANS
    (case a0 => k_is)
    (case l0 => k_is)
    (case c0 => k_is)
    (case k0 => k_is)
    (case a1 => k_is)
    (case l1 => k_is)
    (case c1 => k_is)
    (case k1 => k_is)
    (case a2 => k_is)
    (case l2 => k_is)
    (case c2 => k_is)
    (case k2 => k_is)
    (case a3 => k_is)
    (case l3 => k_is)
    (case c3 => k_is)
    (case k3 => k_is)
    (case a4 => k_is)
    (case l4 => k_is)
    (case c4 => k_is)
    (case k4 => k_is)
    (case a5 => k_is)
    (case l5 => k_is)
    (case c5 => k_is)
    (case k5 => k_is)
    (case a6 => k_is)
    (case l6 => k_is)
    (case c6 => k_is)
    (case k6 => k_is)
    (case a7 => k_is)
    (case l7 => k_is)
    (case c7 => k_is)
    (case k7 => k_is)
    (case lT7 => k_is)
    (case vT7 => exact .cons ⟨_, rfl⟩ (.cons ⟨_, rfl⟩ (.nil)))
    (case a8 => k_is)
    (case l8 => k_is)
    (case c8 => k_is)
    (case k8 => k_is)
    (case a9 => k_is)
    (case l9 => k_is)
    (case c9 => k_is)
    (case k9 => k_is)
    (case a10 => k_is)
    (case l10 => k_is)
    (case c10 => k_is)
    (case k10 => k_is)
    (case a11 => k_is)
    (case l11 => k_is)
    (case c11 => k_is)
    (case k11 => k_is)
    (case a12 => k_is)
    (case l12 => k_is)
    (case c12 => k_is)
    (case k12 => k_is)
    (case a13 => k_is)
    (case l13 => k_is)
    (case c13 => k_is)
    (case k13 => k_is)
    (case a14 => k_is)
    (case l14 => k_is)
    (case c14 => k_is)
    (case k14 => k_is)
    (case a15 => k_is)
    (case l15 => k_is)
    (case c15 => k_is)
    (case k15 => k_is)
    (case a16 => k_is)
    (case l16 => k_is)
    (case c16 => k_is)
    (case k16 => k_is)
    (case a17 => k_is)
    (case l17 => k_is)
    (case c17 => k_is)
    (case k17 => k_is)
    (case a18 => k_is)
    (case l18 => k_is)
    (case c18 => k_is)
    (case k18 => k_is)
    (case a19 => k_is)
    (case l19 => k_is)
    (case c19 => k_is)
    (case k19 => k_is)
    (case a20 => k_is)
    (case l20 => k_is)
    (case c20 => k_is)
    (case k20 => k_is)
    (case a21 => k_is)
    (case l21 => k_is)
    (case c21 => k_is)
    (case k21 => k_is)
    (case a22 => k_is)
    (case l22 => k_is)
    (case c22 => k_is)
    (case k22 => k_is)
    (case a23 => k_is)
    (case l23 => k_is)
    (case c23 => k_is)
    (case k23 => k_is)
    (case a24 => k_is)
    (case l24 => k_is)
    (case c24 => k_is)
    (case k24 => k_is)
    (case a25 => k_is)
    (case l25 => k_is)
    (case c25 => k_is)
    (case k25 => k_is)
    (case a26 => k_is)
    (case l26 => k_is)
    (case c26 => k_is)
    (case k26 => k_is)
    (case a27 => k_is)
    (case l27 => k_is)
    (case c27 => k_is)
    (case k27 => k_is)
    (case a28 => k_is)
    (case l28 => k_is)
    (case c28 => k_is)
    (case k28 => k_is)
    (case a29 => k_is)
    (case l29 => k_is)
    (case c29 => k_is)
    (case k29 => k_is)
    (case a30 => k_is)
    (case l30 => k_is)
    (case c30 => k_is)
    (case k30 => k_is)
    (case z_all => k_is)
    (case z_any => k_is)
    (case z_bool => k_is)
    (case z_enumerate => k_is)
    (case z_int => k_is)
    (case z_isinstance => k_is)
    (case z_len => k_is)
    (case z_list => k_is)
    (case z_max => k_is)
    (case z_min => k_is)
    (case z_range => k_is)
    (case z_repr => k_is)
    (case z_sorted => k_is)
    (case z_sum => k_is)
    (case z_tuple => k_is)
    (case g_MOST_ENTRIES => k_is)
    (case g_MOST_SPANS => k_is)
