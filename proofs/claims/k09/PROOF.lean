import PyProof.Rows.All
import Wide.All
import OpenK.AllK
import Wide.FinOn
import HandS.ForMost
import HandS.Wide
import HandS.WideBits
import HandS.IsInst
import HandS.Style
import HandS.Deep
import HandS.RaiseMore
import HandS.Conv
import HandS.Flow
import HandS.SortRule
import HandS.Exc
import HandS.ExcOwn
import HandS.ExcValue
import HandS.ExcIs
import HandS.WordsExc
import PyProof.ReprRoads
import PyProof.Rows.NestShow
import PySem.Challenge.RW_logtrees_k09_errors_of_depths
set_option Elab.async false
set_option linter.all false
set_option maxRecDepth 100000
set_option maxHeartbeats 4000000
namespace LT
/-- the greatest power of two less than m (m from 2) -/
def gp (m : Nat) : Nat := 2 ^ Nat.log2 (m - 1)
theorem gp_pos (m : Nat) : 0 < gp m := Nat.pow_pos (by decide)
theorem gp_lt {m : Nat} (h : 2 ≤ m) : gp m < m := by
  have := Nat.log2_self_le (n := m - 1) (by omega)
  unfold gp; omega
theorem gp_ge {m : Nat} (h : 2 ≤ m) : m ≤ 2 * gp m := by
  have := Nat.lt_log2_self (n := m - 1)
  unfold gp; rw [Nat.pow_succ] at this; omega
theorem pow_eq_of {i j : Nat} {m : Nat} (h1 : 2 ^ i < m) (h2 : m ≤ 2 * 2 ^ i) (h3 : 2 ^ j < m) (h4 : m ≤ 2 * 2 ^ j) : i = j := by
  have a : 2 ^ i < 2 ^ (j + 1) := by rw [Nat.pow_succ]; omega
  have b : 2 ^ j < 2 ^ (i + 1) := by rw [Nat.pow_succ]; omega
  have a' := (Nat.pow_lt_pow_iff_right (by decide : 1 < 2)).mp a
  have b' := (Nat.pow_lt_pow_iff_right (by decide : 1 < 2)).mp b
  omega
theorem gp_eq {i m : Nat} (h1 : 2 ^ i < m) (h2 : m ≤ 2 * 2 ^ i) : gp m = 2 ^ i := by
  have h : 2 ≤ m := by have := Nat.pow_pos (a := 2) (n := i) (by decide); omega
  have := pow_eq_of (gp_lt h) (gp_ge h) h1 h2
  unfold gp; rw [this]
theorem gp_pow (i : Nat) : gp (2 ^ (i + 1)) = 2 ^ i := gp_eq (by rw [Nat.pow_succ]; have := Nat.pow_pos (a := 2) (n := i) (by decide); omega) (by rw [Nat.pow_succ]; omega)

/-- siblings from the root's half down to the leaf's: nodes as (begin, length-end) pairs -/
def sib (b m e : Nat) : List (Nat × Nat) :=
  if h : m ≤ 1 then [] else
    if e < b + gp m then (b + gp m, b + m) :: sib b (gp m) e
    else (b, b + gp m) :: sib (b + gp m) (m - gp m) e
termination_by m
decreasing_by
  · exact gp_lt (by omega)
  · have := gp_pos m; omega
theorem sib_one {b m e : Nat} (h : m ≤ 1) : sib b m e = [] := by rw [sib]; simp [h]
theorem sib_low {b m e : Nat} (h : 2 ≤ m) (k : e < b + gp m) : sib b m e = (b + gp m, b + m) :: sib b (gp m) e := by
  rw [sib]; rw [dif_neg (by omega), if_pos k]
theorem sib_high {b m e : Nat} (h : 2 ≤ m) (k : ¬ e < b + gp m) : sib b m e = (b, b + gp m) :: sib (b + gp m) (m - gp m) e := by
  rw [sib]; rw [dif_neg (by omega), if_neg k]

/-! ### joining up again -/
def join (x y : Nat × Nat) : Nat × Nat := (min x.1 y.1, max x.2 y.2)
/-- the halves of a node -/
def halv (x : Nat × Nat) : (Nat × Nat) × (Nat × Nat) := ((x.1, x.1 + gp (x.2 - x.1)), (x.1 + gp (x.2 - x.1), x.2))
def ok1 (x y : Nat × Nat) : Prop := (join x y).1 + 2 ≤ (join x y).2 ∧ (halv (join x y) = (x, y) ∨ halv (join x y) = (y, x))
def oks : Nat × Nat → List (Nat × Nat) → Prop
  | _, [] => True
  | x, y :: r => ok1 x y ∧ oks (join x y) r
def top : Nat × Nat → List (Nat × Nat) → Nat × Nat
  | x, [] => x
  | x, y :: r => top (join x y) r
theorem oks_append : ∀ (x : Nat × Nat) (l r : List (Nat × Nat)), oks x l → oks (top x l) r → oks x (l ++ r)
  | _, [], _, _, h => h
  | x, y :: l, r, h1, h2 => ⟨h1.1, oks_append (join x y) l r h1.2 h2⟩
theorem top_append : ∀ (x : Nat × Nat) (l r : List (Nat × Nat)), top x (l ++ r) = top (top x l) r
  | _, [], _ => rfl
  | x, y :: l, r => top_append (join x y) l r
theorem sib_up : ∀ (m b e : Nat), b ≤ e → e < b + m → oks (e, e + 1) (sib b m e).reverse ∧ top (e, e + 1) (sib b m e).reverse = (b, b + m) := by
  intro m
  induction m using Nat.strongRecOn with
  | ind m ih =>
    intro b e h1 h2
    by_cases hm : m ≤ 1
    · have : m = 1 := by omega
      subst this
      rw [sib_one (by omega)]
      have : e = b := by omega
      subst this
      exact ⟨True.intro, rfl⟩
    · have g1 := gp_lt (m := m) (by omega)
      have g2 := gp_pos m
      by_cases k : e < b + gp m
      · rw [sib_low (by omega) k, List.reverse_cons]
        obtain ⟨p, q⟩ := ih (gp m) g1 b e h1 k
        have j : join (b, b + gp m) (b + gp m, b + m) = (b, b + m) := by
          unfold join; simp only []; rw [Nat.min_eq_left (by omega), Nat.max_eq_right (by omega)]
        refine ⟨oks_append _ _ _ p ?_, ?_⟩
        · rw [q]
          refine ⟨⟨?_, .inl ?_⟩, True.intro⟩
          · rw [j]; simp only []; omega
          · rw [j]; unfold halv; simp only []; rw [Nat.add_sub_cancel_left]
        · rw [top_append, q]; exact j
      · rw [sib_high (by omega) k, List.reverse_cons]
        obtain ⟨p, q⟩ := ih (m - gp m) (by omega) (b + gp m) e (by omega) (by omega)
        have e2 : b + gp m + (m - gp m) = b + m := by omega
        rw [e2] at q
        have j : join (b + gp m, b + m) (b, b + gp m) = (b, b + m) := by
          unfold join; simp only []; rw [Nat.min_eq_right (by omega), Nat.max_eq_left (by omega)]
        refine ⟨oks_append _ _ _ p ?_, ?_⟩
        · rw [q]
          refine ⟨⟨?_, .inr ?_⟩, True.intro⟩
          · rw [j]; simp only []; omega
          · rw [j]; unfold halv; simp only []; rw [Nat.add_sub_cancel_left]
        · rw [top_append, q]; exact j
theorem sib_len_pow (i : Nat) : ∀ (b e : Nat), b ≤ e → e < b + 2 ^ i → (sib b (2 ^ i) e).length = i := by
  induction i with
  | zero => intro b e h1 h2; rw [sib_one (by simp)]; rfl
  | succ i ih =>
    intro b e h1 h2
    have h3 : 2 ≤ 2 ^ (i + 1) := by rw [Nat.pow_succ]; have := Nat.pow_pos (a := 2) (n := i) (by decide); omega
    have g := gp_pow i
    have e2 : 2 ^ (i + 1) - 2 ^ i = 2 ^ i := by rw [Nat.pow_succ]; omega
    by_cases k : e < b + gp (2 ^ (i + 1))
    · rw [sib_low h3 k, List.length_cons, g, ih b e h1 (by omega)]
    · rw [sib_high h3 k, List.length_cons, g, e2, ih (b + 2 ^ i) e (by omega) (by rw [Nat.pow_succ] at h2; omega)]
/-! ### the peaks by digits: (begin, height) -/
def pk : Nat → Nat → Nat → List (Nat × Nat)
  | 0, _, _ => []
  | i + 1, n, b => if n.testBit i then (b, i) :: pk i n (b + 2 ^ i) else pk i n b
theorem mod_succ (n i : Nat) : n % 2 ^ (i + 1) = (if n.testBit i then 2 ^ i else 0) + n % 2 ^ i := by
  rw [Nat.mod_pow_succ, Nat.testBit_eq_decide_div_mod_eq, Nat.add_comm]
  have h : n / 2 ^ i % 2 = 0 ∨ n / 2 ^ i % 2 = 1 := by omega
  rcases h with h | h <;> rw [h] <;> simp
theorem pk_nil : ∀ (i n b : Nat), n % 2 ^ i = 0 → pk i n b = []
  | 0, _, _, _ => rfl
  | i + 1, n, b, h => by
    rw [mod_succ] at h
    have p := Nat.pow_pos (a := 2) (n := i) (by decide)
    unfold pk
    cases t : n.testBit i with
    | true => rw [t] at h; simp at h
    | false => rw [t] at h; simp at h; simp; exact pk_nil i n b h
theorem pk_ne : ∀ (i n b : Nat), n % 2 ^ i ≠ 0 → pk i n b ≠ []
  | 0, _, _, h => by simp [Nat.mod_one] at h
  | i + 1, n, b, h => by
    rw [mod_succ] at h
    unfold pk
    cases t : n.testBit i with
    | true => simp
    | false => rw [t] at h; simp at h; simp; exact pk_ne i n b (by omega)
theorem pk_begin : ∀ (i n b : Nat) (x : Nat × Nat), x ∈ pk i n b → b ≤ x.1 ∧ x.2 < i
  | 0, _, _, _, h => by simp [pk] at h
  | i + 1, n, b, x, h => by
    unfold pk at h
    cases t : n.testBit i with
    | true =>
      rw [t] at h; simp at h
      rcases h with h | h
      · subst h; exact ⟨Nat.le_refl _, Nat.lt_succ_self _⟩
      · have := pk_begin i n _ x h; have p := Nat.pow_pos (a := 2) (n := i) (by decide); omega
    | false =>
      rw [t] at h; simp at h
      have := pk_begin i n _ x h; omega
/-- what the law says of the levels: s the place of the first row, of t rows in all -/
def lev (t : Nat) : Nat → List (Nat × Nat) → List (Nat × Nat × Nat)
  | _, [] => []
  | s, x :: r => (x.1, x.1 + 2 ^ x.2, x.2 + min (s + 1) (t - 1)) :: lev t (s + 1) r
def due (e : Nat) (l : List (Nat × Nat × Nat)) : List Nat := (l.filter fun x => decide (x.1 ≤ e) && decide (e < x.2.1)).map fun x => x.2.2
theorem due_none (t e : Nat) : ∀ (l : List (Nat × Nat)) (s : Nat), (∀ x ∈ l, e < x.1) → due e (lev t s l) = []
  | [], _, _ => rfl
  | x :: r, s, h => by
    have h1 := h x (List.mem_cons_self)
    have ih := due_none t e r (s + 1) fun y hy => h y (List.mem_cons_of_mem _ hy)
    show List.map _ (List.filter _ ((x.1, x.1 + 2 ^ x.2, x.2 + min (s + 1) (t - 1)) :: lev t (s + 1) r)) = []
    rw [List.filter_cons, if_neg (by simp; omega)]
    exact ih
theorem due_is (n e : Nat) : ∀ (i b s : Nat), b ≤ e → e < b + n % 2 ^ i → due e (lev (s + (pk i n b).length) s (pk i n b)) = [(sib b (n % 2 ^ i) e).length + min s (s + (pk i n b).length - 1)] := by
  intro i
  induction i with
  | zero => intro b s h1 h2; simp [Nat.mod_one] at h2; omega
  | succ i ih =>
    intro b s h1 h2
    have p := Nat.pow_pos (a := 2) (n := i) (by decide)
    have ml := Nat.mod_lt n p
    cases t : n.testBit i with
    | false =>
      have e1 : n % 2 ^ (i + 1) = n % 2 ^ i := by rw [mod_succ, t]; simp
      have e2 : pk (i + 1) n b = pk i n b := by show (if n.testBit i = true then _ else _) = _; rw [t]; simp
      rw [e1] at h2
      rw [e1, e2]; exact ih b s h1 h2
    | true =>
      have e1 : n % 2 ^ (i + 1) = 2 ^ i + n % 2 ^ i := by rw [mod_succ, t]; simp
      have e2 : pk (i + 1) n b = (b, i) :: pk i n (b + 2 ^ i) := by show (if n.testBit i = true then _ else _) = _; rw [t]; simp
      rw [e1] at h2
      rw [e1, e2, List.length_cons]
      by_cases r0 : n % 2 ^ i = 0
      · rw [pk_nil i n _ r0, r0]
        rw [r0] at h2
        rw [Nat.add_zero] at h2
        rw [Nat.add_zero (2 ^ i), sib_len_pow i b e h1 h2]
        show List.map _ (List.filter _ [(b, b + 2 ^ i, i + min (s + 1) (s + (0 + 1) - 1))]) = _
        rw [List.filter_cons, if_pos (by simp; omega)]
        simp
      · have hne : 1 ≤ (pk i n (b + 2 ^ i)).length := by
          have := pk_ne i n (b + 2 ^ i) r0
          cases hh : pk i n (b + 2 ^ i) with
          | nil => exact absurd hh this
          | cons _ _ => rw [List.length_cons]; omega
        have g : gp (2 ^ i + n % 2 ^ i) = 2 ^ i := gp_eq (by omega) (by omega)
        by_cases k : e < b + 2 ^ i
        · rw [sib_low (by omega) (by rw [g]; exact k), g, List.length_cons, sib_len_pow i b e h1 k]
          have d := due_none (s + ((pk i n (b + 2 ^ i)).length + 1)) e (pk i n (b + 2 ^ i)) (s + 1) fun x hx => by have := pk_begin _ _ _ x hx; omega
          show List.map _ (List.filter _ ((b, b + 2 ^ i, i + min (s + 1) (s + ((pk i n (b + 2 ^ i)).length + 1) - 1)) :: lev (s + ((pk i n (b + 2 ^ i)).length + 1)) (s + 1) (pk i n (b + 2 ^ i)))) = _
          rw [List.filter_cons, if_pos (by simp; omega), List.map_cons]
          have d' : List.map (fun x => x.2.2) (List.filter (fun x => decide (x.1 ≤ e) && decide (e < x.2.1)) (lev (s + ((pk i n (b + 2 ^ i)).length + 1)) (s + 1) (pk i n (b + 2 ^ i)))) = [] := d
          rw [d']
          simp
          omega
        · rw [sib_high (by omega) (by rw [g]; exact k), g, List.length_cons, Nat.add_sub_cancel_left]
          have q := ih (b + 2 ^ i) (s + 1) (by omega) (by omega)
          have e3 : s + 1 + (pk i n (b + 2 ^ i)).length = s + ((pk i n (b + 2 ^ i)).length + 1) := by omega
          rw [e3] at q
          show List.map _ (List.filter _ ((b, b + 2 ^ i, i + min (s + 1) (s + ((pk i n (b + 2 ^ i)).length + 1) - 1)) :: lev (s + ((pk i n (b + 2 ^ i)).length + 1)) (s + 1) (pk i n (b + 2 ^ i)))) = _
          rw [List.filter_cons, if_neg (by simp; omega)]
          refine Eq.trans q ?_
          congr 1
          omega
/-! ### which pairs are nodes -/
/-- the bits of m - 1 -/
def lb (m : Nat) : Nat := if m ≤ 1 then 0 else Nat.log2 (m - 1) + 1
theorem lb_le {x i : Nat} (h : x ≤ 2 ^ i) : lb x ≤ i := by
  unfold lb
  by_cases k : x ≤ 1
  · rw [if_pos k]; omega
  · rw [if_neg k]
    have h1 := Nat.log2_self_le (n := x - 1) (by omega)
    have h2 : 2 ^ Nat.log2 (x - 1) < 2 ^ i := by omega
    exact (Nat.pow_lt_pow_iff_right (by decide : 1 < 2)).mp h2
theorem lb_ge (x : Nat) : x ≤ 2 ^ lb x := by
  unfold lb
  by_cases k : x ≤ 1
  · rw [if_pos k]; omega
  · rw [if_neg k]
    have := Nat.lt_log2_self (n := x - 1)
    omega
theorem lb_pow (i : Nat) : lb (2 ^ i) = i := by
  have h1 := lb_le (Nat.le_refl (2 ^ i))
  have h2 := (Nat.pow_le_pow_iff_right (by decide : 1 < 2)).mp (lb_ge (2 ^ i))
  omega
theorem lb_gp {m : Nat} (h : 2 ≤ m) : 2 ^ lb m = 2 * gp m := by
  unfold lb gp; rw [if_neg (by omega), Nat.pow_succ]; omega
def tree (n b m : Nat) : Prop := 2 ^ lb m ∣ b ∧ (m = 2 ^ lb m ∨ b + m = n)
theorem tree_root (n : Nat) : tree n 0 n := ⟨Nat.dvd_zero _, .inr (Nat.zero_add _)⟩
theorem tree_low {n b m : Nat} (h : 2 ≤ m) (t : tree n b m) : tree n b (gp m) := by
  obtain ⟨d, _⟩ := t
  rw [lb_gp h] at d
  have e : 2 ^ lb (gp m) = gp m := by unfold gp; rw [lb_pow]
  exact ⟨by rw [e]; exact Nat.dvd_trans (Nat.dvd_mul_left _ _) d, .inl e.symm⟩
theorem tree_high {n b m : Nat} (h : 2 ≤ m) (t : tree n b m) : tree n (b + gp m) (m - gp m) := by
  obtain ⟨d, k⟩ := t
  rw [lb_gp h] at d k
  have g1 := gp_lt h
  have g2 := gp_ge h
  have dg : 2 ^ lb (m - gp m) ∣ gp m := by
    have : lb (m - gp m) ≤ Nat.log2 (m - 1) := lb_le (by unfold gp at g1 g2 ⊢; omega)
    exact Nat.pow_dvd_pow 2 this
  refine ⟨Nat.dvd_add (Nat.dvd_trans dg (Nat.dvd_trans (Nat.dvd_mul_left _ _) d)) dg, ?_⟩
  rcases k with k | k
  · left
    have e : m - gp m = gp m := by omega
    rw [e]
    unfold gp; rw [lb_pow]
  · right; omega
theorem sib_len_le : ∀ (m b e : Nat), b ≤ e → e < b + m → (sib b m e).length ≤ lb m := by
  intro m
  induction m using Nat.strongRecOn with
  | ind m ih =>
    intro b e h1 h2
    by_cases hm : m ≤ 1
    · rw [sib_one hm]; exact Nat.zero_le _
    · have g1 := gp_lt (m := m) (by omega)
      have g2 := gp_ge (m := m) (by omega)
      have g3 := gp_pos m
      have e1 : lb m = Nat.log2 (m - 1) + 1 := by unfold lb; rw [if_neg hm]
      by_cases k : e < b + gp m
      · rw [sib_low (by omega) k, List.length_cons]
        have := ih (gp m) g1 b e h1 k
        have e2 : lb (gp m) = Nat.log2 (m - 1) := by unfold gp; rw [lb_pow]
        omega
      · rw [sib_high (by omega) k, List.length_cons]
        have := ih (m - gp m) (by omega) (b + gp m) e (by omega) (by omega)
        have e2 : lb (m - gp m) ≤ Nat.log2 (m - 1) := lb_le (by unfold gp at g1 g2 ⊢; omega)
        omega
end LT
namespace LT
open PySem PySem.Spec PyProof.Rows L2
def topS (i : Nat) : Stmt := PySem.Challenge.pw_logtrees_k09_errors_of_depths.main.body.getD i (.Pass ⟨0, 0, 0, 0⟩)
abbrev sIsWhole : Stmt := topS 19
theorem scIsWhole : FnScope ["value"] ["value"] (defScope sIsWhole) := ⟨rfl, rfl, rfl, by decide +kernel, rfl, by decide +kernel, by decide +kernel⟩
abbrev sIsBetween : Stmt := topS 20
theorem scIsBetween : FnScope ["value", "low", "high"] ["value", "low", "high"] (defScope sIsBetween) := ⟨rfl, rfl, rfl, by decide +kernel, rfl, by decide +kernel, by decide +kernel⟩
abbrev sIsTreeNode : Stmt := topS 21
theorem scIsTreeNode : FnScope ["size", "value", "begin", "end", "room"] ["size", "value"] (defScope sIsTreeNode) := ⟨rfl, rfl, rfl, by decide +kernel, rfl, by decide +kernel, by decide +kernel⟩
abbrev sCheckSize : Stmt := topS 22
theorem scCheckSize : FnScope ["size"] ["size"] (defScope sCheckSize) := ⟨rfl, rfl, rfl, by decide +kernel, rfl, by decide +kernel, by decide +kernel⟩
abbrev sCheckEntry : Stmt := topS 23
theorem scCheckEntry : FnScope ["size", "entry"] ["size", "entry"] (defScope sCheckEntry) := ⟨rfl, rfl, rfl, by decide +kernel, rfl, by decide +kernel, by decide +kernel⟩
abbrev sCheckNode : Stmt := topS 24
theorem scCheckNode : FnScope ["size", "node"] ["size", "node"] (defScope sCheckNode) := ⟨rfl, rfl, rfl, by decide +kernel, rfl, by decide +kernel, by decide +kernel⟩
abbrev sCheckSpan : Stmt := topS 25
theorem scCheckSpan : FnScope ["size", "begin", "end"] ["size", "begin", "end"] (defScope sCheckSpan) := ⟨rfl, rfl, rfl, by decide +kernel, rfl, by decide +kernel, by decide +kernel⟩
abbrev sCheckNumber : Stmt := topS 26
theorem scCheckNumber : FnScope ["number"] ["number"] (defScope sCheckNumber) := ⟨rfl, rfl, rfl, by decide +kernel, rfl, by decide +kernel, by decide +kernel⟩
abbrev sPowerWithin : Stmt := topS 28
theorem scPowerWithin : FnScope ["number"] ["number"] (defScope sPowerWithin) := ⟨rfl, rfl, rfl, by decide +kernel, rfl, by decide +kernel, by decide +kernel⟩
abbrev sPeaks : Stmt := topS 29
theorem scPeaks : FnScope ["size", "found", "begin", "end"] ["size"] (defScope sPeaks) := ⟨rfl, rfl, rfl, by decide +kernel, rfl, by decide +kernel, by decide +kernel⟩
abbrev sHalves : Stmt := topS 30
theorem scHalves : FnScope ["size", "node", "begin", "end", "middle"] ["size", "node"] (defScope sHalves) := ⟨rfl, rfl, rfl, by decide +kernel, rfl, by decide +kernel, by decide +kernel⟩
abbrev sDepth : Stmt := topS 32
theorem scDepth : FnScope ["size", "entry"] ["size", "entry"] (defScope sDepth) := ⟨rfl, rfl, rfl, by decide +kernel, rfl, by decide +kernel, by decide +kernel⟩
abbrev sPath : Stmt := topS 33
theorem scPath : FnScope ["size", "entry", "siblings", "node", "low", "high"] ["size", "entry"] (defScope sPath) := ⟨rfl, rfl, rfl, by decide +kernel, rfl, by decide +kernel, by decide +kernel⟩
abbrev sPeakDepths : Stmt := topS 34
theorem scPeakDepths : FnScope ["size", "tops", "rows", "place", "begin", "end", "above"] ["size"] (defScope sPeakDepths) := ⟨rfl, rfl, rfl, by decide +kernel, rfl, by decide +kernel, by decide +kernel⟩
abbrev sDepthsBetween : Stmt := topS 35
theorem scDepthsBetween : FnScope ["size", "begin", "end", "rows", "first", "last", "deep", "count"] ["size", "begin", "end"] (defScope sDepthsBetween) := ⟨rfl, rfl, rfl, by decide +kernel, rfl, by decide +kernel, by decide +kernel⟩
abbrev sDepthSum : Stmt := topS 36
theorem scDepthSum : FnScope ["size", "begin", "end", "count", "deep"] ["size", "begin", "end"] (defScope sDepthSum) := ⟨rfl, rfl, rfl, by decide +kernel, rfl, by decide +kernel, by decide +kernel⟩
abbrev sDepthRange : Stmt := topS 37
theorem scDepthRange : FnScope ["size", "begin", "end", "found", "_", "deep"] ["size", "begin", "end"] (defScope sDepthRange) := ⟨rfl, rfl, rfl, by decide +kernel, rfl, by decide +kernel, by decide +kernel⟩
abbrev sFirstOfDepth : Stmt := topS 38
theorem scFirstOfDepth : FnScope ["size", "number", "first", "_", "deep"] ["size", "number"] (defScope sFirstOfDepth) := ⟨rfl, rfl, rfl, by decide +kernel, rfl, by decide +kernel, by decide +kernel⟩
abbrev sNextEnd : Stmt := topS 39
theorem scNextEnd : FnScope ["entry", "end", "room"] ["entry", "end"] (defScope sNextEnd) := ⟨rfl, rfl, rfl, by decide +kernel, rfl, by decide +kernel, by decide +kernel⟩
abbrev sSizesWith : Stmt := topS 40
theorem scSizesWith : FnScope ["entry", "number", "most", "first", "last", "deep"] ["entry", "number", "most"] (defScope sSizesWith) := ⟨rfl, rfl, rfl, by decide +kernel, rfl, by decide +kernel, by decide +kernel⟩
abbrev sLawBag : Stmt := topS 42
theorem scLawBag : FnScope ["cell"] ["cell"] (defScope sLawBag) := ⟨rfl, rfl, rfl, by decide +kernel, rfl, by decide +kernel, by decide +kernel⟩
abbrev sLawPick : Stmt := topS 43
theorem scLawPick : FnScope ["bag", "many", "told", "seed", "turn", "first", "second", "drawn"] ["bag", "many"] (defScope sLawPick) := ⟨rfl, rfl, rfl, by decide +kernel, rfl, by decide +kernel, by decide +kernel⟩
abbrev sLawSize : Stmt := topS 44
theorem scLawSize : FnScope ["bag", "size"] ["bag"] (defScope sLawSize) := ⟨rfl, rfl, rfl, by decide +kernel, rfl, by decide +kernel, by decide +kernel⟩
abbrev sLawClass : Stmt := topS 45
theorem scLawClass : FnScope ["caught", "some", "found", "name", "is_one"] ["caught"] (defScope sLawClass) := ⟨rfl, rfl, rfl, by decide +kernel, rfl, by decide +kernel, by decide +kernel⟩
abbrev sLawBadIntegers : Stmt := topS 46
theorem scLawBadIntegers : FnScope ["low", "high", "found"] ["low", "high"] (defScope sLawBadIntegers) := ⟨rfl, rfl, rfl, by decide +kernel, rfl, by decide +kernel, by decide +kernel⟩
abbrev sLawTold : Stmt := topS 47
theorem scLawTold : FnScope ["way", "one", "two", "three", "caught", "e"] ["way", "one", "two", "three"] (defScope sLawTold) := ⟨rfl, rfl, rfl, by decide +kernel, rfl, by decide +kernel, by decide +kernel⟩
abbrev sLawSizesRight : Stmt := topS 48
theorem scLawSizesRight : FnScope ["entry", "numbers", "bad", "told"] ["entry"] (defScope sLawSizesRight) := ⟨rfl, rfl, rfl, by decide +kernel, rfl, by decide +kernel, by decide +kernel⟩
abbrev sLawRight : Stmt := topS 49
theorem scLawRight : FnScope ["bag", "size", "entry", "bad", "two", "three", "told", "way"] ["bag"] (defScope sLawRight) := ⟨rfl, rfl, rfl, by decide +kernel, rfl, by decide +kernel, by decide +kernel⟩
abbrev sLaw : Stmt := topS 50
theorem scLaw : FnScope ["script", "cell", "bag"] ["script"] (defScope sLaw) := ⟨rfl, rfl, rfl, by decide +kernel, rfl, by decide +kernel, by decide +kernel⟩
/-- a def as it stands behind the top -/
structure At (K : PySem.W.Frag) (mg : Str → Option Value) (x : Str) (f : Addr) (fd : FuncData) (ps : List Str) : Prop where
  m : mg x = some (.ref f)
  kp : PySem.W.keepIn K (.ref f) = true
  b : Binds K fd ps []
theorem units1 {k : Nat} {A : Around} (r : Room k A) : A.units + 65 < cLine := by have := r.un; omega
/-- all but b as it was -/
def But (b : Addr) (H H' : Hp) : Prop := ∀ a o, a ≠ b → H a = some o → H' a = some o
theorem But.refl (b : Addr) (H : Hp) : But b H H := fun _ _ _ h => h
theorem But.trans {b : Addr} {H H1 H2 : Hp} (x : But b H H1) (y : But b H1 H2) : But b H H2 := fun a o n h => y a o n (x a o n h)
theorem But.of {b : Addr} {H H1 : Hp} (x : Same H H1) : But b H H1 := fun a o _ h => x a o h
theorem same_upd {H : Hp} {p : Addr} {o : HO} (h : H p = none) : Same H (upd H p o) := fun b x e => by
  rw [upd_ne (ne_of_none e h)]
  exact e
def BagAt (H : Hp) (b : Addr) : Prop := ∃ x y z : Int, H b = some (.lst [.int x, .int y, .int z])
theorem BagAt.same {H H' : Hp} {b : Addr} (h : BagAt H b) (s : Same H H') : BagAt H' b := by
  obtain ⟨x, y, z, e⟩ := h
  exact ⟨x, y, z, s _ _ e⟩
/-- a pair of ints -/
def Nd (H : Hp) (v : V) (x : Nat × Nat) : Prop := ∃ p, v = .ref p ∧ H p = some (.tup [.int x.1, .int x.2])
theorem Nd.same {H H' : Hp} {v : V} {x : Nat × Nat} (h : Nd H v x) (s : Same H H') : Nd H' v x := by
  obtain ⟨p, e, q⟩ := h
  exact ⟨p, e, s _ _ q⟩
theorem Nd.dp {K : PySem.W.Frag} {H : Hp} {v : V} {x : Nat × Nat} (h : Nd H v x) : Dp K H v (.tuple [.int x.1, .int x.2]) := by
  obtain ⟨p, rfl, q⟩ := h
  exact .tup (SqT.of q) (.cons (.int _) (.cons (.int _) .nil))
theorem nd_shaped (a b : Int) : SeqAt.shaped (.tuple [.int a, .int b]) = true := by
  show (PyData.canLay0 _ && decide (PyData.depth _ ≤ 64)) = true
  simp [PyData.canLay0, PyData.canLayAll0, PyData.depth, PyData.depthAll]
theorem nd_eqv (a b c d : Int) : PyData.eqv (.tuple [.int a, .int b]) (.tuple [.int c, .int d]) = (decide (a = c) && decide (b = d)) := by
  have e : PyData.eqv (.tuple [.int a, .int b]) (.tuple [.int c, .int d]) = ((a == c) && ((b == d) && true)) := by simp only [PyData.eqv, PyData.eqvAll]
  rw [e, Bool.and_true]
  by_cases h1 : a = c <;> by_cases h2 : b = d <;> simp [h1, h2]
/-- lists of values and what they stand for -/
inductive All2 {α : Type} (R : V → α → Prop) : List V → List α → Prop
  | nil : All2 R [] []
  | cons {v : V} {x : α} {vs : List V} {xs : List α} : R v x → All2 R vs xs → All2 R (v :: vs) (x :: xs)
section
variable {α : Type} {R R' : V → α → Prop}
theorem All2.mono (f : ∀ v x, R v x → R' v x) : ∀ {vs : List V} {xs : List α}, All2 R vs xs → All2 R' vs xs
  | _, _, .nil => .nil
  | _, _, .cons h t => .cons (f _ _ h) (All2.mono f t)
theorem All2.len : ∀ {vs : List V} {xs : List α}, All2 R vs xs → vs.length = xs.length
  | _, _, .nil => rfl
  | _, _, .cons _ t => by rw [List.length_cons, List.length_cons, All2.len t]
theorem All2.app : ∀ {vs : List V} {xs : List α} {us : List V} {ys : List α}, All2 R vs xs → All2 R us ys → All2 R (vs ++ us) (xs ++ ys)
  | _, _, _, _, .nil, h => h
  | _, _, _, _, .cons h t, k => .cons h (All2.app t k)
theorem All2.rev : ∀ {vs : List V} {xs : List α}, All2 R vs xs → All2 R vs.reverse xs.reverse
  | _, _, .nil => .nil
  | _, _, .cons h t => by
    rw [List.reverse_cons, List.reverse_cons]
    exact All2.app (All2.rev t) (.cons h .nil)
theorem All2.nth : ∀ {vs : List V} {xs : List α} {i : Nat} {v : V}, All2 R vs xs → vs[i]? = some v → ∃ x, xs[i]? = some x ∧ R v x
  | _, _, _, _, .nil, h => by simp at h
  | _, _, 0, _, .cons h t, e => by
    have := Option.some.inj e
    subst this
    exact ⟨_, rfl, h⟩
  | _, _, i + 1, _, .cons h t, e => by
    rw [List.getElem?_cons_succ] at e ⊢
    exact All2.nth t e
theorem All2.nth2 : ∀ {vs : List V} {xs : List α} {i : Nat} {x : α}, All2 R vs xs → xs[i]? = some x → ∃ v, vs[i]? = some v ∧ R v x
  | _, _, _, _, .nil, h => by simp at h
  | _, _, 0, _, .cons h t, e => by
    have := Option.some.inj e
    subst this
    exact ⟨_, rfl, h⟩
  | _, _, i + 1, _, .cons h t, e => by
    rw [List.getElem?_cons_succ] at e ⊢
    exact All2.nth2 t e
end

/-! ### rules within a comprehension: what they say of the written part is said of the def's -/
section
open PySem L2
variable {X : Cx} {s : Shared} {H : Hp} {sc : Scope} {ce : Env} {fp : List Addr}
theorem pg_tupB {es : List Expr} {k : Nat} {pos : Pos} {t : TGs} {n : Nat} (hc : X.calm = true) (h : PGs (X.blk s H sc ce fp) es t)
    (hn : (assignEach es (X.blk s H sc ce fp).env).length = n := by rfl) (hst : (assignEach es (X.blk s H sc ce fp).env).findIdx? (·.1) = none := by rfl) : PG (X.blk s H sc ce fp) (.Tuple es k pos) (gTup X.K n t) := pg_tup hc h hn hst
theorem ix_listB : IxR (X.blk s H sc ce fp) (rIxL X.K) := ix_list
theorem ix_tupB : IxR (X.blk s H sc ce fp) (rIxT X.K) := ix_tup
theorem call_len_seqB : CallR (X.blk s H sc ce fp) (.builtin "len") (fun xs H Q => ∃ p ys, xs = [.ref p] ∧ (SqL X.K H p ys ∨ SqT X.K H p ys) ∧ Q (.int ys.length) H) := call_len_seq
theorem op_eqDB (hu : X.A.units + 64 < cLine) : OpR (X.blk s H sc ce fp) (compareOp .Eq) (rEqD X.K) := op_eqD (X := X.blk s H sc ce fp) hu
theorem op_neDB (hu : X.A.units + 64 < cLine) : OpR (X.blk s H sc ce fp) (compareOp .NotEq) (rNeD X.K) := op_neD (X := X.blk s H sc ce fp) hu
theorem op_inDB (hu : X.A.units + 65 < cLine) : OpR (X.blk s H sc ce fp) (compareOp .In) (rInD X.K) := op_inD (X := X.blk s H sc ce fp) hu
theorem op_notInDB (hu : X.A.units + 65 < cLine) : OpR (X.blk s H sc ce fp) (compareOp .NotIn) (rNotInD X.K) := op_notInD (X := X.blk s H sc ce fp) hu
end
theorem Nd.upd {H : Hp} {v : V} {x : Nat × Nat} {s : Addr} {xs : List V} {o : HO} (h : Nd H v x) (hs : H s = some (.lst xs)) : Nd (upd H s o) v x := by
  obtain ⟨p, e, q⟩ := h
  exact ⟨p, e, by rw [upd_ne (ne_of q hs (by intro z; cases z))]; exact q⟩
def full (x : Nat × Nat) : Nat × Nat := (x.1, x.1 + 2 ^ x.2)
theorem pk_len : ∀ (i n b : Nat), (pk i n b).length ≤ i
  | 0, _, _ => Nat.le_refl _
  | i + 1, n, b => by
    show (if n.testBit i = true then (b, i) :: pk i n (b + 2 ^ i) else pk i n b).length ≤ i + 1
    by_cases t : n.testBit i = true
    · rw [if_pos t, List.length_cons]
      exact Nat.succ_le_succ (pk_len i n _)
    · rw [if_neg t]
      exact Nat.le_succ_of_le (pk_len i n b)
theorem take_more {α : Type} : ∀ {l : List α} {i : Nat} {x : α}, l[i]? = some x → l.take (i + 1) = l.take i ++ [x]
  | [], i, x, h => by simp at h
  | a :: l, 0, x, h => by
    have e : a = x := Option.some.inj h
    subst e
    rfl
  | a :: l, i + 1, x, h => by
    have ih := take_more (l := l) (i := i) (x := x) h
    show a :: l.take (i + 1) = a :: l.take i ++ [x]
    rw [ih]
    rfl
theorem szle {n : Nat} (h : n ≤ 100000) : n ≤ sizeLine := Nat.le_trans h (by decide)
theorem szlt {n : Nat} (h : n < 100000) : n < sizeLine := Nat.lt_of_lt_of_le h (by decide)
end LT

namespace LT
open PySem PySem.Spec PyProof.Rows L2
/-! ### a caught exception that is kept behind its suite -/
/-- an exception of the class cls at a, its own dict at d, if any -/
def ExK (cls : Value) (d : Option Addr) (a : Addr) : HO := .ext fun h => ∃ (ob : Obj) (fs : Array Value), h.get? a = some ob ∧ Zc cls d ob ∧ ob.data = .fields fs
theorem exK_ok {P : Program} {w : World} {H : Hp} {h : Heap} {a : Addr} {cls : Value} {d : Option Addr} {ob : Obj} {fs : Array Value} (e : h.get? a = some ob) (z : Zc cls d ob) (df : ob.data = .fields fs) : ObjOk P w H h a (ExK cls d a) :=
  ⟨⟨ob, fs, e, z, df⟩, ⟨ob, e⟩, fun _ _ ⟨o, v, q, r⟩ k => ⟨o, v, k o q, r⟩⟩
section
variable {X : Cx} {pins : List (Addr × Obj)} {σ : L2.St} {H : Hp} {s : Shared}
/-- it is told of from now on -/
theorem Inv.adopt {a : Addr} {cls : Value} {d : Option Addr} {ob : Obj} {fs : Array Value} (I : Inv X pins σ H s) (e : s.heap.get? a = some ob) (z : Zc cls d ob) (df : ob.data = .fields fs) (na : H a = none) (n0 : X.s_0.heap.get? a = none)
    (nL : a ≠ X.env.locals) (np : ∀ p ∈ X.pn ++ pins, p.1 ≠ a) : Inv X pins σ (upd H a (ExK cls d a)) s := by
  have ne0 : ∀ b o, X.s_0.heap.get? b = some o → b ≠ a := fun b o q y => by
    rw [y, n0] at q
    cases q
  refine ⟨I.ok, I.os, I.bare, ⟨I.base.keep, I.base.slot, ?_, I.base.there, ?_, ?_, ?_⟩, I.loc, I.cell, ?_, ?_, ?_, ?_, I.len⟩
  · intro b o q n hx
    rw [upd_ne (ne0 b o q)]
    exact I.base.free b o q n hx
  · intro b xs q
    have y := I.base.tups b xs q
    rw [upd_ne (ne_of_none y na)]
    exact y
  · intro b o u q
    have y := I.base.frzs b o u q
    rw [upd_ne (ne_of_none y na)]
    exact y
  · intro b ps q
    obtain ⟨m, y⟩ := I.base.tbls b ps q
    exact ⟨m, by rw [upd_ne (ne_of_none y na)]; exact y⟩
  · rw [upd_ne (fun y => nL y.symm)]
    exact I.free
  · intro x c q
    obtain ⟨v, o, ho, hd⟩ := I.cell x c q
    rw [upd_ne (fun y => by rw [y, e] at ho; cases ho; rw [df] at hd; cases hd)]
    exact I.freeC x c q
  · intro p hp
    obtain ⟨q1, q2, q3⟩ := I.pin p hp
    exact ⟨q1, by rw [upd_ne (np p hp)]; exact q2, q3⟩
  · exact HOk.laidN I.hok (fun _ _ q => q) na (exK_ok e z df)
end
/-- what the ends of a suite say, once the name of its clause has gone and the exception is told of -/
def endsK (i : Nat) (a : Addr) (cls : Value) (d : Option Addr) (D : Ends) : Ends :=
  { nx := fun σ' H' => H' a = none → D.nx (σ'.set i none) (upd H' a (ExK cls d a)), rt := fun v H' => H' a = none → D.rt v (upd H' a (ExK cls d a)),
    bk := fun σ' H' => H' a = none → D.bk (σ'.set i none) (upd H' a (ExK cls d a)), ct := fun σ' H' => H' a = none → D.ct (σ'.set i none) (upd H' a (ExK cls d a)) }
def wKeep (K : PySem.W.Frag) (c : Value) (i : Nat) (ts : Addr → Value → Option Addr → TS) (Wout : WX) (D : Ends) : WX := fun cls d σ H =>
  ∃ b, PySem.W.exmOne K cls c = some b ∧ (b = true → ∀ a, H a = none → ts a cls d (endsK i a cls d D) (σ.set i (some (.ref a))) H) ∧ (b = false → Wout cls d σ H)
section
variable {X : Cx} {x n : Str} {c : Value} {i : Nat} {body suite : List Stmt} {st0 : Stmt} {p1 p2 p3 : Pos} {tb : WX → TS} {ts : Addr → Value → Option Addr → TS} {Wout : WX}
theorem ps_try_keep (hst : X.stack = X.env :: X.outer) (hex : X.ex = []) (hfr : X.env.frame = some X.env.locals) (nod : X.N.Nodup) (slot : X.N[i]? = some n) (own : X.env.kindOf n = some .local) (hc : Names X x c) (tk : Takes X Wout)
    (hb : ∀ (W : WX) (pn : List (Addr × Obj)) (xe : Value → Shared → Prop), Takes (X.tr pn xe) W → PassesOwn (model X.prog X.w) X.A X.env xe → PSs (X.tr pn xe) body (tb W))
    (hsu : ∀ (a : Addr) (ob : Obj) (cls : Value) (d : Option Addr) (pn : List (Addr × Obj)), Zc cls d ob → (∃ fs, ob.data = .fields fs) → PSs (X.suite a ((a, ob) :: pn)) (st0 :: suite) (ts a cls d)) :
    PS X (.Try body [.ExceptHandler (some (.Name x p1)) (some n) (st0 :: suite) p2] [] [] p3) (fun D σ H => tb (wKeep X.K c i ts Wout D) D σ H) := by
  refine ⟨?_⟩
  intro pins s σ H D I h
  have okX := I.ok
  have frms : X.A.frames = some (X.env :: X.outer) := okX.frames.trans (congrArg some hst)
  have locn : Loc X.env.scope n := .inl own
  refine wpAny_Try_except ?_
  let land : Value → Shared → Prop := fun e u1 => wpAny (model X.prog X.w) X.A (noteFrame e X.env) (fun _ u2 => wpAny (model X.prog X.w) X.A (setFlight e none)
    (fun _ u3 => wpAny (model X.prog X.w) X.A (handleBy e X.env [.ExceptHandler (some (.Name x p1)) (some n) (st0 :: suite) p2]) (SP X pins D) X.xe u3) X.xe u2) X.xe u1
  have catch_ : Takes (X.tr (X.pn ++ pins) land) (wKeep X.K c i ts Wout D) := by
    rintro u s' ⟨a, B, sI, pins', τ, G, cls, d, rfl, J', ground, up, sky, na, os, ag, b, hb1, yes, no⟩
    have J : Inv X pins τ G sI := J'.ofTry okX
    have sky1 : Sky B (X.env :: X.outer) a (Zc cls d) X.env.locals s'.heap := hst ▸ sky
    show wpAny (model X.prog X.w) X.A (noteFrame (.ref a) X.env) _ _ _
    refine Sky.land Zc.steady frms hfr sky1 fun ha fa upa => ?_
    have Ja : Inv X pins τ G { s' with heap := ha } := J.landed ground fa.1 (up.trans upa) os ag
    obtain ⟨oa, va, geta, za, da⟩ := fa.there
    have offStack : a ∉ frs (X.env :: X.outer) := fun hm => by
      obtain ⟨_, o', e', hnf⟩ := Heap.FunFrames.mem fa.2.2.1 hm
      rw [geta] at e'
      cases e'
      exact hnf _ da
    have nL : a ≠ X.env.locals := fun y => offStack (List.mem_filterMap.mpr ⟨X.env, List.mem_cons_self, by rw [hfr, y]⟩)
    have nF : a ∉ X.fs := fun hm => by
      obtain ⟨e, he, q⟩ := List.mem_filterMap.mp hm
      exact offStack (List.mem_filterMap.mpr ⟨e, List.mem_cons_of_mem _ he, q⟩)
    -- it was not there before
    have newI : sI.heap.get? a = none := by
      cases q : sI.heap.get? a with
      | none => rfl
      | some o =>
        have y := ground a o q (by rw [hst]; exact offStack)
        rw [fa.2.1] at y
        cases y
    have new0 : X.s_0.heap.get? a = none := by
      cases q : X.s_0.heap.get? a with
      | none => rfl
      | some o =>
        obtain ⟨o', y⟩ := J.base.there a o q (by rw [hex]; exact List.not_mem_nil)
        rw [newI] at y
        cases y
    have npin : ∀ p ∈ X.pn ++ pins, p.1 ≠ a := fun p hp y => by
      have q := (J.pin p hp).1
      rw [y, newI] at q
      cases q
    have Sa := Ja.suite geta da na nL nF
    refine wpAny_handleBy_cons (codeAny_handlers_test ?_) (fun q => by cases q)
    have tyA : PySem.W.Looks (model X.prog X.w) ha (typeOf (.ref a)) cls := fun A Q E s k q => wpAny_typeOf_ref (k _ _ geta) (by rw [za.1]; exact q)
    have asked := PySem.W.exm_one (M := model X.prog X.w) (Ja.kIn) tyA hb1
    have named : ∀ {Q : Value → Shared → Prop} {E : Value → Shared → Prop}, Q c { s' with heap := ha } → wpAny (model X.prog X.w) (X.A.mark (some (.ref a))) (eval (.Name x p1) X.env) Q E { s' with heap := ha } := by
      intro Q E q
      obtain ⟨hg, hdbg, hm | ⟨hm, hv, hnn⟩⟩ := hc
      · exact ld_glob (X := X.suite a ((a, oa) :: (X.pn ++ pins))) Sa hg hm q hdbg
      · exact ld_blt (X := X.suite a ((a, oa) :: (X.pn ++ pins))) Sa hg hm hv q hnn hdbg
    refine named (asked.here ?_)
    cases b with
    | true =>
      refine codeAny_handlers_suite_as ?_
      refine HandSPX.lands_againZ fa fun hz fz upz => ?_
      have Jz : Inv X pins τ G { s' with heap := hz } := J.landed ground fz.1 ((up.trans upa).trans upz) os ag
      obtain ⟨oz, vz, getz, zz, dz⟩ := fz.there
      have Sz := Jz.suite getz dz na nL nF
      refine store_ok (X := X.suite a ((a, oz) :: (X.pn ++ pins))) (v := .ref a) Sz nod slot locn rfl ?_ (.inr own)
      intro s5 S5
      refine wpAny_mono ((hsu a oz cls d (X.pn ++ pins) zz ⟨_, dz⟩).run [] s5 _ G _ S5 (yes rfl a na)) ?_ (fun _ _ y => False.elim y)
      intro fl s6 sp
      have fin : ∀ {σ6 : L2.St} {H6 : Hp} {Q : Shared → Prop}, Inv (X.suite a ((a, oz) :: (X.pn ++ pins))) [] σ6 H6 s6 → H6 a = none ∧ ((∀ s7, Inv X pins (σ6.set i none) (upd H6 a (ExK cls d a)) s7 → Q s7) →
          wpAny (model X.prog X.w) X.A (do bindName X.env n .none; unbindBehindTheSuite X.env n p2) (fun _ s7 => Q s7) X.xe s6) := by
        intro σ6 H6 Q S6
        refine ⟨(S6.pin (a, oz) (List.mem_append_left _ List.mem_cons_self)).2.1, fun hq => ?_⟩
        refine gone_ok (X := X.suite a ((a, oz) :: (X.pn ++ pins))) S6 nod slot own fun s7 S7 => hq s7 ?_
        have pa := S7.pin (a, oz) (List.mem_append_left _ List.mem_cons_self)
        exact Inv.adopt (S7.unsuite okX) pa.1 zz dz pa.2.1 new0 nL npin
      cases fl with
      | next =>
        obtain ⟨σ6, H6, S6, q6⟩ := sp
        exact (fin S6).2 fun s7 J7 => ⟨_, _, J7, q6 (fin (Q := fun _ => True) S6).1⟩
      | brk =>
        obtain ⟨σ6, H6, S6, q6⟩ := sp
        exact (fin S6).2 fun s7 J7 => ⟨_, _, J7, q6 (fin (Q := fun _ => True) S6).1⟩
      | cont =>
        obtain ⟨σ6, H6, S6, q6⟩ := sp
        exact (fin S6).2 fun s7 J7 => ⟨_, _, J7, q6 (fin (Q := fun _ => True) S6).1⟩
      | ret u =>
        obtain ⟨v6, σ6, H6, S6, r6, q6⟩ := sp
        exact (fin S6).2 fun s7 J7 => ⟨_, _, _, J7, r6, q6 (fin (Q := fun _ => True) S6).1⟩
    | false =>
      show wpAny _ X.A (handleBy (.ref a) X.env []) _ _ _
      refine wpAny_handleBy_nil ?_
      obtain ⟨_, _, _, ob, fv, T, oT, ts', he, hz, hd, h1, hr⟩ := id fa
      unfold PySem.passOn
      refine wpAny_bind (wpAny_field he hd h1 ?_)
      rw [if_neg (show ¬ ((Value.ref T == Value.none) = true) from by simp)]
      have on_ : wpAny (model X.prog X.w) X.A (setFlight (.ref a) X.env.frame) (fun _ u4 => wpAny (model X.prog X.w) X.A (throw (.ref a) : Sem Flow) (SP X pins D) X.xe u4) X.xe { s' with heap := ha } := by
        rw [hfr]
        refine HandSPX.setFlight_upZ fa fun h4 hh4 up4 => wpAny_throw (tk _ _ ?_)
        exact ⟨a, B, sI, pins, τ, G, cls, d, rfl, J, ground, (up.trans upa).trans up4, .inr (.inr (by rw [hst]; exact hh4)), na, os, ag, no rfl⟩
      first
        | exact wpAny_bind (wpAny_pure (wpAny_bind on_))
        | exact wpAny_bind on_
  refine wpAny_mono ((hb (wKeep X.K c i ts Wout D) (X.pn ++ pins) land catch_ PassesOwn.looking).run [] s σ H D (I.toTry _) h) ?_ (fun e s1 he => he)
  intro fl s1 sp
  cases fl with
  | next =>
    obtain ⟨σ', H', J', q⟩ := sp
    exact wpAny_execs_nil ⟨σ', H', J'.ofTry okX, q⟩
  | brk =>
    obtain ⟨σ', H', J', q⟩ := sp
    exact ⟨σ', H', J'.ofTry okX, q⟩
  | cont =>
    obtain ⟨σ', H', J', q⟩ := sp
    exact ⟨σ', H', J'.ofTry okX, q⟩
  | ret u =>
    obtain ⟨v, σ', H', J', r, q⟩ := sp
    exact ⟨v, σ', H', J'.ofTry okX, r, q⟩
end
section
variable {X : Cx}
/-- isinstance(e, c), e an exception that is kept, without a dict of its own -/
def rIsK (K : PySem.W.Frag) : List V → Hp → VK → Prop := fun xs H Q => ∃ (a D : Addr) (c : V) (cv : Value) (b : Bool), xs = [.ref a, c] ∧ H a = some (ExK (.ref D) none a) ∧ ExcC K D ∧ (∀ u, RelV c u → u = cv) ∧ PySem.W.kitOne K (.ref D) cv = some b ∧ Q (.bl b) H
theorem call_isK : CallR X (.builtin "isinstance") (rIsK X.K) := by
  intro pins s σ H xs us Q I r h
  obtain ⟨a, D, c, cv, b, rfl, ha, C, hcv, e, q⟩ := h
  obtain ⟨u1, us1, rfl, r1, r2⟩ : ∃ u us', us = u :: us' ∧ RelV (.ref a) u ∧ Vals [c] us' := by
    cases r with | cons h t => exact ⟨_, _, rfl, h, t⟩
  obtain ⟨u2, rfl, r3⟩ := vals1 r2
  cases r1
  have ec := hcv _ r3
  subst ec
  obtain ⟨⟨ob, fs, hget, hz, hd⟩, _, _⟩ := I.hok a _ ha
  have J : PySem.W.InstAt s.heap a ob D none := by
    obtain ⟨oc, od, oda, osl⟩ := ob
    obtain ⟨z1, z2⟩ := hz
    dsimp only at z1 z2 hd
    subst z1 z2 hd
    exact ⟨hget, rfl, rfl, trivial⟩
  refine PySem.W.kia_one (PySem.W.handS_kitx_exc C.hg C.hk C.hs C.hd C.ha C.hn C.ht C.hm) I.kIn J e (fun z => nomatch z) ?_
  intro tk
  exact ⟨.bl b, H, I.kept (t' := tk) fun _ _ z => z, rfl, q⟩
end
end LT

namespace LT
open PySem PySem.Spec PyProof.Rows L2
section
variable {P : Program} {w : World} {K : PySem.W.Frag} {mg : Str → Option Value} {base : Heap}
def spWhole : Sp := fun vs H Q _ => ∃ i : Int, vs = [.int i] ∧ Q (.bl true) H
theorem ok_is_whole {f : Addr} {fd : FuncData} (F : Fun K "is_whole" "is_whole" sIsWhole f fd) (z_isinstance : mg "isinstance" = none) (z_int : mg "int" = none) (z_bool : mg "bool" = none) : FnOk P w K mg base CX0 1 f fd ["value"] spWhole := by
  refine F.ok scIsWhole (fun vs H Q E h => ?_) (fun cdv A outer s H vs Q E hr h => ?_)
  · obtain ⟨i, rfl, _⟩ := h
    rfl
  obtain ⟨i, rfl, q⟩ := h
  refine ⟨_, (pss_one (ps_ret (pe_and (pe_callB call_isi (by rfl) z_isinstance (by decide +kernel) (pa_cons (pv 0) (pa_cons (pe_bltn (v := .ty "int") (u := .type "int") (by rfl) z_int (by decide +kernel) rfl) pa_nil))) (pe_one (pe_not (pe_callB call_isi (by rfl) z_isinstance (by decide +kernel) (pa_cons (pv 0) (pa_cons (pe_bltn (v := .ty "bool") (u := .type "bool") (by rfl) z_bool (by decide +kernel) rfl) pa_nil)))))))), ?_⟩
  refine ⟨_, rfl, _, _, _, _, true, rfl, .ty "int", .base (.int i), kit_ty (by decide +kernel), true, rfl, ?_⟩
  refine ⟨_, rfl, _, _, _, _, false, rfl, .ty "bool", .base (.int i), kit_ty (by decide +kernel), false, rfl, ?_⟩
  exact q
def spBetween : Sp := fun vs H Q _ => ∃ v lo hi : Int, vs = [.int v, .int lo, .int hi] ∧ Q (.bl (decide (lo ≤ v) && decide (v ≤ hi))) H
theorem ok_is_between {f g : Addr} {fd gd : FuncData} (F : Fun K "is_between" "is_between" sIsBetween f fd) (GIsWhole : FnOk P w K mg base CX0 1 g gd ["value"] spWhole) (AIsWhole : At K mg "is_whole" g gd ["value"]) : FnOk P w K mg base CX0 2 f fd ["value", "low", "high"] spBetween := by
  refine F.ok scIsBetween (fun vs H Q E h => ?_) (fun cdv A outer s H vs Q E hr h => ?_)
  · obtain ⟨i, _, _, rfl, _⟩ := h
    rfl
  obtain ⟨v, lo, hi, rfl, q⟩ := h
  refine ⟨_, (pss_one (ps_ret (pe_and (pe_call GIsWhole (hr.mono (by decide)) rfl AIsWhole.m AIsWhole.kp AIsWhole.b .nil pass0 (pa_cons (pv 0) pa_nil)) (pe_one (pe_chain op_le op_le (pv 1) (pv 0) (pv 2)))))), ?_⟩
  refine ⟨_, rfl, v, rfl, true, rfl, ?_⟩
  refine ⟨_, rfl, _, rfl, _, _, rfl, rfl, _, rfl, ?_⟩
  by_cases h1 : lo ≤ v
  · rw [decide_eq_true h1] at q ⊢
    exact ⟨_, rfl, _, _, rfl, rfl, q⟩
  · rw [decide_eq_false h1] at q ⊢
    exact q
def spCheckSize : Sp := fun vs H Q _ => ∃ n : Int, vs = [.int n] ∧ 1 ≤ n ∧ n ≤ 10 ^ 30 ∧ Q .non H
theorem ok_check_size {f g : Addr} {fd gd : FuncData} {t : Tok} (F : Fun K "check_size" "check_size" sCheckSize f fd) (GIsBetween : FnOk P w K mg base CX0 2 g gd ["value", "low", "high"] spBetween) (AIsBetween : At K mg "is_between" g gd ["value", "low", "high"]) (g_MOST_ENTRIES : mg "MOST_ENTRIES" = some (.int 1000000000000000000000000000000 t)) : FnOk P w K mg base CX0 3 f fd ["size"] spCheckSize := by
  refine F.ok scCheckSize (fun vs H Q E h => ?_) (fun cdv A outer s H vs Q E hr h => ?_)
  · obtain ⟨i, rfl, _⟩ := h
    rfl
  obtain ⟨n, rfl, h1, h2, q⟩ := h
  refine ⟨_, (pss_one (ps_if (pt_not (pt_val (pe_call GIsBetween (hr.mono (by decide)) rfl AIsBetween.m AIsBetween.kp AIsBetween.b .nil pass0 (pa_cons (pv 0) (pa_cons pe_int (pa_cons (pe_glob (v := .int 1000000000000000000000000000000) rfl g_MOST_ENTRIES ⟨_, rfl⟩) pa_nil))))))
    (pss_one ps_never)
    pss_nil)), ?_⟩
  refine ⟨_, rfl, n, 1, 1000000000000000000000000000000, rfl, _, rfl, ?_⟩
  rw [decide_eq_true h1, decide_eq_true (show n ≤ 1000000000000000000000000000000 from h2)]
  exact q
end
end LT

namespace LT
open PySem PySem.Spec PyProof.Rows L2
/-- values of the plain kinds, with their types -/
inductive Pl (K : PySem.W.Frag) (H : Hp) : V → String → Prop
  | non : Pl K H .non "NoneType"
  | bl (b : Bool) : Pl K H (.bl b) "bool"
  | int (i : Int) : Pl K H (.int i) "int"
  | str (s : Str) : Pl K H (.str s) "str"
  | lst {a : Addr} {xs : List V} : H a = some (.lst xs) → Pl K H (.ref a) "list"
  | tup {a : Addr} {xs : List V} : H a = some (.tup xs) → Pl K H (.ref a) "tuple"
  | dict {a : Addr} {kvs : List (Key × V)} : H a = some (.dK kvs) → Pl K H (.ref a) "dict"
theorem Pl.ty {K : PySem.W.Frag} {H : Hp} {v : V} {t : String} (h : Pl K H v t) : TyX K H v (.type t) := by
  cases h with
  | non => exact .base .non
  | bl b => exact .base (.bl b)
  | int i => exact .base (.int i)
  | str s => exact .base (.str s)
  | lst e => exact .base (.lst e)
  | tup e => exact .base (.tup e)
  | dict e => exact .base (.dK e)
def isInt : V → Bool
  | .int _ => true
  | _ => false
def inRange (lo hi : Int) : V → Bool
  | .int i => decide (lo ≤ i) && decide (i ≤ hi)
  | _ => false
section
variable {P : Program} {w : World} {K : PySem.W.Frag} {mg : Str → Option Value} {base : Heap}
def spWholeV (K : PySem.W.Frag) : Sp := fun vs H Q _ => ∃ (v : V) (t : String), vs = [v] ∧ Pl K H v t ∧ Q (.bl (isInt v)) H
theorem ok_is_wholeV {f : Addr} {fd : FuncData} (F : Fun K "is_whole" "is_whole" sIsWhole f fd) (z_isinstance : mg "isinstance" = none) (z_int : mg "int" = none) (z_bool : mg "bool" = none) : FnOk P w K mg base CX0 1 f fd ["value"] (spWholeV K) := by
  refine F.ok scIsWhole (fun vs H Q E h => ?_) (fun cdv A outer s H vs Q E hr h => ?_)
  · obtain ⟨_, _, rfl, _⟩ := h
    rfl
  obtain ⟨v, t, rfl, hv, q⟩ := h
  refine ⟨_, (pss_one (ps_ret (pe_and (pe_callB call_isi (by rfl) z_isinstance (by decide +kernel) (pa_cons (pv 0) (pa_cons (pe_bltn (v := .ty "int") (u := .type "int") (by rfl) z_int (by decide +kernel) rfl) pa_nil))) (pe_one (pe_not (pe_callB call_isi (by rfl) z_isinstance (by decide +kernel) (pa_cons (pv 0) (pa_cons (pe_bltn (v := .ty "bool") (u := .type "bool") (by rfl) z_bool (by decide +kernel) rfl) pa_nil)))))))), ?_⟩
  cases hv with
  | non => exact ⟨_, rfl, _, _, _, _, false, rfl, .ty "int", (Pl.non (K := K) (H := H)).ty, kit_ty (by decide +kernel), false, rfl, q⟩
  | bl b => exact ⟨_, rfl, _, _, _, _, true, rfl, .ty "int", (Pl.bl (K := K) (H := H) b).ty, kit_ty (by decide +kernel), true, rfl, _, rfl, _, _, _, _, true, rfl, .ty "bool", (Pl.bl (K := K) (H := H) b).ty, kit_ty (by decide +kernel), true, rfl, q⟩
  | int i => exact ⟨_, rfl, _, _, _, _, true, rfl, .ty "int", (Pl.int (K := K) (H := H) i).ty, kit_ty (by decide +kernel), true, rfl, _, rfl, _, _, _, _, false, rfl, .ty "bool", (Pl.int (K := K) (H := H) i).ty, kit_ty (by decide +kernel), false, rfl, q⟩
  | str s => exact ⟨_, rfl, _, _, _, _, false, rfl, .ty "int", (Pl.str (K := K) (H := H) s).ty, kit_ty (by decide +kernel), false, rfl, q⟩
  | lst e => exact ⟨_, rfl, _, _, _, _, false, rfl, .ty "int", (Pl.lst (K := K) e).ty, kit_ty (by decide +kernel), false, rfl, q⟩
  | tup e => exact ⟨_, rfl, _, _, _, _, false, rfl, .ty "int", (Pl.tup (K := K) e).ty, kit_ty (by decide +kernel), false, rfl, q⟩
  | dict e => exact ⟨_, rfl, _, _, _, _, false, rfl, .ty "int", (Pl.dict (K := K) e).ty, kit_ty (by decide +kernel), false, rfl, q⟩
def spBetweenV (K : PySem.W.Frag) : Sp := fun vs H Q _ => ∃ (v : V) (t : String) (lo hi : Int), vs = [v, .int lo, .int hi] ∧ Pl K H v t ∧ Q (.bl (inRange lo hi v)) H
theorem ok_is_betweenV {f g : Addr} {fd gd : FuncData} (F : Fun K "is_between" "is_between" sIsBetween f fd) (GIsWhole : FnOk P w K mg base CX0 1 g gd ["value"] (spWholeV K)) (AIsWhole : At K mg "is_whole" g gd ["value"]) : FnOk P w K mg base CX0 2 f fd ["value", "low", "high"] (spBetweenV K) := by
  refine F.ok scIsBetween (fun vs H Q E h => ?_) (fun cdv A outer s H vs Q E hr h => ?_)
  · obtain ⟨_, _, _, _, rfl, _⟩ := h
    rfl
  obtain ⟨v, t, lo, hi, rfl, hv, q⟩ := h
  refine ⟨_, (pss_one (ps_ret (pe_and (pe_call GIsWhole (hr.mono (by decide)) rfl AIsWhole.m AIsWhole.kp AIsWhole.b .nil pass0 (pa_cons (pv 0) pa_nil)) (pe_one (pe_chain op_le op_le (pv 1) (pv 0) (pv 2)))))), ?_⟩
  refine ⟨_, rfl, v, t, rfl, hv, isInt v, rfl, ?_⟩
  cases v with
  | int i =>
    have q' : Q (.bl (decide (lo ≤ i) && decide (i ≤ hi))) H := q
    refine ⟨_, rfl, _, rfl, _, _, rfl, rfl, _, rfl, ?_⟩
    by_cases h1 : lo ≤ i
    · rw [decide_eq_true h1] at q' ⊢
      exact ⟨_, rfl, _, _, rfl, rfl, q'⟩
    · rw [decide_eq_false h1] at q' ⊢
      exact q'
  | non => exact q
  | bl _ => exact q
  | str _ => exact q
  | byt _ => exact q
  | flt _ => exact q
  | ref _ => exact q
  | ty _ => exact q
theorem whole_of {k : Nat} {f : Addr} {fd : FuncData} (F : FnOk P w K mg base CX0 k f fd ["value"] (spWholeV K)) : FnOk P w K mg base CX0 k f fd ["value"] spWhole :=
  F.imp fun vs H Q E h => by
    obtain ⟨i, rfl, q⟩ := h
    exact ⟨_, _, rfl, .int i, q⟩
theorem between_of {k : Nat} {f : Addr} {fd : FuncData} (F : FnOk P w K mg base CX0 k f fd ["value", "low", "high"] (spBetweenV K)) : FnOk P w K mg base CX0 k f fd ["value", "low", "high"] spBetween :=
  F.imp fun vs H Q E h => by
    obtain ⟨v, lo, hi, rfl, q⟩ := h
    exact ⟨_, _, _, _, rfl, .int v, q⟩
end
end LT

namespace LT
open PySem PySem.Spec PyProof.Rows L2
section
variable {P : Program} {w : World} {K : PySem.W.Frag} {mg : Str → Option Value} {base : Heap}
def spCheckEntry : Sp := fun vs H Q _ => ∃ n e : Int, vs = [.int n, .int e] ∧ 0 ≤ e ∧ e < n ∧ Q .non H
theorem ok_check_entry {f g : Addr} {fd gd : FuncData} (F : Fun K "check_entry" "check_entry" sCheckEntry f fd) (GIsBetween : FnOk P w K mg base CX0 2 g gd ["value", "low", "high"] spBetween) (AIsBetween : At K mg "is_between" g gd ["value", "low", "high"]) : FnOk P w K mg base CX0 3 f fd ["size", "entry"] spCheckEntry := by
  refine F.ok scCheckEntry (fun vs H Q E h => ?_) (fun cdv A outer s H vs Q E hr h => ?_)
  · obtain ⟨i, _, rfl, _⟩ := h
    rfl
  obtain ⟨n, e, rfl, h1, h2, q⟩ := h
  refine ⟨_, (pss_one (ps_if (pt_not (pt_val (pe_call GIsBetween (hr.mono (by decide)) rfl AIsBetween.m AIsBetween.kp AIsBetween.b .nil pass0 (pa_cons (pv 1) (pa_cons pe_int (pa_cons (pe_op op_sub (pv 0) pe_int) pa_nil))))))
    (pss_one ps_never)
    pss_nil)), ?_⟩
  refine ⟨_, rfl, _, rfl, _, _, rfl, rfl, e, 0, n - 1, rfl, _, rfl, ?_⟩
  rw [decide_eq_true h1, decide_eq_true (show e ≤ n - 1 by omega)]
  exact q
end
end LT

namespace LT
open PySem PySem.Spec PyProof.Rows L2
theorem bits_nat (k : Nat) : Builtin.Int.intBits (k : Int) = if k = 0 then 0 else k.log2 + 1 := by
  unfold Builtin.Int.intBits
  by_cases h : k = 0
  · subst h; rfl
  · rw [if_neg h, if_neg (by simpa using h)]
    rfl
theorem bits_lb {m : Nat} (h : 1 ≤ m) : Builtin.Int.intBits ((m - 1 : Nat) : Int) = lb m := by
  rw [bits_nat]
  unfold lb
  by_cases k : m ≤ 1
  · rw [if_pos k, if_pos (by omega)]
  · rw [if_neg k, if_neg (by omega)]
theorem lb100 {m : Nat} (h : m ≤ 10 ^ 30) : lb m ≤ 100 := lb_le (Nat.le_trans h (by decide))
theorem fmod_of_dvd {a b : Nat} (h : a ∣ b) : Int.fmod (b : Int) (a : Int) = 0 := by
  rw [Int.fmod_eq_emod_of_nonneg _ (Int.natCast_nonneg _)]
  exact Int.emod_eq_zero_of_dvd (Int.natCast_dvd_natCast.mpr h)
end LT

namespace LT
open PySem PySem.Spec PyProof.Rows L2
section
variable {P : Program} {w : World} {K : PySem.W.Frag} {mg : Str → Option Value} {base : Heap}
def spTree : Sp := fun vs H Q _ => ∃ (n b m : Nat) (v : V), vs = [.int n, v] ∧ Nd H v (b, b + m) ∧ 1 ≤ m ∧ b + m ≤ n ∧ n ≤ 10 ^ 30 ∧ tree n b m ∧ Q (.bl true) H
theorem ok_is_tree_node {f g : Addr} {fd gd : FuncData} (F : Fun K "is_tree_node" "is_tree_node" sIsTreeNode f fd) (GIsBetween : FnOk P w K mg base CX0 2 g gd ["value", "low", "high"] spBetween) (AIsBetween : At K mg "is_between" g gd ["value", "low", "high"])
    (z_isinstance : mg "isinstance" = none) (z_tuple : mg "tuple" = none) (z_len : mg "len" = none) : FnOk P w K mg base CX0 3 f fd ["size", "value"] spTree := by
  refine F.ok scIsTreeNode (fun vs H Q E h => ?_) (fun cdv A outer s H vs Q E hr h => ?_)
  · obtain ⟨_, _, _, _, rfl, _⟩ := h
    rfl
  obtain ⟨n, b, m, v, rfl, ⟨p, rfl, hp⟩, hm, hn, h30, ht, q⟩ := h
  refine ⟨_, (pss_cons (ps_if (PW.pt (pw_or (pt_not (pt_val (pe_callB call_isi (by rfl) z_isinstance (by decide +kernel) (pa_cons (pv 1) (pa_cons (pe_bltn (v := .ty "tuple") (u := .type "tuple") (by rfl) z_tuple (by decide +kernel) rfl) pa_nil))))) (pw_or1 (pt_cmpR op_ne (pe_callB call_len_seq (by rfl) z_len PySem.boot_len (pa_cons (pv 1) pa_nil)) pe_int (nomark _)))))
    (pss_one (ps_ret pe_bl))
    pss_nil)
    (pss_cons (ps_asg (pv 1) (pg_tup (by rfl) (pgs_cons (pg_name (i := 2) scIsTreeNode.nd rfl (Or.inl rfl)) (pgs_cons (pg_name (i := 3) scIsTreeNode.nd rfl (Or.inl rfl)) pgs_nil))))
    (pss_cons (ps_if (PW.pt (pw_or (pt_not (pt_val (pe_call GIsBetween (hr.mono (by decide)) rfl AIsBetween.m AIsBetween.kp AIsBetween.b .nil pass0 (pa_cons (pv 2) (pa_cons pe_int (pa_cons (pe_op op_sub (pv 0) pe_int) pa_nil)))))) (pw_or1 (pt_not (pt_val (pe_call GIsBetween (hr.mono (by decide)) rfl AIsBetween.m AIsBetween.kp AIsBetween.b .nil pass0 (pa_cons (pv 3) (pa_cons (pe_op op_add (pv 2) pe_int) (pa_cons (pv 0) pa_nil)))))))))
    (pss_one (ps_ret pe_bl))
    pss_nil)
    (pss_cons (ps_set (i := 4) scIsTreeNode.nd rfl (Or.inl rfl) (pe_op op_shl pe_int (pe_bits (pe_op op_sub (pe_op op_sub (pv 3) (pv 2)) pe_int))))
    (pss_one (ps_ret (pe_and (pe_cmpR op_eq (pe_op op_modN (pv 2) (pv 4)) pe_int (nomark _)) (pe_one (pe_or (pe_cmpR op_eq (pe_op op_sub (pv 3) (pv 2)) (pv 4) (nomark _)) (pe_one (pe_cmpR op_eq (pv 3) (pv 0) (nomark _)))))))))))), ?_⟩
  refine ⟨_, rfl, _, _, _, _, true, rfl, .ty "tuple", .base (.tup hp), kit_ty (by decide +kernel), true, rfl, ?_⟩
  refine ⟨_, rfl, p, _, rfl, .inr (SqT.of hp), rfl, false, rfl, ?_⟩
  refine ⟨_, rfl, p, _, rfl, SqT.of hp, rfl, _, _, rfl, _, _, rfl, rfl, ?_⟩
  refine ⟨_, rfl, _, rfl, _, _, rfl, rfl, _, _, _, rfl, true, ?_, ?_⟩
  · exact congrArg V.bl (by rw [Bool.and_eq_true]; exact ⟨decide_eq_true (by omega), decide_eq_true (by show (b : Int) ≤ n - 1; omega)⟩)
  refine ⟨_, rfl, _, rfl, _, _, rfl, rfl, _, rfl, _, _, _, rfl, true, ?_, ?_⟩
  · exact congrArg V.bl (by rw [Bool.and_eq_true]; exact ⟨decide_eq_true (by show (b : Int) + 1 ≤ ((b + m : Nat) : Int); omega), decide_eq_true (by show ((b + m : Nat) : Int) ≤ n; omega)⟩)
  have e1 : ((b + m : Nat) : Int) - (b : Int) - 1 = ((m - 1 : Nat) : Int) := by omega
  refine ⟨_, rfl, _, rfl, _, _, rfl, rfl, _, _, rfl, rfl, _, rfl, ?_⟩
  dsimp only
  rw [e1, bits_lb hm]
  have l100 := lb100 (show m ≤ 10 ^ 30 by omega)
  refine ⟨_, _, rfl, rfl, ⟨Int.natCast_nonneg _, by omega, by decide⟩, ?_⟩
  have e2 : (1 : Int) * 2 ^ ((lb m : Nat) : Int).toNat = ((2 ^ lb m : Nat) : Int) := by rw [Int.one_mul, Int.toNat_natCast]; exact (Int.natCast_pow 2 (lb m)).symm
  dsimp only
  rw [e2]
  obtain ⟨d, k⟩ := ht
  have pz : 0 < 2 ^ lb m := Nat.pow_pos (by decide)
  generalize 2 ^ lb m = R at d k pz
  refine ⟨_, rfl, _, rfl, _, _, rfl, rfl, by omega, rfl, true, ?_, ?_⟩
  · show V.bl (decide (V.int (Int.fmod (b : Int) (R : Int)) = V.int 0)) = V.bl true
    rw [fmod_of_dvd d, decide_eq_true rfl]
  refine ⟨_, rfl, _, rfl, _, _, rfl, rfl, _, rfl, rfl, _, rfl, ite2 (fun c => q) (fun c => ?_)⟩
  have c1 : ¬ V.int (((b + m : Nat) : Int) - (b : Int)) = V.int (R : Int) := of_decide_eq_false (Bool.eq_false_iff.mpr c)
  refine ⟨_, rfl, _, rfl, rfl, ?_⟩
  have e4 : b + m = n := by
    rcases k with k | k
    · exact absurd (congrArg V.int (by omega)) c1
    · exact k
  show Q (V.bl (decide (V.int ((b + m : Nat) : Int) = V.int (n : Int)))) H
  rw [decide_eq_true (by rw [e4])]
  exact q
def spCheckNode : Sp := fun vs H Q _ => ∃ (n b m : Nat) (v : V), vs = [.int n, v] ∧ Nd H v (b, b + m) ∧ 1 ≤ m ∧ b + m ≤ n ∧ n ≤ 10 ^ 30 ∧ tree n b m ∧ Q .non H
theorem ok_check_node {f g : Addr} {fd gd : FuncData} (F : Fun K "check_node" "check_node" sCheckNode f fd) (GIsTreeNode : FnOk P w K mg base CX0 3 g gd ["size", "value"] spTree) (AIsTreeNode : At K mg "is_tree_node" g gd ["size", "value"]) : FnOk P w K mg base CX0 4 f fd ["size", "node"] spCheckNode := by
  refine F.ok scCheckNode (fun vs H Q E h => ?_) (fun cdv A outer s H vs Q E hr h => ?_)
  · obtain ⟨_, _, _, _, rfl, _⟩ := h
    rfl
  obtain ⟨n, b, m, v, rfl, hv, hm, hn, h30, ht, q⟩ := h
  refine ⟨_, (pss_one (ps_if (pt_not (pt_val (pe_call GIsTreeNode (hr.mono (by decide)) rfl AIsTreeNode.m AIsTreeNode.kp AIsTreeNode.b .nil pass0 (pa_cons (pv 0) (pa_cons (pv 1) pa_nil)))))
    (pss_one ps_never)
    pss_nil)), ?_⟩
  refine ⟨_, rfl, _, rfl, n, b, m, v, rfl, hv, hm, hn, h30, ht, true, rfl, q⟩
end
end LT

namespace LT
open PySem PySem.Spec PyProof.Rows L2
section
variable {P : Program} {w : World} {K : PySem.W.Frag} {mg : Str → Option Value} {base : Heap}
def spCheckNumber : Sp := fun vs H Q _ => ∃ n : Int, vs = [.int n] ∧ Q .non H
theorem ok_check_number {f g : Addr} {fd gd : FuncData} (F : Fun K "check_number" "check_number" sCheckNumber f fd) (GIsWhole : FnOk P w K mg base CX0 1 g gd ["value"] spWhole) (AIsWhole : At K mg "is_whole" g gd ["value"]) : FnOk P w K mg base CX0 2 f fd ["number"] spCheckNumber := by
  refine F.ok scCheckNumber (fun vs H Q E h => ?_) (fun cdv A outer s H vs Q E hr h => ?_)
  · obtain ⟨_, rfl, _⟩ := h
    rfl
  obtain ⟨n, rfl, q⟩ := h
  refine ⟨_, (pss_one (ps_if (pt_not (pt_val (pe_call GIsWhole (hr.mono (by decide)) rfl AIsWhole.m AIsWhole.kp AIsWhole.b .nil pass0 (pa_cons (pv 0) pa_nil))))
    (pss_one ps_never)
    pss_nil)), ?_⟩
  exact ⟨_, rfl, n, rfl, true, rfl, q⟩
end
end LT

namespace LT
open PySem PySem.Spec PyProof.Rows L2
section
variable {P : Program} {w : World} {K : PySem.W.Frag} {mg : Str → Option Value} {base : Heap}
def spPower : Sp := fun vs H Q _ => ∃ (k : Nat), vs = [.int k] ∧ 1 ≤ k ∧ k ≤ 10 ^ 30 ∧ Q (.int ((2 ^ k.log2 : Nat) : Int)) H
theorem ok_power_within {f : Addr} {fd : FuncData} (F : Fun K "power_within" "power_within" sPowerWithin f fd) : FnOk P w K mg base CX0 1 f fd ["number"] spPower := by
  refine F.ok scPowerWithin (fun vs H Q E h => ?_) (fun cdv A outer s H vs Q E hr h => ?_)
  · obtain ⟨_, rfl, _⟩ := h
    rfl
  obtain ⟨k, rfl, h1, h30, q⟩ := h
  refine ⟨_, (pss_one (ps_ret (pe_op op_shl pe_int (pe_op op_sub (pe_bits (pv 0)) pe_int)))), ?_⟩
  refine ⟨_, rfl, _, rfl, _, _, rfl, rfl, ?_⟩
  dsimp only
  have e : ((Builtin.Int.intBits (k : Int) : Nat) : Int) - 1 = ((k.log2 : Nat) : Int) := by
    rw [bits_nat, if_neg (by omega)]
    omega
  rw [e]
  have l100 : k.log2 < 100 := (Nat.log2_lt (by omega)).mpr (Nat.lt_of_le_of_lt h30 (by decide))
  refine ⟨_, _, rfl, rfl, ⟨Int.natCast_nonneg _, by omega, by decide⟩, ?_⟩
  have e2 : (1 : Int) * 2 ^ ((k.log2 : Nat) : Int).toNat = ((2 ^ k.log2 : Nat) : Int) := by rw [Int.one_mul, Int.toNat_natCast]; exact (Int.natCast_pow 2 _).symm
  show Q (.int ((1 : Int) * 2 ^ ((k.log2 : Nat) : Int).toNat)) H
  rw [e2]
  exact q
end
end LT

namespace LT
open PySem PySem.Spec PyProof.Rows L2
section
variable {P : Program} {w : World} {K : PySem.W.Frag} {mg : Str → Option Value} {base : Heap}
def spHalves : Sp := fun vs H Q _ => ∃ (n b m : Nat) (v : V), vs = [.int n, v] ∧ Nd H v (b, b + m) ∧ 2 ≤ m ∧ b + m ≤ n ∧ n ≤ 10 ^ 30 ∧ tree n b m ∧
  ∀ (H' : Hp) (q : Addr) (l h : V), Same H H' → H q = none → H' q = some (.tup [l, h]) → Nd H' l (b, b + gp m) → Nd H' h (b + gp m, b + m) → Q (.ref q) H'
theorem ok_halves {f g1 g2 g3 : Addr} {fd d1 d2 d3 : FuncData} (F : Fun K "halves" "halves" sHalves f fd) (GCheckSize : FnOk P w K mg base CX0 3 g1 d1 ["size"] spCheckSize) (ACheckSize : At K mg "check_size" g1 d1 ["size"])
    (GCheckNode : FnOk P w K mg base CX0 4 g2 d2 ["size", "node"] spCheckNode) (ACheckNode : At K mg "check_node" g2 d2 ["size", "node"]) (GPowerWithin : FnOk P w K mg base CX0 1 g3 d3 ["number"] spPower) (APowerWithin : At K mg "power_within" g3 d3 ["number"]) :
    FnOk P w K mg base CX0 5 f fd ["size", "node"] spHalves := by
  refine F.ok scHalves (fun vs H Q E h => ?_) (fun cdv A outer s H vs Q E hr h => ?_)
  · obtain ⟨_, _, _, _, rfl, _⟩ := h
    rfl
  obtain ⟨n, b, m, v, rfl, hv, hm, hn, h30, ht, q⟩ := h
  refine ⟨_, (pss_cons (ps_expr (pe_call GCheckSize (hr.mono (by decide)) rfl ACheckSize.m ACheckSize.kp ACheckSize.b .nil pass0 (pa_cons (pv 0) pa_nil)))
    (pss_cons (ps_expr (pe_call GCheckNode (hr.mono (by decide)) rfl ACheckNode.m ACheckNode.kp ACheckNode.b .nil pass0 (pa_cons (pv 0) (pa_cons (pv 1) pa_nil))))
    (pss_cons (ps_asg (pv 1) (pg_tup (by rfl) (pgs_cons (pg_name (i := 2) scHalves.nd rfl (Or.inl rfl)) (pgs_cons (pg_name (i := 3) scHalves.nd rfl (Or.inl rfl)) pgs_nil))))
    (pss_cons (ps_if (pt_cmpR op_eq (pe_op op_sub (pv 3) (pv 2)) pe_int (nomark _))
    (pss_one (ps_ret pe_non))
    pss_nil)
    (pss_cons (ps_set (i := 4) scHalves.nd rfl (Or.inl rfl) (pe_op op_add (pv 2) (pe_call GPowerWithin (hr.mono (by decide)) rfl APowerWithin.m APowerWithin.kp APowerWithin.b .nil pass0 (pa_cons (pe_op op_sub (pe_op op_sub (pv 3) (pv 2)) pe_int) pa_nil))))
    (pss_one (ps_ret (pe_tup (pa_cons (pe_tup (pa_cons (pv 2) (pa_cons (pv 4) pa_nil))) (pa_cons (pe_tup (pa_cons (pv 4) (pa_cons (pv 3) pa_nil))) pa_nil)))))))))), ?_⟩
  refine ⟨_, rfl, n, rfl, by omega, by omega, ?_⟩
  refine ⟨_, rfl, _, rfl, n, b, m, v, rfl, hv, by omega, hn, h30, ht, ?_⟩
  obtain ⟨p, rfl, hp⟩ := id hv
  refine ⟨_, rfl, p, _, rfl, SqT.of hp, rfl, _, _, rfl, _, _, rfl, rfl, ?_⟩
  refine ⟨_, rfl, _, rfl, _, _, rfl, rfl, rfl, _, rfl, ite2 (fun c => ?_) (fun _ => ?_)⟩
  · have c1 : V.int (((b + m : Nat) : Int) - (b : Int)) = V.int 1 := of_decide_eq_true c
    have := V.int.inj c1
    omega
  have e1 : ((b + m : Nat) : Int) - (b : Int) - 1 = ((m - 1 : Nat) : Int) := by omega
  refine ⟨_, rfl, _, rfl, _, rfl, _, _, rfl, rfl, _, _, rfl, rfl, m - 1, congrArg (fun z => [V.int z]) e1, by omega, by omega, _, _, rfl, rfl, ?_⟩
  have e2 : (b : Int) + ((2 ^ (m - 1).log2 : Nat) : Int) = ((b + gp m : Nat) : Int) := by unfold gp; omega
  have two : 2 ≤ sizeLine := by decide
  refine ⟨_, rfl, _, rfl, two, fun t1 n1 => ⟨_, rfl, _, rfl, two, fun t2 n2 => ⟨two, fun t3 n3 => ?_⟩⟩⟩
  dsimp only
  have s1 := same_upd (o := .tup [.int (b : Int), .int ((b : Int) + ((2 ^ (m - 1).log2 : Nat) : Int))]) n1
  have s2 := same_upd (o := .tup [.int ((b : Int) + ((2 ^ (m - 1).log2 : Nat) : Int)), .int ((b + m : Nat) : Int)]) n2
  have s3 := same_upd (o := .tup [.ref t1, .ref t2]) n3
  refine q _ t3 (.ref t1) (.ref t2) (s1.trans (s2.trans s3)) ((s1.trans s2).free n3) upd_same ⟨t1, rfl, s3 _ _ (s2 _ _ ?_)⟩ ⟨t2, rfl, s3 _ _ ?_⟩
  · rw [upd_same]
    dsimp only
    rw [e2]
  · rw [upd_same]
    dsimp only
    rw [e2]
def spPath : Sp := fun vs H Q _ => ∃ (n e : Nat), vs = [.int n, .int e] ∧ e < n ∧ n ≤ 10 ^ 30 ∧
  ∀ (H' : Hp) (p : Addr) (xs : List V), Same H H' → H p = none → H' p = some (.lst xs) → All2 (Nd H') xs (sib 0 n e).reverse → Q (.ref p) H'
theorem ok_path {f g1 g2 g3 : Addr} {fd d1 d2 d3 : FuncData} (F : Fun K "path" "path" sPath f fd) (GCheckSize : FnOk P w K mg base CX0 3 g1 d1 ["size"] spCheckSize) (ACheckSize : At K mg "check_size" g1 d1 ["size"])
    (GCheckEntry : FnOk P w K mg base CX0 3 g2 d2 ["size", "entry"] spCheckEntry) (ACheckEntry : At K mg "check_entry" g2 d2 ["size", "entry"]) (GHalves : FnOk P w K mg base CX0 5 g3 d3 ["size", "node"] spHalves) (AHalves : At K mg "halves" g3 d3 ["size", "node"]) :
    FnOk P w K mg base CX0 6 f fd ["size", "entry"] spPath := by
  refine F.ok scPath (fun vs H Q E h => ?_) (fun cdv A outer s H vs Q E hr h => ?_)
  · obtain ⟨_, _, rfl, _⟩ := h
    rfl
  obtain ⟨n, e, rfl, he, h30, q⟩ := h
  refine ⟨_, (pss_cons (ps_expr (pe_call GCheckSize (hr.mono (by decide)) rfl ACheckSize.m ACheckSize.kp ACheckSize.b .nil pass0 (pa_cons (pv 0) pa_nil)))
    (pss_cons (ps_expr (pe_call GCheckEntry (hr.mono (by decide)) rfl ACheckEntry.m ACheckEntry.kp ACheckEntry.b .nil pass0 (pa_cons (pv 0) (pa_cons (pv 1) pa_nil))))
    (pss_cons (ps_set (i := 2) scPath.nd rfl (Or.inl rfl) (pe_lst pa_nil))
    (pss_cons (ps_set (i := 3) scPath.nd rfl (Or.inl rfl) (pe_tup (pa_cons pe_int (pa_cons (pv 0) pa_nil))))
    (pss_cons (ps_while PassesOwn.never (pt_cmpR (op_neD hr.units) (pv 3) (pe_tup (pa_cons (pv 1) (pa_cons (pe_op op_add (pv 1) pe_int) pa_nil))) (nomark _))
    (pss_cons (ps_asg (pe_call GHalves (hr.mono (by decide)) rfl AHalves.m AHalves.kp AHalves.b .nil pass0 (pa_cons (pv 0) (pa_cons (pv 3) pa_nil))) (pg_tup (by rfl) (pgs_cons (pg_name (i := 4) scPath.nd rfl (Or.inl rfl)) (pgs_cons (pg_name (i := 5) scPath.nd rfl (Or.inl rfl)) pgs_nil))))
    (pss_one (ps_if (pt_cmpR op_lt (pv 1) (pe_ix ix_tup (pv 4) pe_int (fun _ _ => rfl)) (nomark _))
    (pss_cons (ps_set (i := 3) scPath.nd rfl (Or.inl rfl) (pv 4))
    (pss_one (ps_expr (pe_bm PySem.F.plainAttrs_list PySem.F.slot_list_append PySem.F.type_list_append mt_append (pv 2) (pa_cons (pv 5) pa_nil)))))
    (pss_cons (ps_set (i := 3) scPath.nd rfl (Or.inl rfl) (pv 5))
    (pss_one (ps_expr (pe_bm PySem.F.plainAttrs_list PySem.F.slot_list_append PySem.F.type_list_append mt_append (pv 2) (pa_cons (pv 4) pa_nil)))))))))
    (pss_one (ps_ret (pe_revL (pv 2))))))))), ?_⟩
  refine ⟨_, rfl, n, rfl, by omega, by omega, ?_⟩
  refine ⟨_, rfl, _, rfl, n, e, rfl, by omega, by omega, ?_⟩
  have two : 2 ≤ sizeLine := by decide
  refine ⟨Nat.zero_le _, fun sb nsb => ?_⟩
  have z1 := same_upd (o := .lst []) nsb
  refine ⟨_, rfl, two, fun t0 n0 => ?_⟩
  have z2 := same_upd (o := .tup [.int 0, .int (n : Int)]) n0
  refine ⟨fun mu σ H' => ∃ (b : Nat) (nv : V) (v4 v5 : Option V) (xs : List V) (done : List (Nat × Nat)), σ = [some (.int n), some (.int e), some (.ref sb), some nv, v4, v5] ∧ Same H H' ∧ H' sb = some (.lst xs) ∧ All2 (Nd H') xs done ∧
      Nd H' nv (b, b + mu) ∧ 1 ≤ mu ∧ b ≤ e ∧ e < b + mu ∧ b + mu ≤ n ∧ tree n b mu ∧ done ++ sib b mu e = sib 0 n e,
    ⟨n, 0, .ref t0, none, none, [], [], rfl, z1.trans z2, z2 _ _ upd_same, .nil, ⟨t0, rfl, by rw [upd_same]; simp⟩, by omega, by omega, by omega, by omega, tree_root n, rfl⟩, ?_⟩
  rintro m σ H1 ⟨b, nv, v4, v5, xs, done, rfl, sm, hs, hx, hv, hm, hb, hb2, hn, ht, hd⟩
  refine ⟨_, rfl, _, rfl, _, rfl, _, _, rfl, rfl, two, fun t nt => ?_⟩
  have s1 := same_upd (o := .tup [.int (e : Int), .int ((e : Int) + 1)]) nt
  refine ⟨_, _, (hv.same s1).dp, .tup (SqT.of upd_same) (.cons (.int _) (.cons (.int _) .nil)), nd_shaped _ _, nd_shaped _ _, ?_⟩
  rw [nd_eqv]
  have hlen : done.length ≤ 100 := by
    have k1 := sib_len_le n 0 e (Nat.zero_le _) (by omega)
    have k2 := lb100 h30
    have k3 := congrArg List.length hd
    rw [List.length_append] at k3
    omega
  have hs1 : (upd H1 t (.tup [.int (e : Int), .int ((e : Int) + 1)])) sb = some (.lst xs) := s1 _ _ hs
  have hx1 := hx.mono (fun v x (k : Nd H1 v x) => k.same s1)
  have hv1 := hv.same s1
  have sm1 := sm.trans s1
  generalize upd H1 t (.tup [.int (e : Int), .int ((e : Int) + 1)]) = H2 at hs1 hx1 hv1 sm1
  by_cases h1 : m = 1
  · refine ⟨false, ?_, iteF ?_⟩
    · subst h1
      have : b = e := by omega
      subst this
      simp
    · subst h1
      rw [sib_one (by omega), List.append_nil] at hd
      refine ⟨_, rfl, sb, xs, rfl, SqL.of hs1, fun p np => ?_⟩
      have s3 := same_upd (o := .lst xs.reverse) np
      refine q _ p xs.reverse (sm1.trans s3) (sm1.free np) upd_same ?_
      rw [← hd]
      exact (hx1.mono (fun v x (k : Nd H2 v x) => k.same s3)).rev
  · refine ⟨true, ?_, iteT ⟨fun σ' H' => ∃ mu, mu < m ∧ ∃ (b : Nat) (nv : V) (v4 v5 : Option V) (xs : List V) (done : List (Nat × Nat)), σ' = [some (.int n), some (.int e), some (.ref sb), some nv, v4, v5] ∧ Same H H' ∧ H' sb = some (.lst xs) ∧ All2 (Nd H') xs done ∧
      Nd H' nv (b, b + mu) ∧ 1 ≤ mu ∧ b ≤ e ∧ e < b + mu ∧ b + mu ≤ n ∧ tree n b mu ∧ done ++ sib b mu e = sib 0 n e, fun σ' H' h => h, ?_⟩⟩
    · refine congrArg V.bl ?_
      rw [Bool.not_eq_true', Bool.and_eq_false_iff]
      by_cases c : b = e
      · right
        exact decide_eq_false (by show ¬ ((b + m : Nat) : Int) = (e : Int) + 1; omega)
      · left
        exact decide_eq_false (by show ¬ (b : Int) = (e : Int); omega)
    have hm2 : 2 ≤ m := by omega
    have gl := gp_lt hm2
    have gg := gp_pos m
    refine ⟨_, rfl, _, rfl, n, b, m, nv, rfl, hv1, hm2, hn, h30, ht, fun H3 qa l h s3 nqa hqa hl hh => ?_⟩
    refine ⟨qa, _, rfl, SqT.of hqa, rfl, _, _, rfl, _, _, rfl, rfl, ?_⟩
    obtain ⟨lp, rfl, hlp⟩ := id hl
    refine ⟨_, rfl, _, rfl, lp, _, _, _, rfl, rfl, SqT.of hlp, (atI_nat (j := 1) rfl), _, _, rfl, rfl, _, rfl, ite2 (fun c => ?_) (fun c => ?_)⟩
    · have c1 : (e : Int) < ((b + gp m : Nat) : Int) := of_decide_eq_true c
      have hs3 := s3 _ _ hs1
      refine ⟨_, rfl, ?_⟩
      refine ⟨_, rfl, .inl ⟨rfl, _, SqL.of hs3⟩, _, rfl, sb, _, _, rfl, rfl, hs3, szlt (by rw [hx.len]; omega), ?_⟩
      refine ⟨gp m, gl, b, _, _, _, xs ++ [h], done ++ [(b + gp m, b + m)], rfl, ?_, upd_same, ?_, hl.upd hs3, by omega, hb, by omega, by omega, tree_low hm2 ht, ?_⟩
      · exact fun a o k => by rw [upd_ne (ne_of_none k nsb)]; exact s3 _ _ (sm1 _ _ k)
      · exact (hx1.mono (fun v x (k : Nd H2 v x) => (k.same s3).upd hs3)).app (.cons (hh.upd hs3) .nil)
      · rw [sib_low hm2 (by omega)] at hd
        rw [← hd, List.append_assoc]
        rfl
    · have c1 : ¬ (e : Int) < ((b + gp m : Nat) : Int) := of_decide_eq_false (Bool.eq_false_iff.mpr c)
      have hs3 := s3 _ _ hs1
      refine ⟨_, rfl, ?_⟩
      refine ⟨_, rfl, .inl ⟨rfl, _, SqL.of hs3⟩, _, rfl, sb, _, _, rfl, rfl, hs3, szlt (by rw [hx.len]; omega), ?_⟩
      have e5 : b + gp m + (m - gp m) = b + m := by omega
      refine ⟨m - gp m, by omega, b + gp m, _, _, _, xs ++ [.ref lp], done ++ [(b, b + gp m)], rfl, ?_, upd_same, ?_, by rw [e5]; exact hh.upd hs3, by omega, by omega, by omega, by omega, tree_high hm2 ht, ?_⟩
      · exact fun a o k => by rw [upd_ne (ne_of_none k nsb)]; exact s3 _ _ (sm1 _ _ k)
      · exact (hx1.mono (fun v x (k : Nd H2 v x) => (k.same s3).upd hs3)).app (.cons (hl.upd hs3) .nil)
      · rw [sib_high hm2 (by omega)] at hd
        rw [← hd, List.append_assoc]
        rfl
def spDepth : Sp := fun vs H Q _ => ∃ (n e : Nat), vs = [.int n, .int e] ∧ e < n ∧ n ≤ 10 ^ 30 ∧ ∀ (H' : Hp), Same H H' → Q (.int (((sib 0 n e).length : Nat) : Int)) H'
theorem ok_depth {f g1 : Addr} {fd d1 : FuncData} (F : Fun K "depth" "depth" sDepth f fd) (GPath : FnOk P w K mg base CX0 6 g1 d1 ["size", "entry"] spPath) (APath : At K mg "path" g1 d1 ["size", "entry"]) (z_len : mg "len" = none) :
    FnOk P w K mg base CX0 7 f fd ["size", "entry"] spDepth := by
  refine F.ok scDepth (fun vs H Q E h => ?_) (fun cdv A outer s H vs Q E hr h => ?_)
  · obtain ⟨_, _, rfl, _⟩ := h
    rfl
  obtain ⟨n, e, rfl, he, h30, q⟩ := h
  refine ⟨_, (pss_one (ps_ret (pe_callB call_len_seq (by rfl) z_len PySem.boot_len (pa_cons (pe_call GPath (hr.mono (by decide)) rfl APath.m APath.kp APath.b .nil pass0 (pa_cons (pv 0) (pa_cons (pv 1) pa_nil))) pa_nil)))), ?_⟩
  refine ⟨_, rfl, _, rfl, n, e, rfl, he, h30, fun H' p xs sm np hp hx => ⟨p, xs, rfl, .inl (SqL.of hp), ?_⟩⟩
  have k := hx.len
  rw [List.length_reverse] at k
  rw [k]
  exact q H' sm
end
end LT

namespace LT
open PySem PySem.Spec PyProof.Rows L2
section
variable {P : Program} {w : World} {K : PySem.W.Frag} {mg : Str → Option Value} {base : Heap}
def spBag : Sp := fun vs H Q _ => ∃ c : Int, vs = [.int c] ∧ ∀ (H' : Hp) (p : Addr), Same H H' → H p = none → BagAt H' p → Q (.ref p) H'
theorem ok_law_bag {f : Addr} {fd : FuncData} (F : Fun K "_law_bag" "_law_bag" sLawBag f fd) (z_max : mg "max" = none) : FnOk P w K mg base CX0 1 f fd ["cell"] spBag := by
  refine F.ok scLawBag (fun vs H Q E h => ?_) (fun cdv A outer s H vs Q E hr h => ?_)
  · obtain ⟨_, rfl, _⟩ := h
    rfl
  obtain ⟨c, rfl, q⟩ := h
  refine ⟨_, (pss_one (ps_ret (pe_lst (pa_cons (pe_callB (call_max2 rfl) (by rfl) z_max (by decide +kernel) (pa_cons pe_int (pa_cons (pe_op op_sub (pv 0) (pe_op op_pow pe_int pe_int)) pa_nil))) (pa_cons (pv 0) (pa_cons pe_int pa_nil)))))), ?_⟩
  refine ⟨_, rfl, _, _, rfl, rfl, ⟨by decide, by decide, by decide⟩, _, _, rfl, rfl, _, _, rfl, _, rfl, (by show 3 ≤ sizeLine; decide), fun p np => ?_⟩
  exact q _ p (same_upd np) np ⟨_, _, _, upd_same⟩
theorem fm0 (x : Int) {m : Int} (h : 0 < m) : 0 ≤ x.fmod m := by
  rw [Int.fmod_eq_emod_of_nonneg _ (by omega)]
  exact Int.emod_nonneg _ (by omega)
theorem fm1 (x : Int) {m : Int} (h : 0 < m) : x.fmod m < m := by
  rw [Int.fmod_eq_emod_of_nonneg _ (by omega)]
  exact Int.emod_lt_of_pos _ h
def spPick : Sp := fun vs H Q _ => ∃ (b : Addr) (many : Int), vs = [.ref b, .int many] ∧ 0 < many ∧ many.natAbs < 2 ^ 250 ∧ BagAt H b ∧
  ∀ (r : Int) (H' : Hp), 0 ≤ r → r < many → (∀ a, a ≠ b → H' a = H a) → BagAt H' b → Q (.int r) H'
theorem ok_law_pick {f : Addr} {fd : FuncData} (F : Fun K "_law_pick" "_law_pick" sLawPick f fd) (z_int : mg "int" = none) : FnOk P w K mg base CX0 1 f fd ["bag", "many"] spPick := by
  refine F.ok scLawPick (fun vs H Q E h => ?_) (fun cdv A outer s H vs Q E hr h => ?_)
  · obtain ⟨_, _, rfl, _⟩ := h
    rfl
  obtain ⟨b, many, rfl, hm, hm2, ⟨x, y, z, h0⟩, q⟩ := h
  refine ⟨_, (pss_cons (ps_asg (pe_op op_add (pe_ix ix_list (pv 0) pe_int (fun _ _ => rfl)) pe_int) (pg_sub (pv 0) pe_int set_list))
    (pss_cons (ps_if (pt_cmpR op_gt (pe_ix ix_list (pv 0) pe_int (fun _ _ => rfl)) pe_int (nomark _))
    (pss_cons (ps_set (i := 2) scLawPick.nd rfl (Or.inl rfl) (pe_op op_modN (pe_callTy call_int1 (by rfl) z_int (by decide +kernel) (pa_cons (pe_ix ix_list (pv 0) pe_int (fun _ _ => rfl)) pa_nil)) (pv 1)))
    (pss_cons (ps_asg (pe_op op_fdivW (pe_callTy call_int1 (by rfl) z_int (by decide +kernel) (pa_cons (pe_ix ix_list (pv 0) pe_int (fun _ _ => rfl)) pa_nil)) (pv 1)) (pg_sub (pv 0) pe_int set_list))
    (pss_one (ps_ret (pv 2)))))
    pss_nil)
    (pss_cons (ps_par (i := 3) (j := 4) (by rfl) scLawPick.nd rfl rfl (by decide) rfl rfl (pa_cons (pe_callTy call_int1 (by rfl) z_int (by decide +kernel) (pa_cons (pe_ix ix_list (pv 0) pe_int (fun _ _ => rfl)) pa_nil)) (pa_cons (pe_callTy call_int1 (by rfl) z_int (by decide +kernel) (pa_cons (pe_ix ix_list (pv 0) pe_int (fun _ _ => rfl)) pa_nil)) pa_nil)) (by rfl))
    (pss_cons (ps_set (i := 5) scLawPick.nd rfl (Or.inl rfl) (pe_op op_modN (pe_callTy call_int1 (by rfl) z_int (by decide +kernel) (pa_cons (pe_op op_add (pe_op op_add (pe_op op_mul (pe_op op_modN (pv 3) pe_int) pe_int) (pe_op op_mul (pv 4) pe_int)) pe_int) pa_nil)) pe_int))
    (pss_cons (ps_set (i := 6) scLawPick.nd rfl (Or.inl rfl) (pe_op op_modN (pe_callTy call_int1 (by rfl) z_int (by decide +kernel) (pa_cons (pe_op op_add (pe_op op_mul (pv 5) (pv 5)) (pe_op op_mul (pv 4) pe_int)) pa_nil)) pe_int))
    (pss_cons (ps_set (i := 7) scLawPick.nd rfl (Or.inl rfl) (pe_op op_fdivW (pe_callTy call_int1 (by rfl) z_int (by decide +kernel) (pa_cons (pe_op op_add (pe_op op_mul (pv 5) pe_int) (pv 6)) pa_nil)) pe_int))
    (pss_cons (ps_if (pt_cmpR op_gt (pv 1) (pe_op op_pow pe_int pe_int) (nomark _))
    (pss_one (ps_set (i := 7) scLawPick.nd rfl (Or.inl rfl) (pe_op op_add (pe_op op_pow (pv 7) pe_int) (pv 6))))
    pss_nil)
    (pss_one (ps_ret (pe_op op_modN (pe_callTy call_int1 (by rfl) z_int (by decide +kernel) (pa_cons (pv 7) pa_nil)) (pv 1))))))))))), ?_⟩
  refine ⟨_, rfl, b, _, _, _, rfl, rfl, SqL.of h0, atI_nat (j := 2) rfl, _, _, rfl, rfl, _, rfl, b, _, _, 2, rfl, rfl, h0, rfl, ?_⟩
  dsimp only
  have h1 : (upd H b (.lst ([.int x, .int y, .int z].set 2 (.int (z + 1))))) b = some (.lst [.int x, .int y, .int (z + 1)]) := upd_same
  have k1 : ∀ a, a ≠ b → (upd H b (.lst ([.int x, .int y, .int z].set 2 (.int (z + 1))))) a = H a := fun a ha => upd_ne ha
  generalize upd H b (.lst ([.int x, .int y, .int z].set 2 (.int (z + 1)))) = H1 at h1 k1
  refine ⟨_, rfl, b, _, _, _, rfl, rfl, SqL.of h1, atI_nat (j := 0) rfl, _, _, rfl, rfl, _, rfl, ite2 (fun c => ?_) (fun c => ?_)⟩
  · refine ⟨_, rfl, b, _, _, _, rfl, rfl, SqL.of h1, atI_nat (j := 0) rfl, .inl ⟨_, rfl, _, rfl, _, _, rfl, rfl, by omega, ?_⟩⟩
    refine ⟨_, rfl, b, _, _, _, rfl, rfl, SqL.of h1, atI_nat (j := 0) rfl, .inl ⟨_, rfl, _, rfl, _, _, rfl, rfl, wide_div hm hm2 (by decide) (by decide), _, rfl, b, _, _, 0, rfl, rfl, h1, rfl, ?_⟩⟩
    refine ⟨_, rfl, ?_⟩
    exact q _ _ (fm0 x hm) (fm1 x hm) (fun a ha => by rw [upd_ne ha]; exact k1 a ha) ⟨_, _, _, upd_same⟩
  · refine ⟨_, rfl, b, _, _, _, rfl, rfl, SqL.of h1, atI_nat (j := 1) rfl, .inl ⟨_, rfl, _, rfl, b, _, _, _, rfl, rfl, SqL.of h1, atI_nat (j := 2) rfl, .inl ⟨_, rfl, _, _, rfl, ?_⟩⟩⟩
    refine ⟨_, rfl, _, _, rfl, rfl, (by show (2147483629 : Int) ≠ 0; decide), _, _, rfl, rfl, .inr ⟨by decide, by decide⟩, _, rfl, _, _, rfl, rfl, .inr ⟨by decide, by decide⟩, _, _, rfl, rfl, _, _, rfl, rfl, .inl ⟨_, rfl, _, _, rfl, rfl, (by show (2147483647 : Int) ≠ 0; decide), ?_⟩⟩
    dsimp only
    have a0 := fm0 (y.fmod 2147483629 * 48271 + (z + 1) * 69621 + 12345) (m := 2147483647) (by decide)
    have a1 := fm1 (y.fmod 2147483629 * 48271 + (z + 1) * 69621 + 12345) (m := 2147483647) (by decide)
    generalize (y.fmod 2147483629 * 48271 + (z + 1) * 69621 + 12345).fmod 2147483647 = fi at a0 a1
    refine ⟨_, rfl, _, rfl, _, _, rfl, rfl, .inl ⟨by omega, by omega⟩, _, rfl, _, _, rfl, rfl, .inr ⟨by decide, by decide⟩, _, _, rfl, rfl, .inl ⟨_, rfl, _, _, rfl, rfl, (by show (2147483587 : Int) ≠ 0; decide), ?_⟩⟩
    dsimp only
    have b0 := fm0 (fi * fi + (z + 1) * 40692) (m := 2147483587) (by decide)
    have b1 := fm1 (fi * fi + (z + 1) * 40692) (m := 2147483587) (by decide)
    generalize (fi * fi + (z + 1) * 40692).fmod 2147483587 = se at b0 b1
    refine ⟨_, rfl, _, _, rfl, rfl, .inl ⟨by omega, by omega⟩, _, rfl, _, _, rfl, rfl, .inl ⟨_, rfl, _, _, rfl, rfl, wide_div (b := 6) (by decide) (by decide) (by decide) (by decide), ?_⟩⟩
    dsimp only
    have c0 : 0 ≤ (fi * 2147483587 + se) / 32 := by omega
    have c1 : (fi * 2147483587 + se) / 32 < 2 ^ 62 := by omega
    generalize (fi * 2147483587 + se) / 32 = dr at c0 c1
    refine ⟨_, rfl, _, _, rfl, rfl, ⟨by decide, by decide, by decide⟩, _, _, rfl, rfl, _, rfl, ite2 (fun c => ?_) (fun c => ?_)⟩
    · refine ⟨_, rfl, _, _, rfl, rfl, ⟨by decide, by decide, by omega⟩, _, rfl, _, _, rfl, rfl, ?_⟩
      refine ⟨_, rfl, .inl ⟨_, rfl, _, rfl, _, _, rfl, rfl, by omega, ?_⟩⟩
      exact q _ _ (fm0 _ hm) (fm1 _ hm) k1 ⟨_, _, _, h1⟩
    · refine ⟨_, rfl, .inl ⟨_, rfl, _, rfl, _, _, rfl, rfl, by omega, ?_⟩⟩
      exact q _ _ (fm0 _ hm) (fm1 _ hm) k1 ⟨_, _, _, h1⟩
end
end LT

namespace LT
open PySem PySem.Spec PyProof.Rows L2
section
variable {P : Program} {w : World} {K : PySem.W.Frag} {mg : Str → Option Value} {base : Heap}
/-! ### walking an enumerate -/
theorem for_enum {a : Addr} {xs : List V} {g : TG} {tb : TS} {D : Ends} {σ : L2.St} {H : Hp} (Pv : Nat → L2.St → Hp → Prop) (h0 : Pv 0 σ H) (hl : ∀ i σ H, i ≤ xs.length → Pv i σ H → SqL K H a xs)
    (hs : ∀ i x σ H T, xs[i]? = some x → Pv i σ H → H T = none → g (.ref T) σ (upd H T (.tup [.int (i : Nat), x])) fun σ2 H2 => tb { D with nx := Pv (i + 1), ct := Pv (i + 1), bk := D.nx } σ2 H2) (hd : ∀ σ H, Pv xs.length σ H → D.nx σ H) :
    ∃ W : Nat → Nat → L2.St → Hp → Prop, (∃ m, W 0 m σ H) ∧ ∀ i m σ H, W i m σ H →
      ((Ite K a).stop i H ∧ D.nx σ H) ∨ ((Ite K a).go i H ∧ ∃ N : L2.St → Hp → Prop, (∀ σ' H', N σ' H' → ∃ m', m' < m ∧ W (i + 1) m' σ' H') ∧ ∀ x H', (Ite K a).yld i H x H' → g x σ H' fun σ2 H2 => tb { D with nx := N, ct := N, bk := D.nx } σ2 H2) := by
  refine ⟨fun i m σ H => m = xs.length - i ∧ i ≤ xs.length ∧ Pv i σ H, ⟨xs.length, by simp, Nat.zero_le _, h0⟩, ?_⟩
  rintro i m σ H ⟨rfl, hi, p⟩
  have q := hl i σ H hi p
  by_cases hlt : i < xs.length
  · refine .inr ⟨⟨xs, xs[i], q, by simp [hlt]⟩, Pv (i + 1), fun σ' H' p' => ⟨xs.length - (i + 1), by omega, rfl, hlt, p'⟩, fun x H' y => ?_⟩
    obtain ⟨T, x1, rfl, nT, rfl, f⟩ := y
    exact hs i x1 σ H T (f xs q) p nT
  · have e : i = xs.length := by omega
    subst e
    exact .inl ⟨⟨xs, q, Nat.le_refl _⟩, hd σ H p⟩
end
end LT

namespace LT
open PySem PySem.Spec PyProof.Rows L2
theorem log2_is {r h : Nat} (h1 : 2 ^ h ≤ r) (h2 : r < 2 ^ (h + 1)) : r.log2 = h := (Nat.log2_eq_iff (by have := Nat.pow_pos (a := 2) (n := h) (by decide); omega)).mpr ⟨h1, h2⟩
theorem pk_step : ∀ (i n b : Nat), n % 2 ^ i ≠ 0 → ∃ h, h < i ∧ pk i n b = (b, h) :: pk h n (b + 2 ^ h) ∧ n % 2 ^ i = 2 ^ h + n % 2 ^ h
  | 0, n, b, hr => by simp [Nat.mod_one] at hr
  | i + 1, n, b, hr => by
    rw [mod_succ] at hr
    by_cases t : n.testBit i = true
    · refine ⟨i, Nat.lt_succ_self i, ?_, by rw [mod_succ, if_pos t]⟩
      show (if n.testBit i = true then _ else _) = _
      rw [if_pos t]
    · rw [if_neg t, Nat.zero_add] at hr
      obtain ⟨h, h1, h2, h3⟩ := pk_step i n b hr
      refine ⟨h, by omega, ?_, by rw [mod_succ, if_neg t, Nat.zero_add]; exact h3⟩
      show (if n.testBit i = true then _ else _) = _
      rw [if_neg t]
      exact h2
section
variable {P : Program} {w : World} {K : PySem.W.Frag} {mg : Str → Option Value} {base : Heap}
def spTops : Sp := fun vs H Q _ => ∃ (n : Nat), vs = [.int n] ∧ 1 ≤ n ∧ n ≤ 10 ^ 30 ∧ ∀ (H' : Hp) (p : Addr) (xs : List V), Same H H' → H p = none → H' p = some (.lst xs) → All2 (Nd H') xs ((pk 101 n 0).map full) → Q (.ref p) H'
theorem ok_peaks {f g1 g2 : Addr} {fd d1 d2 : FuncData} (F : Fun K "peaks" "peaks" sPeaks f fd) (GCheckSize : FnOk P w K mg base CX0 3 g1 d1 ["size"] spCheckSize) (ACheckSize : At K mg "check_size" g1 d1 ["size"])
    (GPowerWithin : FnOk P w K mg base CX0 1 g2 d2 ["number"] spPower) (APowerWithin : At K mg "power_within" g2 d2 ["number"]) : FnOk P w K mg base CX0 4 f fd ["size"] spTops := by
  refine F.ok scPeaks (fun vs H Q E h => ?_) (fun cdv A outer s H vs Q E hr h => ?_)
  · obtain ⟨_, rfl, _⟩ := h
    rfl
  obtain ⟨n, rfl, h1, h30, q⟩ := h
  refine ⟨_, (pss_cons (ps_expr (pe_call GCheckSize (hr.mono (by decide)) rfl ACheckSize.m ACheckSize.kp ACheckSize.b .nil pass0 (pa_cons (pv 0) pa_nil)))
    (pss_cons (ps_set (i := 1) scPeaks.nd rfl (Or.inl rfl) (pe_lst pa_nil))
    (pss_cons (ps_set (i := 2) scPeaks.nd rfl (Or.inl rfl) pe_int)
    (pss_cons (ps_while PassesOwn.never (pt_cmpR op_lt (pv 2) (pv 0) (nomark _))
    (pss_cons (ps_set (i := 3) scPeaks.nd rfl (Or.inl rfl) (pe_op op_add (pv 2) (pe_call GPowerWithin (hr.mono (by decide)) rfl APowerWithin.m APowerWithin.kp APowerWithin.b .nil pass0 (pa_cons (pe_op op_sub (pv 0) (pv 2)) pa_nil))))
    (pss_cons (ps_expr (pe_bm PySem.F.plainAttrs_list PySem.F.slot_list_append PySem.F.type_list_append mt_append (pv 1) (pa_cons (pe_tup (pa_cons (pv 2) (pa_cons (pv 3) pa_nil))) pa_nil)))
    (pss_one (ps_set (i := 2) scPeaks.nd rfl (Or.inl rfl) (pv 3))))))
    (pss_one (ps_ret (pv 1))))))), ?_⟩
  refine ⟨_, rfl, n, rfl, by omega, by omega, ?_⟩
  refine ⟨Nat.zero_le _, fun fa nf => ?_⟩
  have nm : n % 2 ^ 101 = n := Nat.mod_eq_of_lt (Nat.lt_of_le_of_lt h30 (by decide))
  refine ⟨fun mu σ H' => ∃ (i b : Nat) (v3 : Option V) (xs : List V) (done : List (Nat × Nat)), σ = [some (.int n), some (.ref fa), some (.int b), v3] ∧ Same H H' ∧ H' fa = some (.lst xs) ∧ All2 (Nd H') xs (done.map full) ∧ done ++ pk i n b = pk 101 n 0 ∧ b + n % 2 ^ i = n ∧ mu = n - b,
    ⟨n, 101, 0, none, [], [], rfl, same_upd nf, upd_same, .nil, rfl, by omega, by omega⟩, ?_⟩
  rintro m σ H1 ⟨i, b, v3, xs, done, rfl, sm, hf, hx, hd, hb, rfl⟩
  refine ⟨_, rfl, _, rfl, _, _, rfl, rfl, _, rfl, ite2 (fun c => ?_) (fun c => ?_)⟩
  · have c1 : (b : Int) < (n : Int) := of_decide_eq_true c
    obtain ⟨h, hi, hp, hm⟩ := pk_step i n b (by omega)
    have ph := Nat.pow_pos (a := 2) (n := h) (by decide)
    have lh : (n - b).log2 = h := log2_is (by omega) (by have := Nat.mod_lt n ph; rw [Nat.pow_succ]; omega)
    have dl : done.length ≤ 101 := by
      have k1 := congrArg List.length hd
      rw [List.length_append] at k1
      have k2 := pk_len 101 n 0
      omega
    refine ⟨fun σ' H' => ∃ mu, mu < n - b ∧ ∃ (i b : Nat) (v3 : Option V) (xs : List V) (done : List (Nat × Nat)), σ' = [some (.int n), some (.ref fa), some (.int b), v3] ∧ Same H H' ∧ H' fa = some (.lst xs) ∧ All2 (Nd H') xs (done.map full) ∧ done ++ pk i n b = pk 101 n 0 ∧ b + n % 2 ^ i = n ∧ mu = n - b, fun σ' H' h => h, ?_⟩
    have e1 : (n : Int) - (b : Int) = ((n - b : Nat) : Int) := by omega
    refine ⟨_, rfl, _, rfl, _, rfl, _, _, rfl, rfl, n - b, congrArg (fun z => [V.int z]) e1, by omega, by omega, _, _, rfl, rfl, ?_⟩
    have e2 : (b : Int) + ((2 ^ (n - b).log2 : Nat) : Int) = ((b + 2 ^ h : Nat) : Int) := by rw [lh]; omega
    dsimp only
    rw [e2]
    refine ⟨_, rfl, .inl ⟨rfl, _, SqL.of hf⟩, _, rfl, _, rfl, (by show 2 ≤ sizeLine; decide), fun t nt => ?_⟩
    have s1 := same_upd (o := .tup [.int (b : Int), .int ((b + 2 ^ h : Nat) : Int)]) nt
    have hf1 := s1 _ _ hf
    refine ⟨fa, _, _, rfl, rfl, hf1, szlt (by rw [hx.len, List.length_map]; omega), ?_⟩
    refine ⟨_, rfl, ?_⟩
    refine ⟨n - (b + 2 ^ h), by omega, h, b + 2 ^ h, _, xs ++ [.ref t], done ++ [(b, h)], rfl, ?_, upd_same, ?_, ?_, by omega, rfl⟩
    · exact fun a o k => by rw [upd_ne (ne_of_none k nf)]; exact s1 _ _ (sm _ _ k)
    · rw [List.map_append]
      refine (hx.mono (fun v x (k : Nd H1 v x) => (k.same s1).upd hf1)).app (.cons ?_ .nil)
      exact Nd.upd (x := full (b, h)) ⟨t, rfl, upd_same⟩ hf1
    · rw [← hd, hp, List.append_assoc]
      rfl
  · have c1 : ¬ (b : Int) < (n : Int) := of_decide_eq_false (Bool.eq_false_iff.mpr c)
    rw [pk_nil i n b (by omega), List.append_nil] at hd
    rw [hd] at hx
    exact ⟨_, rfl, q H1 fa xs sm nf hf hx⟩
end
end LT

namespace LT
open PySem PySem.Spec PyProof.Rows L2
/-- three ints -/
def Tr (H : Hp) (v : V) (x : Nat × Nat × Nat) : Prop := ∃ p, v = .ref p ∧ H p = some (.tup [.int x.1, .int x.2.1, .int x.2.2])
theorem Tr.same {H H' : Hp} {v : V} {x : Nat × Nat × Nat} (h : Tr H v x) (s : Same H H') : Tr H' v x := by
  obtain ⟨p, e, q⟩ := h
  exact ⟨p, e, s _ _ q⟩
theorem Tr.upd {H : Hp} {v : V} {x : Nat × Nat × Nat} {s : Addr} {xs : List V} {o : HO} (h : Tr H v x) (hs : H s = some (.lst xs)) : Tr (upd H s o) v x := by
  obtain ⟨p, e, q⟩ := h
  exact ⟨p, e, by rw [upd_ne (ne_of q hs (by intro z; cases z))]; exact q⟩
theorem lev_len (t : Nat) : ∀ (l : List (Nat × Nat)) (s : Nat), (lev t s l).length = l.length
  | [], _ => rfl
  | x :: r, s => by
    show (lev t (s + 1) r).length + 1 = r.length + 1
    rw [lev_len t r (s + 1)]
theorem lev_app (t : Nat) : ∀ (l r : List (Nat × Nat)) (s : Nat), lev t s (l ++ r) = lev t s l ++ lev t (s + l.length) r
  | [], r, s => rfl
  | x :: l, r, s => by
    show _ :: lev t (s + 1) (l ++ r) = _ :: (lev t (s + 1) l ++ lev t (s + (l.length + 1)) r)
    rw [lev_app t l r (s + 1), show s + 1 + l.length = s + (l.length + 1) by omega]
end LT

namespace LT
open PySem PySem.Spec PyProof.Rows L2
/-- the parts of a stretch within the rows -/
def db (b e : Nat) (T : List (Nat × Nat × Nat)) : List (Nat × Nat) := (T.filter fun x => decide (max b x.1 < min e x.2.1)).map fun x => (min e x.2.1 - max b x.1, x.2.2)
def total (b e : Nat) (T : List (Nat × Nat × Nat)) : Nat := ((db b e T).map fun p => p.1 * p.2).sum
theorem db_len (b e : Nat) (T : List (Nat × Nat × Nat)) : (db b e T).length ≤ T.length := by
  unfold db
  rw [List.length_map]
  exact List.length_filter_le _ _
theorem db_more {b e i : Nat} {T : List (Nat × Nat × Nat)} {y : Nat × Nat × Nat} (h : T[i]? = some y) : db b e (T.take (i + 1)) = db b e (T.take i) ++ (if max b y.1 < min e y.2.1 then [(min e y.2.1 - max b y.1, y.2.2)] else []) := by
  rw [take_more h]
  unfold db
  rw [List.filter_append, List.map_append, List.filter_cons, List.filter_nil]
  by_cases c : max b y.1 < min e y.2.1
  · rw [if_pos (decide_eq_true c), if_pos c]; rfl
  · rw [if_neg (by simpa using c), if_neg c]; rfl
theorem sum_cast : ∀ l : List Nat, (l.map fun x => ((x : Nat) : Int)).sum = ((l.sum : Nat) : Int)
  | [] => rfl
  | x :: l => by
    rw [List.map_cons, List.sum_cons, List.sum_cons, sum_cast l]
    omega
theorem lev_deep (t : Nat) : ∀ (l : List (Nat × Nat)) (s : Nat) (x : Nat × Nat × Nat), x ∈ lev t s l → (∀ y ∈ l, y.2 ≤ 100) → t ≤ 101 → x.2.2 ≤ 201
  | [], _, _, h, _, _ => by simp [lev] at h
  | y :: r, s, x, h, hl, ht => by
    have h' : x ∈ (y.1, y.1 + 2 ^ y.2, y.2 + min (s + 1) (t - 1)) :: lev t (s + 1) r := h
    rcases List.mem_cons.mp h' with h | h
    · subst h
      have := hl y List.mem_cons_self
      simp only []
      omega
    · exact lev_deep t r (s + 1) x h (fun z hz => hl z (List.mem_cons_of_mem _ hz)) ht
theorem rows_deep (n : Nat) (x : Nat × Nat × Nat) (h : x ∈ lev (pk 101 n 0).length 0 (pk 101 n 0)) : x.2.2 ≤ 201 :=
  lev_deep _ _ _ x h (fun y hy => by have := (pk_begin 101 n 0 y hy).2; omega) (pk_len 101 n 0)
theorem db_deep {b e n : Nat} (p : Nat × Nat) (h : p ∈ db b e (lev (pk 101 n 0).length 0 (pk 101 n 0))) : p.2 ≤ 201 := by
  unfold db at h
  obtain ⟨x, h1, h2⟩ := List.mem_map.mp h
  have := rows_deep n x (List.mem_filter.mp h1).1
  rw [← h2]
  exact this
theorem rows_len (n : Nat) : (lev (pk 101 n 0).length 0 (pk 101 n 0)).length ≤ 101 := by
  rw [lev_len]
  exact pk_len 101 n 0
theorem min_castA (a c : Nat) : (if ((c : Nat) : Int) < (a : Int) then (c : Int) else (a : Int)) = ((min a c : Nat) : Int) := by split <;> omega
theorem max_castA (a c : Nat) : (if ((c : Nat) : Int) > (a : Int) then (c : Int) else (a : Int)) = ((max a c : Nat) : Int) := by split <;> omega
section
variable {P : Program} {w : World} {K : PySem.W.Frag} {mg : Str → Option Value} {base : Heap}
def spCheckSpan : Sp := fun vs H Q _ => ∃ n b e : Nat, vs = [.int n, .int b, .int e] ∧ b < e ∧ e ≤ n ∧ Q .non H
theorem ok_check_span {f g : Addr} {fd gd : FuncData} (F : Fun K "check_span" "check_span" sCheckSpan f fd) (GIsBetween : FnOk P w K mg base CX0 2 g gd ["value", "low", "high"] spBetween) (AIsBetween : At K mg "is_between" g gd ["value", "low", "high"]) : FnOk P w K mg base CX0 3 f fd ["size", "begin", "end"] spCheckSpan := by
  refine F.ok scCheckSpan (fun vs H Q E h => ?_) (fun cdv A outer s H vs Q E hr h => ?_)
  · obtain ⟨_, _, _, rfl, _⟩ := h
    rfl
  obtain ⟨n, b, e, rfl, h1, h2, q⟩ := h
  refine ⟨_, (pss_cons (ps_if (pt_not (pt_val (pe_call GIsBetween (hr.mono (by decide)) rfl AIsBetween.m AIsBetween.kp AIsBetween.b .nil pass0 (pa_cons (pv 1) (pa_cons pe_int (pa_cons (pe_op op_sub (pv 0) pe_int) pa_nil))))))
    (pss_one ps_never)
    pss_nil)
    (pss_one (ps_if (pt_not (pt_val (pe_call GIsBetween (hr.mono (by decide)) rfl AIsBetween.m AIsBetween.kp AIsBetween.b .nil pass0 (pa_cons (pv 2) (pa_cons (pe_op op_add (pv 1) pe_int) (pa_cons (pv 0) pa_nil))))))
    (pss_one ps_never)
    pss_nil))), ?_⟩
  refine ⟨_, rfl, _, rfl, _, _, rfl, rfl, _, _, _, rfl, true, ?_, ?_⟩
  · exact congrArg V.bl (by rw [Bool.and_eq_true]; exact ⟨decide_eq_true (by omega), decide_eq_true (by show (b : Int) ≤ n - 1; omega)⟩)
  refine ⟨_, rfl, _, rfl, _, _, rfl, rfl, _, rfl, _, _, _, rfl, true, ?_, ?_⟩
  · exact congrArg V.bl (by rw [Bool.and_eq_true]; exact ⟨decide_eq_true (by show (b : Int) + 1 ≤ (e : Int); omega), decide_eq_true (by show (e : Int) ≤ n; omega)⟩)
  exact q
def spRows : Sp := fun vs H Q _ => ∃ (n : Nat), vs = [.int n] ∧ 1 ≤ n ∧ n ≤ 10 ^ 30 ∧ ∀ (H' : Hp) (p : Addr) (xs : List V), Same H H' → H p = none → H' p = some (.lst xs) → All2 (Tr H') xs (lev (pk 101 n 0).length 0 (pk 101 n 0)) → Q (.ref p) H'
theorem ok_peak_depths {f g1 : Addr} {fd d1 : FuncData} (F : Fun K "_peak_depths" "_peak_depths" sPeakDepths f fd) (GPeaks : FnOk P w K mg base CX0 4 g1 d1 ["size"] spTops) (APeaks : At K mg "peaks" g1 d1 ["size"])
    (z_min : mg "min" = none) (z_enumerate : mg "enumerate" = none) (z_len : mg "len" = none) : FnOk P w K mg base CX0 5 f fd ["size"] spRows := by
  refine F.ok scPeakDepths (fun vs H Q E h => ?_) (fun cdv A outer s H vs Q E hr h => ?_)
  · obtain ⟨_, rfl, _⟩ := h
    rfl
  obtain ⟨n, rfl, h1, h30, q⟩ := h
  refine ⟨_, (pss_cons (ps_set (i := 1) scPeakDepths.nd rfl (Or.inl rfl) (pe_call GPeaks (hr.mono (by decide)) rfl APeaks.m APeaks.kp APeaks.b .nil pass0 (pa_cons (pv 0) pa_nil)))
    (pss_cons (ps_set (i := 2) scPeakDepths.nd rfl (Or.inl rfl) (pe_lst pa_nil))
    (pss_cons (ps_for PassesOwn.never rfl (pi_enum (by rfl) z_enumerate (pa_cons (pv 1) pa_nil)) (pg_tup (by rfl) (pgs_cons (pg_name (i := 3) scPeakDepths.nd rfl (Or.inl rfl)) (pgs_cons (pg_tup (by rfl) (pgs_cons (pg_name (i := 4) scPeakDepths.nd rfl (Or.inl rfl)) (pgs_cons (pg_name (i := 5) scPeakDepths.nd rfl (Or.inl rfl)) pgs_nil))) pgs_nil)))
    (pss_cons (ps_set (i := 6) scPeakDepths.nd rfl (Or.inl rfl) (pe_callB (call_min2 rfl) (by rfl) z_min (by decide +kernel) (pa_cons (pe_op op_add (pv 3) pe_int) (pa_cons (pe_op op_sub (pe_callB call_len_seq (by rfl) z_len PySem.boot_len (pa_cons (pv 1) pa_nil)) pe_int) pa_nil))))
    (pss_one (ps_expr (pe_bm PySem.F.plainAttrs_list PySem.F.slot_list_append PySem.F.type_list_append mt_append (pv 2) (pa_cons (pe_tup (pa_cons (pv 4) (pa_cons (pv 5) (pa_cons (pe_op op_sub (pe_op op_add (pv 6) (pe_bits (pe_op op_sub (pv 5) (pv 4)))) pe_int) pa_nil)))) pa_nil))))))
    (pss_one (ps_ret (pv 2)))))), ?_⟩
  refine ⟨_, rfl, n, rfl, h1, h30, fun H1 pa xs sm0 npa hpa hxs => ?_⟩
  refine ⟨Nat.zero_le _, fun fa nf => ?_⟩
  have nf0 : H fa = none := sm0.free nf
  have sf := same_upd (o := .lst []) nf
  refine ⟨_, rfl, pa, xs, rfl, sf.seq (SqL.of hpa), ?_⟩
  have L101 := pk_len 101 n 0
  have pkb : ∀ x ∈ pk 101 n 0, x.2 ≤ 100 := fun x hx => by have := (pk_begin 101 n 0 x hx).2; omega
  generalize pk 101 n 0 = L at q hxs L101 pkb
  refine for_enum (a := pa) (xs := xs) (fun i σ H' => ∃ (v3 v4 v5 v6 : Option V) (ys : List V), σ = [some (.int n), some (.ref pa), some (.ref fa), v3, v4, v5, v6] ∧ Same H1 H' ∧ H' fa = some (.lst ys) ∧ All2 (Tr H') ys (lev L.length 0 (L.take i)))
    ⟨none, none, none, none, [], rfl, sf, upd_same, .nil⟩ (fun i σ H' _ ⟨_, _, _, _, _, _, sm, _⟩ => SqL.of (sm _ _ hpa)) ?_ ?_
  · rintro i x σ H2 T hi ⟨v3, v4, v5, v6, ys, rfl, sm, hf, hy⟩ nT
    obtain ⟨⟨b, h⟩, hbh, hnd⟩ : ∃ y : Nat × Nat, L[i]? = some y ∧ Nd H1 x (full y) := by
      obtain ⟨y, e1, e2⟩ := hxs.nth hi
      rw [List.getElem?_map] at e1
      cases e3 : L[i]? with
      | none => rw [e3] at e1; cases e1
      | some z => rw [e3] at e1; exact ⟨z, rfl, by rw [show full z = y from Option.some.inj e1]; exact e2⟩
    have hh : h ≤ 100 := pkb _ (List.mem_of_getElem? hbh)
    obtain ⟨p, rfl, hp⟩ := hnd
    have sT := same_upd (o := .tup [.int ((i : Nat) : Int), .ref p]) nT
    refine ⟨T, _, rfl, SqT.of upd_same, rfl, _, _, rfl, _, _, rfl, p, _, rfl, SqT.of (sT _ _ (sm _ _ hp)), rfl, _, _, rfl, _, _, rfl, rfl, rfl, ?_⟩
    have hpa3 := sT _ _ (sm _ _ hpa)
    have hf3 := sT _ _ hf
    have hy3 := hy.mono (fun v x (k : Tr H2 v x) => k.same sT)
    have sm3 := sm.trans sT
    generalize upd H2 T (.tup [.int ((i : Nat) : Int), .ref p]) = H3 at hpa3 hf3 hy3 sm3
    have xl : xs.length = L.length := by rw [hxs.len, List.length_map]
    have il : i < L.length := (List.getElem?_eq_some_iff.mp hbh).1
    refine ⟨_, rfl, _, _, rfl, rfl, _, rfl, pa, _, rfl, .inl (SqL.of hpa3), _, _, rfl, rfl, _, _, rfl, ?_⟩
    have e6 : (if ((xs.length : Nat) : Int) - 1 < (i : Int) + 1 then ((xs.length : Nat) : Int) - 1 else (i : Int) + 1) = ((min (i + 1) (L.length - 1) : Nat) : Int) := by
      rw [xl]
      split <;> omega
    dsimp only
    rw [e6]
    refine ⟨_, rfl, .inl ⟨rfl, _, SqL.of hf3⟩, _, rfl, _, rfl, _, rfl, _, rfl, _, rfl, _, _, rfl, rfl, _, rfl, _, _, rfl, rfl, _, _, rfl, rfl, (by show 3 ≤ sizeLine; decide), fun t nt => ?_⟩
    have e7 : ((b + 2 ^ h : Nat) : Int) - (b : Int) = ((2 ^ h : Nat) : Int) := by omega
    have e8 : ((min (i + 1) (L.length - 1) : Nat) : Int) + ((Builtin.Int.intBits (((b + 2 ^ h : Nat) : Int) - (b : Int)) : Nat) : Int) - 1 = ((h + min (i + 1) (L.length - 1) : Nat) : Int) := by
      have ph := Nat.pow_pos (a := 2) (n := h) (by decide)
      rw [e7, bits_nat, if_neg (by omega), log2_is (Nat.le_refl _) (by rw [Nat.pow_succ]; omega)]
      omega
    dsimp only
    have e8' : ((min (i + 1) (L.length - 1) : Nat) : Int) + ((Builtin.Int.intBits (((full (b, h)).2 : Int) - ((full (b, h)).1 : Int)) : Nat) : Int) - 1 = ((h + min (i + 1) (L.length - 1) : Nat) : Int) := e8
    rw [e8']
    have st := same_upd (o := .tup [.int ((full (b, h)).1 : Int), .int ((full (b, h)).2 : Int), .int ((h + min (i + 1) (L.length - 1) : Nat) : Int)]) nt
    have hf5 := st _ _ hf3
    have hlen : (lev L.length 0 (L.take i)).length ≤ 101 := by rw [lev_len, List.length_take]; omega
    refine ⟨fa, _, _, rfl, rfl, hf5, szlt (by rw [hy.len]; omega), ?_⟩
    refine ⟨_, _, _, _, ys ++ [.ref t], rfl, ?_, upd_same, ?_⟩
    · exact fun a o k => by rw [upd_ne (ne_of_none k nf)]; exact st _ _ (sm3 _ _ k)
    · rw [take_more hbh, lev_app]
      refine (hy3.mono (fun v x (k : Tr H3 v x) => (k.same st).upd hf5)).app (.cons ?_ .nil)
      have e9 : 0 + (L.take i).length = i := by rw [List.length_take]; omega
      rw [e9]
      exact Tr.upd (x := (b, b + 2 ^ h, h + min (i + 1) (L.length - 1))) ⟨t, rfl, upd_same⟩ hf5
  · rintro σ H2 ⟨v3, v4, v5, v6, ys, rfl, sm, hf, hy⟩
    have e : L.take xs.length = L := List.take_of_length_le (by rw [hxs.len, List.length_map]; exact Nat.le_refl _)
    rw [e] at hy
    exact ⟨_, rfl, q H2 fa ys (sm0.trans sm) nf0 hf hy⟩
def spBetweenRows : Sp := fun vs H Q _ => ∃ (n b e : Nat), vs = [.int n, .int b, .int e] ∧ 1 ≤ n ∧ n ≤ 10 ^ 30 ∧ ∀ (H' : Hp) (p : Addr) (xs : List V), Same H H' → H p = none → H' p = some (.lst xs) → All2 (Nd H') xs (db b e (lev (pk 101 n 0).length 0 (pk 101 n 0))) → Q (.ref p) H'
theorem ok_depths_between {f g1 : Addr} {fd d1 : FuncData} (F : Fun K "_depths_between" "_depths_between" sDepthsBetween f fd) (GPeakDepths : FnOk P w K mg base CX0 5 g1 d1 ["size"] spRows) (APeakDepths : At K mg "_peak_depths" g1 d1 ["size"])
    (z_min : mg "min" = none) (z_max : mg "max" = none) : FnOk P w K mg base CX0 6 f fd ["size", "begin", "end"] spBetweenRows := by
  refine F.ok scDepthsBetween (fun vs H Q E h => ?_) (fun cdv A outer s H vs Q E hr h => ?_)
  · obtain ⟨_, _, _, rfl, _⟩ := h
    rfl
  obtain ⟨n, b, e, rfl, h1, h30, q⟩ := h
  refine ⟨_, (pss_cons (ps_set (i := 3) scDepthsBetween.nd rfl (Or.inl rfl) (pe_lst pa_nil))
    (pss_cons (ps_for PassesOwn.never rfl (pi_list (pe_call GPeakDepths (hr.mono (by decide)) rfl APeakDepths.m APeakDepths.kp APeakDepths.b .nil pass0 (pa_cons (pv 0) pa_nil))) (pg_tup (by rfl) (pgs_cons (pg_name (i := 4) scDepthsBetween.nd rfl (Or.inl rfl)) (pgs_cons (pg_name (i := 5) scDepthsBetween.nd rfl (Or.inl rfl)) (pgs_cons (pg_name (i := 6) scDepthsBetween.nd rfl (Or.inl rfl)) pgs_nil))))
    (pss_cons (ps_set (i := 7) scDepthsBetween.nd rfl (Or.inl rfl) (pe_op op_sub (pe_callB (call_min2 rfl) (by rfl) z_min (by decide +kernel) (pa_cons (pv 2) (pa_cons (pv 5) pa_nil))) (pe_callB (call_max2 rfl) (by rfl) z_max (by decide +kernel) (pa_cons (pv 1) (pa_cons (pv 4) pa_nil)))))
    (pss_one (ps_if (pt_cmpR op_gt (pv 7) pe_int (nomark _))
    (pss_one (ps_expr (pe_bm PySem.F.plainAttrs_list PySem.F.slot_list_append PySem.F.type_list_append mt_append (pv 3) (pa_cons (pe_tup (pa_cons (pv 7) (pa_cons (pv 6) pa_nil))) pa_nil))))
    pss_nil))))
    (pss_one (ps_ret (pv 3))))), ?_⟩
  refine ⟨Nat.zero_le _, fun fa nf => ?_⟩
  have sf := same_upd (o := .lst []) nf
  refine ⟨_, rfl, n, rfl, h1, h30, fun H1 pa xs sm0 npa hpa hxs => ?_⟩
  have T101 := rows_len n
  generalize lev (pk 101 n 0).length 0 (pk 101 n 0) = T at q hxs T101
  refine ⟨pa, rfl, ⟨_, SqL.of hpa⟩, for_list (K := K) (a := pa) (xs := xs) (fun i σ H' => ∃ (v4 v5 v6 v7 : Option V) (ys : List V), σ = [some (.int n), some (.int b), some (.int e), some (.ref fa), v4, v5, v6, v7] ∧ (∀ a o, a ≠ fa → H1 a = some o → H' a = some o) ∧ H' fa = some (.lst ys) ∧ All2 (Nd H') ys (db b e (T.take i)))
    ⟨none, none, none, none, [], rfl, fun a o _ k => k, sm0 _ _ upd_same, .nil⟩ (fun i σ H' _ ⟨_, _, _, _, _, _, sm, _⟩ => SqL.of (sm _ _ (fun z => by rw [z, upd_same] at npa; cases npa) hpa)) ?_ ?_⟩
  · rintro i x σ H2 hi ⟨v4, v5, v6, v7, ys, rfl, sm, hf, hy⟩
    obtain ⟨y, hyT, p, rfl, hp⟩ := hxs.nth hi
    have pf : p ≠ fa := fun z => by
      have k := sm0 _ _ (upd_same (H := H) (a := fa) (o := .lst []))
      rw [← z, hp] at k
      cases k
    have hp2 := sm _ _ pf hp
    have hdl : (db b e (T.take i)).length ≤ 101 := Nat.le_trans (db_len _ _ _) (by rw [List.length_take]; omega)
    refine ⟨p, _, rfl, SqT.of hp2, rfl, _, _, rfl, _, _, rfl, _, _, rfl, rfl, ?_⟩
    refine ⟨_, rfl, _, rfl, _, _, rfl, _, rfl, _, rfl, _, _, rfl, _, _, rfl, rfl, ?_⟩
    dsimp only
    rw [min_castA, max_castA]
    refine ⟨_, rfl, _, _, rfl, rfl, _, rfl, ite2 (fun c => ?_) (fun c => ?_)⟩
    · have c1 : ((min e y.2.1 : Nat) : Int) - ((max b y.1 : Nat) : Int) > 0 := of_decide_eq_true c
      have e1 : ((min e y.2.1 : Nat) : Int) - ((max b y.1 : Nat) : Int) = ((min e y.2.1 - max b y.1 : Nat) : Int) := by omega
      rw [e1]
      refine ⟨_, rfl, .inl ⟨rfl, _, SqL.of hf⟩, _, rfl, _, rfl, (by show 2 ≤ sizeLine; decide), fun t nt => ?_⟩
      have st := same_upd (o := .tup [.int ((min e y.2.1 - max b y.1 : Nat) : Int), .int (y.2.2 : Int)]) nt
      have hf5 := st _ _ hf
      refine ⟨fa, _, _, rfl, rfl, hf5, szlt (by rw [hy.len]; omega), ?_⟩
      refine ⟨_, _, _, _, ys ++ [.ref t], rfl, ?_, upd_same, ?_⟩
      · exact fun a o n k => by rw [upd_ne n]; exact st _ _ (sm _ _ n k)
      · rw [db_more hyT, if_pos (by omega)]
        refine (hy.mono (fun v x (k : Nd H2 v x) => (k.same st).upd hf5)).app (.cons ?_ .nil)
        exact Nd.upd (x := (min e y.2.1 - max b y.1, y.2.2)) ⟨t, rfl, upd_same⟩ hf5
    · have c1 : ¬ ((min e y.2.1 : Nat) : Int) - ((max b y.1 : Nat) : Int) > 0 := of_decide_eq_false (Bool.eq_false_iff.mpr c)
      refine ⟨_, _, _, _, ys, rfl, sm, hf, ?_⟩
      rw [db_more hyT, if_neg (by omega), List.append_nil]
      exact hy
  · rintro σ H2 ⟨v4, v5, v6, v7, ys, rfl, sm, hf, hy⟩
    have e : T.take xs.length = T := List.take_of_length_le (by rw [hxs.len]; exact Nat.le_refl _)
    rw [e] at hy
    exact ⟨_, rfl, q H2 fa ys (fun a o k => sm _ _ (ne_of_none k nf) (sm0 _ _ (sf _ _ k))) nf hf hy⟩
def spDepthSum : Sp := fun vs H Q _ => ∃ (n b e : Nat), vs = [.int n, .int b, .int e] ∧ b < e ∧ e ≤ n ∧ n ≤ 10 ^ 30 ∧ ∀ (H' : Hp), Same H H' → Q (.int ((total b e (lev (pk 101 n 0).length 0 (pk 101 n 0)) : Nat) : Int)) H'
theorem ok_depth_sum {f g1 g2 g3 : Addr} {fd d1 d2 d3 : FuncData} (F : Fun K "depth_sum" "depth_sum" sDepthSum f fd) (GCheckSize : FnOk P w K mg base CX0 3 g1 d1 ["size"] spCheckSize) (ACheckSize : At K mg "check_size" g1 d1 ["size"])
    (GCheckSpan : FnOk P w K mg base CX0 3 g2 d2 ["size", "begin", "end"] spCheckSpan) (ACheckSpan : At K mg "check_span" g2 d2 ["size", "begin", "end"])
    (GDepthsBetween : FnOk P w K mg base CX0 6 g3 d3 ["size", "begin", "end"] spBetweenRows) (ADepthsBetween : At K mg "_depths_between" g3 d3 ["size", "begin", "end"]) (z_sum : mg "sum" = none) : FnOk P w K mg base CX0 7 f fd ["size", "begin", "end"] spDepthSum := by
  refine F.ok scDepthSum (fun vs H Q E h => ?_) (fun cdv A outer s H vs Q E hr h => ?_)
  · obtain ⟨_, _, _, rfl, _⟩ := h
    rfl
  obtain ⟨n, b, e, rfl, h1, h2, h30, q⟩ := h
  refine ⟨_, (pss_cons (ps_expr (pe_call GCheckSize (hr.mono (by decide)) rfl ACheckSize.m ACheckSize.kp ACheckSize.b .nil pass0 (pa_cons (pv 0) pa_nil)))
    (pss_cons (ps_expr (pe_call GCheckSpan (hr.mono (by decide)) rfl ACheckSpan.m ACheckSpan.kp ACheckSpan.b .nil pass0 (pa_cons (pv 0) (pa_cons (pv 1) (pa_cons (pv 2) pa_nil)))))
    (pss_one (ps_ret (pe_callB (cr_sum rfl) (by rfl) z_sum (by decide +kernel) (pa_cons (pe_lc (own := [("count", 3), ("deep", 4)]) rfl scDepthSum.nd (pi_list (pe_call GDepthsBetween (hr.mono (by decide)) rfl ADepthsBetween.m ADepthsBetween.kp ADepthsBetween.b .nil pass0 (pa_cons (pv 0) (pa_cons (pv 1) (pa_cons (pv 2) pa_nil))))) (blkOk_by (N := ["size", "begin", "end", "count", "deep"]) (sc := defScope sDepthSum) (by decide +kernel)) (fun _ _ _ _ _ => (pg_tupB (n := 2) rfl (pgs_cons (pg_name (i := 3) scDepthSum.nd rfl (Or.inl rfl)) (pgs_cons (pg_name (i := 4) scDepthSum.nd rfl (Or.inl rfl)) pgs_nil)))) (fun _ _ _ _ _ => pts_nil) (fun _ _ _ _ _ => (pe_op op_mul (pv 3) (pv 4)))) pa_nil)))))), ?_⟩
  refine ⟨_, rfl, n, rfl, by omega, by omega, ?_⟩
  refine ⟨_, rfl, _, rfl, _, rfl, n, b, e, rfl, h1, h2, ?_⟩
  refine ⟨_, rfl, _, rfl, _, rfl, n, b, e, rfl, by omega, h30, fun H1 p xs sm np hp hx => ?_⟩
  have hd : ∀ z ∈ db b e (lev (pk 101 n 0).length 0 (pk 101 n 0)), z.2 ≤ 201 := fun z hz => db_deep z hz
  have hl : (db b e (lev (pk 101 n 0).length 0 (pk 101 n 0))).length ≤ 101 := Nat.le_trans (db_len _ _ _) (rows_len n)
  have q' : ∀ H', Same H H' → Q (.int ((((db b e (lev (pk 101 n 0).length 0 (pk 101 n 0))).map fun p => p.1 * p.2).sum : Nat) : Int)) H' := q
  generalize db b e (lev (pk 101 n 0).length 0 (pk 101 n 0)) = T at q' hx hd hl
  refine ⟨p, rfl, ⟨_, SqL.of hp⟩, fun D nD => lc_list (xs := xs) (fun i H' => Same H1 H' ∧ H' D = some (.lst (((T.take i).map fun z => ((z.1 * z.2 : Nat) : Int)).map V.int))) ⟨same_upd nD, upd_same⟩ (fun i H' _ k => SqL.of (k.1 _ _ hp)) ?_ ?_⟩
  · rintro i x H2 hi ⟨s2, hD⟩
    obtain ⟨y, hy, xp, rfl, hxp⟩ := hx.nth hi
    have il : i < T.length := (List.getElem?_eq_some_iff.mp hy).1
    have y2 := hd y (List.mem_of_getElem? hy)
    refine ⟨xp, _, rfl, SqT.of (s2 _ _ hxp), rfl, _, _, rfl, _, _, rfl, rfl, rfl, ?_⟩
    refine ⟨_, rfl, _, rfl, _, _, rfl, rfl, .inr ⟨by omega, by omega⟩, _, hD, szlt (by rw [List.length_map, List.length_map, List.length_take]; omega), ?_, ?_⟩
    · exact fun a o k => by rw [upd_ne (ne_of_none k nD)]; exact s2 _ _ k
    · rw [take_more hy, List.map_append, List.map_append]
      have em : ((y.1 : Nat) : Int) * ((y.2 : Nat) : Int) = ((y.1 * y.2 : Nat) : Int) := (Int.natCast_mul _ _).symm
      dsimp only
      rw [em]
      exact upd_same
  rintro H2 ⟨s2, hD⟩
  have et : T.take xs.length = T := List.take_of_length_le (by rw [hx.len]; exact Nat.le_refl _)
  rw [et] at hD
  refine ⟨D, _, rfl, SqL.of hD, ?_⟩
  have es : (T.map fun z => ((z.1 * z.2 : Nat) : Int)).sum = (((T.map fun p => p.1 * p.2).sum : Nat) : Int) := by
    rw [← sum_cast, List.map_map]
    rfl
  rw [es]
  exact q' _ (sm.trans s2)
def least (m : Int) (l : List (Nat × Nat)) : Prop := (∃ z ∈ l, m = (z.2 : Int)) ∧ ∀ z ∈ l, m ≤ (z.2 : Int)
def most (m : Int) (l : List (Nat × Nat)) : Prop := (∃ z ∈ l, m = (z.2 : Int)) ∧ ∀ z ∈ l, (z.2 : Int) ≤ m
def spDepthRange : Sp := fun vs H Q _ => ∃ (n b e : Nat), vs = [.int n, .int b, .int e] ∧ b < e ∧ e ≤ n ∧ n ≤ 10 ^ 30 ∧ db b e (lev (pk 101 n 0).length 0 (pk 101 n 0)) ≠ [] ∧
  ∀ (H' : Hp) (p : Addr) (lo hi : Int), Same H H' → H' p = some (.tup [.int lo, .int hi]) → least lo (db b e (lev (pk 101 n 0).length 0 (pk 101 n 0))) → most hi (db b e (lev (pk 101 n 0).length 0 (pk 101 n 0))) → Q (.ref p) H'
theorem ok_depth_range {f g1 g2 g3 : Addr} {fd d1 d2 d3 : FuncData} (F : Fun K "depth_range" "depth_range" sDepthRange f fd) (GCheckSize : FnOk P w K mg base CX0 3 g1 d1 ["size"] spCheckSize) (ACheckSize : At K mg "check_size" g1 d1 ["size"])
    (GCheckSpan : FnOk P w K mg base CX0 3 g2 d2 ["size", "begin", "end"] spCheckSpan) (ACheckSpan : At K mg "check_span" g2 d2 ["size", "begin", "end"])
    (GDepthsBetween : FnOk P w K mg base CX0 6 g3 d3 ["size", "begin", "end"] spBetweenRows) (ADepthsBetween : At K mg "_depths_between" g3 d3 ["size", "begin", "end"]) (z_min : mg "min" = none) (z_max : mg "max" = none) : FnOk P w K mg base CX0 7 f fd ["size", "begin", "end"] spDepthRange := by
  refine F.ok scDepthRange (fun vs H Q E h => ?_) (fun cdv A outer s H vs Q E hr h => ?_)
  · obtain ⟨_, _, _, rfl, _⟩ := h
    rfl
  obtain ⟨n, b, e, rfl, h1, h2, h30, hne, q⟩ := h
  refine' ⟨_, (pss_cons (ps_expr (pe_call GCheckSize (hr.mono (by decide)) rfl ACheckSize.m ACheckSize.kp ACheckSize.b .nil pass0 (pa_cons (pv 0) pa_nil)))
    (pss_cons (ps_expr (pe_call GCheckSpan (hr.mono (by decide)) rfl ACheckSpan.m ACheckSpan.kp ACheckSpan.b .nil pass0 (pa_cons (pv 0) (pa_cons (pv 1) (pa_cons (pv 2) pa_nil)))))
    (pss_cons ?cc1
    (pss_one (ps_ret (pe_tup (pa_cons (pe_callB (cr_min rfl) (by rfl) z_min (by decide +kernel) (pa_cons (pv 3) pa_nil)) (pa_cons (pe_callB (cr_max rfl) (by rfl) z_max (by decide +kernel) (pa_cons (pv 3) pa_nil)) pa_nil)))))))), ?_⟩
  case cc1 => exact (ps_setLc (i := 3) (own := [("_", 4), ("deep", 5)]) rfl scDepthRange.nd rfl rfl (sw_true rfl rfl rfl (by decide +kernel)) (pi_list (pe_call GDepthsBetween (hr.mono (by decide)) rfl ADepthsBetween.m ADepthsBetween.kp ADepthsBetween.b .nil pass0 (pa_cons (pv 0) (pa_cons (pv 1) (pa_cons (pv 2) pa_nil))))) (blkOk_by (N := ["size", "begin", "end", "found", "_", "deep"]) (sc := defScope sDepthRange) (by decide +kernel)) (fun _ _ _ _ _ => (pg_tupB (n := 2) rfl (pgs_cons (pg_name (i := 4) scDepthRange.nd rfl (Or.inl rfl)) (pgs_cons (pg_name (i := 5) scDepthRange.nd rfl (Or.inl rfl)) pgs_nil)))) (fun _ _ _ _ _ => pts_nil) (fun _ _ _ _ _ => (pv 5)))
  refine ⟨_, rfl, n, rfl, by omega, by omega, ?_⟩
  refine ⟨_, rfl, _, rfl, _, rfl, n, b, e, rfl, h1, h2, ?_⟩
  refine ⟨_, rfl, _, rfl, _, rfl, n, b, e, rfl, by omega, h30, fun H1 p xs sm np hp hx => ?_⟩
  have hl : (db b e (lev (pk 101 n 0).length 0 (pk 101 n 0))).length ≤ 101 := Nat.le_trans (db_len _ _ _) (rows_len n)
  generalize db b e (lev (pk 101 n 0).length 0 (pk 101 n 0)) = T at q hx hne hl
  refine ⟨p, rfl, ⟨_, SqL.of hp⟩, fun D nD => lc_list (xs := xs) (fun i H' => Same H1 H' ∧ H' D = some (.lst (((T.take i).map fun z => ((z.2 : Nat) : Int)).map V.int))) ⟨same_upd nD, upd_same⟩ (fun i H' _ k => SqL.of (k.1 _ _ hp)) ?_ ?_⟩
  · rintro i x H2 hi ⟨s2, hD⟩
    obtain ⟨y, hy, xp, rfl, hxp⟩ := hx.nth hi
    have il : i < T.length := (List.getElem?_eq_some_iff.mp hy).1
    refine ⟨xp, _, rfl, SqT.of (s2 _ _ hxp), rfl, _, _, rfl, _, _, rfl, rfl, rfl, ?_⟩
    refine ⟨_, rfl, _, hD, szlt (by rw [List.length_map, List.length_map, List.length_take]; omega), ?_, ?_⟩
    · exact fun a o k => by rw [upd_ne (ne_of_none k nD)]; exact s2 _ _ k
    · rw [take_more hy, List.map_append, List.map_append]
      exact upd_same
  rintro H2 ⟨s2, hD⟩
  have et : T.take xs.length = T := List.take_of_length_le (by rw [hx.len]; exact Nat.le_refl _)
  rw [et] at hD
  have hlen : 0 < (T.map fun z => ((z.2 : Nat) : Int)).length := by
    rw [List.length_map]
    exact List.length_pos_iff.mpr hne
  refine ⟨_, rfl, D, _, rfl, SqL.of hD, hlen, fun lo hlo hlo2 => ?_⟩
  refine ⟨_, rfl, D, _, rfl, SqL.of hD, hlen, fun hi hhi hhi2 => ?_⟩
  refine ⟨(by show 2 ≤ sizeLine; decide), fun u nu => ?_⟩
  refine q _ u lo hi (sm.trans (s2.trans (same_upd nu))) upd_same ⟨?_, ?_⟩ ⟨?_, ?_⟩
  · obtain ⟨z, h1, h2⟩ := List.mem_map.mp hlo
    exact ⟨z, h1, h2.symm⟩
  · exact fun z hz => hlo2 _ (List.mem_map.mpr ⟨z, hz, rfl⟩)
  · obtain ⟨z, h1, h2⟩ := List.mem_map.mp hhi
    exact ⟨z, h1, h2.symm⟩
  · exact fun z hz => hhi2 _ (List.mem_map.mpr ⟨z, hz, rfl⟩)
def firstOf (k : Int) : List (Nat × Nat × Nat) → V
  | [] => .non
  | x :: r => if (x.2.2 : Int) = k then .int (x.1 : Int) else firstOf k r
def spFirst : Sp := fun vs H Q _ => ∃ (n : Nat) (k : Int), vs = [.int n, .int k] ∧ 1 ≤ n ∧ n ≤ 10 ^ 30 ∧ ∀ (H' : Hp), Same H H' → Q (firstOf k (lev (pk 101 n 0).length 0 (pk 101 n 0))) H'
theorem ok_first_of_depth {f g1 g2 g3 : Addr} {fd d1 d2 d3 : FuncData} (F : Fun K "first_of_depth" "first_of_depth" sFirstOfDepth f fd) (GCheckSize : FnOk P w K mg base CX0 3 g1 d1 ["size"] spCheckSize) (ACheckSize : At K mg "check_size" g1 d1 ["size"])
    (GCheckNumber : FnOk P w K mg base CX0 2 g2 d2 ["number"] spCheckNumber) (ACheckNumber : At K mg "check_number" g2 d2 ["number"])
    (GPeakDepths : FnOk P w K mg base CX0 5 g3 d3 ["size"] spRows) (APeakDepths : At K mg "_peak_depths" g3 d3 ["size"]) : FnOk P w K mg base CX0 6 f fd ["size", "number"] spFirst := by
  refine F.ok scFirstOfDepth (fun vs H Q E h => ?_) (fun cdv A outer s H vs Q E hr h => ?_)
  · obtain ⟨_, _, rfl, _⟩ := h
    rfl
  obtain ⟨n, k, rfl, h1, h30, q⟩ := h
  refine ⟨_, (pss_cons (ps_expr (pe_call GCheckSize (hr.mono (by decide)) rfl ACheckSize.m ACheckSize.kp ACheckSize.b .nil pass0 (pa_cons (pv 0) pa_nil)))
    (pss_cons (ps_expr (pe_call GCheckNumber (hr.mono (by decide)) rfl ACheckNumber.m ACheckNumber.kp ACheckNumber.b .nil pass0 (pa_cons (pv 1) pa_nil)))
    (pss_cons (ps_for PassesOwn.never rfl (pi_list (pe_call GPeakDepths (hr.mono (by decide)) rfl APeakDepths.m APeakDepths.kp APeakDepths.b .nil pass0 (pa_cons (pv 0) pa_nil))) (pg_tup (by rfl) (pgs_cons (pg_name (i := 2) scFirstOfDepth.nd rfl (Or.inl rfl)) (pgs_cons (pg_name (i := 3) scFirstOfDepth.nd rfl (Or.inl rfl)) (pgs_cons (pg_name (i := 4) scFirstOfDepth.nd rfl (Or.inl rfl)) pgs_nil))))
    (pss_one (ps_if (pt_cmpR op_eq (pv 4) (pv 1) (nomark _))
    (pss_one (ps_ret (pv 2)))
    pss_nil)))
    (pss_one (ps_ret pe_non))))), ?_⟩
  refine ⟨_, rfl, n, rfl, by omega, by omega, ?_⟩
  refine ⟨_, rfl, k, rfl, ?_⟩
  refine ⟨_, rfl, n, rfl, h1, h30, fun H1 p xs sm np hp hx => ?_⟩
  generalize lev (pk 101 n 0).length 0 (pk 101 n 0) = T at q hx
  refine ⟨p, rfl, ⟨_, SqL.of hp⟩, for_list (K := K) (a := p) (xs := xs) (fun i σ H' => ∃ (v2 v3 v4 : Option V), σ = [some (.int n), some (.int k), v2, v3, v4] ∧ H' = H1 ∧ firstOf k (T.drop i) = firstOf k T)
    ⟨none, none, none, rfl, rfl, rfl⟩ (fun i σ H' _ ⟨_, _, _, _, s5, _⟩ => by rw [s5]; exact SqL.of hp) ?_ ?_⟩
  · rintro i x σ H2 hi ⟨v2, v3, v4, rfl, rfl, hk⟩
    obtain ⟨y, hy, xp, rfl, hxp⟩ := hx.nth hi
    have ed : T.drop i = y :: T.drop (i + 1) := List.drop_eq_getElem_cons (List.getElem?_eq_some_iff.mp hy).1 ▸ (by rw [(List.getElem?_eq_some_iff.mp hy).2])
    have ef : firstOf k (T.drop i) = if (y.2.2 : Int) = k then .int (y.1 : Int) else firstOf k (T.drop (i + 1)) := by rw [ed]; rfl
    refine ⟨xp, _, rfl, SqT.of hxp, rfl, _, _, rfl, _, _, rfl, _, _, rfl, rfl, ?_⟩
    refine ⟨_, rfl, _, rfl, rfl, _, rfl, ite2 (fun c => ?_) (fun c => ?_)⟩
    · have c1 : V.int (y.2.2 : Int) = V.int k := of_decide_eq_true c
      rw [ef, if_pos (V.int.inj c1)] at hk
      refine ⟨_, rfl, ?_⟩
      show Q (.int (y.1 : Int)) _
      rw [hk]
      exact q _ sm
    · have c1 : ¬ V.int (y.2.2 : Int) = V.int k := of_decide_eq_false (Bool.eq_false_iff.mpr c)
      rw [ef, if_neg (fun z => c1 (by rw [z]))] at hk
      exact ⟨_, _, _, rfl, rfl, hk⟩
  · rintro σ H2 ⟨v2, v3, v4, rfl, rfl, hk⟩
    have ed : T.drop xs.length = [] := List.drop_eq_nil_of_le (by rw [hx.len]; exact Nat.le_refl _)
    rw [ed] at hk
    show Q .non _
    have k2 : V.non = firstOf k T := hk
    rw [k2]
    exact q _ sm
end
end LT

namespace LT
/-- where the last peak of m entries begins -/
def lastB (m : Nat) : Nat :=
  if h : m ≤ 1 ∨ m = 2 * gp m then 0 else gp m + lastB (m - gp m)
termination_by m
decreasing_by
  have := gp_pos m
  omega
theorem lastB_pow {m : Nat} (h : m ≤ 1 ∨ m = 2 * gp m) : lastB m = 0 := by
  rw [lastB, dif_pos h]
theorem lastB_low {m : Nat} (h : ¬ (m ≤ 1 ∨ m = 2 * gp m)) : lastB m = gp m + lastB (m - gp m) := by
  rw [lastB, dif_neg h]
/-- one more entry puts those of the last peak one deeper, and no others -/
theorem sib_more : ∀ (m b e : Nat), 1 ≤ m → b ≤ e → e < b + m → (sib b (m + 1) e).length = (sib b m e).length + (if b + lastB m ≤ e then 1 else 0) := by
  intro m
  induction m using Nat.strongRecOn with
  | ind m ih =>
    intro b e h1 h2 h3
    by_cases p : m ≤ 1 ∨ m = 2 * gp m
    · rw [lastB_pow p, if_pos (by omega)]
      have g : gp (m + 1) = m := by
        rcases p with p | p
        · have : m = 1 := by omega
          subst this
          rfl
        · have e1 : 2 ^ (Nat.log2 (m - 1) + 1) = m := by
            rw [Nat.pow_succ]
            unfold gp at p
            omega
          have := gp_eq (i := Nat.log2 (m - 1) + 1) (m := m + 1) (by omega) (by omega)
          rw [this, e1]
      rw [sib_low (by omega) (by rw [g]; exact h3), g, List.length_cons]
    · have m2 : 2 ≤ m := by omega
      have g1 := gp_lt m2
      have g2 := gp_ge m2
      have g3 := gp_pos m
      have g : gp (m + 1) = gp m := gp_eq (i := Nat.log2 (m - 1)) (by unfold gp at g1; omega) (by unfold gp at g2 p; omega)
      rw [lastB_low p]
      by_cases k : e < b + gp m
      · rw [sib_low (by omega) (by rw [g]; exact k), sib_low m2 k, g, List.length_cons, List.length_cons, if_neg (by omega)]
      · rw [sib_high (by omega) (by rw [g]; exact k), sib_high m2 k, g, List.length_cons, List.length_cons]
        have em : m + 1 - gp m = m - gp m + 1 := by omega
        rw [em, ih (m - gp m) (by omega) (b + gp m) e (by omega) (by omega) (by omega)]
        by_cases c : b + gp m + lastB (m - gp m) ≤ e
        · rw [if_pos c, if_pos (by omega)]
        · rw [if_neg c, if_neg (by omega)]
/-- a power of two, or the last peak begins where a power of two below it ends: it is as long as a power of two that divides its begin -/
theorem lastB_room : ∀ m, 1 ≤ m → ∃ j, m = lastB m + 2 ^ j ∧ 2 ^ j ∣ lastB m := by
  intro m
  induction m using Nat.strongRecOn with
  | ind m ih =>
    intro h1
    by_cases p : m ≤ 1 ∨ m = 2 * gp m
    · rw [lastB_pow p]
      rcases p with p | p
      · exact ⟨0, by rw [Nat.pow_zero]; omega, Nat.dvd_zero _⟩
      · exact ⟨Nat.log2 (m - 1) + 1, by rw [Nat.pow_succ]; unfold gp at p; omega, Nat.dvd_zero _⟩
    · have m2 : 2 ≤ m := by omega
      have g1 := gp_lt m2
      have g2 := gp_ge m2
      have g3 := gp_pos m
      obtain ⟨j, e, d⟩ := ih (m - gp m) (by omega) (by omega)
      rw [lastB_low p]
      refine ⟨j, by omega, Nat.dvd_add ?_ d⟩
      have lt : 2 ^ j < 2 ^ (Nat.log2 (m - 1) + 1) := by
        rw [Nat.pow_succ]
        unfold gp at g2 e p
        omega
      have := (Nat.pow_lt_pow_iff_right (by decide : 1 < 2)).mp lt
      exact Nat.pow_dvd_pow 2 (by omega)
/-- and as long as the greatest one that divides m -/
theorem lastB_most : ∀ m j, 1 ≤ m → 2 ^ j ∣ m → lastB m + 2 ^ j ≤ m := by
  intro m
  induction m using Nat.strongRecOn with
  | ind m ih =>
    intro j h1 d
    have le := Nat.le_of_dvd (by omega) d
    by_cases p : m ≤ 1 ∨ m = 2 * gp m
    · rw [lastB_pow p]
      omega
    · have m2 : 2 ≤ m := by omega
      have g1 := gp_lt m2
      have g2 := gp_ge m2
      have g3 := gp_pos m
      have lt : 2 ^ j < 2 ^ (Nat.log2 (m - 1) + 1) := by
        rw [Nat.pow_succ]
        unfold gp at g2 p
        omega
      have jl := (Nat.pow_lt_pow_iff_right (by decide : 1 < 2)).mp lt
      have dg : 2 ^ j ∣ gp m := by unfold gp; exact Nat.pow_dvd_pow 2 (by omega)
      have := ih (m - gp m) (by omega) j (by omega) (Nat.dvd_sub d dg)
      rw [lastB_low p]
      omega
/-- the sizes whose last peak has e: where the rooms that have e end -/
theorem last_has {m e : Nat} (h : e < m) : lastB m ≤ e ↔ ∃ j, m = e - e % 2 ^ j + 2 ^ j := by
  constructor
  · intro k
    obtain ⟨j, e1, d⟩ := lastB_room m (by omega)
    refine ⟨j, ?_⟩
    obtain ⟨x, ex⟩ := d
    have em : e % 2 ^ j = e - lastB m := by
      have e2 : e = lastB m + (e - lastB m) := by omega
      rw [e2, ex, Nat.mul_add_mod, Nat.mod_eq_of_lt (by rw [← ex]; omega)]
      omega
    omega
  · rintro ⟨j, e1⟩
    have p := Nat.pow_pos (a := 2) (n := j) (by decide)
    have d0 : 2 ^ j ∣ e - e % 2 ^ j := Nat.dvd_sub_mod e
    have := lastB_most m j (by omega) (by rw [e1]; exact Nat.dvd_add d0 (Nat.dvd_refl _))
    have ml := Nat.mod_lt e p
    have := Nat.mod_le e (2 ^ j)
    omega
/-- where the room of 2 ^ j that has e ends -/
def endR (e j : Nat) : Nat := e - e % 2 ^ j + 2 ^ j
theorem endR_gt (e j : Nat) : e < endR e j := by
  have := Nat.mod_lt e (Nat.pow_pos (a := 2) (n := j) (by decide))
  have := Nat.mod_le e (2 ^ j)
  unfold endR
  omega
theorem endR_le (e j : Nat) : endR e j ≤ endR e (j + 1) := by
  have e1 := Nat.mod_pow_succ (b := 2) (k := j) (x := e)
  have h : e / 2 ^ j % 2 = 0 ∨ e / 2 ^ j % 2 = 1 := by omega
  have m1 := Nat.mod_le e (2 ^ j)
  have m2 := Nat.mod_le e (2 ^ (j + 1))
  unfold endR
  rw [Nat.pow_succ] at *
  rcases h with h | h <;> rw [h] at e1 <;> omega
theorem endR_mono (e : Nat) {i j : Nat} (h : i ≤ j) : endR e i ≤ endR e j := by
  induction j with
  | zero => rw [show i = 0 by omega]; exact Nat.le_refl _
  | succ j ih =>
    by_cases c : i = j + 1
    · subst c; exact Nat.le_refl _
    · exact Nat.le_trans (ih (by omega)) (endR_le e j)
/-- the depth stays where no room that has e ends -/
theorem sib_flat {e s : Nat} (h : e < s) : ∀ k, (∀ t, s ≤ t → t < s + k → ∀ j, t ≠ endR e j) → (sib 0 (s + k) e).length = (sib 0 s e).length
  | 0, _ => rfl
  | k + 1, no => by
    have ih := sib_flat h k (fun t h1 h2 => no t h1 (by omega))
    have st := sib_more (s + k) 0 e (by omega) (Nat.zero_le _) (by omega)
    rw [if_neg (fun z => ?_)] at st
    · rw [show s + (k + 1) = s + k + 1 by omega, st, ih, Nat.add_zero]
    · rw [Nat.zero_add] at z
      obtain ⟨j, ej⟩ := (last_has (by omega)).mp z
      exact no (s + k) (by omega) (by omega) j ej
/-- and is one more behind each such end -/
theorem sib_behind (e j : Nat) : (sib 0 (endR e j + 1) e).length = (sib 0 (endR e j) e).length + 1 := by
  have g := endR_gt e j
  have st := sib_more (endR e j) 0 e (by omega) (Nat.zero_le _) (by omega)
  rw [if_pos (by rw [Nat.zero_add]; exact (last_has g).mpr ⟨j, rfl⟩)] at st
  exact st
/-- it never gets less -/
theorem sib_grows {e s : Nat} (h : e < s) : ∀ k, (sib 0 s e).length ≤ (sib 0 (s + k) e).length
  | 0 => Nat.le_refl _
  | k + 1 => by
    have ih := sib_grows h k
    have st := sib_more (s + k) 0 e (by omega) (Nat.zero_le _) (by omega)
    rw [show s + (k + 1) = s + k + 1 by omega, st]
    omega
end LT

namespace LT
open PySem PySem.Spec PyProof.Rows L2
section
variable {P : Program} {w : World} {K : PySem.W.Frag} {mg : Str → Option Value} {base : Heap}
def spNextEnd : Sp := fun vs H Q _ => ∃ (e s : Nat), vs = [.int e, .int s] ∧ s < 2 ^ 200 ∧ ∀ j, s < endR e j → (∀ i, i < j → endR e i ≤ s) → j ≤ 200 → Q (.int (endR e j : Int)) H
theorem endR_ge (e j : Nat) : 2 ^ j ≤ endR e j := by unfold endR; omega
theorem ok_next_end {f : Addr} {fd : FuncData} (F : Fun K "_next_end" "_next_end" sNextEnd f fd) : FnOk P w K mg base CX0 1 f fd ["entry", "end"] spNextEnd := by
  refine F.ok scNextEnd (fun vs H Q E h => ?_) (fun cdv A outer s H vs Q E hr h => ?_)
  · obtain ⟨_, _, rfl, _⟩ := h
    rfl
  obtain ⟨e, l, rfl, hl, q⟩ := h
  refine ⟨_, (pss_cons (ps_set (i := 2) scNextEnd.nd rfl (Or.inl rfl) pe_int)
    (pss_cons (ps_while PassesOwn.never (pt_cmpR op_le (pe_op op_add (pe_op op_sub (pv 0) (pe_op op_modN (pv 0) (pv 2))) (pv 2)) (pv 1) (nomark _))
    (pss_one (ps_set (i := 2) scNextEnd.nd rfl (Or.inl rfl) (pe_op op_mul (pv 2) pe_int))))
    (pss_one (ps_ret (pe_op op_add (pe_op op_sub (pv 0) (pe_op op_modN (pv 0) (pv 2))) (pv 2)))))), ?_⟩
  refine ⟨fun mu σ H' => ∃ j : Nat, σ = [some (.int (e : Int)), some (.int (l : Int)), some (.int ((2 ^ j : Nat) : Int))] ∧ H' = H ∧ (∀ i, i < j → endR e i ≤ l) ∧ j ≤ 200 ∧ mu = 200 - j, ⟨200, 0, rfl, rfl, fun i h => absurd h (by omega), by omega, rfl⟩, ?_⟩
  rintro mu σ H1 ⟨j, rfl, rfl, hj, j200, rfl⟩
  have fm : Int.fmod (e : Int) ((2 ^ j : Nat) : Int) = ((e % 2 ^ j : Nat) : Int) := by
    rw [Int.fmod_eq_emod_of_nonneg _ (Int.natCast_nonneg _)]
    exact (Int.natCast_emod _ _).symm
  have pj : 0 < 2 ^ j := Nat.pow_pos (by decide)
  have ev : (e : Int) - Int.fmod (e : Int) ((2 ^ j : Nat) : Int) + ((2 ^ j : Nat) : Int) = ((endR e j : Nat) : Int) := by
    rw [fm]
    have := Nat.mod_le e (2 ^ j)
    unfold endR
    omega
  have nz : ((2 ^ j : Nat) : Int) ≠ 0 := by omega
  refine ⟨_, rfl, _, rfl, _, rfl, _, _, rfl, rfl, nz, _, _, rfl, rfl, _, rfl, _, _, rfl, rfl, _, rfl, _, _, rfl, rfl, _, rfl, ite2 (fun c => ?_) (fun c => ?_)⟩
  · have c1 : (e : Int) - Int.fmod (e : Int) ((2 ^ j : Nat) : Int) + ((2 ^ j : Nat) : Int) ≤ (l : Int) := of_decide_eq_true c
    rw [ev] at c1
    have k1 := endR_ge e j
    have jl : j < 200 := by
      have : 2 ^ j < 2 ^ 200 := by omega
      exact (Nat.pow_lt_pow_iff_right (by decide : 1 < 2)).mp this
    refine ⟨_, fun σ' H' h => h, _, rfl, _, _, rfl, rfl, .inr ⟨by decide, by decide⟩, ?_⟩
    have er : ((2 ^ j : Nat) : Int) * 2 = ((2 ^ (j + 1) : Nat) : Int) := by rw [Nat.pow_succ]; omega
    refine ⟨200 - (j + 1), by omega, j + 1, ?_, rfl, fun i hi => ?_, by omega, rfl⟩
    · rw [← er]
      rfl
    · by_cases z : i < j
      · exact hj i z
      · have : i = j := by omega
        subst this
        omega
  · have c1 : ¬ (e : Int) - Int.fmod (e : Int) ((2 ^ j : Nat) : Int) + ((2 ^ j : Nat) : Int) ≤ (l : Int) := of_decide_eq_false (Bool.eq_false_iff.mpr c)
    rw [ev] at c1
    have q2 := q j (by omega) hj j200
    rw [← ev] at q2
    exact ⟨_, rfl, _, rfl, _, rfl, _, _, rfl, rfl, nz, _, _, rfl, rfl, _, rfl, _, _, rfl, rfl, q2⟩
end
end LT

namespace LT
open PySem PySem.Spec PyProof.Rows L2
theorem endR_big {e i : Nat} (h : e < 2 ^ i) : endR e i = 2 ^ i := by
  unfold endR
  rw [Nat.mod_eq_of_lt h]
  omega
section
variable {P : Program} {w : World} {K : PySem.W.Frag} {mg : Str → Option Value} {base : Heap}
def spSizesWith : Sp := fun vs H Q _ => ∃ (e n : Nat) (k : Int), vs = [.int e, .int k, .int n] ∧ e < 10 ^ 30 ∧ 1 ≤ n ∧ n ≤ 10 ^ 30 ∧
  (∀ (H' : Hp) (p : Addr), Same H H' → H p = none → H' p = some (.lst []) → (∀ s, e < s → s ≤ n → (((sib 0 s e).length : Nat) : Int) ≠ k) → Q (.ref p) H') ∧
  (∀ (H' : Hp) (p : Addr) (u : V) (f l : Nat), Same H H' → H p = none → H' p = some (.lst [u]) → Nd H' u (f, min l n) → e < f → f ≤ l → f ≤ n → (∀ s, e < s → ((((sib 0 s e).length : Nat) : Int) = k ↔ f ≤ s ∧ s ≤ l)) → Q (.ref p) H')
theorem ok_sizes_with {f g1 g2 g3 g4 g5 : Addr} {fd d1 d2 d3 d4 d5 : FuncData} {tm : Tok} (F : Fun K "sizes_with" "sizes_with" sSizesWith f fd)
    (GCheckEntry : FnOk P w K mg base CX0 3 g1 d1 ["size", "entry"] spCheckEntry) (ACheckEntry : At K mg "check_entry" g1 d1 ["size", "entry"])
    (GCheckNumber : FnOk P w K mg base CX0 2 g2 d2 ["number"] spCheckNumber) (ACheckNumber : At K mg "check_number" g2 d2 ["number"])
    (GCheckSize : FnOk P w K mg base CX0 3 g3 d3 ["size"] spCheckSize) (ACheckSize : At K mg "check_size" g3 d3 ["size"])
    (GDepth : FnOk P w K mg base CX0 7 g4 d4 ["size", "entry"] spDepth) (ADepth : At K mg "depth" g4 d4 ["size", "entry"])
    (GNextEnd : FnOk P w K mg base CX0 1 g5 d5 ["entry", "end"] spNextEnd) (ANextEnd : At K mg "_next_end" g5 d5 ["entry", "end"])
    (g_MOST_ENTRIES : mg "MOST_ENTRIES" = some (.int 1000000000000000000000000000000 tm)) (z_min : mg "min" = none) : FnOk P w K mg base CX0 8 f fd ["entry", "number", "most"] spSizesWith := by
  refine F.ok scSizesWith (fun vs H Q E h => ?_) (fun cdv A outer s H vs Q E hr h => ?_)
  · obtain ⟨_, _, _, rfl, _⟩ := h
    rfl
  obtain ⟨e, n, k, rfl, he, n1, h30, q0, q1⟩ := h
  have two : 2 ≤ sizeLine := by decide
  refine ⟨_, (pss_cons (ps_expr (pe_call GCheckEntry (hr.mono (by decide)) rfl ACheckEntry.m ACheckEntry.kp ACheckEntry.b .nil pass0 (pa_cons (pe_glob (v := .int 1000000000000000000000000000000) rfl g_MOST_ENTRIES ⟨_, rfl⟩) (pa_cons (pv 0) pa_nil))))
    (pss_cons (ps_expr (pe_call GCheckNumber (hr.mono (by decide)) rfl ACheckNumber.m ACheckNumber.kp ACheckNumber.b .nil pass0 (pa_cons (pv 1) pa_nil)))
    (pss_cons (ps_expr (pe_call GCheckSize (hr.mono (by decide)) rfl ACheckSize.m ACheckSize.kp ACheckSize.b .nil pass0 (pa_cons (pv 2) pa_nil)))
    (pss_cons (ps_asg2 (pe_op op_add (pv 0) pe_int) (pg_name (i := 3) scSizesWith.nd rfl (Or.inl rfl)) (pg_name (i := 4) scSizesWith.nd rfl (Or.inl rfl)))
    (pss_cons (ps_set (i := 5) scSizesWith.nd rfl (Or.inl rfl) (pe_call GDepth (hr.mono (by decide)) rfl ADepth.m ADepth.kp ADepth.b .nil pass0 (pa_cons (pv 3) (pa_cons (pv 0) pa_nil))))
    (pss_cons (ps_while PassesOwn.never (PW.pt (pw_and (pt_cmpR op_lt (pv 5) (pv 1) (nomark _)) (pw_and1 (pt_cmpR op_le (pv 3) (pv 2) (nomark _)))))
    (pss_cons (ps_set (i := 3) scSizesWith.nd rfl (Or.inl rfl) (pe_op op_add (pv 4) pe_int))
    (pss_cons (ps_set (i := 4) scSizesWith.nd rfl (Or.inl rfl) (pe_call GNextEnd (hr.mono (by decide)) rfl ANextEnd.m ANextEnd.kp ANextEnd.b .nil pass0 (pa_cons (pv 0) (pa_cons (pv 4) pa_nil))))
    (pss_one (ps_aug (i := 5) scSizesWith.nd rfl (Or.inl rfl) pe_int ip_add)))))
    (pss_cons (ps_if (PW.pt (pw_or (pt_cmpR op_ne (pv 5) (pv 1) (nomark _)) (pw_or1 (pt_cmpR op_gt (pv 3) (pv 2) (nomark _)))))
    (pss_one (ps_ret (pe_lst pa_nil)))
    pss_nil)
    (pss_one (ps_ret (pe_lst (pa_cons (pe_tup (pa_cons (pv 3) (pa_cons (pe_callB (call_min2 rfl) (by rfl) z_min (by decide +kernel) (pa_cons (pv 4) (pa_cons (pv 2) pa_nil))) pa_nil))) pa_nil))))))))))), ?_⟩
  refine ⟨_, rfl, 1000000000000000000000000000000, (e : Int), rfl, by omega, by omega, ?_⟩
  refine ⟨_, rfl, k, rfl, ?_⟩
  refine ⟨_, rfl, (n : Int), rfl, by omega, by omega, ?_⟩
  refine ⟨_, rfl, _, _, rfl, rfl, ?_⟩
  refine ⟨_, rfl, _, rfl, e + 1, e, rfl, by omega, by omega, fun H1 s1 => ?_⟩
  refine ⟨fun mu σ H' => ∃ f l d : Nat, σ = [some (.int (e : Int)), some (.int k), some (.int (n : Int)), some (.int (f : Int)), some (.int (l : Int)), some (.int (d : Int))] ∧ Same H H' ∧ e < f ∧ f ≤ l ∧ (∃ j, l = endR e j) ∧ (∀ s, f ≤ s → s ≤ l → (sib 0 s e).length = d) ∧ (∀ s, e < s → s < f → (sib 0 s e).length < d) ∧ (f ≤ 2 ^ 100 → l ≤ 2 ^ 100) ∧ l ≤ 2 ^ 101 ∧ ((d : Int) ≤ k ∨ f = e + 1) ∧ mu = n + 1 - f + 0,
    ⟨n + 1 - (e + 1), e + 1, e + 1, (sib 0 (e + 1) e).length, rfl, s1, by omega, Nat.le_refl _, ⟨0, by unfold endR; simp [Nat.mod_one]⟩, fun s a b => by rw [show s = e + 1 by omega], fun s a b => by omega, fun z => z, by omega, .inr rfl, rfl⟩, ?_⟩
  rintro mu σ H2 ⟨f, l, d, rfl, s2, hf, hl, ⟨j, hj⟩, hin, hlow, h100, h101, hd, hmu⟩
  have after : ∀ s, l < s → d < (sib 0 s e).length := fun s z => by
    have b1 := sib_behind e j
    rw [← hj] at b1
    have b2 := sib_grows (e := e) (s := l + 1) (by omega) (s - (l + 1))
    rw [show l + 1 + (s - (l + 1)) = s by omega] at b2
    have b3 := hin l hl (Nat.le_refl _)
    omega
  have done : ¬ ((d : Int) < k ∧ f ≤ n) → ((d : Int) ≠ k ∨ n < f) → ∀ s, e < s → s ≤ n → (((sib 0 s e).length : Nat) : Int) ≠ k := fun z1 z2 s a b y => by
    by_cases c : f ≤ s
    · have c2 : ¬ (d : Int) < k := fun w => z1 ⟨w, by omega⟩
      have c3 : d ≤ (sib 0 s e).length := by
        by_cases w : s ≤ l
        · rw [hin s c w]; exact Nat.le_refl _
        · exact Nat.le_of_lt (after s (by omega))
      rcases z2 with z2 | z2
      · omega
      · omega
    · have c2 := hlow s a (by omega)
      rcases hd with w | w
      · omega
      · omega
  have ret0 : ∀ {H3 : Hp} {p : Addr}, Same H2 H3 → H2 p = none → H3 p = some (.lst []) → ¬ ((d : Int) < k ∧ f ≤ n) → ((d : Int) ≠ k ∨ n < f) → Q (.ref p) H3 := fun s3 np hp z1 z2 => q0 _ _ (s2.trans s3) (s2.free np) hp (done z1 z2)
  refine ⟨_, rfl, _, rfl, _, _, rfl, rfl, _, rfl, ite2 (fun c => ?_) (fun c => ?_)⟩
  · have c1 : (d : Int) < k := of_decide_eq_true c
    refine ⟨_, rfl, _, rfl, _, _, rfl, rfl, _, rfl, ite2 (fun c => ?_) (fun c => ?_)⟩
    · have c2 : (f : Int) ≤ (n : Int) := of_decide_eq_true c
      have l100 := h100 (by omega)
      refine ⟨_, fun σ' H' h => h, _, rfl, _, _, rfl, rfl, _, rfl, _, rfl, e, l, rfl, by omega, fun j' b1 b2 _ => ?_⟩
      have big0 := endR_big (e := e) (i := 100) (by omega)
      have big1 := endR_big (e := e) (i := 101) (by omega)
      have ef : (l : Int) + 1 = ((l + 1 : Nat) : Int) := rfl
      have ed : (d : Int) + 1 = ((d + 1 : Nat) : Int) := rfl
      refine ⟨_, rfl, _, _, rfl, rfl, n + 1 - (l + 1) + 0, by omega, l + 1, endR e j', d + 1, rfl, s2, by omega, by omega, ⟨j', rfl⟩, fun s a b => ?_, fun s a b => ?_, fun z => ?_, ?_, .inl (by omega), rfl⟩
      · have fl := sib_flat (e := e) (s := l + 1) (by omega) (s - (l + 1)) (fun t t1 t2 i ti => by
          by_cases ij : i < j'
          · have := b2 i ij
            omega
          · have := endR_mono e (show j' ≤ i by omega)
            omega)
        rw [show l + 1 + (s - (l + 1)) = s by omega] at fl
        have b3 := sib_behind e j
        rw [← hj] at b3
        have b4 := hin l hl (Nat.le_refl _)
        omega
      · by_cases sf : s < f
        · have := hlow s a sf
          omega
        · have := hin s (by omega) (by omega)
          omega
      · have j1 : j' ≤ 100 := by
          by_cases w : 100 < j'
          · have := b2 100 w
            omega
          · omega
        have := endR_mono e j1
        omega
      · have j1 : j' ≤ 101 := by
          by_cases w : 101 < j'
          · have := b2 101 w
            omega
          · omega
        have := endR_mono e j1
        omega
    · have c2 : ¬ (f : Int) ≤ (n : Int) := of_decide_eq_false (Bool.eq_false_iff.mpr c)
      refine ⟨_, rfl, _, rfl, rfl, _, rfl, ite2 (fun c => ?_) (fun c => ?_)⟩
      · exact ⟨by decide, fun p np => ret0 (same_upd np) np upd_same (fun z => by omega) (.inr (by omega))⟩
      · refine ⟨_, rfl, _, rfl, _, _, rfl, rfl, _, rfl, ite2 (fun c => ?_) (fun c => ?_)⟩
        · exact ⟨by decide, fun p np => ret0 (same_upd np) np upd_same (fun z => by omega) (.inr (by omega))⟩
        · have c3 : ¬ (n : Int) < (f : Int) := of_decide_eq_false (Bool.eq_false_iff.mpr c)
          omega
  · have c1 : ¬ (d : Int) < k := of_decide_eq_false (Bool.eq_false_iff.mpr c)
    refine ⟨_, rfl, _, rfl, rfl, _, rfl, ite2 (fun c => ?_) (fun c => ?_)⟩
    · have c2 : (d : Int) ≠ k := fun z => by
        have c' : (!decide (V.int (d : Int) = V.int k)) = true := c
        rw [z, decide_eq_true rfl] at c'
        cases c'
      exact ⟨by decide, fun p np => ret0 (same_upd np) np upd_same (fun z => c1 z.1) (.inl c2)⟩
    · have c2 : (d : Int) = k := by
        by_cases z : (d : Int) = k
        · exact z
        · have c' : ¬ (!decide (V.int (d : Int) = V.int k)) = true := c
          rw [decide_eq_false (fun y => z (V.int.inj y))] at c'
          exact absurd rfl c'
      refine ⟨_, rfl, _, rfl, _, _, rfl, rfl, _, rfl, ite2 (fun c => ?_) (fun c => ?_)⟩
      · have c3 : (n : Int) < (f : Int) := of_decide_eq_true c
        exact ⟨by decide, fun p np => ret0 (same_upd np) np upd_same (fun z => c1 z.1) (.inr (by omega))⟩
      · have c3 : ¬ (n : Int) < (f : Int) := of_decide_eq_false (Bool.eq_false_iff.mpr c)
        refine ⟨_, rfl, _, rfl, _, rfl, _, _, rfl, two, fun t nt => ⟨(by show 1 ≤ sizeLine; decide), fun p np => ?_⟩⟩
        have em : (if (n : Int) < (l : Int) then (n : Int) else (l : Int)) = ((min l n : Nat) : Int) := by split <;> omega
        refine q1 _ p (.ref t) f l (s2.trans ((same_upd nt).trans (same_upd np))) (s2.free ((same_upd nt).free np)) upd_same ⟨t, rfl, ?_⟩ hf hl (by omega) (fun s a => ?_)
        · rw [← em]
          exact same_upd np _ _ upd_same
        · constructor
          · intro y
            by_cases z1 : s < f
            · have := hlow s a z1
              omega
            · by_cases z2 : s ≤ l
              · exact ⟨by omega, z2⟩
              · have := after s (by omega)
                omega
          · rintro ⟨y1, y2⟩
            rw [hin s y1 y2]
            exact c2
end
end LT

namespace LT
open PySem PySem.Spec PyProof.Rows L2
section
variable {P : Program} {w : World} {K : PySem.W.Frag} {mg : Str → Option Value} {base : Heap}
def spSize : Sp := fun vs H Q _ => ∃ (b : Addr), vs = [.ref b] ∧ BagAt H b ∧ ∀ (n : Nat) (H' : Hp), 1 ≤ n → n ≤ 10 ^ 30 → But b H H' → BagAt H' b → Q (.int n) H'
theorem ok_law_size {f g1 : Addr} {fd d1 : FuncData} (F : Fun K "_law_size" "_law_size" sLawSize f fd) (GLawPick : FnOk P w K mg base CX0 1 g1 d1 ["bag", "many"] spPick) (ALawPick : At K mg "_law_pick" g1 d1 ["bag", "many"]) (z_max : mg "max" = none) (z_min : mg "min" = none) :
    FnOk P w K mg base CX0 2 f fd ["bag"] spSize := by
  refine F.ok scLawSize (fun vs H Q E h => ?_) (fun cdv A outer s H vs Q E hr h => ?_)
  · obtain ⟨_, rfl, _⟩ := h
    rfl
  obtain ⟨b, rfl, hb, q⟩ := h
  refine ⟨_, (pss_cons (ps_set (i := 1) scLawSize.nd rfl (Or.inl rfl) (pe_op op_add pe_int (pe_call GLawPick (hr.mono (by decide)) rfl ALawPick.m ALawPick.kp ALawPick.b .nil pass0 (pa_cons (pv 0) (pa_cons (pe_ix ix_list (pe_lst (pa_cons pe_int (pa_cons (pe_op op_pow pe_int pe_int) (pa_cons (pe_op op_pow pe_int pe_int) pa_nil)))) (pe_call GLawPick (hr.mono (by decide)) rfl ALawPick.m ALawPick.kp ALawPick.b .nil pass0 (pa_cons (pv 0) (pa_cons pe_int pa_nil))) (fun _ _ => rfl)) pa_nil)))))
    (pss_cons (ps_if (pt_cmpR op_eq (pe_call GLawPick (hr.mono (by decide)) rfl ALawPick.m ALawPick.kp ALawPick.b .nil pass0 (pa_cons (pv 0) (pa_cons pe_int pa_nil))) pe_int (nomark _))
    (pss_one (ps_set (i := 1) scLawSize.nd rfl (Or.inl rfl) (pe_op op_sub (pe_op op_add (pe_op op_shl pe_int (pe_call GLawPick (hr.mono (by decide)) rfl ALawPick.m ALawPick.kp ALawPick.b .nil pass0 (pa_cons (pv 0) (pa_cons pe_int pa_nil)))) (pe_call GLawPick (hr.mono (by decide)) rfl ALawPick.m ALawPick.kp ALawPick.b .nil pass0 (pa_cons (pv 0) (pa_cons pe_int pa_nil)))) pe_int)))
    pss_nil)
    (pss_one (ps_ret (pe_callB (call_min2 rfl) (by rfl) z_min (by decide +kernel) (pa_cons (pe_op op_pow pe_int pe_int) (pa_cons (pe_callB (call_max2 rfl) (by rfl) z_max (by decide +kernel) (pa_cons pe_int (pa_cons (pv 1) pa_nil))) pa_nil))))))), ?_⟩
  have hbN : ∃ o, H b = some o := by obtain ⟨x, y, z, e⟩ := hb; exact ⟨_, e⟩
  -- the first line
  refine ⟨_, rfl, _, _, rfl, rfl, ⟨by decide, by decide, by decide⟩, _, _, rfl, rfl, ⟨by decide, by decide, by decide⟩, (by show 3 ≤ sizeLine; decide), fun l nl => ?_⟩
  have s1 := same_upd (o := .lst [.int 40, .int (10 ^ (9 : Int).toNat), .int (10 ^ (30 : Int).toNat)]) nl
  have hlb : l ≠ b := fun e => by obtain ⟨o, e2⟩ := hbN; rw [← e, nl] at e2; cases e2
  refine ⟨_, rfl, b, 3, rfl, by decide, by decide, hb.same s1, fun r H2 r0 r1 k2 b2 => ?_⟩
  have h2l : H2 l = some (.lst [.int 40, .int (10 ^ (9 : Int).toNat), .int (10 ^ (30 : Int).toNat)]) := by rw [k2 l hlb]; exact upd_same
  have B2 : But b H H2 := fun a o n h => by rw [k2 a n]; exact s1 _ _ h
  obtain ⟨rn, rfl⟩ := Int.eq_ofNat_of_zero_le r0
  have hv : ∃ m : Int, atI [V.int 40, V.int (10 ^ (9 : Int).toNat), V.int (10 ^ (30 : Int).toNat)] (rn : Int) = some (.int m) ∧ 0 < m ∧ m ≤ 10 ^ 30 := by
    have : rn = 0 ∨ rn = 1 ∨ rn = 2 := by omega
    rcases this with h | h | h
    · subst h; exact ⟨40, atI_nat (j := 0) rfl, by decide, by decide⟩
    · subst h; exact ⟨_, atI_nat (j := 1) rfl, by decide, by decide⟩
    · subst h; exact ⟨_, atI_nat (j := 2) rfl, by decide, by decide⟩
  obtain ⟨m, hm, m0, m1⟩ := hv
  refine ⟨l, _, _, _, rfl, rfl, SqL.of h2l, hm, b, m, rfl, m0, (show m.natAbs < 2 ^ 250 by omega), b2, fun r3 H3 r30 r31 k3 b3 => ?_⟩
  have B3 : But b H H3 := fun a o n h => by rw [k3 a n]; exact B2 a o n h
  refine ⟨_, _, rfl, rfl, ?_⟩
  -- if _law_pick(bag, 3) == 0
  refine ⟨_, rfl, b, 3, rfl, by decide, by decide, b3, fun r4 H4 r40 r41 k4 b4 => ⟨rfl, _, rfl, ?_⟩⟩
  have B4 : But b H H4 := fun a o n h => by rw [k4 a n]; exact B3 a o n h
  have fin : ∀ (z : Int) (H5 : Hp), But b H H5 → BagAt H5 b → Q (.int (if (if z > 1 then z else 1) < 10 ^ (30 : Int).toNat then (if z > 1 then z else 1) else 10 ^ (30 : Int).toNat)) H5 := fun z H5 B5 b5 => by
    have e : (10 : Int) ^ (30 : Int).toNat = 10 ^ 30 := rfl
    rw [e]
    have z1 : 1 ≤ (if z > 1 then z else 1) := by split <;> omega
    generalize (if z > 1 then z else 1) = y at z1
    have y1 : 1 ≤ (if y < 10 ^ 30 then y else 10 ^ 30) ∧ (if y < 10 ^ 30 then y else 10 ^ 30) ≤ 10 ^ 30 := by split <;> omega
    generalize (if y < 10 ^ 30 then y else 10 ^ 30) = u at y1
    obtain ⟨un, rfl⟩ := Int.eq_ofNat_of_zero_le (show 0 ≤ u by omega)
    exact q un H5 (by omega) (by omega) B5 b5
  refine ite2 (fun c => ?_) (fun c => ?_)
  · refine ⟨_, rfl, b, 100, rfl, by decide, by decide, b4, fun r5 H5 r50 r51 k5 b5 => ⟨_, _, rfl, rfl, ⟨r50, by omega, by decide⟩, _, rfl, b, 3, rfl, by decide, by decide, b5, fun r6 H6 r60 r61 k6 b6 => ⟨_, _, rfl, rfl, _, _, rfl, rfl, ?_⟩⟩⟩
    have B6 : But b H H6 := fun a o n h => by rw [k6 a n, k5 a n]; exact B4 a o n h
    exact ⟨_, _, rfl, rfl, ⟨by decide, by decide, by decide⟩, _, rfl, _, _, rfl, _, _, rfl, fin _ H6 B6 b6⟩
  · exact ⟨_, _, rfl, rfl, ⟨by decide, by decide, by decide⟩, _, rfl, _, _, rfl, _, _, rfl, fin _ H4 B4 b4⟩
end
end LT

namespace LT
open PySem PySem.Spec PyProof.Rows L2
/-- what the top says of an own class of errors without an __init__ -/
structure XF (K : PySem.W.Frag) (mg : Str → Option Value) (x : Str) (C : Addr) : Prop where
  g : mg x = some (.ref C)
  k : PySem.W.keepIn K (.ref C) = true
  q : PySem.W.excIn K C [.type "ValueError", .type "Exception", .type "BaseException", .type "object"] "ValueError.__new__" = true
  b : PySem.W.subIn K (.ref C) (.type "BaseException") = some true
  t : PySem.W.typeIn K (.ref C) = some (.type "type")
section
variable {P : Program} {w : World} {K : PySem.W.Frag} {mg : Str → Option Value} {base : Heap} {k : Nat} {f : Addr} {fd : FuncData} {ps : List Str} {sp sp1 sp2 : Sp} {CY : CXT}
theorem both (A : FnOk P w K mg base CY k f fd ps sp1) (B : FnOk P w K mg base CY k f fd ps sp2) : FnOk P w K mg base CY k f fd ps (fun vs H Q E => sp1 vs H Q E ∨ sp2 vs H Q E) :=
  ⟨fun vs H Q E h => h.elim (A.len vs H Q E) (B.len vs H Q E), fun A' outer s H args us vs Q E hr ev hb rv h => h.elim (A.run A' outer s H args us vs Q E hr ev hb rv) (B.run A' outer s H args us vs Q E hr ev hb rv)⟩
theorem toX (A : FnOk P w K mg base CX0 k f fd ps sp) : FnOk P w K mg base (L2.CX P w) k f fd ps sp := by
  refine ⟨A.len, fun A' outer s H args us vs Q E hr ev hb rv h => codeAny_mono (A.run A' outer s H args us vs Q E hr ev hb rv h) ?_⟩
  intro r s' hq
  cases r with
  | error e => exact False.elim hq
  | ok fl => cases fl <;> exact hq
end
section
variable {P : Program} {w : World} {K : PySem.W.Frag} {mg : Str → Option Value} {base : Heap} {CInvalidSize CInvalidEntry CInvalidSpan CInvalidNumber : Addr}
def top30 : Int := 1000000000000000000000000000000
def spCheckSizeX (K : PySem.W.Frag) (C : Addr) : Sp := fun vs H Q E => ∃ (v : V) (t : String), vs = [v] ∧ Pl K H v t ∧ ((inRange 1 top30 v = true ∧ Q .non H) ∨ (inRange 1 top30 v = false ∧ E (.ref C) none H))
theorem okX_check_size {f g : Addr} {fd gd : FuncData} {t : Tok} (F : Fun K "check_size" "check_size" sCheckSize f fd) (XInvalidSize : XF K mg "InvalidSize" CInvalidSize) (GIsBetween : FnOk P w K mg base CX0 2 g gd ["value", "low", "high"] (spBetweenV K)) (AIsBetween : At K mg "is_between" g gd ["value", "low", "high"]) (g_MOST_ENTRIES : mg "MOST_ENTRIES" = some (.int 1000000000000000000000000000000 t)) :
    FnOk P w K mg base (L2.CX P w) 3 f fd ["size"] (spCheckSizeX K CInvalidSize) := by
  refine F.okX scCheckSize (fun vs H Q E h => ?_) (fun cdv A outer s H vs Q E hr h => ?_)
  · obtain ⟨_, _, rfl, _⟩ := h
    rfl
  obtain ⟨v, ty, rfl, hv, q⟩ := h
  refine ⟨_, (pss_one (ps_if (pt_not (pt_val (pe_call GIsBetween (hr.mono (by decide)) rfl AIsBetween.m AIsBetween.kp AIsBetween.b .nil pass0 (pa_cons (pv 0) (pa_cons pe_int (pa_cons (pe_glob (v := .int 1000000000000000000000000000000) rfl g_MOST_ENTRIES ⟨_, rfl⟩) pa_nil))))))
    (pss_one (ps_raise rfl (takes_of rfl rfl rfl rfl) (pmk_own PySem.F.excBase_ValueError XInvalidSize.q XInvalidSize.g XInvalidSize.k (raises_own XInvalidSize.b XInvalidSize.t) rfl)))
    pss_nil)), ?_⟩
  refine ⟨_, rfl, v, ty, 1, top30, rfl, hv, inRange 1 top30 v, rfl, ?_⟩
  rcases q with ⟨e, q⟩ | ⟨e, q⟩
  · rw [e]; exact q
  · rw [e]; exact q
def spCheckEntryX (K : PySem.W.Frag) (C : Addr) : Sp := fun vs H Q E => ∃ (n : Int) (v : V) (t : String), vs = [.int n, v] ∧ Pl K H v t ∧ ((inRange 0 (n - 1) v = true ∧ Q .non H) ∨ (inRange 0 (n - 1) v = false ∧ E (.ref C) none H))
theorem okX_check_entry {f g : Addr} {fd gd : FuncData} (F : Fun K "check_entry" "check_entry" sCheckEntry f fd) (XInvalidEntry : XF K mg "InvalidEntry" CInvalidEntry) (GIsBetween : FnOk P w K mg base CX0 2 g gd ["value", "low", "high"] (spBetweenV K)) (AIsBetween : At K mg "is_between" g gd ["value", "low", "high"]) :
    FnOk P w K mg base (L2.CX P w) 3 f fd ["size", "entry"] (spCheckEntryX K CInvalidEntry) := by
  refine F.okX scCheckEntry (fun vs H Q E h => ?_) (fun cdv A outer s H vs Q E hr h => ?_)
  · obtain ⟨_, _, _, rfl, _⟩ := h
    rfl
  obtain ⟨n, v, ty, rfl, hv, q⟩ := h
  refine ⟨_, (pss_one (ps_if (pt_not (pt_val (pe_call GIsBetween (hr.mono (by decide)) rfl AIsBetween.m AIsBetween.kp AIsBetween.b .nil pass0 (pa_cons (pv 1) (pa_cons pe_int (pa_cons (pe_op op_sub (pv 0) pe_int) pa_nil))))))
    (pss_one (ps_raise rfl (takes_of rfl rfl rfl rfl) (pmk_own PySem.F.excBase_ValueError XInvalidEntry.q XInvalidEntry.g XInvalidEntry.k (raises_own XInvalidEntry.b XInvalidEntry.t) rfl)))
    pss_nil)), ?_⟩
  refine ⟨_, rfl, _, rfl, _, _, rfl, rfl, v, ty, 0, n - 1, rfl, hv, inRange 0 (n - 1) v, rfl, ?_⟩
  rcases q with ⟨e, q⟩ | ⟨e, q⟩
  · rw [e]; exact q
  · rw [e]; exact q
def spCheckSpanX (K : PySem.W.Frag) (C : Addr) : Sp := fun vs H Q E => ∃ (n : Int) (v1 v2 : V) (t1 t2 : String), vs = [.int n, v1, v2] ∧ Pl K H v1 t1 ∧ Pl K H v2 t2 ∧
  ((inRange 0 (n - 1) v1 = false ∧ E (.ref C) none H) ∨ ∃ b : Int, v1 = .int b ∧ inRange 0 (n - 1) v1 = true ∧ inRange (b + 1) n v2 = false ∧ E (.ref C) none H)
theorem okX_check_span {f g : Addr} {fd gd : FuncData} (F : Fun K "check_span" "check_span" sCheckSpan f fd) (XInvalidSpan : XF K mg "InvalidSpan" CInvalidSpan) (GIsBetween : FnOk P w K mg base CX0 2 g gd ["value", "low", "high"] (spBetweenV K)) (AIsBetween : At K mg "is_between" g gd ["value", "low", "high"]) :
    FnOk P w K mg base (L2.CX P w) 3 f fd ["size", "begin", "end"] (spCheckSpanX K CInvalidSpan) := by
  refine F.okX scCheckSpan (fun vs H Q E h => ?_) (fun cdv A outer s H vs Q E hr h => ?_)
  · obtain ⟨_, _, _, _, _, rfl, _⟩ := h
    rfl
  obtain ⟨n, v1, v2, t1, t2, rfl, hv1, hv2, q⟩ := h
  refine ⟨_, (pss_cons (ps_if (pt_not (pt_val (pe_call GIsBetween (hr.mono (by decide)) rfl AIsBetween.m AIsBetween.kp AIsBetween.b .nil pass0 (pa_cons (pv 1) (pa_cons pe_int (pa_cons (pe_op op_sub (pv 0) pe_int) pa_nil))))))
    (pss_one (ps_raise rfl (takes_of rfl rfl rfl rfl) (pmk_own PySem.F.excBase_ValueError XInvalidSpan.q XInvalidSpan.g XInvalidSpan.k (raises_own XInvalidSpan.b XInvalidSpan.t) rfl)))
    pss_nil)
    (pss_one (ps_if (pt_not (pt_val (pe_call GIsBetween (hr.mono (by decide)) rfl AIsBetween.m AIsBetween.kp AIsBetween.b .nil pass0 (pa_cons (pv 2) (pa_cons (pe_op op_add (pv 1) pe_int) (pa_cons (pv 0) pa_nil))))))
    (pss_one (ps_raise rfl (takes_of rfl rfl rfl rfl) (pmk_own PySem.F.excBase_ValueError XInvalidSpan.q XInvalidSpan.g XInvalidSpan.k (raises_own XInvalidSpan.b XInvalidSpan.t) rfl)))
    pss_nil))), ?_⟩
  refine ⟨_, rfl, _, rfl, _, _, rfl, rfl, v1, t1, 0, n - 1, rfl, hv1, inRange 0 (n - 1) v1, rfl, ?_⟩
  rcases q with ⟨e, q⟩ | ⟨b, rfl, e, e2, q⟩
  · rw [e]; exact q
  · rw [e]
    refine ⟨_, rfl, _, rfl, _, _, rfl, rfl, _, rfl, v2, t2, b + 1, n, rfl, hv2, inRange (b + 1) n v2, rfl, ?_⟩
    rw [e2]
    exact q
def spCheckNumberX (K : PySem.W.Frag) (C : Addr) : Sp := fun vs H Q E => ∃ (v : V) (t : String), vs = [v] ∧ Pl K H v t ∧ ((isInt v = true ∧ Q .non H) ∨ (isInt v = false ∧ E (.ref C) none H))
theorem okX_check_number {f g : Addr} {fd gd : FuncData} (F : Fun K "check_number" "check_number" sCheckNumber f fd) (XInvalidNumber : XF K mg "InvalidNumber" CInvalidNumber) (GIsWhole : FnOk P w K mg base CX0 1 g gd ["value"] (spWholeV K)) (AIsWhole : At K mg "is_whole" g gd ["value"]) :
    FnOk P w K mg base (L2.CX P w) 2 f fd ["number"] (spCheckNumberX K CInvalidNumber) := by
  refine F.okX scCheckNumber (fun vs H Q E h => ?_) (fun cdv A outer s H vs Q E hr h => ?_)
  · obtain ⟨_, _, rfl, _⟩ := h
    rfl
  obtain ⟨v, ty, rfl, hv, q⟩ := h
  refine ⟨_, (pss_one (ps_if (pt_not (pt_val (pe_call GIsWhole (hr.mono (by decide)) rfl AIsWhole.m AIsWhole.kp AIsWhole.b .nil pass0 (pa_cons (pv 0) pa_nil))))
    (pss_one (ps_raise rfl (takes_of rfl rfl rfl rfl) (pmk_own PySem.F.excBase_ValueError XInvalidNumber.q XInvalidNumber.g XInvalidNumber.k (raises_own XInvalidNumber.b XInvalidNumber.t) rfl)))
    pss_nil)), ?_⟩
  refine ⟨_, rfl, v, ty, rfl, hv, isInt v, rfl, ?_⟩
  rcases q with ⟨e, q⟩ | ⟨e, q⟩
  · rw [e]; exact q
  · rw [e]; exact q
end
end LT

namespace LT
open PySem PySem.Spec PyProof.Rows L2
section
variable {P : Program} {w : World} {K : PySem.W.Frag} {mg : Str → Option Value} {base : Heap} {CS CE CP CN : Addr}
/-- a wrong size, or behind a good one a wrong entry -/
def spPathX (K : PySem.W.Frag) (CS CE : Addr) : Sp := fun vs H Q E => ∃ (v1 v2 : V) (t1 t2 : String), vs = [v1, v2] ∧ Pl K H v1 t1 ∧ Pl K H v2 t2 ∧
  ((inRange 1 top30 v1 = false ∧ E (.ref CS) none H) ∨ ∃ n : Int, v1 = .int n ∧ inRange 1 top30 v1 = true ∧ inRange 0 (n - 1) v2 = false ∧ E (.ref CE) none H)
theorem okX_path {f g1 g2 g3 : Addr} {fd d1 d2 d3 : FuncData} (F : Fun K "path" "path" sPath f fd) (GXCheckSize : FnOk P w K mg base (L2.CX P w) 3 g1 d1 ["size"] (spCheckSizeX K CS)) (ACheckSize : At K mg "check_size" g1 d1 ["size"])
    (GXCheckEntry : FnOk P w K mg base (L2.CX P w) 3 g2 d2 ["size", "entry"] (spCheckEntryX K CE)) (ACheckEntry : At K mg "check_entry" g2 d2 ["size", "entry"]) (GHalves : FnOk P w K mg base CX0 5 g3 d3 ["size", "node"] spHalves) (AHalves : At K mg "halves" g3 d3 ["size", "node"]) :
    FnOk P w K mg base (L2.CX P w) 6 f fd ["size", "entry"] (spPathX K CS CE) := by
  refine F.okX scPath (fun vs H Q E h => ?_) (fun cdv A outer s H vs Q E hr h => ?_)
  · obtain ⟨_, _, _, _, rfl, _⟩ := h
    rfl
  obtain ⟨v1, v2, t1, t2, rfl, h1, h2, q⟩ := h
  refine ⟨_, (pss_cons (ps_expr (pe_callS GXCheckSize (hr.mono (by decide)) rfl ACheckSize.m ACheckSize.kp ACheckSize.b (fun σ => passAt (takes_of rfl rfl rfl rfl) σ) (pa_cons (pv 0) pa_nil)))
    (pss_cons (ps_expr (pe_callS GXCheckEntry (hr.mono (by decide)) rfl ACheckEntry.m ACheckEntry.kp ACheckEntry.b (fun σ => passAt (takes_of rfl rfl rfl rfl) σ) (pa_cons (pv 0) (pa_cons (pv 1) pa_nil))))
    (pss_cons (ps_set (i := 2) scPath.nd rfl (Or.inl rfl) (pe_lst pa_nil))
    (pss_cons (ps_set (i := 3) scPath.nd rfl (Or.inl rfl) (pe_tup (pa_cons pe_int (pa_cons (pv 0) pa_nil))))
    (pss_cons (ps_while PassesOwn.leaving (pt_cmpR (op_neD hr.units) (pv 3) (pe_tup (pa_cons (pv 1) (pa_cons (pe_op op_add (pv 1) pe_int) pa_nil))) (nomark _))
    (pss_cons (ps_asg (pe_call GHalves (hr.mono (by decide)) rfl AHalves.m AHalves.kp AHalves.b .nil pass0 (pa_cons (pv 0) (pa_cons (pv 3) pa_nil))) (pg_tup (by rfl) (pgs_cons (pg_name (i := 4) scPath.nd rfl (Or.inl rfl)) (pgs_cons (pg_name (i := 5) scPath.nd rfl (Or.inl rfl)) pgs_nil))))
    (pss_one (ps_if (pt_cmpR op_lt (pv 1) (pe_ix ix_tup (pv 4) pe_int (fun _ _ => rfl)) (nomark _))
    (pss_cons (ps_set (i := 3) scPath.nd rfl (Or.inl rfl) (pv 4))
    (pss_one (ps_expr (pe_bm PySem.F.plainAttrs_list PySem.F.slot_list_append PySem.F.type_list_append mt_append (pv 2) (pa_cons (pv 5) pa_nil)))))
    (pss_cons (ps_set (i := 3) scPath.nd rfl (Or.inl rfl) (pv 5))
    (pss_one (ps_expr (pe_bm PySem.F.plainAttrs_list PySem.F.slot_list_append PySem.F.type_list_append mt_append (pv 2) (pa_cons (pv 4) pa_nil)))))))))
    (pss_one (ps_ret (pe_revL (pv 2))))))))), ?_⟩
  rcases q with ⟨e, q⟩ | ⟨n, rfl, e, e2, q⟩
  · exact ⟨_, rfl, v1, t1, rfl, h1, .inr ⟨e, q⟩⟩
  · exact ⟨_, rfl, _, t1, rfl, h1, .inl ⟨e, _, rfl, _, rfl, n, v2, t2, rfl, h2, .inr ⟨e2, q⟩⟩⟩
theorem okX_depth {f g1 : Addr} {fd d1 : FuncData} (F : Fun K "depth" "depth" sDepth f fd) (GXPath : FnOk P w K mg base (L2.CX P w) 6 g1 d1 ["size", "entry"] (spPathX K CS CE)) (APath : At K mg "path" g1 d1 ["size", "entry"]) (z_len : mg "len" = none) :
    FnOk P w K mg base (L2.CX P w) 7 f fd ["size", "entry"] (spPathX K CS CE) := by
  refine F.okX scDepth (fun vs H Q E h => ?_) (fun cdv A outer s H vs Q E hr h => ?_)
  · obtain ⟨_, _, _, _, rfl, _⟩ := h
    rfl
  obtain ⟨v1, v2, t1, t2, rfl, q⟩ := h
  refine ⟨_, (pss_one (ps_ret (pe_callB call_len_seq (by rfl) z_len PySem.boot_len (pa_cons (pe_callS GXPath (hr.mono (by decide)) rfl APath.m APath.kp APath.b (fun σ => passAt (takes_of rfl rfl rfl rfl) σ) (pa_cons (pv 0) (pa_cons (pv 1) pa_nil))) pa_nil)))), ?_⟩
  exact ⟨_, rfl, _, rfl, v1, v2, t1, t2, rfl, q⟩
/-- a wrong size, or behind a good one a wrong number -/
def spFirstX (K : PySem.W.Frag) (CS CN : Addr) : Sp := fun vs H Q E => ∃ (v1 v2 : V) (t1 t2 : String), vs = [v1, v2] ∧ Pl K H v1 t1 ∧ Pl K H v2 t2 ∧
  ((inRange 1 top30 v1 = false ∧ E (.ref CS) none H) ∨ (inRange 1 top30 v1 = true ∧ isInt v2 = false ∧ E (.ref CN) none H))
theorem okX_first_of_depth {f g1 g2 g3 : Addr} {fd d1 d2 d3 : FuncData} (F : Fun K "first_of_depth" "first_of_depth" sFirstOfDepth f fd) (GXCheckSize : FnOk P w K mg base (L2.CX P w) 3 g1 d1 ["size"] (spCheckSizeX K CS)) (ACheckSize : At K mg "check_size" g1 d1 ["size"])
    (GXCheckNumber : FnOk P w K mg base (L2.CX P w) 2 g2 d2 ["number"] (spCheckNumberX K CN)) (ACheckNumber : At K mg "check_number" g2 d2 ["number"]) (GPeakDepths : FnOk P w K mg base CX0 5 g3 d3 ["size"] spRows) (APeakDepths : At K mg "_peak_depths" g3 d3 ["size"]) :
    FnOk P w K mg base (L2.CX P w) 6 f fd ["size", "number"] (spFirstX K CS CN) := by
  refine F.okX scFirstOfDepth (fun vs H Q E h => ?_) (fun cdv A outer s H vs Q E hr h => ?_)
  · obtain ⟨_, _, _, _, rfl, _⟩ := h
    rfl
  obtain ⟨v1, v2, t1, t2, rfl, h1, h2, q⟩ := h
  refine ⟨_, (pss_cons (ps_expr (pe_callS GXCheckSize (hr.mono (by decide)) rfl ACheckSize.m ACheckSize.kp ACheckSize.b (fun σ => passAt (takes_of rfl rfl rfl rfl) σ) (pa_cons (pv 0) pa_nil)))
    (pss_cons (ps_expr (pe_callS GXCheckNumber (hr.mono (by decide)) rfl ACheckNumber.m ACheckNumber.kp ACheckNumber.b (fun σ => passAt (takes_of rfl rfl rfl rfl) σ) (pa_cons (pv 1) pa_nil)))
    (pss_cons (ps_for PassesOwn.leaving rfl (pi_list (pe_call GPeakDepths (hr.mono (by decide)) rfl APeakDepths.m APeakDepths.kp APeakDepths.b .nil pass0 (pa_cons (pv 0) pa_nil))) (pg_tup (by rfl) (pgs_cons (pg_name (i := 2) scFirstOfDepth.nd rfl (Or.inl rfl)) (pgs_cons (pg_name (i := 3) scFirstOfDepth.nd rfl (Or.inl rfl)) (pgs_cons (pg_name (i := 4) scFirstOfDepth.nd rfl (Or.inl rfl)) pgs_nil))))
    (pss_one (ps_if (pt_cmpR op_eq (pv 4) (pv 1) (nomark _))
    (pss_one (ps_ret (pv 2)))
    pss_nil)))
    (pss_one (ps_ret pe_non))))), ?_⟩
  rcases q with ⟨e, q⟩ | ⟨e, e2, q⟩
  · exact ⟨_, rfl, v1, t1, rfl, h1, .inr ⟨e, q⟩⟩
  · exact ⟨_, rfl, v1, t1, rfl, h1, .inl ⟨e, _, rfl, v2, t2, rfl, h2, .inr ⟨e2, q⟩⟩⟩
/-- a wrong size, or behind a good one a wrong begin, or a wrong end -/
def spSpanX (K : PySem.W.Frag) (CS CP : Addr) : Sp := fun vs H Q E => ∃ (v1 v2 v3 : V) (t1 t2 t3 : String), vs = [v1, v2, v3] ∧ Pl K H v1 t1 ∧ Pl K H v2 t2 ∧ Pl K H v3 t3 ∧
  ((inRange 1 top30 v1 = false ∧ E (.ref CS) none H) ∨ ∃ n : Int, v1 = .int n ∧ inRange 1 top30 v1 = true ∧ ((inRange 0 (n - 1) v2 = false ∧ E (.ref CP) none H) ∨ ∃ b : Int, v2 = .int b ∧ inRange 0 (n - 1) v2 = true ∧ inRange (b + 1) n v3 = false ∧ E (.ref CP) none H))
theorem okX_depth_sum {f g1 g2 g3 : Addr} {fd d1 d2 d3 : FuncData} (F : Fun K "depth_sum" "depth_sum" sDepthSum f fd) (GXCheckSize : FnOk P w K mg base (L2.CX P w) 3 g1 d1 ["size"] (spCheckSizeX K CS)) (ACheckSize : At K mg "check_size" g1 d1 ["size"])
    (GXCheckSpan : FnOk P w K mg base (L2.CX P w) 3 g2 d2 ["size", "begin", "end"] (spCheckSpanX K CP)) (ACheckSpan : At K mg "check_span" g2 d2 ["size", "begin", "end"]) (GDepthsBetween : FnOk P w K mg base CX0 6 g3 d3 ["size", "begin", "end"] spBetweenRows) (ADepthsBetween : At K mg "_depths_between" g3 d3 ["size", "begin", "end"]) (z_sum : mg "sum" = none) :
    FnOk P w K mg base (L2.CX P w) 7 f fd ["size", "begin", "end"] (spSpanX K CS CP) := by
  refine F.okX scDepthSum (fun vs H Q E h => ?_) (fun cdv A outer s H vs Q E hr h => ?_)
  · obtain ⟨_, _, _, _, _, _, rfl, _⟩ := h
    rfl
  obtain ⟨v1, v2, v3, t1, t2, t3, rfl, h1, h2, h3, q⟩ := h
  refine ⟨_, (pss_cons (ps_expr (pe_callS GXCheckSize (hr.mono (by decide)) rfl ACheckSize.m ACheckSize.kp ACheckSize.b (fun σ => passAt (takes_of rfl rfl rfl rfl) σ) (pa_cons (pv 0) pa_nil)))
    (pss_cons (ps_expr (pe_callS GXCheckSpan (hr.mono (by decide)) rfl ACheckSpan.m ACheckSpan.kp ACheckSpan.b (fun σ => passAt (takes_of rfl rfl rfl rfl) σ) (pa_cons (pv 0) (pa_cons (pv 1) (pa_cons (pv 2) pa_nil)))))
    (pss_one (ps_ret (pe_callB (cr_sum rfl) (by rfl) z_sum (by decide +kernel) (pa_cons (pe_lc (own := [("count", 3), ("deep", 4)]) rfl scDepthSum.nd (pi_list (pe_call GDepthsBetween (hr.mono (by decide)) rfl ADepthsBetween.m ADepthsBetween.kp ADepthsBetween.b .nil pass0 (pa_cons (pv 0) (pa_cons (pv 1) (pa_cons (pv 2) pa_nil))))) (blkOk_by (N := ["size", "begin", "end", "count", "deep"]) (sc := defScope sDepthSum) (by decide +kernel)) (fun _ _ _ _ _ => (pg_tupB (n := 2) rfl (pgs_cons (pg_name (i := 3) scDepthSum.nd rfl (Or.inl rfl)) (pgs_cons (pg_name (i := 4) scDepthSum.nd rfl (Or.inl rfl)) pgs_nil)))) (fun _ _ _ _ _ => pts_nil) (fun _ _ _ _ _ => (pe_op op_mul (pv 3) (pv 4)))) pa_nil)))))), ?_⟩
  rcases q with ⟨e, q⟩ | ⟨n, rfl, e, q⟩
  · exact ⟨_, rfl, v1, t1, rfl, h1, .inr ⟨e, q⟩⟩
  · exact ⟨_, rfl, _, t1, rfl, h1, .inl ⟨e, _, rfl, _, rfl, _, rfl, n, v2, v3, t2, t3, rfl, h2, h3, q⟩⟩
theorem okX_depth_range {f g1 g2 g3 : Addr} {fd d1 d2 d3 : FuncData} (F : Fun K "depth_range" "depth_range" sDepthRange f fd) (GXCheckSize : FnOk P w K mg base (L2.CX P w) 3 g1 d1 ["size"] (spCheckSizeX K CS)) (ACheckSize : At K mg "check_size" g1 d1 ["size"])
    (GXCheckSpan : FnOk P w K mg base (L2.CX P w) 3 g2 d2 ["size", "begin", "end"] (spCheckSpanX K CP)) (ACheckSpan : At K mg "check_span" g2 d2 ["size", "begin", "end"]) (GDepthsBetween : FnOk P w K mg base CX0 6 g3 d3 ["size", "begin", "end"] spBetweenRows) (ADepthsBetween : At K mg "_depths_between" g3 d3 ["size", "begin", "end"]) (z_min : mg "min" = none) (z_max : mg "max" = none) :
    FnOk P w K mg base (L2.CX P w) 7 f fd ["size", "begin", "end"] (spSpanX K CS CP) := by
  refine F.okX scDepthRange (fun vs H Q E h => ?_) (fun cdv A outer s H vs Q E hr h => ?_)
  · obtain ⟨_, _, _, _, _, _, rfl, _⟩ := h
    rfl
  obtain ⟨v1, v2, v3, t1, t2, t3, rfl, h1, h2, h3, q⟩ := h
  refine ⟨_, (pss_cons (ps_expr (pe_callS GXCheckSize (hr.mono (by decide)) rfl ACheckSize.m ACheckSize.kp ACheckSize.b (fun σ => passAt (takes_of rfl rfl rfl rfl) σ) (pa_cons (pv 0) pa_nil)))
    (pss_cons (ps_expr (pe_callS GXCheckSpan (hr.mono (by decide)) rfl ACheckSpan.m ACheckSpan.kp ACheckSpan.b (fun σ => passAt (takes_of rfl rfl rfl rfl) σ) (pa_cons (pv 0) (pa_cons (pv 1) (pa_cons (pv 2) pa_nil)))))
    (pss_cons (ps_setLc (i := 3) (own := [("_", 4), ("deep", 5)]) rfl scDepthRange.nd rfl rfl (sw_true rfl rfl rfl (by decide +kernel)) (pi_list (pe_call GDepthsBetween (hr.mono (by decide)) rfl ADepthsBetween.m ADepthsBetween.kp ADepthsBetween.b .nil pass0 (pa_cons (pv 0) (pa_cons (pv 1) (pa_cons (pv 2) pa_nil))))) (blkOk_by (N := ["size", "begin", "end", "found", "_", "deep"]) (sc := defScope sDepthRange) (by decide +kernel)) (fun _ _ _ _ _ => (pg_tupB (n := 2) rfl (pgs_cons (pg_name (i := 4) scDepthRange.nd rfl (Or.inl rfl)) (pgs_cons (pg_name (i := 5) scDepthRange.nd rfl (Or.inl rfl)) pgs_nil)))) (fun _ _ _ _ _ => pts_nil) (fun _ _ _ _ _ => (pv 5)))
    (pss_one (ps_ret (pe_tup (pa_cons (pe_callB (cr_min rfl) (by rfl) z_min (by decide +kernel) (pa_cons (pv 3) pa_nil)) (pa_cons (pe_callB (cr_max rfl) (by rfl) z_max (by decide +kernel) (pa_cons (pv 3) pa_nil)) pa_nil)))))))), ?_⟩
  rcases q with ⟨e, q⟩ | ⟨n, rfl, e, q⟩
  · exact ⟨_, rfl, v1, t1, rfl, h1, .inr ⟨e, q⟩⟩
  · exact ⟨_, rfl, _, t1, rfl, h1, .inl ⟨e, _, rfl, _, rfl, _, rfl, n, v2, v3, t2, t3, rfl, h2, h3, q⟩⟩
/-- sizes_with: a wrong entry, number, size -/
def spSizesX (K : PySem.W.Frag) (CE CN CS : Addr) : Sp := fun vs H Q E => ∃ (v1 v2 v3 : V) (t1 t2 t3 : String), vs = [v1, v2, v3] ∧ Pl K H v1 t1 ∧ Pl K H v2 t2 ∧ Pl K H v3 t3 ∧
  ((inRange 0 (top30 - 1) v1 = false ∧ E (.ref CE) none H) ∨ (inRange 0 (top30 - 1) v1 = true ∧ ((isInt v2 = false ∧ E (.ref CN) none H) ∨ (isInt v2 = true ∧ inRange 1 top30 v3 = false ∧ E (.ref CS) none H))))
theorem okX_sizes_with {f g1 g2 g3 g4 g5 : Addr} {fd d1 d2 d3 d4 d5 : FuncData} {tm : Tok} (F : Fun K "sizes_with" "sizes_with" sSizesWith f fd)
    (GXCheckEntry : FnOk P w K mg base (L2.CX P w) 3 g1 d1 ["size", "entry"] (spCheckEntryX K CE)) (ACheckEntry : At K mg "check_entry" g1 d1 ["size", "entry"])
    (GXCheckNumber : FnOk P w K mg base (L2.CX P w) 2 g2 d2 ["number"] (spCheckNumberX K CN)) (ACheckNumber : At K mg "check_number" g2 d2 ["number"])
    (GXCheckSize : FnOk P w K mg base (L2.CX P w) 3 g3 d3 ["size"] (spCheckSizeX K CS)) (ACheckSize : At K mg "check_size" g3 d3 ["size"])
    (GDepth : FnOk P w K mg base CX0 7 g4 d4 ["size", "entry"] spDepth) (ADepth : At K mg "depth" g4 d4 ["size", "entry"])
    (GNextEnd : FnOk P w K mg base CX0 1 g5 d5 ["entry", "end"] spNextEnd) (ANextEnd : At K mg "_next_end" g5 d5 ["entry", "end"])
    (g_MOST_ENTRIES : mg "MOST_ENTRIES" = some (.int 1000000000000000000000000000000 tm)) (z_min : mg "min" = none) : FnOk P w K mg base (L2.CX P w) 8 f fd ["entry", "number", "most"] (spSizesX K CE CN CS) := by
  refine F.okX scSizesWith (fun vs H Q E h => ?_) (fun cdv A outer s H vs Q E hr h => ?_)
  · obtain ⟨_, _, _, _, _, _, rfl, _⟩ := h
    rfl
  obtain ⟨v1, v2, v3, t1, t2, t3, rfl, h1, h2, h3, q⟩ := h
  refine ⟨_, (pss_cons (ps_expr (pe_callS GXCheckEntry (hr.mono (by decide)) rfl ACheckEntry.m ACheckEntry.kp ACheckEntry.b (fun σ => passAt (takes_of rfl rfl rfl rfl) σ) (pa_cons (pe_glob (v := .int 1000000000000000000000000000000) rfl g_MOST_ENTRIES ⟨_, rfl⟩) (pa_cons (pv 0) pa_nil))))
    (pss_cons (ps_expr (pe_callS GXCheckNumber (hr.mono (by decide)) rfl ACheckNumber.m ACheckNumber.kp ACheckNumber.b (fun σ => passAt (takes_of rfl rfl rfl rfl) σ) (pa_cons (pv 1) pa_nil)))
    (pss_cons (ps_expr (pe_callS GXCheckSize (hr.mono (by decide)) rfl ACheckSize.m ACheckSize.kp ACheckSize.b (fun σ => passAt (takes_of rfl rfl rfl rfl) σ) (pa_cons (pv 2) pa_nil)))
    (pss_cons (ps_asg2 (pe_op op_add (pv 0) pe_int) (pg_name (i := 3) scSizesWith.nd rfl (Or.inl rfl)) (pg_name (i := 4) scSizesWith.nd rfl (Or.inl rfl)))
    (pss_cons (ps_set (i := 5) scSizesWith.nd rfl (Or.inl rfl) (pe_call GDepth (hr.mono (by decide)) rfl ADepth.m ADepth.kp ADepth.b .nil pass0 (pa_cons (pv 3) (pa_cons (pv 0) pa_nil))))
    (pss_cons (ps_while PassesOwn.leaving (PW.pt (pw_and (pt_cmpR op_lt (pv 5) (pv 1) (nomark _)) (pw_and1 (pt_cmpR op_le (pv 3) (pv 2) (nomark _)))))
    (pss_cons (ps_set (i := 3) scSizesWith.nd rfl (Or.inl rfl) (pe_op op_add (pv 4) pe_int))
    (pss_cons (ps_set (i := 4) scSizesWith.nd rfl (Or.inl rfl) (pe_call GNextEnd (hr.mono (by decide)) rfl ANextEnd.m ANextEnd.kp ANextEnd.b .nil pass0 (pa_cons (pv 0) (pa_cons (pv 4) pa_nil))))
    (pss_one (ps_aug (i := 5) scSizesWith.nd rfl (Or.inl rfl) pe_int ip_add)))))
    (pss_cons (ps_if (PW.pt (pw_or (pt_cmpR op_ne (pv 5) (pv 1) (nomark _)) (pw_or1 (pt_cmpR op_gt (pv 3) (pv 2) (nomark _)))))
    (pss_one (ps_ret (pe_lst pa_nil)))
    pss_nil)
    (pss_one (ps_ret (pe_lst (pa_cons (pe_tup (pa_cons (pv 3) (pa_cons (pe_callB (call_min2 rfl) (by rfl) z_min (by decide +kernel) (pa_cons (pv 4) (pa_cons (pv 2) pa_nil))) pa_nil))) pa_nil))))))))))), ?_⟩
  rcases q with ⟨e, q⟩ | ⟨e, ⟨e2, q⟩ | ⟨e2, e3, q⟩⟩
  · exact ⟨_, rfl, top30, v1, t1, rfl, h1, .inr ⟨e, q⟩⟩
  · exact ⟨_, rfl, top30, v1, t1, rfl, h1, .inl ⟨e, _, rfl, v2, t2, rfl, h2, .inr ⟨e2, q⟩⟩⟩
  · exact ⟨_, rfl, top30, v1, t1, rfl, h1, .inl ⟨e, _, rfl, v2, t2, rfl, h2, .inl ⟨e2, _, rfl, v3, t3, rfl, h3, .inr ⟨e3, q⟩⟩⟩⟩
end
end LT

namespace LT
open PySem PySem.Spec PyProof.Rows L2
/-- a text and a truth -/
def Sb (H : Hp) (v : V) (x : Str × Bool) : Prop := ∃ p, v = .ref p ∧ H p = some (.tup [.str x.1, .bl x.2])
theorem Sb.same {H H' : Hp} {v : V} {x : Str × Bool} (h : Sb H v x) (s : Same H H') : Sb H' v x := by
  obtain ⟨p, e, q⟩ := h
  exact ⟨p, e, s _ _ q⟩
theorem Sb.upd {H : Hp} {v : V} {x : Str × Bool} {s : Addr} {xs : List V} {o : HO} (h : Sb H v x) (hs : H s = some (.lst xs)) : Sb (upd H s o) v x := by
  obtain ⟨p, e, q⟩ := h
  exact ⟨p, e, by rw [upd_ne (ne_of q hs (by intro z; cases z))]; exact q⟩
structure GF (mg : Str → Option Value) (x : Str) (C : Addr) : Prop where
  g : mg x = some (.ref C)
/-- an instance of the class at C is asked for each of the classes -/
def Kit (K : PySem.W.Frag) (C : Addr) : List Addr → List Bool → Prop
  | [], [] => True
  | D :: Ds, b :: bs => PySem.W.kitOne K (.ref C) (.ref D) = some b ∧ Kit K C Ds bs
  | _, _ => False
def clsNames : List Str := ["InvalidSpans", "InvalidNodes", "InvalidBounds", "InvalidText", "OverBudget", "InvalidSize", "InvalidEntry", "InvalidNode", "InvalidSpan", "InvalidNumber", "InvalidHeight", "InvalidBudget", "Nothing", "InvalidOperation", "InvalidCommand"]
section
variable {P : Program} {w : World} {K : PySem.W.Frag} {mg : Str → Option Value} {base : Heap} {CInvalidSpans CInvalidNodes CInvalidBounds CInvalidText COverBudget CInvalidSize CInvalidEntry CInvalidNode CInvalidSpan CInvalidNumber CInvalidHeight CInvalidBudget CNothing CInvalidOperation CInvalidCommand : Addr}
def spClass (K : PySem.W.Frag) (Cs : List Addr) : Sp := fun vs H Q _ => ∃ (a C : Addr) (bs : List Bool) (nm : Str), vs = [.ref a] ∧ H a = some (ExK (.ref C) none a) ∧ ExcC K C ∧ Kit K C Cs bs ∧ PySem.W.kitOne K (.ref C) (.type "ValueError") = some true ∧
  ((clsNames.zip bs).filter fun x => x.2).map (fun x => x.1) = [nm] ∧ nm ≠ "InvalidBounds" ∧ nm ++ ("" : Str) = nm ∧ nm.length ≤ 100 ∧ ∀ H', Same H H' → Q (.str nm) H'
theorem ok_law_class {f : Addr} {fd : FuncData} (F : Fun K "_law_class" "_law_class" sLawClass f fd) (XInvalidSpans : GF mg "InvalidSpans" CInvalidSpans) (XInvalidNodes : GF mg "InvalidNodes" CInvalidNodes) (XInvalidBounds : GF mg "InvalidBounds" CInvalidBounds) (XInvalidText : GF mg "InvalidText" CInvalidText) (XOverBudget : GF mg "OverBudget" COverBudget) (XInvalidSize : GF mg "InvalidSize" CInvalidSize) (XInvalidEntry : GF mg "InvalidEntry" CInvalidEntry) (XInvalidNode : GF mg "InvalidNode" CInvalidNode) (XInvalidSpan : GF mg "InvalidSpan" CInvalidSpan) (XInvalidNumber : GF mg "InvalidNumber" CInvalidNumber) (XInvalidHeight : GF mg "InvalidHeight" CInvalidHeight) (XInvalidBudget : GF mg "InvalidBudget" CInvalidBudget) (XNothing : GF mg "Nothing" CNothing) (XInvalidOperation : GF mg "InvalidOperation" CInvalidOperation) (XInvalidCommand : GF mg "InvalidCommand" CInvalidCommand) (z_isinstance : mg "isinstance" = none) (z_len : mg "len" = none) (z_repr : mg "repr" = none) (z_ValueError : mg "ValueError" = none) : FnOk P w K mg base CX0 1 f fd ["caught"] (spClass K [CInvalidSpans, CInvalidNodes, CInvalidBounds, CInvalidText, COverBudget, CInvalidSize, CInvalidEntry, CInvalidNode, CInvalidSpan, CInvalidNumber, CInvalidHeight, CInvalidBudget, CNothing, CInvalidOperation, CInvalidCommand]) := by
  refine F.ok scLawClass (fun vs H Q E h => ?_) (fun cdv A outer s H vs Q E hr h => ?_)
  · obtain ⟨_, _, _, _, rfl, _⟩ := h
    rfl
  obtain ⟨a, C, bs, nm, rfl, ha, hE, hk, hV, hf, hnb, hap, hl, q⟩ := h
  obtain ⟨b0, b1, b2, b3, b4, b5, b6, b7, b8, b9, b10, b11, b12, b13, b14, rfl⟩ : ∃ b0 b1 b2 b3 b4 b5 b6 b7 b8 b9 b10 b11 b12 b13 b14, bs = [b0, b1, b2, b3, b4, b5, b6, b7, b8, b9, b10, b11, b12, b13, b14] := by
    match bs, hk with
    | [b0, b1, b2, b3, b4, b5, b6, b7, b8, b9, b10, b11, b12, b13, b14], _ => exact ⟨_, _, _, _, _, _, _, _, _, _, _, _, _, _, _, rfl⟩
  obtain ⟨k0, k1, k2, k3, k4, k5, k6, k7, k8, k9, k10, k11, k12, k13, k14, _⟩ := hk
  have two : 2 ≤ sizeLine := by decide
  have one1 : 1 ≤ sizeLine := by decide
  refine' ⟨_, (pss_cons (ps_set (i := 1) scLawClass.nd rfl (Or.inl rfl) (pe_lst (pa_cons (pe_tup (pa_cons pe_str (pa_cons (pe_callB call_isK (by rfl) z_isinstance (by decide +kernel) (pa_cons (pv 0) (pa_cons (pe_glob (v := .ref CInvalidSpans) rfl XInvalidSpans.g rfl) pa_nil))) pa_nil))) (pa_cons (pe_tup (pa_cons pe_str (pa_cons (pe_callB call_isK (by rfl) z_isinstance (by decide +kernel) (pa_cons (pv 0) (pa_cons (pe_glob (v := .ref CInvalidNodes) rfl XInvalidNodes.g rfl) pa_nil))) pa_nil))) pa_nil))))
    (pss_cons (ps_set (i := 1) scLawClass.nd rfl (Or.inl rfl) (pe_op op_cat (pv 1) (pe_lst (pa_cons (pe_tup (pa_cons pe_str (pa_cons (pe_callB call_isK (by rfl) z_isinstance (by decide +kernel) (pa_cons (pv 0) (pa_cons (pe_glob (v := .ref CInvalidBounds) rfl XInvalidBounds.g rfl) pa_nil))) pa_nil))) pa_nil))))
    (pss_cons (ps_set (i := 1) scLawClass.nd rfl (Or.inl rfl) (pe_op op_cat (pv 1) (pe_lst (pa_cons (pe_tup (pa_cons pe_str (pa_cons (pe_callB call_isK (by rfl) z_isinstance (by decide +kernel) (pa_cons (pv 0) (pa_cons (pe_glob (v := .ref CInvalidText) rfl XInvalidText.g rfl) pa_nil))) pa_nil))) (pa_cons (pe_tup (pa_cons pe_str (pa_cons (pe_callB call_isK (by rfl) z_isinstance (by decide +kernel) (pa_cons (pv 0) (pa_cons (pe_glob (v := .ref COverBudget) rfl XOverBudget.g rfl) pa_nil))) pa_nil))) pa_nil)))))
    (pss_cons (ps_set (i := 1) scLawClass.nd rfl (Or.inl rfl) (pe_op op_cat (pv 1) (pe_lst (pa_cons (pe_tup (pa_cons pe_str (pa_cons (pe_callB call_isK (by rfl) z_isinstance (by decide +kernel) (pa_cons (pv 0) (pa_cons (pe_glob (v := .ref CInvalidSize) rfl XInvalidSize.g rfl) pa_nil))) pa_nil))) (pa_cons (pe_tup (pa_cons pe_str (pa_cons (pe_callB call_isK (by rfl) z_isinstance (by decide +kernel) (pa_cons (pv 0) (pa_cons (pe_glob (v := .ref CInvalidEntry) rfl XInvalidEntry.g rfl) pa_nil))) pa_nil))) pa_nil)))))
    (pss_cons (ps_set (i := 1) scLawClass.nd rfl (Or.inl rfl) (pe_op op_cat (pv 1) (pe_lst (pa_cons (pe_tup (pa_cons pe_str (pa_cons (pe_callB call_isK (by rfl) z_isinstance (by decide +kernel) (pa_cons (pv 0) (pa_cons (pe_glob (v := .ref CInvalidNode) rfl XInvalidNode.g rfl) pa_nil))) pa_nil))) (pa_cons (pe_tup (pa_cons pe_str (pa_cons (pe_callB call_isK (by rfl) z_isinstance (by decide +kernel) (pa_cons (pv 0) (pa_cons (pe_glob (v := .ref CInvalidSpan) rfl XInvalidSpan.g rfl) pa_nil))) pa_nil))) pa_nil)))))
    (pss_cons (ps_set (i := 1) scLawClass.nd rfl (Or.inl rfl) (pe_op op_cat (pv 1) (pe_lst (pa_cons (pe_tup (pa_cons pe_str (pa_cons (pe_callB call_isK (by rfl) z_isinstance (by decide +kernel) (pa_cons (pv 0) (pa_cons (pe_glob (v := .ref CInvalidNumber) rfl XInvalidNumber.g rfl) pa_nil))) pa_nil))) pa_nil))))
    (pss_cons (ps_set (i := 1) scLawClass.nd rfl (Or.inl rfl) (pe_op op_cat (pv 1) (pe_lst (pa_cons (pe_tup (pa_cons pe_str (pa_cons (pe_callB call_isK (by rfl) z_isinstance (by decide +kernel) (pa_cons (pv 0) (pa_cons (pe_glob (v := .ref CInvalidHeight) rfl XInvalidHeight.g rfl) pa_nil))) pa_nil))) pa_nil))))
    (pss_cons (ps_set (i := 1) scLawClass.nd rfl (Or.inl rfl) (pe_op op_cat (pv 1) (pe_lst (pa_cons (pe_tup (pa_cons pe_str (pa_cons (pe_callB call_isK (by rfl) z_isinstance (by decide +kernel) (pa_cons (pv 0) (pa_cons (pe_glob (v := .ref CInvalidBudget) rfl XInvalidBudget.g rfl) pa_nil))) pa_nil))) (pa_cons (pe_tup (pa_cons pe_str (pa_cons (pe_callB call_isK (by rfl) z_isinstance (by decide +kernel) (pa_cons (pv 0) (pa_cons (pe_glob (v := .ref CNothing) rfl XNothing.g rfl) pa_nil))) pa_nil))) pa_nil)))))
    (pss_cons (ps_set (i := 1) scLawClass.nd rfl (Or.inl rfl) (pe_op op_cat (pv 1) (pe_lst (pa_cons (pe_tup (pa_cons pe_str (pa_cons (pe_callB call_isK (by rfl) z_isinstance (by decide +kernel) (pa_cons (pv 0) (pa_cons (pe_glob (v := .ref CInvalidOperation) rfl XInvalidOperation.g rfl) pa_nil))) pa_nil))) pa_nil))))
    (pss_cons (ps_set (i := 1) scLawClass.nd rfl (Or.inl rfl) (pe_op op_cat (pv 1) (pe_lst (pa_cons (pe_tup (pa_cons pe_str (pa_cons (pe_callB call_isK (by rfl) z_isinstance (by decide +kernel) (pa_cons (pv 0) (pa_cons (pe_glob (v := .ref CInvalidCommand) rfl XInvalidCommand.g rfl) pa_nil))) pa_nil))) pa_nil))))
    (pss_cons ?cc1
    (pss_cons (ps_if (PW.pt (pw_or (pt_cmpR op_ne (pe_callB call_len_seq (by rfl) z_len PySem.boot_len (pa_cons (pv 2) pa_nil)) pe_int (nomark _)) (pw_or1 (pt_not (pt_val (pe_callB call_isK (by rfl) z_isinstance (by decide +kernel) (pa_cons (pv 0) (pa_cons (pe_bltn (v := .ty "ValueError") (u := .type "ValueError") (by rfl) z_ValueError (by decide +kernel) rfl) pa_nil))))))))
    (pss_one (ps_ret pe_str))
    pss_nil)
    (pss_one (ps_ret (pe_op op_add_str (pe_ix ix_list (pv 2) pe_int (fun _ _ => rfl)) (pe_ifExp (pt_cmpR op_eq (pe_ix ix_list (pv 2) pe_int (fun _ _ => rfl)) pe_str (nomark _)) (pe_op op_add_str pe_str (pe_callB SkE.call_repr_int (by rfl) z_repr (by decide +kernel) (pa_cons (pe_fld (pv 0) rfl) pa_nil))) pe_str)))))))))))))))), ?_⟩
  case cc1 => exact (ps_setLc (i := 2) (own := [("name", 3), ("is_one", 4)]) rfl scLawClass.nd rfl rfl (sw_true rfl rfl rfl (by decide +kernel)) (pi_list (pv 1)) (blkOk_by (N := ["caught", "some", "found", "name", "is_one"]) (sc := defScope sLawClass) (by decide +kernel)) (fun _ _ _ _ _ => (pg_tupB (n := 2) rfl (pgs_cons (pg_name (i := 3) scLawClass.nd rfl (Or.inl rfl)) (pgs_cons (pg_name (i := 4) scLawClass.nd rfl (Or.inl rfl)) pgs_nil)))) (fun _ _ _ _ _ => pts_one (pt_val (pv 4))) (fun _ _ _ _ _ => (pv 3)))
  refine ⟨_, rfl, a, C, _, _, b0, rfl, ha, hE, (fun u r => r), k0, two, fun t0 nt0 => ⟨_, rfl, a, C, _, _, b1, rfl, (same_upd nt0 _ _ ha), hE, (fun u r => r), k1, two, fun t1 nt1 => ⟨two, fun l0 nl0 => ?_⟩⟩⟩
  have st0 := same_upd (H := H) (o := .tup [.str "InvalidSpans", .bl b0]) nt0
  have sb0 : Sb (upd H t0 (.tup [.str "InvalidSpans", .bl b0])) (.ref t0) ("InvalidSpans", b0) := ⟨t0, rfl, upd_same⟩
  have st1 := same_upd (H := (upd H t0 (.tup [.str "InvalidSpans", .bl b0]))) (o := .tup [.str "InvalidNodes", .bl b1]) nt1
  have sb1 : Sb (upd (upd H t0 (.tup [.str "InvalidSpans", .bl b0])) t1 (.tup [.str "InvalidNodes", .bl b1])) (.ref t1) ("InvalidNodes", b1) := ⟨t1, rfl, upd_same⟩
  have sl0 := same_upd (H := (upd (upd H t0 (.tup [.str "InvalidSpans", .bl b0])) t1 (.tup [.str "InvalidNodes", .bl b1]))) (o := .lst [.ref t0, .ref t1]) nl0
  have sg0 := (st0.trans st1).trans sl0
  have hv0 : All2 (Sb (upd (upd (upd H t0 (.tup [.str "InvalidSpans", .bl b0])) t1 (.tup [.str "InvalidNodes", .bl b1])) l0 (.lst [.ref t0, .ref t1]))) [.ref t0, .ref t1] [(("InvalidSpans" : Str), b0), (("InvalidNodes" : Str), b1)] := (.cons ((sb0.same st1).same sl0) (.cons (sb1.same sl0) .nil))
  have hl0 : (upd (upd (upd H t0 (.tup [.str "InvalidSpans", .bl b0])) t1 (.tup [.str "InvalidNodes", .bl b1])) l0 (.lst [.ref t0, .ref t1])) l0 = some (.lst [.ref t0, .ref t1]) := upd_same
  have ha1 := sg0 _ _ ha
  have sm1 : Same H (upd (upd (upd H t0 (.tup [.str "InvalidSpans", .bl b0])) t1 (.tup [.str "InvalidNodes", .bl b1])) l0 (.lst [.ref t0, .ref t1])) := sg0
  have hx1 := hv0
  have hs1 := hl0
  generalize (upd (upd (upd H t0 (.tup [.str "InvalidSpans", .bl b0])) t1 (.tup [.str "InvalidNodes", .bl b1])) l0 (.lst [.ref t0, .ref t1])) = J1 at ha1 sm1 hx1 hs1
  have ex1 : ∃ (S : Addr) (X : List V) (L : List (Str × Bool)), L = [(("InvalidSpans" : Str), b0), (("InvalidNodes" : Str), b1)] ∧ J1 S = some (.lst X) ∧ All2 (Sb J1) X L ∧ S = l0 := ⟨l0, _, _, rfl, hs1, hx1, rfl⟩
  clear hs1 hx1
  obtain ⟨S1, X1, L1, eL1, hs1, hx1, ln1⟩ := ex1
  subst ln1
  refine ⟨_, rfl, _, rfl, a, C, _, _, b2, rfl, ha1, hE, (fun u r => r), k2, two, fun t2 nt2 => ⟨one1, fun l1 nl1 => ?_⟩⟩
  have st2 := same_upd (H := J1) (o := .tup [.str "InvalidBounds", .bl b2]) nt2
  have sb2 : Sb (upd J1 t2 (.tup [.str "InvalidBounds", .bl b2])) (.ref t2) ("InvalidBounds", b2) := ⟨t2, rfl, upd_same⟩
  have sl1 := same_upd (H := (upd J1 t2 (.tup [.str "InvalidBounds", .bl b2]))) (o := .lst [.ref t2]) nl1
  have sg1 := st2.trans sl1
  have hv1 : All2 (Sb (upd (upd J1 t2 (.tup [.str "InvalidBounds", .bl b2])) l1 (.lst [.ref t2]))) [.ref t2] [(("InvalidBounds" : Str), b2)] := (.cons (sb2.same sl1) .nil)
  have hl1 : (upd (upd J1 t2 (.tup [.str "InvalidBounds", .bl b2])) l1 (.lst [.ref t2])) l1 = some (.lst [.ref t2]) := upd_same
  have hS1 := sg1 _ _ hs1
  have hX1 := hx1.mono (fun v x (k : Sb J1 v x) => k.same sg1)
  have xl1 := hx1.len
  refine ⟨S1, l1, _, _, rfl, rfl, hS1, hl1, szle (by rw [xl1, eL1]; simp), fun r1 nr1 => ?_⟩
  have sr1 := same_upd (H := (upd (upd J1 t2 (.tup [.str "InvalidBounds", .bl b2])) l1 (.lst [.ref t2]))) (o := .lst (X1 ++ [.ref t2])) nr1
  have ha2 := sr1 _ _ (sg1 _ _ ha1)
  have sm2 := sm1.trans (sg1.trans sr1)
  have hx2 := (hX1.app hv1).mono (fun v x (k : Sb (upd (upd J1 t2 (.tup [.str "InvalidBounds", .bl b2])) l1 (.lst [.ref t2])) v x) => k.same sr1)
  have hs2 : (upd (upd (upd J1 t2 (.tup [.str "InvalidBounds", .bl b2])) l1 (.lst [.ref t2])) r1 (.lst (X1 ++ [.ref t2]))) r1 = some (.lst (X1 ++ [.ref t2])) := upd_same
  generalize (upd (upd (upd J1 t2 (.tup [.str "InvalidBounds", .bl b2])) l1 (.lst [.ref t2])) r1 (.lst (X1 ++ [.ref t2]))) = J2 at ha2 sm2 hx2 hs2
  have ex2 : ∃ (S : Addr) (X : List V) (L : List (Str × Bool)), L = L1 ++ [(("InvalidBounds" : Str), b2)] ∧ J2 S = some (.lst X) ∧ All2 (Sb J2) X L ∧ S = r1 := ⟨r1, _, _, rfl, hs2, hx2, rfl⟩
  clear hs2 hx2
  obtain ⟨S2, X2, L2, eL2, hs2, hx2, ln2⟩ := ex2
  subst ln2
  rw [eL1] at eL2
  refine ⟨_, rfl, _, rfl, a, C, _, _, b3, rfl, ha2, hE, (fun u r => r), k3, two, fun t3 nt3 => ⟨_, rfl, a, C, _, _, b4, rfl, (same_upd nt3 _ _ ha2), hE, (fun u r => r), k4, two, fun t4 nt4 => ⟨two, fun l2 nl2 => ?_⟩⟩⟩
  have st3 := same_upd (H := J2) (o := .tup [.str "InvalidText", .bl b3]) nt3
  have sb3 : Sb (upd J2 t3 (.tup [.str "InvalidText", .bl b3])) (.ref t3) ("InvalidText", b3) := ⟨t3, rfl, upd_same⟩
  have st4 := same_upd (H := (upd J2 t3 (.tup [.str "InvalidText", .bl b3]))) (o := .tup [.str "OverBudget", .bl b4]) nt4
  have sb4 : Sb (upd (upd J2 t3 (.tup [.str "InvalidText", .bl b3])) t4 (.tup [.str "OverBudget", .bl b4])) (.ref t4) ("OverBudget", b4) := ⟨t4, rfl, upd_same⟩
  have sl2 := same_upd (H := (upd (upd J2 t3 (.tup [.str "InvalidText", .bl b3])) t4 (.tup [.str "OverBudget", .bl b4]))) (o := .lst [.ref t3, .ref t4]) nl2
  have sg2 := (st3.trans st4).trans sl2
  have hv2 : All2 (Sb (upd (upd (upd J2 t3 (.tup [.str "InvalidText", .bl b3])) t4 (.tup [.str "OverBudget", .bl b4])) l2 (.lst [.ref t3, .ref t4]))) [.ref t3, .ref t4] [(("InvalidText" : Str), b3), (("OverBudget" : Str), b4)] := (.cons ((sb3.same st4).same sl2) (.cons (sb4.same sl2) .nil))
  have hl2 : (upd (upd (upd J2 t3 (.tup [.str "InvalidText", .bl b3])) t4 (.tup [.str "OverBudget", .bl b4])) l2 (.lst [.ref t3, .ref t4])) l2 = some (.lst [.ref t3, .ref t4]) := upd_same
  have hS2 := sg2 _ _ hs2
  have hX2 := hx2.mono (fun v x (k : Sb J2 v x) => k.same sg2)
  have xl2 := hx2.len
  refine ⟨S2, l2, _, _, rfl, rfl, hS2, hl2, szle (by rw [xl2, eL2]; simp), fun r2 nr2 => ?_⟩
  have sr2 := same_upd (H := (upd (upd (upd J2 t3 (.tup [.str "InvalidText", .bl b3])) t4 (.tup [.str "OverBudget", .bl b4])) l2 (.lst [.ref t3, .ref t4]))) (o := .lst (X2 ++ [.ref t3, .ref t4])) nr2
  have ha3 := sr2 _ _ (sg2 _ _ ha2)
  have sm3 := sm2.trans (sg2.trans sr2)
  have hx3 := (hX2.app hv2).mono (fun v x (k : Sb (upd (upd (upd J2 t3 (.tup [.str "InvalidText", .bl b3])) t4 (.tup [.str "OverBudget", .bl b4])) l2 (.lst [.ref t3, .ref t4])) v x) => k.same sr2)
  have hs3 : (upd (upd (upd (upd J2 t3 (.tup [.str "InvalidText", .bl b3])) t4 (.tup [.str "OverBudget", .bl b4])) l2 (.lst [.ref t3, .ref t4])) r2 (.lst (X2 ++ [.ref t3, .ref t4]))) r2 = some (.lst (X2 ++ [.ref t3, .ref t4])) := upd_same
  generalize (upd (upd (upd (upd J2 t3 (.tup [.str "InvalidText", .bl b3])) t4 (.tup [.str "OverBudget", .bl b4])) l2 (.lst [.ref t3, .ref t4])) r2 (.lst (X2 ++ [.ref t3, .ref t4]))) = J3 at ha3 sm3 hx3 hs3
  have ex3 : ∃ (S : Addr) (X : List V) (L : List (Str × Bool)), L = L2 ++ [(("InvalidText" : Str), b3), (("OverBudget" : Str), b4)] ∧ J3 S = some (.lst X) ∧ All2 (Sb J3) X L ∧ S = r2 := ⟨r2, _, _, rfl, hs3, hx3, rfl⟩
  clear hs3 hx3
  obtain ⟨S3, X3, L3, eL3, hs3, hx3, ln3⟩ := ex3
  subst ln3
  rw [eL2] at eL3
  refine ⟨_, rfl, _, rfl, a, C, _, _, b5, rfl, ha3, hE, (fun u r => r), k5, two, fun t5 nt5 => ⟨_, rfl, a, C, _, _, b6, rfl, (same_upd nt5 _ _ ha3), hE, (fun u r => r), k6, two, fun t6 nt6 => ⟨two, fun l3 nl3 => ?_⟩⟩⟩
  have st5 := same_upd (H := J3) (o := .tup [.str "InvalidSize", .bl b5]) nt5
  have sb5 : Sb (upd J3 t5 (.tup [.str "InvalidSize", .bl b5])) (.ref t5) ("InvalidSize", b5) := ⟨t5, rfl, upd_same⟩
  have st6 := same_upd (H := (upd J3 t5 (.tup [.str "InvalidSize", .bl b5]))) (o := .tup [.str "InvalidEntry", .bl b6]) nt6
  have sb6 : Sb (upd (upd J3 t5 (.tup [.str "InvalidSize", .bl b5])) t6 (.tup [.str "InvalidEntry", .bl b6])) (.ref t6) ("InvalidEntry", b6) := ⟨t6, rfl, upd_same⟩
  have sl3 := same_upd (H := (upd (upd J3 t5 (.tup [.str "InvalidSize", .bl b5])) t6 (.tup [.str "InvalidEntry", .bl b6]))) (o := .lst [.ref t5, .ref t6]) nl3
  have sg3 := (st5.trans st6).trans sl3
  have hv3 : All2 (Sb (upd (upd (upd J3 t5 (.tup [.str "InvalidSize", .bl b5])) t6 (.tup [.str "InvalidEntry", .bl b6])) l3 (.lst [.ref t5, .ref t6]))) [.ref t5, .ref t6] [(("InvalidSize" : Str), b5), (("InvalidEntry" : Str), b6)] := (.cons ((sb5.same st6).same sl3) (.cons (sb6.same sl3) .nil))
  have hl3 : (upd (upd (upd J3 t5 (.tup [.str "InvalidSize", .bl b5])) t6 (.tup [.str "InvalidEntry", .bl b6])) l3 (.lst [.ref t5, .ref t6])) l3 = some (.lst [.ref t5, .ref t6]) := upd_same
  have hS3 := sg3 _ _ hs3
  have hX3 := hx3.mono (fun v x (k : Sb J3 v x) => k.same sg3)
  have xl3 := hx3.len
  refine ⟨S3, l3, _, _, rfl, rfl, hS3, hl3, szle (by rw [xl3, eL3]; simp), fun r3 nr3 => ?_⟩
  have sr3 := same_upd (H := (upd (upd (upd J3 t5 (.tup [.str "InvalidSize", .bl b5])) t6 (.tup [.str "InvalidEntry", .bl b6])) l3 (.lst [.ref t5, .ref t6]))) (o := .lst (X3 ++ [.ref t5, .ref t6])) nr3
  have ha4 := sr3 _ _ (sg3 _ _ ha3)
  have sm4 := sm3.trans (sg3.trans sr3)
  have hx4 := (hX3.app hv3).mono (fun v x (k : Sb (upd (upd (upd J3 t5 (.tup [.str "InvalidSize", .bl b5])) t6 (.tup [.str "InvalidEntry", .bl b6])) l3 (.lst [.ref t5, .ref t6])) v x) => k.same sr3)
  have hs4 : (upd (upd (upd (upd J3 t5 (.tup [.str "InvalidSize", .bl b5])) t6 (.tup [.str "InvalidEntry", .bl b6])) l3 (.lst [.ref t5, .ref t6])) r3 (.lst (X3 ++ [.ref t5, .ref t6]))) r3 = some (.lst (X3 ++ [.ref t5, .ref t6])) := upd_same
  generalize (upd (upd (upd (upd J3 t5 (.tup [.str "InvalidSize", .bl b5])) t6 (.tup [.str "InvalidEntry", .bl b6])) l3 (.lst [.ref t5, .ref t6])) r3 (.lst (X3 ++ [.ref t5, .ref t6]))) = J4 at ha4 sm4 hx4 hs4
  have ex4 : ∃ (S : Addr) (X : List V) (L : List (Str × Bool)), L = L3 ++ [(("InvalidSize" : Str), b5), (("InvalidEntry" : Str), b6)] ∧ J4 S = some (.lst X) ∧ All2 (Sb J4) X L ∧ S = r3 := ⟨r3, _, _, rfl, hs4, hx4, rfl⟩
  clear hs4 hx4
  obtain ⟨S4, X4, L4, eL4, hs4, hx4, ln4⟩ := ex4
  subst ln4
  rw [eL3] at eL4
  refine ⟨_, rfl, _, rfl, a, C, _, _, b7, rfl, ha4, hE, (fun u r => r), k7, two, fun t7 nt7 => ⟨_, rfl, a, C, _, _, b8, rfl, (same_upd nt7 _ _ ha4), hE, (fun u r => r), k8, two, fun t8 nt8 => ⟨two, fun l4 nl4 => ?_⟩⟩⟩
  have st7 := same_upd (H := J4) (o := .tup [.str "InvalidNode", .bl b7]) nt7
  have sb7 : Sb (upd J4 t7 (.tup [.str "InvalidNode", .bl b7])) (.ref t7) ("InvalidNode", b7) := ⟨t7, rfl, upd_same⟩
  have st8 := same_upd (H := (upd J4 t7 (.tup [.str "InvalidNode", .bl b7]))) (o := .tup [.str "InvalidSpan", .bl b8]) nt8
  have sb8 : Sb (upd (upd J4 t7 (.tup [.str "InvalidNode", .bl b7])) t8 (.tup [.str "InvalidSpan", .bl b8])) (.ref t8) ("InvalidSpan", b8) := ⟨t8, rfl, upd_same⟩
  have sl4 := same_upd (H := (upd (upd J4 t7 (.tup [.str "InvalidNode", .bl b7])) t8 (.tup [.str "InvalidSpan", .bl b8]))) (o := .lst [.ref t7, .ref t8]) nl4
  have sg4 := (st7.trans st8).trans sl4
  have hv4 : All2 (Sb (upd (upd (upd J4 t7 (.tup [.str "InvalidNode", .bl b7])) t8 (.tup [.str "InvalidSpan", .bl b8])) l4 (.lst [.ref t7, .ref t8]))) [.ref t7, .ref t8] [(("InvalidNode" : Str), b7), (("InvalidSpan" : Str), b8)] := (.cons ((sb7.same st8).same sl4) (.cons (sb8.same sl4) .nil))
  have hl4 : (upd (upd (upd J4 t7 (.tup [.str "InvalidNode", .bl b7])) t8 (.tup [.str "InvalidSpan", .bl b8])) l4 (.lst [.ref t7, .ref t8])) l4 = some (.lst [.ref t7, .ref t8]) := upd_same
  have hS4 := sg4 _ _ hs4
  have hX4 := hx4.mono (fun v x (k : Sb J4 v x) => k.same sg4)
  have xl4 := hx4.len
  refine ⟨S4, l4, _, _, rfl, rfl, hS4, hl4, szle (by rw [xl4, eL4]; simp), fun r4 nr4 => ?_⟩
  have sr4 := same_upd (H := (upd (upd (upd J4 t7 (.tup [.str "InvalidNode", .bl b7])) t8 (.tup [.str "InvalidSpan", .bl b8])) l4 (.lst [.ref t7, .ref t8]))) (o := .lst (X4 ++ [.ref t7, .ref t8])) nr4
  have ha5 := sr4 _ _ (sg4 _ _ ha4)
  have sm5 := sm4.trans (sg4.trans sr4)
  have hx5 := (hX4.app hv4).mono (fun v x (k : Sb (upd (upd (upd J4 t7 (.tup [.str "InvalidNode", .bl b7])) t8 (.tup [.str "InvalidSpan", .bl b8])) l4 (.lst [.ref t7, .ref t8])) v x) => k.same sr4)
  have hs5 : (upd (upd (upd (upd J4 t7 (.tup [.str "InvalidNode", .bl b7])) t8 (.tup [.str "InvalidSpan", .bl b8])) l4 (.lst [.ref t7, .ref t8])) r4 (.lst (X4 ++ [.ref t7, .ref t8]))) r4 = some (.lst (X4 ++ [.ref t7, .ref t8])) := upd_same
  generalize (upd (upd (upd (upd J4 t7 (.tup [.str "InvalidNode", .bl b7])) t8 (.tup [.str "InvalidSpan", .bl b8])) l4 (.lst [.ref t7, .ref t8])) r4 (.lst (X4 ++ [.ref t7, .ref t8]))) = J5 at ha5 sm5 hx5 hs5
  have ex5 : ∃ (S : Addr) (X : List V) (L : List (Str × Bool)), L = L4 ++ [(("InvalidNode" : Str), b7), (("InvalidSpan" : Str), b8)] ∧ J5 S = some (.lst X) ∧ All2 (Sb J5) X L ∧ S = r4 := ⟨r4, _, _, rfl, hs5, hx5, rfl⟩
  clear hs5 hx5
  obtain ⟨S5, X5, L5, eL5, hs5, hx5, ln5⟩ := ex5
  subst ln5
  rw [eL4] at eL5
  refine ⟨_, rfl, _, rfl, a, C, _, _, b9, rfl, ha5, hE, (fun u r => r), k9, two, fun t9 nt9 => ⟨one1, fun l5 nl5 => ?_⟩⟩
  have st9 := same_upd (H := J5) (o := .tup [.str "InvalidNumber", .bl b9]) nt9
  have sb9 : Sb (upd J5 t9 (.tup [.str "InvalidNumber", .bl b9])) (.ref t9) ("InvalidNumber", b9) := ⟨t9, rfl, upd_same⟩
  have sl5 := same_upd (H := (upd J5 t9 (.tup [.str "InvalidNumber", .bl b9]))) (o := .lst [.ref t9]) nl5
  have sg5 := st9.trans sl5
  have hv5 : All2 (Sb (upd (upd J5 t9 (.tup [.str "InvalidNumber", .bl b9])) l5 (.lst [.ref t9]))) [.ref t9] [(("InvalidNumber" : Str), b9)] := (.cons (sb9.same sl5) .nil)
  have hl5 : (upd (upd J5 t9 (.tup [.str "InvalidNumber", .bl b9])) l5 (.lst [.ref t9])) l5 = some (.lst [.ref t9]) := upd_same
  have hS5 := sg5 _ _ hs5
  have hX5 := hx5.mono (fun v x (k : Sb J5 v x) => k.same sg5)
  have xl5 := hx5.len
  refine ⟨S5, l5, _, _, rfl, rfl, hS5, hl5, szle (by rw [xl5, eL5]; simp), fun r5 nr5 => ?_⟩
  have sr5 := same_upd (H := (upd (upd J5 t9 (.tup [.str "InvalidNumber", .bl b9])) l5 (.lst [.ref t9]))) (o := .lst (X5 ++ [.ref t9])) nr5
  have ha6 := sr5 _ _ (sg5 _ _ ha5)
  have sm6 := sm5.trans (sg5.trans sr5)
  have hx6 := (hX5.app hv5).mono (fun v x (k : Sb (upd (upd J5 t9 (.tup [.str "InvalidNumber", .bl b9])) l5 (.lst [.ref t9])) v x) => k.same sr5)
  have hs6 : (upd (upd (upd J5 t9 (.tup [.str "InvalidNumber", .bl b9])) l5 (.lst [.ref t9])) r5 (.lst (X5 ++ [.ref t9]))) r5 = some (.lst (X5 ++ [.ref t9])) := upd_same
  generalize (upd (upd (upd J5 t9 (.tup [.str "InvalidNumber", .bl b9])) l5 (.lst [.ref t9])) r5 (.lst (X5 ++ [.ref t9]))) = J6 at ha6 sm6 hx6 hs6
  have ex6 : ∃ (S : Addr) (X : List V) (L : List (Str × Bool)), L = L5 ++ [(("InvalidNumber" : Str), b9)] ∧ J6 S = some (.lst X) ∧ All2 (Sb J6) X L ∧ S = r5 := ⟨r5, _, _, rfl, hs6, hx6, rfl⟩
  clear hs6 hx6
  obtain ⟨S6, X6, L6, eL6, hs6, hx6, ln6⟩ := ex6
  subst ln6
  rw [eL5] at eL6
  refine ⟨_, rfl, _, rfl, a, C, _, _, b10, rfl, ha6, hE, (fun u r => r), k10, two, fun t10 nt10 => ⟨one1, fun l6 nl6 => ?_⟩⟩
  have st10 := same_upd (H := J6) (o := .tup [.str "InvalidHeight", .bl b10]) nt10
  have sb10 : Sb (upd J6 t10 (.tup [.str "InvalidHeight", .bl b10])) (.ref t10) ("InvalidHeight", b10) := ⟨t10, rfl, upd_same⟩
  have sl6 := same_upd (H := (upd J6 t10 (.tup [.str "InvalidHeight", .bl b10]))) (o := .lst [.ref t10]) nl6
  have sg6 := st10.trans sl6
  have hv6 : All2 (Sb (upd (upd J6 t10 (.tup [.str "InvalidHeight", .bl b10])) l6 (.lst [.ref t10]))) [.ref t10] [(("InvalidHeight" : Str), b10)] := (.cons (sb10.same sl6) .nil)
  have hl6 : (upd (upd J6 t10 (.tup [.str "InvalidHeight", .bl b10])) l6 (.lst [.ref t10])) l6 = some (.lst [.ref t10]) := upd_same
  have hS6 := sg6 _ _ hs6
  have hX6 := hx6.mono (fun v x (k : Sb J6 v x) => k.same sg6)
  have xl6 := hx6.len
  refine ⟨S6, l6, _, _, rfl, rfl, hS6, hl6, szle (by rw [xl6, eL6]; simp), fun r6 nr6 => ?_⟩
  have sr6 := same_upd (H := (upd (upd J6 t10 (.tup [.str "InvalidHeight", .bl b10])) l6 (.lst [.ref t10]))) (o := .lst (X6 ++ [.ref t10])) nr6
  have ha7 := sr6 _ _ (sg6 _ _ ha6)
  have sm7 := sm6.trans (sg6.trans sr6)
  have hx7 := (hX6.app hv6).mono (fun v x (k : Sb (upd (upd J6 t10 (.tup [.str "InvalidHeight", .bl b10])) l6 (.lst [.ref t10])) v x) => k.same sr6)
  have hs7 : (upd (upd (upd J6 t10 (.tup [.str "InvalidHeight", .bl b10])) l6 (.lst [.ref t10])) r6 (.lst (X6 ++ [.ref t10]))) r6 = some (.lst (X6 ++ [.ref t10])) := upd_same
  generalize (upd (upd (upd J6 t10 (.tup [.str "InvalidHeight", .bl b10])) l6 (.lst [.ref t10])) r6 (.lst (X6 ++ [.ref t10]))) = J7 at ha7 sm7 hx7 hs7
  have ex7 : ∃ (S : Addr) (X : List V) (L : List (Str × Bool)), L = L6 ++ [(("InvalidHeight" : Str), b10)] ∧ J7 S = some (.lst X) ∧ All2 (Sb J7) X L ∧ S = r6 := ⟨r6, _, _, rfl, hs7, hx7, rfl⟩
  clear hs7 hx7
  obtain ⟨S7, X7, L7, eL7, hs7, hx7, ln7⟩ := ex7
  subst ln7
  rw [eL6] at eL7
  refine ⟨_, rfl, _, rfl, a, C, _, _, b11, rfl, ha7, hE, (fun u r => r), k11, two, fun t11 nt11 => ⟨_, rfl, a, C, _, _, b12, rfl, (same_upd nt11 _ _ ha7), hE, (fun u r => r), k12, two, fun t12 nt12 => ⟨two, fun l7 nl7 => ?_⟩⟩⟩
  have st11 := same_upd (H := J7) (o := .tup [.str "InvalidBudget", .bl b11]) nt11
  have sb11 : Sb (upd J7 t11 (.tup [.str "InvalidBudget", .bl b11])) (.ref t11) ("InvalidBudget", b11) := ⟨t11, rfl, upd_same⟩
  have st12 := same_upd (H := (upd J7 t11 (.tup [.str "InvalidBudget", .bl b11]))) (o := .tup [.str "Nothing", .bl b12]) nt12
  have sb12 : Sb (upd (upd J7 t11 (.tup [.str "InvalidBudget", .bl b11])) t12 (.tup [.str "Nothing", .bl b12])) (.ref t12) ("Nothing", b12) := ⟨t12, rfl, upd_same⟩
  have sl7 := same_upd (H := (upd (upd J7 t11 (.tup [.str "InvalidBudget", .bl b11])) t12 (.tup [.str "Nothing", .bl b12]))) (o := .lst [.ref t11, .ref t12]) nl7
  have sg7 := (st11.trans st12).trans sl7
  have hv7 : All2 (Sb (upd (upd (upd J7 t11 (.tup [.str "InvalidBudget", .bl b11])) t12 (.tup [.str "Nothing", .bl b12])) l7 (.lst [.ref t11, .ref t12]))) [.ref t11, .ref t12] [(("InvalidBudget" : Str), b11), (("Nothing" : Str), b12)] := (.cons ((sb11.same st12).same sl7) (.cons (sb12.same sl7) .nil))
  have hl7 : (upd (upd (upd J7 t11 (.tup [.str "InvalidBudget", .bl b11])) t12 (.tup [.str "Nothing", .bl b12])) l7 (.lst [.ref t11, .ref t12])) l7 = some (.lst [.ref t11, .ref t12]) := upd_same
  have hS7 := sg7 _ _ hs7
  have hX7 := hx7.mono (fun v x (k : Sb J7 v x) => k.same sg7)
  have xl7 := hx7.len
  refine ⟨S7, l7, _, _, rfl, rfl, hS7, hl7, szle (by rw [xl7, eL7]; simp), fun r7 nr7 => ?_⟩
  have sr7 := same_upd (H := (upd (upd (upd J7 t11 (.tup [.str "InvalidBudget", .bl b11])) t12 (.tup [.str "Nothing", .bl b12])) l7 (.lst [.ref t11, .ref t12]))) (o := .lst (X7 ++ [.ref t11, .ref t12])) nr7
  have ha8 := sr7 _ _ (sg7 _ _ ha7)
  have sm8 := sm7.trans (sg7.trans sr7)
  have hx8 := (hX7.app hv7).mono (fun v x (k : Sb (upd (upd (upd J7 t11 (.tup [.str "InvalidBudget", .bl b11])) t12 (.tup [.str "Nothing", .bl b12])) l7 (.lst [.ref t11, .ref t12])) v x) => k.same sr7)
  have hs8 : (upd (upd (upd (upd J7 t11 (.tup [.str "InvalidBudget", .bl b11])) t12 (.tup [.str "Nothing", .bl b12])) l7 (.lst [.ref t11, .ref t12])) r7 (.lst (X7 ++ [.ref t11, .ref t12]))) r7 = some (.lst (X7 ++ [.ref t11, .ref t12])) := upd_same
  generalize (upd (upd (upd (upd J7 t11 (.tup [.str "InvalidBudget", .bl b11])) t12 (.tup [.str "Nothing", .bl b12])) l7 (.lst [.ref t11, .ref t12])) r7 (.lst (X7 ++ [.ref t11, .ref t12]))) = J8 at ha8 sm8 hx8 hs8
  have ex8 : ∃ (S : Addr) (X : List V) (L : List (Str × Bool)), L = L7 ++ [(("InvalidBudget" : Str), b11), (("Nothing" : Str), b12)] ∧ J8 S = some (.lst X) ∧ All2 (Sb J8) X L ∧ S = r7 := ⟨r7, _, _, rfl, hs8, hx8, rfl⟩
  clear hs8 hx8
  obtain ⟨S8, X8, L8, eL8, hs8, hx8, ln8⟩ := ex8
  subst ln8
  rw [eL7] at eL8
  refine ⟨_, rfl, _, rfl, a, C, _, _, b13, rfl, ha8, hE, (fun u r => r), k13, two, fun t13 nt13 => ⟨one1, fun l8 nl8 => ?_⟩⟩
  have st13 := same_upd (H := J8) (o := .tup [.str "InvalidOperation", .bl b13]) nt13
  have sb13 : Sb (upd J8 t13 (.tup [.str "InvalidOperation", .bl b13])) (.ref t13) ("InvalidOperation", b13) := ⟨t13, rfl, upd_same⟩
  have sl8 := same_upd (H := (upd J8 t13 (.tup [.str "InvalidOperation", .bl b13]))) (o := .lst [.ref t13]) nl8
  have sg8 := st13.trans sl8
  have hv8 : All2 (Sb (upd (upd J8 t13 (.tup [.str "InvalidOperation", .bl b13])) l8 (.lst [.ref t13]))) [.ref t13] [(("InvalidOperation" : Str), b13)] := (.cons (sb13.same sl8) .nil)
  have hl8 : (upd (upd J8 t13 (.tup [.str "InvalidOperation", .bl b13])) l8 (.lst [.ref t13])) l8 = some (.lst [.ref t13]) := upd_same
  have hS8 := sg8 _ _ hs8
  have hX8 := hx8.mono (fun v x (k : Sb J8 v x) => k.same sg8)
  have xl8 := hx8.len
  refine ⟨S8, l8, _, _, rfl, rfl, hS8, hl8, szle (by rw [xl8, eL8]; simp), fun r8 nr8 => ?_⟩
  have sr8 := same_upd (H := (upd (upd J8 t13 (.tup [.str "InvalidOperation", .bl b13])) l8 (.lst [.ref t13]))) (o := .lst (X8 ++ [.ref t13])) nr8
  have ha9 := sr8 _ _ (sg8 _ _ ha8)
  have sm9 := sm8.trans (sg8.trans sr8)
  have hx9 := (hX8.app hv8).mono (fun v x (k : Sb (upd (upd J8 t13 (.tup [.str "InvalidOperation", .bl b13])) l8 (.lst [.ref t13])) v x) => k.same sr8)
  have hs9 : (upd (upd (upd J8 t13 (.tup [.str "InvalidOperation", .bl b13])) l8 (.lst [.ref t13])) r8 (.lst (X8 ++ [.ref t13]))) r8 = some (.lst (X8 ++ [.ref t13])) := upd_same
  generalize (upd (upd (upd J8 t13 (.tup [.str "InvalidOperation", .bl b13])) l8 (.lst [.ref t13])) r8 (.lst (X8 ++ [.ref t13]))) = J9 at ha9 sm9 hx9 hs9
  have ex9 : ∃ (S : Addr) (X : List V) (L : List (Str × Bool)), L = L8 ++ [(("InvalidOperation" : Str), b13)] ∧ J9 S = some (.lst X) ∧ All2 (Sb J9) X L ∧ S = r8 := ⟨r8, _, _, rfl, hs9, hx9, rfl⟩
  clear hs9 hx9
  obtain ⟨S9, X9, L9, eL9, hs9, hx9, ln9⟩ := ex9
  subst ln9
  rw [eL8] at eL9
  refine ⟨_, rfl, _, rfl, a, C, _, _, b14, rfl, ha9, hE, (fun u r => r), k14, two, fun t14 nt14 => ⟨one1, fun l9 nl9 => ?_⟩⟩
  have st14 := same_upd (H := J9) (o := .tup [.str "InvalidCommand", .bl b14]) nt14
  have sb14 : Sb (upd J9 t14 (.tup [.str "InvalidCommand", .bl b14])) (.ref t14) ("InvalidCommand", b14) := ⟨t14, rfl, upd_same⟩
  have sl9 := same_upd (H := (upd J9 t14 (.tup [.str "InvalidCommand", .bl b14]))) (o := .lst [.ref t14]) nl9
  have sg9 := st14.trans sl9
  have hv9 : All2 (Sb (upd (upd J9 t14 (.tup [.str "InvalidCommand", .bl b14])) l9 (.lst [.ref t14]))) [.ref t14] [(("InvalidCommand" : Str), b14)] := (.cons (sb14.same sl9) .nil)
  have hl9 : (upd (upd J9 t14 (.tup [.str "InvalidCommand", .bl b14])) l9 (.lst [.ref t14])) l9 = some (.lst [.ref t14]) := upd_same
  have hS9 := sg9 _ _ hs9
  have hX9 := hx9.mono (fun v x (k : Sb J9 v x) => k.same sg9)
  have xl9 := hx9.len
  refine ⟨S9, l9, _, _, rfl, rfl, hS9, hl9, szle (by rw [xl9, eL9]; simp), fun r9 nr9 => ?_⟩
  have sr9 := same_upd (H := (upd (upd J9 t14 (.tup [.str "InvalidCommand", .bl b14])) l9 (.lst [.ref t14]))) (o := .lst (X9 ++ [.ref t14])) nr9
  have ha10 := sr9 _ _ (sg9 _ _ ha9)
  have sm10 := sm9.trans (sg9.trans sr9)
  have hx10 := (hX9.app hv9).mono (fun v x (k : Sb (upd (upd J9 t14 (.tup [.str "InvalidCommand", .bl b14])) l9 (.lst [.ref t14])) v x) => k.same sr9)
  have hs10 : (upd (upd (upd J9 t14 (.tup [.str "InvalidCommand", .bl b14])) l9 (.lst [.ref t14])) r9 (.lst (X9 ++ [.ref t14]))) r9 = some (.lst (X9 ++ [.ref t14])) := upd_same
  generalize (upd (upd (upd J9 t14 (.tup [.str "InvalidCommand", .bl b14])) l9 (.lst [.ref t14])) r9 (.lst (X9 ++ [.ref t14]))) = J10 at ha10 sm10 hx10 hs10
  have ex10 : ∃ (S : Addr) (X : List V) (L : List (Str × Bool)), L = L9 ++ [(("InvalidCommand" : Str), b14)] ∧ J10 S = some (.lst X) ∧ All2 (Sb J10) X L ∧ S = r9 := ⟨r9, _, _, rfl, hs10, hx10, rfl⟩
  clear hs10 hx10
  obtain ⟨S10, X10, L10, eL10, hs10, hx10, ln10⟩ := ex10
  subst ln10
  rw [eL9] at eL10
  have eL : L10 = clsNames.zip [b0, b1, b2, b3, b4, b5, b6, b7, b8, b9, b10, b11, b12, b13, b14] := by rw [eL10]; rfl
  have xl10 := hx10.len
  have L15 : L10.length = 15 := by rw [eL]; rfl
  rw [← eL] at hf
  refine ⟨_, rfl, S10, rfl, ⟨_, SqL.of hs10⟩, fun D nD => lc_list (xs := X10) (fun i H' => Same J10 H' ∧ H' D = some (.lst (((L10.take i).filter fun x => x.2).map fun x => V.str x.1))) ⟨same_upd nD, upd_same⟩ (fun i H' _ ⟨k, _⟩ => SqL.of (k _ _ hs10)) ?_ ?_⟩
  · rintro i v G hi ⟨sG, hD⟩
    obtain ⟨x, hxi, hxv⟩ := hx10.nth hi
    obtain ⟨xp, rfl, hxp⟩ := hxv.same sG
    have fl : ((L10.take i).filter fun x => x.2).length ≤ 15 := by
      have := List.length_filter_le (fun x : Str × Bool => x.2) (L10.take i)
      rw [List.length_take] at this
      omega
    refine ⟨xp, _, rfl, SqT.of hxp, rfl, _, _, rfl, _, _, rfl, rfl, rfl, ?_⟩
    cases hb : x.2 with
    | true =>
      refine ⟨_, rfl, true, rfl, ?_⟩
      refine ⟨_, rfl, _, hD, szlt (by rw [List.length_map]; omega), ?_, ?_⟩
      · exact fun c o k => by rw [upd_ne (ne_of_none k nD)]; exact sG _ _ k
      · rw [take_more hxi, List.filter_append, List.filter_cons, hb, List.map_append]
        exact upd_same
    | false =>
      refine ⟨_, rfl, false, rfl, ?_⟩
      refine ⟨sG, ?_⟩
      rw [take_more hxi, List.filter_append, List.filter_cons, hb]
      simpa using hD
  rintro G ⟨sG, hD⟩
  rw [xl10, List.take_length] at hD
  have hD : G D = some (.lst [.str nm]) := by
    have e : ((L10.filter fun x => x.2).map fun x => V.str x.1) = ((L10.filter fun x => x.2).map fun x => x.1).map V.str := by rw [List.map_map]; rfl
    rw [hD, e, hf]
    rfl
  have haG := sG _ _ ha10
  refine ⟨_, rfl, D, _, rfl, .inl (SqL.of hD), rfl, false, rfl, ?_⟩
  refine ⟨_, rfl, a, C, _, _, true, rfl, haG, hE, (fun u r => r), hV, true, rfl, ?_⟩
  refine ⟨_, rfl, D, _, _, _, rfl, rfl, SqL.of hD, atI_nat (j := 0) rfl, ?_⟩
  refine ⟨_, rfl, D, _, _, _, rfl, rfl, SqL.of hD, atI_nat (j := 0) rfl, rfl, false, congrArg V.bl (decide_eq_false (fun z => hnb (V.str.inj z))), _, _, rfl, rfl, ?_, ?_⟩
  · exact szle (by have : (Str.ofString "").length = 0 := rfl; omega)
  · have : Q (.str (nm ++ ("" : Str))) G := by rw [hap]; exact q G (sm10.trans sG)
    exact this
end
end LT

namespace LT
open PySem PySem.Spec PyProof.Rows L2
/-- what the top says of a class of errors that is caught: L is LogError -/
structure CK (K : PySem.W.Frag) (Cs : List Addr) (L C : Addr) (nm : Str) : Prop where
  e : ExcC K C
  kt : ∃ bs, Kit K C Cs bs ∧ ((clsNames.zip bs).filter fun x => x.2).map (fun x => x.1) = [nm]
  v : PySem.W.kitOne K (.ref C) (.type "ValueError") = some true
  nb : nm ≠ "InvalidBounds"
  ap : nm ++ ("" : Str) = nm
  ln : nm.length ≤ 100
  x : PySem.W.exmOne K (.ref C) (.ref L) = some true
def ent (n e : Nat) : Prop := e < n ∧ n ≤ 10 ^ 30
/-- what a call ends with -/
def Out (way : Nat) (v1 v2 v3 : V) (nm : Str) : Prop :=
  match way with
  | 0 | 1 => (nm = "InvalidSize" ∧ inRange 1 top30 v1 = false) ∨ (nm = "InvalidEntry" ∧ ∃ n : Int, v1 = .int n ∧ inRange 1 top30 v1 = true ∧ inRange 0 (n - 1) v2 = false) ∨ (nm = "fine" ∧ ∃ n e : Nat, v1 = .int n ∧ v2 = .int e ∧ e < n ∧ n ≤ 10 ^ 30)
  | 2 => (nm = "InvalidSize" ∧ inRange 1 top30 v1 = false) ∨ (nm = "InvalidNumber" ∧ inRange 1 top30 v1 = true ∧ isInt v2 = false) ∨ (nm = "fine" ∧ ∃ (n : Nat) (k : Int), v1 = .int n ∧ v2 = .int k ∧ 1 ≤ n ∧ n ≤ 10 ^ 30)
  | 3 | 4 => (nm = "InvalidSize" ∧ inRange 1 top30 v1 = false) ∨ (nm = "InvalidSpan" ∧ ∃ n : Int, v1 = .int n ∧ inRange 1 top30 v1 = true ∧ (inRange 0 (n - 1) v2 = false ∨ ∃ b : Int, v2 = .int b ∧ inRange 0 (n - 1) v2 = true ∧ inRange (b + 1) n v3 = false)) ∨
      (nm = "fine" ∧ ∃ n b e : Nat, v1 = .int n ∧ v2 = .int b ∧ v3 = .int e ∧ b < e ∧ e ≤ n ∧ n ≤ 10 ^ 30 ∧ db b e (lev (pk 101 n 0).length 0 (pk 101 n 0)) ≠ [])
  | _ => (nm = "InvalidEntry" ∧ inRange 0 (top30 - 1) v1 = false) ∨ (nm = "InvalidNumber" ∧ inRange 0 (top30 - 1) v1 = true ∧ isInt v2 = false) ∨ (nm = "InvalidSize" ∧ inRange 0 (top30 - 1) v1 = true ∧ isInt v2 = true ∧ inRange 1 top30 v3 = false) ∨
      (nm = "fine" ∧ ∃ (e n : Nat) (k : Int), v1 = .int e ∧ v2 = .int k ∧ v3 = .int n ∧ e < 10 ^ 30 ∧ 1 ≤ n ∧ n ≤ 10 ^ 30)
def spLawTold (K : PySem.W.Frag) : Sp := fun vs H Q _ => ∃ (way : Nat) (v1 v2 v3 : V) (t1 t2 t3 : String) (nm : Str), vs = [.int way, v1, v2, v3] ∧ way ≤ 5 ∧ Pl K H v1 t1 ∧ Pl K H v2 t2 ∧ Pl K H v3 t3 ∧ Out way v1 v2 v3 nm ∧ ∀ H', Same H H' → Q (.str nm) H'
section
variable {P : Program} {w : World} {K : PySem.W.Frag} {mg : Str → Option Value} {base : Heap} {CS CE CP CN CLogError : Addr} {Cs : List Addr}
theorem ok_law_told {f g0 g1 g2 g3 g4 g5 g6 : Addr} {fd d0 d1 d2 d3 d4 d5 d6 : FuncData} (F : Fun K "_law_told" "_law_told" sLawTold f fd) (XLogError : GF mg "LogError" CLogError)
    (KS : CK K Cs CLogError CS "InvalidSize") (KE : CK K Cs CLogError CE "InvalidEntry") (KP : CK K Cs CLogError CP "InvalidSpan") (KN : CK K Cs CLogError CN "InvalidNumber")
    (GXDepth : FnOk P w K mg base (L2.CX P w) 7 g0 d0 ["size", "entry"] (fun vs H Q E => spDepth vs H Q E ∨ spPathX K CS CE vs H Q E)) (ADepth : At K mg "depth" g0 d0 ["size", "entry"])
    (GXPath : FnOk P w K mg base (L2.CX P w) 6 g1 d1 ["size", "entry"] (fun vs H Q E => spPath vs H Q E ∨ spPathX K CS CE vs H Q E)) (APath : At K mg "path" g1 d1 ["size", "entry"])
    (GXFirstOfDepth : FnOk P w K mg base (L2.CX P w) 6 g2 d2 ["size", "number"] (fun vs H Q E => spFirst vs H Q E ∨ spFirstX K CS CN vs H Q E)) (AFirstOfDepth : At K mg "first_of_depth" g2 d2 ["size", "number"])
    (GXDepthSum : FnOk P w K mg base (L2.CX P w) 7 g3 d3 ["size", "begin", "end"] (fun vs H Q E => spDepthSum vs H Q E ∨ spSpanX K CS CP vs H Q E)) (ADepthSum : At K mg "depth_sum" g3 d3 ["size", "begin", "end"])
    (GXDepthRange : FnOk P w K mg base (L2.CX P w) 7 g4 d4 ["size", "begin", "end"] (fun vs H Q E => spDepthRange vs H Q E ∨ spSpanX K CS CP vs H Q E)) (ADepthRange : At K mg "depth_range" g4 d4 ["size", "begin", "end"])
    (GXSizesWith : FnOk P w K mg base (L2.CX P w) 8 g5 d5 ["entry", "number", "most"] (fun vs H Q E => spSizesWith vs H Q E ∨ spSizesX K CE CN CS vs H Q E)) (ASizesWith : At K mg "sizes_with" g5 d5 ["entry", "number", "most"])
    (GLawClass : FnOk P w K mg base CX0 1 g6 d6 ["caught"] (spClass K Cs)) (ALawClass : At K mg "_law_class" g6 d6 ["caught"]) : FnOk P w K mg base CX0 9 f fd ["way", "one", "two", "three"] (spLawTold K) := by
  refine F.ok scLawTold (fun vs H Q E h => ?_) (fun cdv A outer s H vs Q E hr h => ?_)
  · obtain ⟨_, _, _, _, _, _, _, _, rfl, _⟩ := h
    rfl
  obtain ⟨way, v1, v2, v3, t1, t2, t3, nm, rfl, hw, h1, h2, h3, ho, q⟩ := h
  refine ⟨_, (pss_cons (ps_set (i := 4) scLawTold.nd rfl (Or.inl rfl) pe_non)
    (pss_cons (ps_try_keep (i := 5) rfl rfl rfl scLawTold.nd rfl rfl ⟨rfl, by decide, .inl XLogError.g⟩ takes0 (fun W pn xe tk _ => (pss_one (ps_if (pt_cmpR op_eq (pv 0) pe_int (nomark _))
    (pss_one (ps_expr (pe_callS GXDepth (hr.mono (by decide)) rfl ADepth.m ADepth.kp ADepth.b (fun σ => passAt tk σ) (pa_cons (pv 1) (pa_cons (pv 2) pa_nil)))))
    (pss_one (ps_if (pt_cmpR op_eq (pv 0) pe_int (nomark _))
    (pss_one (ps_expr (pe_callS GXPath (hr.mono (by decide)) rfl APath.m APath.kp APath.b (fun σ => passAt tk σ) (pa_cons (pv 1) (pa_cons (pv 2) pa_nil)))))
    (pss_one (ps_if (pt_cmpR op_eq (pv 0) pe_int (nomark _))
    (pss_one (ps_expr (pe_callS GXFirstOfDepth (hr.mono (by decide)) rfl AFirstOfDepth.m AFirstOfDepth.kp AFirstOfDepth.b (fun σ => passAt tk σ) (pa_cons (pv 1) (pa_cons (pv 2) pa_nil)))))
    (pss_one (ps_if (pt_cmpR op_eq (pv 0) pe_int (nomark _))
    (pss_one (ps_expr (pe_callS GXDepthSum (hr.mono (by decide)) rfl ADepthSum.m ADepthSum.kp ADepthSum.b (fun σ => passAt tk σ) (pa_cons (pv 1) (pa_cons (pv 2) (pa_cons (pv 3) pa_nil))))))
    (pss_one (ps_if (pt_cmpR op_eq (pv 0) pe_int (nomark _))
    (pss_one (ps_expr (pe_callS GXDepthRange (hr.mono (by decide)) rfl ADepthRange.m ADepthRange.kp ADepthRange.b (fun σ => passAt tk σ) (pa_cons (pv 1) (pa_cons (pv 2) (pa_cons (pv 3) pa_nil))))))
    (pss_one (ps_expr (pe_callS GXSizesWith (hr.mono (by decide)) rfl ASizesWith.m ASizesWith.kp ASizesWith.b (fun σ => passAt tk σ) (pa_cons (pv 1) (pa_cons (pv 2) (pa_cons (pv 3) pa_nil))))))))))))))))) (fun a oe cls d pn _ _ => (pss_one (ps_set (i := 4) scLawTold.nd rfl (Or.inl rfl) (pv 5)))))
    (pss_one (ps_ret (pe_ifExp (pt_cmpR op_isN (pv 4) pe_non (nomark _)) pe_str (pe_call GLawClass (hr.mono (by decide)) rfl ALawClass.m ALawClass.kp ALawClass.b .nil pass0 (pa_cons (pv 4) pa_nil))))))), ?_⟩
  -- an error that is caught
  have err : ∀ (C : Addr) (G : Hp) (a : Addr), CK K Cs CLogError C nm → Same H G → G a = none → spClass K Cs [.ref a] (upd G a (ExK (.ref C) none a)) Q E := fun C G a ck sG na => by
    obtain ⟨bs, hk, hf⟩ := ck.kt
    exact ⟨a, C, bs, nm, rfl, upd_same, ck.e, hk, ck.v, hf, ck.nb, ck.ap, ck.ln, fun H' s' => q H' (sG.trans ((same_upd na).trans s'))⟩
  have w6 : way = 0 ∨ way = 1 ∨ way = 2 ∨ way = 3 ∨ way = 4 ∨ way = 5 := by omega
  rcases w6 with rfl | rfl | rfl | rfl | rfl | rfl
  · rcases ho with ⟨rfl, e⟩ | ⟨rfl, n, rfl, e, e2⟩ | ⟨rfl, n, e, rfl, rfl, he, h30⟩
    · exact ⟨_, rfl, rfl, true, rfl, _, rfl, _, rfl, .inr ⟨v1, v2, t1, t2, rfl, h1, h2, .inl ⟨e, ⟨true, KS.x, fun _ a na => ⟨_, rfl, fun na2 => ⟨_, rfl, rfl, false, rfl, _, rfl, err _ H a KS (Same.refl H) na2⟩⟩, fun z => nomatch z⟩⟩⟩⟩
    · exact ⟨_, rfl, rfl, true, rfl, _, rfl, _, rfl, .inr ⟨_, v2, t1, t2, rfl, h1, h2, .inr ⟨n, rfl, e, e2, ⟨true, KE.x, fun _ a na => ⟨_, rfl, fun na2 => ⟨_, rfl, rfl, false, rfl, _, rfl, err _ H a KE (Same.refl H) na2⟩⟩, fun z => nomatch z⟩⟩⟩⟩
    · exact ⟨_, rfl, rfl, true, rfl, _, rfl, _, rfl, .inl ⟨n, e, rfl, he, h30, fun H' s' => ⟨_, rfl, rfl, true, rfl, q H' s'⟩⟩⟩
  · rcases ho with ⟨rfl, e⟩ | ⟨rfl, n, rfl, e, e2⟩ | ⟨rfl, n, e, rfl, rfl, he, h30⟩
    · exact ⟨_, rfl, rfl, false, rfl, _, rfl, rfl, true, rfl, _, rfl, _, rfl, .inr ⟨v1, v2, t1, t2, rfl, h1, h2, .inl ⟨e, ⟨true, KS.x, fun _ a na => ⟨_, rfl, fun na2 => ⟨_, rfl, rfl, false, rfl, _, rfl, err _ H a KS (Same.refl H) na2⟩⟩, fun z => nomatch z⟩⟩⟩⟩
    · exact ⟨_, rfl, rfl, false, rfl, _, rfl, rfl, true, rfl, _, rfl, _, rfl, .inr ⟨_, v2, t1, t2, rfl, h1, h2, .inr ⟨n, rfl, e, e2, ⟨true, KE.x, fun _ a na => ⟨_, rfl, fun na2 => ⟨_, rfl, rfl, false, rfl, _, rfl, err _ H a KE (Same.refl H) na2⟩⟩, fun z => nomatch z⟩⟩⟩⟩
    · exact ⟨_, rfl, rfl, false, rfl, _, rfl, rfl, true, rfl, _, rfl, _, rfl, .inl ⟨n, e, rfl, he, h30, fun H' p xs s' np hp hx => ⟨_, rfl, rfl, true, rfl, q H' s'⟩⟩⟩
  · rcases ho with ⟨rfl, e⟩ | ⟨rfl, e, e2⟩ | ⟨rfl, n, k, rfl, rfl, n1, h30⟩
    · exact ⟨_, rfl, rfl, false, rfl, _, rfl, rfl, false, rfl, _, rfl, rfl, true, rfl, _, rfl, _, rfl, .inr ⟨v1, v2, t1, t2, rfl, h1, h2, .inl ⟨e, ⟨true, KS.x, fun _ a na => ⟨_, rfl, fun na2 => ⟨_, rfl, rfl, false, rfl, _, rfl, err _ H a KS (Same.refl H) na2⟩⟩, fun z => nomatch z⟩⟩⟩⟩
    · exact ⟨_, rfl, rfl, false, rfl, _, rfl, rfl, false, rfl, _, rfl, rfl, true, rfl, _, rfl, _, rfl, .inr ⟨v1, v2, t1, t2, rfl, h1, h2, .inr ⟨e, e2, ⟨true, KN.x, fun _ a na => ⟨_, rfl, fun na2 => ⟨_, rfl, rfl, false, rfl, _, rfl, err _ H a KN (Same.refl H) na2⟩⟩, fun z => nomatch z⟩⟩⟩⟩
    · exact ⟨_, rfl, rfl, false, rfl, _, rfl, rfl, false, rfl, _, rfl, rfl, true, rfl, _, rfl, _, rfl, .inl ⟨n, k, rfl, n1, h30, fun H' s' => ⟨_, rfl, rfl, true, rfl, q H' s'⟩⟩⟩
  · rcases ho with ⟨rfl, e⟩ | ⟨rfl, n, rfl, e, e2 | ⟨b, rfl, e2, e3⟩⟩ | ⟨rfl, n, b, e, rfl, rfl, rfl, hb, he, h30, hne⟩
    · exact ⟨_, rfl, rfl, false, rfl, _, rfl, rfl, false, rfl, _, rfl, rfl, false, rfl, _, rfl, rfl, true, rfl, _, rfl, _, rfl, _, rfl, .inr ⟨v1, v2, v3, t1, t2, t3, rfl, h1, h2, h3, .inl ⟨e, ⟨true, KS.x, fun _ a na => ⟨_, rfl, fun na2 => ⟨_, rfl, rfl, false, rfl, _, rfl, err _ H a KS (Same.refl H) na2⟩⟩, fun z => nomatch z⟩⟩⟩⟩
    · exact ⟨_, rfl, rfl, false, rfl, _, rfl, rfl, false, rfl, _, rfl, rfl, false, rfl, _, rfl, rfl, true, rfl, _, rfl, _, rfl, _, rfl, .inr ⟨_, v2, v3, t1, t2, t3, rfl, h1, h2, h3, .inr ⟨n, rfl, e, .inl ⟨e2, ⟨true, KP.x, fun _ a na => ⟨_, rfl, fun na2 => ⟨_, rfl, rfl, false, rfl, _, rfl, err _ H a KP (Same.refl H) na2⟩⟩, fun z => nomatch z⟩⟩⟩⟩⟩
    · exact ⟨_, rfl, rfl, false, rfl, _, rfl, rfl, false, rfl, _, rfl, rfl, false, rfl, _, rfl, rfl, true, rfl, _, rfl, _, rfl, _, rfl, .inr ⟨_, _, v3, t1, t2, t3, rfl, h1, h2, h3, .inr ⟨n, rfl, e, .inr ⟨b, rfl, e2, e3, ⟨true, KP.x, fun _ a na => ⟨_, rfl, fun na2 => ⟨_, rfl, rfl, false, rfl, _, rfl, err _ H a KP (Same.refl H) na2⟩⟩, fun z => nomatch z⟩⟩⟩⟩⟩
    · exact ⟨_, rfl, rfl, false, rfl, _, rfl, rfl, false, rfl, _, rfl, rfl, false, rfl, _, rfl, rfl, true, rfl, _, rfl, _, rfl, _, rfl, .inl ⟨n, b, e, rfl, hb, he, h30, fun H' s' => ⟨_, rfl, rfl, true, rfl, q H' s'⟩⟩⟩
  · rcases ho with ⟨rfl, e⟩ | ⟨rfl, n, rfl, e, e2 | ⟨b, rfl, e2, e3⟩⟩ | ⟨rfl, n, b, e, rfl, rfl, rfl, hb, he, h30, hne⟩
    · exact ⟨_, rfl, rfl, false, rfl, _, rfl, rfl, false, rfl, _, rfl, rfl, false, rfl, _, rfl, rfl, false, rfl, _, rfl, rfl, true, rfl, _, rfl, _, rfl, _, rfl, .inr ⟨v1, v2, v3, t1, t2, t3, rfl, h1, h2, h3, .inl ⟨e, ⟨true, KS.x, fun _ a na => ⟨_, rfl, fun na2 => ⟨_, rfl, rfl, false, rfl, _, rfl, err _ H a KS (Same.refl H) na2⟩⟩, fun z => nomatch z⟩⟩⟩⟩
    · exact ⟨_, rfl, rfl, false, rfl, _, rfl, rfl, false, rfl, _, rfl, rfl, false, rfl, _, rfl, rfl, false, rfl, _, rfl, rfl, true, rfl, _, rfl, _, rfl, _, rfl, .inr ⟨_, v2, v3, t1, t2, t3, rfl, h1, h2, h3, .inr ⟨n, rfl, e, .inl ⟨e2, ⟨true, KP.x, fun _ a na => ⟨_, rfl, fun na2 => ⟨_, rfl, rfl, false, rfl, _, rfl, err _ H a KP (Same.refl H) na2⟩⟩, fun z => nomatch z⟩⟩⟩⟩⟩
    · exact ⟨_, rfl, rfl, false, rfl, _, rfl, rfl, false, rfl, _, rfl, rfl, false, rfl, _, rfl, rfl, false, rfl, _, rfl, rfl, true, rfl, _, rfl, _, rfl, _, rfl, .inr ⟨_, _, v3, t1, t2, t3, rfl, h1, h2, h3, .inr ⟨n, rfl, e, .inr ⟨b, rfl, e2, e3, ⟨true, KP.x, fun _ a na => ⟨_, rfl, fun na2 => ⟨_, rfl, rfl, false, rfl, _, rfl, err _ H a KP (Same.refl H) na2⟩⟩, fun z => nomatch z⟩⟩⟩⟩⟩
    · exact ⟨_, rfl, rfl, false, rfl, _, rfl, rfl, false, rfl, _, rfl, rfl, false, rfl, _, rfl, rfl, false, rfl, _, rfl, rfl, true, rfl, _, rfl, _, rfl, _, rfl, .inl ⟨n, b, e, rfl, hb, he, h30, hne, fun H' p lo hi s' hp _ _ => ⟨_, rfl, rfl, true, rfl, q H' s'⟩⟩⟩
  · rcases ho with ⟨rfl, e⟩ | ⟨rfl, e, e2⟩ | ⟨rfl, e, e2, e3⟩ | ⟨rfl, e, n, k, rfl, rfl, rfl, eb, n1, h30⟩
    · exact ⟨_, rfl, rfl, false, rfl, _, rfl, rfl, false, rfl, _, rfl, rfl, false, rfl, _, rfl, rfl, false, rfl, _, rfl, rfl, false, rfl, _, rfl, _, rfl, _, rfl, .inr ⟨v1, v2, v3, t1, t2, t3, rfl, h1, h2, h3, .inl ⟨e, ⟨true, KE.x, fun _ a na => ⟨_, rfl, fun na2 => ⟨_, rfl, rfl, false, rfl, _, rfl, err _ H a KE (Same.refl H) na2⟩⟩, fun z => nomatch z⟩⟩⟩⟩
    · exact ⟨_, rfl, rfl, false, rfl, _, rfl, rfl, false, rfl, _, rfl, rfl, false, rfl, _, rfl, rfl, false, rfl, _, rfl, rfl, false, rfl, _, rfl, _, rfl, _, rfl, .inr ⟨v1, v2, v3, t1, t2, t3, rfl, h1, h2, h3, .inr ⟨e, .inl ⟨e2, ⟨true, KN.x, fun _ a na => ⟨_, rfl, fun na2 => ⟨_, rfl, rfl, false, rfl, _, rfl, err _ H a KN (Same.refl H) na2⟩⟩, fun z => nomatch z⟩⟩⟩⟩⟩
    · exact ⟨_, rfl, rfl, false, rfl, _, rfl, rfl, false, rfl, _, rfl, rfl, false, rfl, _, rfl, rfl, false, rfl, _, rfl, rfl, false, rfl, _, rfl, _, rfl, _, rfl, .inr ⟨v1, v2, v3, t1, t2, t3, rfl, h1, h2, h3, .inr ⟨e, .inr ⟨e2, e3, ⟨true, KS.x, fun _ a na => ⟨_, rfl, fun na2 => ⟨_, rfl, rfl, false, rfl, _, rfl, err _ H a KS (Same.refl H) na2⟩⟩, fun z => nomatch z⟩⟩⟩⟩⟩
    · refine ⟨_, rfl, rfl, false, rfl, _, rfl, rfl, false, rfl, _, rfl, rfl, false, rfl, _, rfl, rfl, false, rfl, _, rfl, rfl, false, rfl, _, rfl, _, rfl, _, rfl, .inl ⟨e, n, k, rfl, eb, n1, h30, fun H' p s' np hp _ => ⟨_, rfl, rfl, true, rfl, q H' s'⟩, fun H' p u f l s' np hp _ _ _ _ _ => ⟨_, rfl, rfl, true, rfl, q H' s'⟩⟩⟩
end
end LT

namespace LT
open PySem PySem.Spec PyProof.Rows L2
theorem Pl.same {K : PySem.W.Frag} {H H' : Hp} {v : V} {t : String} (h : Pl K H v t) (s : Same H H') : Pl K H' v t := by
  cases h with
  | non => exact .non
  | bl b => exact .bl b
  | int i => exact .int i
  | str x => exact .str x
  | lst e => exact .lst (s _ _ e)
  | tup e => exact .tup (s _ _ e)
  | dict e => exact .dict (s _ _ e)
/-- values that are no integers from lo to hi -/
def Bads (K : PySem.W.Frag) (H : Hp) (lo hi : Int) (xs : List V) : Prop := xs.length ≤ 14 ∧ ∀ v ∈ xs, ∃ t, Pl K H v t ∧ inRange lo hi v = false
theorem Bads.same {K : PySem.W.Frag} {H H' : Hp} {lo hi : Int} {xs : List V} (h : Bads K H lo hi xs) (s : Same H H') : Bads K H' lo hi xs := ⟨h.1, fun v hv => by
  obtain ⟨t, a, b⟩ := h.2 v hv
  exact ⟨t, a.same s, b⟩⟩
section
variable {P : Program} {w : World} {K : PySem.W.Frag} {mg : Str → Option Value} {base : Heap}
def spBad (K : PySem.W.Frag) : Sp := fun vs H Q _ => ∃ (lo hi : Int), vs = [.int lo, .int hi] ∧ 0 ≤ lo ∧ lo ≤ 2 ^ 100 ∧ 0 ≤ hi ∧ hi ≤ 2 ^ 100 ∧ ∀ (H' : Hp) (p : Addr) (xs : List V), Same H H' → H p = none → H' p = some (.lst xs) → Bads K H' lo hi xs → Q (.ref p) H'
theorem ok_law_bad_integers {f : Addr} {fd : FuncData} (F : Fun K "_law_bad_integers" "_law_bad_integers" sLawBadIntegers f fd) : FnOk P w K mg base CX0 1 f fd ["low", "high"] (spBad K) := by
  refine F.ok scLawBadIntegers (fun vs H Q E h => ?_) (fun cdv A outer s H vs Q E hr h => ?_)
  · obtain ⟨_, _, rfl, _⟩ := h
    rfl
  obtain ⟨lo, hi, rfl, l0, l1, h0, h1, q⟩ := h
  refine ⟨_, (pss_cons (ps_set (i := 2) scLawBadIntegers.nd rfl (Or.inl rfl) (pe_lst (pa_cons pe_non (pa_cons pe_bl (pa_cons pe_bl (pa_cons pe_str (pa_cons pe_str (pa_cons (pe_lst pa_nil) (pa_cons (pe_lst (pa_cons (pv 0) pa_nil)) (pa_cons (pe_tup (pa_cons (pv 0) pa_nil)) (pa_cons pe_dnewK (pa_cons (pe_op op_sub (pv 0) pe_int) (pa_cons (pe_op op_add (pv 1) pe_int) (pa_cons (pe_op op_sub (pv 0) (pe_op op_pow pe_int pe_int)) (pa_cons (pe_op op_add (pv 1) (pe_op op_pow pe_int pe_int)) pa_nil)))))))))))))))
    (pss_one (ps_ret (pe_op op_cat (pv 2) (pe_lst (pa_cons (pe_op op_sub pe_int (pe_op op_mulW (pe_op op_pow pe_int pe_int) (pe_op op_pow pe_int pe_int))) pa_nil)))))), ?_⟩
  have one1 : 1 ≤ sizeLine := by decide
  refine ⟨Nat.zero_le _, fun p1 n1 => ⟨_, rfl, one1, fun p2 n2 => ⟨_, rfl, one1, fun p3 n3 => ?_⟩⟩⟩
  have s1 := same_upd (o := .lst []) n1
  have s2 := same_upd (o := .lst [.int lo]) n2
  have s3 := same_upd (o := .tup [.int lo]) n3
  refine fun p4 n4 => ?_
  have s4 := same_upd (o := .dK []) n4
  have a1 : Pl K (upd (upd (upd (upd H p1 (.lst [])) p2 (.lst [.int lo])) p3 (.tup [.int lo])) p4 (.dK [])) (.ref p1) "list" := .lst (s4 _ _ (s3 _ _ (s2 _ _ upd_same)))
  have a2 : Pl K (upd (upd (upd (upd H p1 (.lst [])) p2 (.lst [.int lo])) p3 (.tup [.int lo])) p4 (.dK [])) (.ref p2) "list" := .lst (s4 _ _ (s3 _ _ upd_same))
  have a3 : Pl K (upd (upd (upd (upd H p1 (.lst [])) p2 (.lst [.int lo])) p3 (.tup [.int lo])) p4 (.dK [])) (.ref p3) "tuple" := .tup (s4 _ _ upd_same)
  have a4 : Pl K (upd (upd (upd (upd H p1 (.lst [])) p2 (.lst [.int lo])) p3 (.tup [.int lo])) p4 (.dK [])) (.ref p4) "dict" := .dict upd_same
  have sA := s1.trans (s2.trans (s3.trans s4))
  generalize upd (upd (upd (upd H p1 (.lst [])) p2 (.lst [.int lo])) p3 (.tup [.int lo])) p4 (.dK []) = J at a1 a2 a3 a4 sA
  refine ⟨_, rfl, _, _, rfl, rfl, _, rfl, _, _, rfl, rfl, _, rfl, _, _, rfl, rfl, ⟨by decide, by decide, by decide⟩, _, _, rfl, rfl, _, rfl, _, _, rfl, rfl, ⟨by decide, by decide, by decide⟩, _, _, rfl, rfl, (by show 13 ≤ sizeLine; decide), fun l nl => ?_⟩
  have big : CMulW (10 ^ Int.toNat 64) (10 ^ Int.toNat 30) := wide_mul (a := 300) (b := 300) (by decide) (by decide) (by decide) (by decide) (by decide)
  have sB := same_upd (H := J) (o := .lst [V.non, V.bl true, V.bl false, V.str (Str.ofString ""), V.str (Str.ofString "1"), V.ref p1, V.ref p2, V.ref p3, V.ref p4, V.int (lo - 1), V.int (hi + 1), V.int (lo - (10 ^ Int.toNat 30)), V.int (hi + (10 ^ Int.toNat 40))]) nl
  have hl : (upd J l (.lst [V.non, V.bl true, V.bl false, V.str (Str.ofString ""), V.str (Str.ofString "1"), V.ref p1, V.ref p2, V.ref p3, V.ref p4, V.int (lo - 1), V.int (hi + 1), V.int (lo - (10 ^ Int.toNat 30)), V.int (hi + (10 ^ Int.toNat 40))])) l = some (.lst [V.non, V.bl true, V.bl false, V.str (Str.ofString ""), V.str (Str.ofString "1"), V.ref p1, V.ref p2, V.ref p3, V.ref p4, V.int (lo - 1), V.int (hi + 1), V.int (lo - (10 ^ Int.toNat 30)), V.int (hi + (10 ^ Int.toNat 40))]) := upd_same
  show gName 2 _ _ (upd J l (.lst [V.non, V.bl true, V.bl false, V.str (Str.ofString ""), V.str (Str.ofString "1"), V.ref p1, V.ref p2, V.ref p3, V.ref p4, V.int (lo - 1), V.int (hi + 1), V.int (lo - (10 ^ Int.toNat 30)), V.int (hi + (10 ^ Int.toNat 40))])) _
  have sC := sA.trans sB
  replace a1 := a1.same sB
  replace a2 := a2.same sB
  replace a3 := a3.same sB
  replace a4 := a4.same sB
  generalize upd J l (.lst [V.non, V.bl true, V.bl false, V.str (Str.ofString ""), V.str (Str.ofString "1"), V.ref p1, V.ref p2, V.ref p3, V.ref p4, V.int (lo - 1), V.int (hi + 1), V.int (lo - (10 ^ Int.toNat 30)), V.int (hi + (10 ^ Int.toNat 40))]) = J2 at a1 a2 a3 a4 sC hl
  refine ⟨_, rfl, _, _, rfl, rfl, ⟨by decide, by decide, by decide⟩, _, _, rfl, rfl, ⟨by decide, by decide, by decide⟩, _, _, rfl, rfl, big, _, _, rfl, rfl, one1, fun l2 nl2 => ?_⟩
  have s5 := same_upd (o := .lst [V.int (0 - 10 ^ Int.toNat 64 * 10 ^ Int.toNat 30)]) nl2
  refine ⟨l, l2, _, _, rfl, rfl, s5 _ _ hl, upd_same, (by show 13 + 1 ≤ sizeLine; decide), fun r nr => ?_⟩
  have s6 := same_upd (o := .lst ([V.non, V.bl true, V.bl false, V.str (Str.ofString ""), V.str (Str.ofString "1"), V.ref p1, V.ref p2, V.ref p3, V.ref p4, V.int (lo - 1), V.int (hi + 1), V.int (lo - (10 ^ Int.toNat 30)), V.int (hi + (10 ^ Int.toNat 40))] ++ [V.int (0 - 10 ^ Int.toNat 64 * 10 ^ Int.toNat 30)])) nr
  have sD := s5.trans s6
  have nH : H r = none := by
    cases e : H r with
    | none => rfl
    | some o => 
      have y := (sC.trans s5) _ _ e
      rw [nr] at y
      cases y
  refine q _ r _ (sC.trans sD) nH upd_same ⟨by show 14 ≤ 14; decide, ?_⟩
  replace a1 := a1.same sD
  replace a2 := a2.same sD
  replace a3 := a3.same sD
  replace a4 := a4.same sD
  clear s5 s6 sD sC hl nl2 nr
  have iR : ∀ i : Int, (i < lo ∨ hi < i) → inRange lo hi (.int i) = false := fun i h => by
    show (decide (lo ≤ i) && decide (i ≤ hi)) = false
    rcases h with h | h
    · rw [decide_eq_false (by omega)]; rfl
    · rw [decide_eq_false (p := i ≤ hi) (by omega), Bool.and_false]
  have p30 : (0 : Int) < 10 ^ Int.toNat 30 := by decide
  have p40 : (0 : Int) < 10 ^ Int.toNat 40 := by decide
  have p94 : (0 : Int) < 10 ^ Int.toNat 64 * 10 ^ Int.toNat 30 := by decide
  intro v hv
  rcases List.mem_append.mp hv with hv | hv
  · simp only [List.mem_cons, List.not_mem_nil, or_false] at hv
    rcases hv with rfl | rfl | rfl | rfl | rfl | rfl | rfl | rfl | rfl | rfl | rfl | rfl | rfl
    · exact ⟨_, .non, rfl⟩
    · exact ⟨_, .bl true, rfl⟩
    · exact ⟨_, .bl false, rfl⟩
    · exact ⟨_, .str _, rfl⟩
    · exact ⟨_, .str _, rfl⟩
    · exact ⟨_, a1, rfl⟩
    · exact ⟨_, a2, rfl⟩
    · exact ⟨_, a3, rfl⟩
    · exact ⟨_, a4, rfl⟩
    · exact ⟨_, .int _, iR _ (.inl (by omega))⟩
    · exact ⟨_, .int _, iR _ (.inr (by omega))⟩
    · exact ⟨_, .int _, iR _ (.inl (by omega))⟩
    · exact ⟨_, .int _, iR _ (.inr (by omega))⟩
  · simp only [List.mem_cons, List.not_mem_nil, or_false] at hv
    subst hv
    exact ⟨_, .int _, iR _ (.inl (by omega))⟩
end
end LT

namespace LT
open PySem PySem.Spec PyProof.Rows L2
theorem strs_dp {K : PySem.W.Frag} {H : Hp} : ∀ ns : List Str, DpAll K H (ns.map V.str) (ns.map PyData.str)
  | [] => .nil
  | n :: ns => .cons (.str n) (strs_dp ns)
theorem strs_same {ns : List Str} (h : SeqAt.shaped (.list (ns.map PyData.str)) = true) : PyData.eqv (.list (ns.map PyData.str)) (.list (ns.map PyData.str)) = true := SeqAt.eqv_refl _ (SeqAt.canLay_of_shaped h)
theorem shE2 : SeqAt.shaped (.list ((["InvalidEntry", "InvalidEntry"] : List Str).map PyData.str)) = true := by decide +kernel
theorem shN2 : SeqAt.shaped (.list ((["InvalidNumber", "InvalidNumber"] : List Str).map PyData.str)) = true := by decide +kernel
theorem shF3 : SeqAt.shaped (.list ((["fine", "fine", "fine"] : List Str).map PyData.str)) = true := by decide +kernel
/-- values that are no integers -/
def Noi (K : PySem.W.Frag) (H : Hp) (xs : List V) : Prop := ∀ v ∈ xs, ∃ t, Pl K H v t ∧ isInt v = false
theorem Noi.same {K : PySem.W.Frag} {H H' : Hp} {xs : List V} (h : Noi K H xs) (s : Same H H') : Noi K H' xs := fun v hv => by
  obtain ⟨t, a, b⟩ := h v hv
  exact ⟨t, a.same s, b⟩
theorem noi8 {K : PySem.W.Frag} {H : Hp} {n1 n2 n3 : Addr} {xs ys : List V} {kvs : List (Key × V)} (h1 : H n1 = some (.lst xs)) (h2 : H n2 = some (.tup ys)) (h3 : H n3 = some (.dK kvs)) :
    Noi K H [V.non, V.bl true, V.bl false, V.str (Str.ofString ""), V.str (Str.ofString "1"), V.ref n1, V.ref n2, V.ref n3] := by
  intro v hv
  simp only [List.mem_cons, List.not_mem_nil, or_false] at hv
  rcases hv with rfl | rfl | rfl | rfl | rfl | rfl | rfl | rfl
  · exact ⟨_, .non, rfl⟩
  · exact ⟨_, .bl true, rfl⟩
  · exact ⟨_, .bl false, rfl⟩
  · exact ⟨_, .str _, rfl⟩
  · exact ⟨_, .str _, rfl⟩
  · exact ⟨_, .lst h1, rfl⟩
  · exact ⟨_, .tup h2, rfl⟩
  · exact ⟨_, .dict h3, rfl⟩
theorem p30_top : (10 : Int) ^ Int.toNat 30 = top30 := by decide
theorem in_ent {e : Nat} (h : e < 10 ^ 30) : inRange 0 (top30 - 1) (.int (e : Int)) = true := by
  have t : top30 = 1000000000000000000000000000000 := rfl
  show (decide (0 ≤ (e : Int)) && decide ((e : Int) ≤ top30 - 1)) = true
  rw [decide_eq_true (by omega), decide_eq_true (by omega)]
  rfl
section
variable {P : Program} {w : World} {K : PySem.W.Frag} {mg : Str → Option Value} {base : Heap}
def spSizesRight : Sp := fun vs H Q _ => ∃ (e : Nat), vs = [.int e] ∧ e < 10 ^ 30 ∧ ∀ H', Same H H' → Q (.bl true) H'
theorem ok_law_sizes_right {f g1 g2 : Addr} {fd d1 d2 : FuncData} (F : Fun K "_law_sizes_right" "_law_sizes_right" sLawSizesRight f fd)
    (GLawBadIntegers : FnOk P w K mg base CX0 1 g1 d1 ["low", "high"] (spBad K)) (ALawBadIntegers : At K mg "_law_bad_integers" g1 d1 ["low", "high"])
    (GLawTold : FnOk P w K mg base CX0 9 g2 d2 ["way", "one", "two", "three"] (spLawTold K)) (ALawTold : At K mg "_law_told" g2 d2 ["way", "one", "two", "three"]) : FnOk P w K mg base CX0 10 f fd ["entry"] spSizesRight := by
  refine F.ok scLawSizesRight (fun vs H Q E h => ?_) (fun cdv A outer s H vs Q E hr h => ?_)
  · obtain ⟨_, rfl, _⟩ := h
    rfl
  obtain ⟨e, rfl, he, q⟩ := h
  have one1 : 1 ≤ sizeLine := by decide
  have two : 2 ≤ sizeLine := by decide
  refine' ⟨_, (pss_cons (ps_set (i := 1) scLawSizesRight.nd rfl (Or.inl rfl) (pe_lst (pa_cons pe_non (pa_cons pe_bl (pa_cons pe_bl (pa_cons pe_str (pa_cons pe_str (pa_cons (pe_lst (pa_cons pe_int pa_nil)) (pa_cons (pe_tup (pa_cons pe_int pa_nil)) (pa_cons pe_dnewK pa_nil))))))))))
    (pss_cons (ps_for PassesOwn.never rfl (pi_list (pe_call GLawBadIntegers (hr.mono (by decide)) rfl ALawBadIntegers.m ALawBadIntegers.kp ALawBadIntegers.b .nil pass0 (pa_cons pe_int (pa_cons (pe_op op_sub (pe_op op_pow pe_int pe_int) pe_int) pa_nil)))) (pg_name (i := 2) scLawSizesRight.nd rfl (Or.inl rfl))
    (pss_one (ps_if (pt_cmpR (op_neD hr.units) (pe_lst (pa_cons (pe_call GLawTold (hr.mono (by decide)) rfl ALawTold.m ALawTold.kp ALawTold.b .nil pass0 (pa_cons pe_int (pa_cons (pv 2) (pa_cons pe_int (pa_cons pe_int pa_nil))))) (pa_cons (pe_call GLawTold (hr.mono (by decide)) rfl ALawTold.m ALawTold.kp ALawTold.b .nil pass0 (pa_cons pe_int (pa_cons (pv 2) (pa_cons pe_non (pa_cons pe_non pa_nil))))) pa_nil))) (pe_op op_rep (pe_lst (pa_cons pe_str pa_nil)) pe_int) (nomark _))
    (pss_one (ps_ret pe_bl))
    pss_nil)))
    (pss_cons (ps_for PassesOwn.never rfl (pi_list (pv 1)) (pg_name (i := 2) scLawSizesRight.nd rfl (Or.inl rfl))
    (pss_one (ps_if (pt_cmpR (op_neD hr.units) (pe_lst (pa_cons (pe_call GLawTold (hr.mono (by decide)) rfl ALawTold.m ALawTold.kp ALawTold.b .nil pass0 (pa_cons pe_int (pa_cons (pv 0) (pa_cons (pv 2) (pa_cons pe_int pa_nil))))) (pa_cons (pe_call GLawTold (hr.mono (by decide)) rfl ALawTold.m ALawTold.kp ALawTold.b .nil pass0 (pa_cons pe_int (pa_cons (pv 0) (pa_cons (pv 2) (pa_cons pe_non pa_nil))))) pa_nil))) (pe_op op_rep (pe_lst (pa_cons pe_str pa_nil)) pe_int) (nomark _))
    (pss_one (ps_ret pe_bl))
    pss_nil)))
    (pss_cons (ps_for PassesOwn.never rfl (pi_list (pe_call GLawBadIntegers (hr.mono (by decide)) rfl ALawBadIntegers.m ALawBadIntegers.kp ALawBadIntegers.b .nil pass0 (pa_cons pe_int (pa_cons (pe_op op_pow pe_int pe_int) pa_nil)))) (pg_name (i := 2) scLawSizesRight.nd rfl (Or.inl rfl))
    (pss_one (ps_if (pt_cmpR op_ne (pe_call GLawTold (hr.mono (by decide)) rfl ALawTold.m ALawTold.kp ALawTold.b .nil pass0 (pa_cons pe_int (pa_cons (pv 0) (pa_cons pe_int (pa_cons (pv 2) pa_nil))))) pe_str (nomark _))
    (pss_one (ps_ret pe_bl))
    pss_nil)))
    (pss_cons (ps_set (i := 3) scLawSizesRight.nd rfl (Or.inl rfl) (pe_lst (pa_cons (pe_call GLawTold (hr.mono (by decide)) rfl ALawTold.m ALawTold.kp ALawTold.b .nil pass0 (pa_cons pe_int (pa_cons (pv 0) (pa_cons (pe_op op_sub pe_int (pe_op op_pow pe_int pe_int)) (pa_cons pe_int pa_nil))))) (pa_cons (pe_call GLawTold (hr.mono (by decide)) rfl ALawTold.m ALawTold.kp ALawTold.b .nil pass0 (pa_cons pe_int (pa_cons (pe_op op_sub (pe_op op_pow pe_int pe_int) pe_int) (pa_cons (pe_op op_pow pe_int pe_int) (pa_cons (pe_op op_pow pe_int pe_int) pa_nil))))) (pa_cons (pe_call GLawTold (hr.mono (by decide)) rfl ALawTold.m ALawTold.kp ALawTold.b .nil pass0 (pa_cons pe_int (pa_cons pe_int (pa_cons pe_int (pa_cons pe_int pa_nil))))) pa_nil)))))
    (pss_one (ps_ret (pe_cmpR (op_eqD hr.units) (pv 3) (pe_op op_rep (pe_lst (pa_cons pe_str pa_nil)) pe_int) (nomark _))))))))), ?_⟩
  refine ⟨one1, fun n1 m1 => ⟨one1, fun n2 m2 => fun n3 m3 => ⟨(by show 8 ≤ sizeLine; decide), fun nb mb => ?_⟩⟩⟩
  have s1 := same_upd (H := H) (o := .lst [.int 1]) m1
  have s2 := same_upd (o := .tup [.int 1]) m2
  have s3 := same_upd (o := .dK []) m3
  have s4 := same_upd (o := .lst [V.non, V.bl true, V.bl false, V.str (Str.ofString ""), V.str (Str.ofString "1"), V.ref n1, V.ref n2, V.ref n3]) mb
  have hN := noi8 (K := K) (s4 _ _ (s3 _ _ (s2 _ _ upd_same))) (s4 _ _ (s3 _ _ upd_same)) (s4 _ _ upd_same)
  have sH := s1.trans (s2.trans (s3.trans s4))
  have hnb : (upd (upd (upd (upd H n1 (.lst [.int 1])) n2 (.tup [.int 1])) n3 (.dK [])) nb (.lst [V.non, V.bl true, V.bl false, V.str (Str.ofString ""), V.str (Str.ofString "1"), V.ref n1, V.ref n2, V.ref n3])) nb = some (.lst [V.non, V.bl true, V.bl false, V.str (Str.ofString ""), V.str (Str.ofString "1"), V.ref n1, V.ref n2, V.ref n3]) := upd_same
  generalize upd (upd (upd (upd H n1 (.lst [.int 1])) n2 (.tup [.int 1])) n3 (.dK [])) nb (.lst [V.non, V.bl true, V.bl false, V.str (Str.ofString ""), V.str (Str.ofString "1"), V.ref n1, V.ref n2, V.ref n3]) = H0 at hN sH hnb
  clear s1 s2 s3 s4 m1 m2 m3 mb
  generalize [V.non, V.bl true, V.bl false, V.str (Str.ofString ""), V.str (Str.ofString "1"), V.ref n1, V.ref n2, V.ref n3] = ns at hN hnb
  refine ⟨_, _, rfl, rfl, ⟨by decide, by decide, by decide⟩, _, _, rfl, rfl, 0, _, rfl, by decide, by decide, by decide, by decide, fun H1 r xs t1 _ hr1 hb => ⟨r, rfl, ⟨_, SqL.of hr1⟩, for_list (K := K) (a := r) (xs := xs) (fun i σ H' => ∃ v1 : Option V, σ = [some (.int (e : Int)), some (.ref nb), v1, none] ∧ Same H1 H')
    ⟨none, rfl, Same.refl _⟩ (fun i σ H' _ ⟨_, _, s5⟩ => SqL.of (s5 _ _ hr1)) ?_ ?_⟩⟩
  · rintro i x σ H2 hi ⟨v1, rfl, sm1⟩
    obtain ⟨ty, hx, hxr⟩ := hb.2 x (List.mem_of_getElem? hi)
    replace hxr : inRange 0 (top30 - 1) x = false := hxr
    refine ⟨_, rfl, 5, x, .int 1, .int 9, _, _, _, "InvalidEntry", rfl, by decide, hx.same sm1, .int 1, .int 9, .inl ⟨rfl, hxr⟩, fun H3 sm2 => ?_⟩
    refine ⟨_, rfl, 5, x, .non, .non, _, _, _, "InvalidEntry", rfl, by decide, (hx.same sm1).same sm2, .non, .non, .inl ⟨rfl, hxr⟩, fun H4 sm3 => ⟨two, fun l nl => ⟨one1, fun l2 nl2 => ⟨l2, 2, _, rfl, rfl, upd_same, by decide, by decide, (by show 1 * 2 ≤ sizeLine; decide), fun p np => ?_⟩⟩⟩⟩
    have u1 := same_upd (o := .lst [.str "InvalidEntry", .str "InvalidEntry"]) nl
    have u2 := same_upd (o := .lst [.str "InvalidEntry"]) nl2
    have u3 := same_upd (o := .lst (List.replicate (Int.toNat 2) [V.str "InvalidEntry"]).flatten) np
    refine ⟨.list ((["InvalidEntry", "InvalidEntry"] : List Str).map PyData.str), .list ((["InvalidEntry", "InvalidEntry"] : List Str).map PyData.str), .lst (SqL.of (u3 _ _ (u2 _ _ upd_same))) (strs_dp ["InvalidEntry", "InvalidEntry"]), .lst (SqL.of upd_same) (strs_dp ["InvalidEntry", "InvalidEntry"]), shE2, shE2, ?_⟩
    rw [strs_same shE2]
    exact ⟨false, rfl, _, rfl, (((sm1.trans sm2).trans sm3).trans u1).trans (u2.trans u3)⟩
  rintro σ H2 ⟨v1, rfl, sm1⟩
  have hnb2 := sm1 _ _ (t1 _ _ hnb)
  have hN2 := (hN.same t1).same sm1
  replace sH := sH.trans (t1.trans sm1)
  clear hb hr1 t1 sm1 hnb hN
  refine ⟨_, rfl, nb, rfl, ⟨_, SqL.of hnb2⟩, for_list (K := K) (a := nb) (xs := ns) (fun i σ H' => ∃ v1 : Option V, σ = [some (.int (e : Int)), some (.ref nb), v1, none] ∧ Same H2 H')
    ⟨_, rfl, Same.refl _⟩ (fun i σ H' _ ⟨_, _, s5⟩ => SqL.of (s5 _ _ hnb2)) ?_ ?_⟩
  · rintro i x σ H3 hi ⟨v2, rfl, sm1⟩
    obtain ⟨ty, hx, hxr⟩ := hN2 x (List.mem_of_getElem? hi)
    have hx1 := hx.same sm1
    refine ⟨_, rfl, _, rfl, 5, .int (e : Int), x, .int 9, _, _, _, "InvalidNumber", rfl, by decide, .int _, hx1, .int 9, .inr (.inl ⟨rfl, in_ent he, hxr⟩), fun H4 sm2 => ?_⟩
    refine ⟨_, rfl, _, rfl, 5, .int (e : Int), x, .non, _, _, _, "InvalidNumber", rfl, by decide, .int _, hx1.same sm2, .non, .inr (.inl ⟨rfl, in_ent he, hxr⟩), fun H5 sm3 => ⟨two, fun l nl => ⟨one1, fun l2 nl2 => ⟨l2, 2, _, rfl, rfl, upd_same, by decide, by decide, (by show 1 * 2 ≤ sizeLine; decide), fun p np => ?_⟩⟩⟩⟩
    have u1 := same_upd (o := .lst [.str "InvalidNumber", .str "InvalidNumber"]) nl
    have u2 := same_upd (o := .lst [.str "InvalidNumber"]) nl2
    have u3 := same_upd (o := .lst (List.replicate (Int.toNat 2) [V.str "InvalidNumber"]).flatten) np
    refine ⟨.list ((["InvalidNumber", "InvalidNumber"] : List Str).map PyData.str), .list ((["InvalidNumber", "InvalidNumber"] : List Str).map PyData.str), .lst (SqL.of (u3 _ _ (u2 _ _ upd_same))) (strs_dp ["InvalidNumber", "InvalidNumber"]), .lst (SqL.of upd_same) (strs_dp ["InvalidNumber", "InvalidNumber"]), shN2, shN2, ?_⟩
    rw [strs_same shN2]
    exact ⟨false, rfl, _, rfl, (((sm1.trans sm2).trans sm3).trans u1).trans (u2.trans u3)⟩
  rintro σ H3 ⟨v2, rfl, sm1⟩
  replace sH := sH.trans sm1
  clear hnb2 hN2 sm1
  refine ⟨_, _, rfl, rfl, ⟨by decide, by decide, by decide⟩, 1, _, rfl, by decide, by decide, by decide, by decide, fun H4 r2 xs2 t1 _ hr1 hb => ⟨r2, rfl, ⟨_, SqL.of hr1⟩, for_list (K := K) (a := r2) (xs := xs2) (fun i σ H' => ∃ v1 : Option V, σ = [some (.int (e : Int)), some (.ref nb), v1, none] ∧ Same H4 H')
    ⟨_, rfl, Same.refl _⟩ (fun i σ H' _ ⟨_, _, s5⟩ => SqL.of (s5 _ _ hr1)) ?_ ?_⟩⟩
  · rintro i x σ H5 hi ⟨v3, rfl, sm1⟩
    obtain ⟨ty, hx, hxr⟩ := hb.2 x (List.mem_of_getElem? hi)
    replace hxr : inRange 1 top30 x = false := hxr
    refine ⟨_, rfl, _, rfl, 5, .int (e : Int), .int 1, x, _, _, _, "InvalidSize", rfl, by decide, .int _, .int 1, hx.same sm1, .inr (.inr (.inl ⟨rfl, in_ent he, rfl, hxr⟩)), fun H6 sm2 => ?_⟩
    refine ⟨rfl, ?_⟩
    rw [show decide (V.str "InvalidSize" = V.str "InvalidSize") = true from decide_eq_true rfl]
    exact ⟨false, rfl, _, rfl, sm1.trans sm2⟩
  rintro σ H5 ⟨v3, rfl, sm1⟩
  replace sH := sH.trans (t1.trans sm1)
  clear hb hr1 t1 sm1
  refine ⟨_, rfl, _, _, rfl, rfl, ⟨by decide, by decide, by decide⟩, _, _, rfl, rfl, 5, .int (e : Int), _, .int 1, _, _, _, "fine", rfl, by decide, .int _, .int _, .int 1, .inr (.inr (.inr ⟨rfl, e, 1, _, rfl, rfl, rfl, he, by decide, by decide⟩)), fun H6 w1 => ?_⟩
  refine ⟨_, _, rfl, rfl, ⟨by decide, by decide, by decide⟩, _, _, rfl, rfl, _, _, rfl, rfl, ⟨by decide, by decide, by decide⟩, _, _, rfl, rfl, ⟨by decide, by decide, by decide⟩, 5, _, _, _, _, _, _, "fine", rfl, by decide, .int _, .int _, .int _, .inr (.inr (.inr ⟨rfl, 10 ^ 30 - 1, 10 ^ 30, _, congrArg V.int (by decide), rfl, congrArg V.int (by decide), by decide, by decide, by decide⟩)), fun H7 w2 => ?_⟩
  refine ⟨5, _, _, _, _, _, _, "fine", rfl, by decide, .int 0, .int 0, .int 1, .inr (.inr (.inr ⟨rfl, 0, 1, 0, rfl, rfl, rfl, by decide, by decide, by decide⟩)), fun H8 w3 => ⟨(by show 3 ≤ sizeLine; decide), fun l nl => ?_⟩⟩
  refine ⟨_, rfl, one1, fun l2 nl2 => ⟨l2, 3, _, rfl, rfl, upd_same, by decide, by decide, (by show 1 * 3 ≤ sizeLine; decide), fun p np => ?_⟩⟩
  have u1 := same_upd (o := .lst [.str "fine", .str "fine", .str "fine"]) nl
  have u2 := same_upd (o := .lst [.str "fine"]) nl2
  have u3 := same_upd (o := .lst (List.replicate (Int.toNat 3) [V.str "fine"]).flatten) np
  refine ⟨.list ((["fine", "fine", "fine"] : List Str).map PyData.str), .list ((["fine", "fine", "fine"] : List Str).map PyData.str), .lst (SqL.of (u3 _ _ (u2 _ _ upd_same))) (strs_dp ["fine", "fine", "fine"]), .lst (SqL.of upd_same) (strs_dp ["fine", "fine", "fine"]), shF3, shF3, ?_⟩
  rw [strs_same shF3]
  exact q _ ((((sH.trans w1).trans w2).trans w3).trans (u1.trans (u2.trans u3)))
end
end LT

namespace LT
open PySem PySem.Spec PyProof.Rows L2
theorem db_ne {b e k : Nat} {T : List (Nat × Nat × Nat)} (h : due b T = [k]) (hbe : b < e) : db b e T ≠ [] := by
  have m : k ∈ due b T := by rw [h]; exact List.mem_singleton.mpr rfl
  unfold due at m
  obtain ⟨x, hx, _⟩ := List.mem_map.mp m
  obtain ⟨hx1, hx2⟩ := List.mem_filter.mp hx
  rw [Bool.and_eq_true] at hx2
  have h1 := of_decide_eq_true hx2.1
  have h2 := of_decide_eq_true hx2.2
  intro z
  have : (min e x.2.1 - max b x.1, x.2.2) ∈ db b e T := List.mem_map.mpr ⟨x, List.mem_filter.mpr ⟨hx1, decide_eq_true (by omega)⟩, rfl⟩
  rw [z] at this
  exact absurd this List.not_mem_nil
theorem rows_due {n : Nat} (h30 : n ≤ 10 ^ 30) (m : Nat) (hm : m < n) : due m (lev (pk 101 n 0).length 0 (pk 101 n 0)) = [(sib 0 n m).length] := by
  have q := due_is n m 101 0 0 (Nat.zero_le _) (by rw [Nat.mod_eq_of_lt (Nat.lt_of_le_of_lt h30 (by decide))]; omega)
  rw [Nat.mod_eq_of_lt (Nat.lt_of_le_of_lt h30 (by decide)), Nat.zero_add, Nat.zero_min, Nat.add_zero] at q
  exact q
theorem sh5 : SeqAt.shaped (.list ((["InvalidSize", "InvalidSize", "InvalidSize", "InvalidSize", "InvalidSize"] : List Str).map PyData.str)) = true := by decide +kernel
theorem sh6 : SeqAt.shaped (.list ((["InvalidEntry", "InvalidEntry", "InvalidSpan", "InvalidSpan", "InvalidSpan", "InvalidSpan"] : List Str).map PyData.str)) = true := by decide +kernel
theorem shP2 : SeqAt.shaped (.list ((["InvalidSpan", "InvalidSpan"] : List Str).map PyData.str)) = true := by decide +kernel
theorem sh7 : SeqAt.shaped (.list ((["fine", "fine", "fine", "fine", "fine", "fine", "fine"] : List Str).map PyData.str)) = true := by decide +kernel
theorem in_size {n : Nat} (h1 : 1 ≤ n) (h : n ≤ 10 ^ 30) : inRange 1 top30 (.int (n : Int)) = true := by
  have t : top30 = 1000000000000000000000000000000 := rfl
  show (decide (1 ≤ (n : Int)) && decide ((n : Int) ≤ top30)) = true
  rw [decide_eq_true (by omega), decide_eq_true (by omega)]
  rfl
theorem in_one {n e : Nat} (h : e < n) : inRange 0 ((n : Int) - 1) (.int (e : Int)) = true := by
  show (decide (0 ≤ (e : Int)) && decide ((e : Int) ≤ (n : Int) - 1)) = true
  rw [decide_eq_true (by omega), decide_eq_true (by omega)]
  rfl
theorem outS {j : Nat} (hj : j < 5) {v1 v2 v3 : V} (h : inRange 1 top30 v1 = false) : Out j v1 v2 v3 "InvalidSize" := by
  have w : j = 0 ∨ j = 1 ∨ j = 2 ∨ j = 3 ∨ j = 4 := by omega
  rcases w with rfl | rfl | rfl | rfl | rfl <;> exact .inl ⟨rfl, h⟩
theorem outE {j : Nat} (hj : j = 0 ∨ j = 1) {n : Int} {v2 v3 : V} (hn : inRange 1 top30 (.int n) = true) (h : inRange 0 (n - 1) v2 = false) : Out j (.int n) v2 v3 "InvalidEntry" := by
  rcases hj with rfl | rfl <;> exact .inr (.inl ⟨rfl, n, rfl, hn, h⟩)
theorem outP {j : Nat} (hj : j = 3 ∨ j = 4) {n : Int} {v2 v3 : V} (hn : inRange 1 top30 (.int n) = true) (h : inRange 0 (n - 1) v2 = false) : Out j (.int n) v2 v3 "InvalidSpan" := by
  rcases hj with rfl | rfl <;> exact .inr (.inl ⟨rfl, n, rfl, hn, .inl h⟩)
theorem outQ {j : Nat} (hj : j = 3 ∨ j = 4) {n b : Int} {v3 : V} (hn : inRange 1 top30 (.int n) = true) (h1 : inRange 0 (n - 1) (.int b) = true) (h : inRange (b + 1) n v3 = false) : Out j (.int n) (.int b) v3 "InvalidSpan" := by
  rcases hj with rfl | rfl <;> exact .inr (.inl ⟨rfl, n, rfl, hn, .inr ⟨b, rfl, h1, h⟩⟩)
theorem outF {j : Nat} (hj : j = 3 ∨ j = 4) {n b e : Nat} (h1 : b < e) (h2 : e ≤ n) (h30 : n ≤ 10 ^ 30) : Out j (.int (n : Int)) (.int (b : Int)) (.int (e : Int)) "fine" := by
  have d := db_ne (rows_due h30 b (by omega)) h1
  rcases hj with rfl | rfl <;> exact .inr (.inr ⟨rfl, n, b, e, rfl, rfl, rfl, h1, h2, h30, d⟩)
theorem outG {j : Nat} (hj : j < 5) {n e : Nat} (h1 : e < n) (h30 : n ≤ 10 ^ 30) : Out j (.int (n : Int)) (.int (e : Int)) (.int (n : Int)) "fine" := by
  have w : j = 0 ∨ j = 1 ∨ j = 2 ∨ j = 3 ∨ j = 4 := by omega
  rcases w with rfl | rfl | rfl | rfl | rfl
  · exact .inr (.inr ⟨rfl, n, e, rfl, rfl, h1, h30⟩)
  · exact .inr (.inr ⟨rfl, n, e, rfl, rfl, h1, h30⟩)
  · exact .inr (.inr ⟨rfl, n, _, rfl, rfl, by omega, h30⟩)
  · exact outF (.inl rfl) h1 (Nat.le_refl _) h30
  · exact outF (.inr rfl) h1 (Nat.le_refl _) h30
theorem rep_more {nm : Str} {i : Nat} : List.replicate i (V.str nm) ++ [V.str nm] = List.replicate (i + 1) (V.str nm) := List.replicate_succ'.symm
section
variable {P : Program} {w : World} {K : PySem.W.Frag} {mg : Str → Option Value} {base : Heap}
def spRight : Sp := fun vs H Q _ => ∃ (b : Addr) , vs = [.ref b] ∧ BagAt H b ∧ ∀ H', But b H H' → BagAt H' b → Q (.bl true) H'
theorem ok_law_right {f g1 g2 g3 g4 g5 : Addr} {fd d1 d2 d3 d4 d5 : FuncData} (F : Fun K "_law_right" "_law_right" sLawRight f fd)
    (GLawSize : FnOk P w K mg base CX0 2 g1 d1 ["bag"] spSize) (ALawSize : At K mg "_law_size" g1 d1 ["bag"])
    (GLawPick : FnOk P w K mg base CX0 1 g2 d2 ["bag", "many"] spPick) (ALawPick : At K mg "_law_pick" g2 d2 ["bag", "many"])
    (GLawBadIntegers : FnOk P w K mg base CX0 1 g3 d3 ["low", "high"] (spBad K)) (ALawBadIntegers : At K mg "_law_bad_integers" g3 d3 ["low", "high"])
    (GLawTold : FnOk P w K mg base CX0 9 g4 d4 ["way", "one", "two", "three"] (spLawTold K)) (ALawTold : At K mg "_law_told" g4 d4 ["way", "one", "two", "three"])
    (GLawSizesRight : FnOk P w K mg base CX0 10 g5 d5 ["entry"] spSizesRight) (ALawSizesRight : At K mg "_law_sizes_right" g5 d5 ["entry"]) (z_range : mg "range" = none) : FnOk P w K mg base CX0 11 f fd ["bag"] spRight := by
  refine F.ok scLawRight (fun vs H Q E h => ?_) (fun cdv A outer s H vs Q E hr h => ?_)
  · obtain ⟨_, rfl, _⟩ := h
    rfl
  obtain ⟨b, rfl, hb, q⟩ := h
  have one1 : 1 ≤ sizeLine := by decide
  have two_ : 2 ≤ sizeLine := by decide
  refine' ⟨_, (pss_cons (ps_set (i := 1) scLawRight.nd rfl (Or.inr rfl) (pe_call GLawSize (hr.mono (by decide)) rfl ALawSize.m ALawSize.kp ALawSize.b .nil pass0 (pa_cons (pv 0) pa_nil)))
    (pss_cons (ps_set (i := 2) scLawRight.nd rfl (Or.inr rfl) (pe_call GLawPick (hr.mono (by decide)) rfl ALawPick.m ALawPick.kp ALawPick.b .nil pass0 (pa_cons (pv 0) (pa_cons (pv 1) pa_nil))))
    (pss_cons (ps_for PassesOwn.never rfl (pi_list (pe_call GLawBadIntegers (hr.mono (by decide)) rfl ALawBadIntegers.m ALawBadIntegers.kp ALawBadIntegers.b .nil pass0 (pa_cons pe_int (pa_cons (pe_op op_pow pe_int pe_int) pa_nil)))) (pg_name (i := 3) scLawRight.nd rfl (Or.inr rfl))
    (pss_one (ps_for PassesOwn.never rfl (pi_tup (pe_tup (pa_cons (pe_tup (pa_cons pe_int (pa_cons pe_int pa_nil))) (pa_cons (pe_tup (pa_cons pe_non (pa_cons pe_non pa_nil))) pa_nil)))) (pg_tup (by rfl) (pgs_cons (pg_name (i := 4) scLawRight.nd rfl (Or.inr rfl)) (pgs_cons (pg_name (i := 5) scLawRight.nd rfl (Or.inr rfl)) pgs_nil)))
    (pss_one (ps_if (pt_cmpR (op_neD hr.units) (pe_lc (own := [("way", 7)]) rfl scLawRight.nd (pi_range1 (by rfl) z_range (pa_cons pe_int pa_nil)) (blkOk_by (N := ["bag", "size", "entry", "bad", "two", "three", "told", "way"]) (sc := defScope sLawRight) (by decide +kernel)) (fun _ _ _ _ _ => (pg_name (i := 7) scLawRight.nd rfl (Or.inl rfl))) (fun _ _ _ _ _ => pts_nil) (fun _ _ _ _ _ => (pe_call GLawTold (hr.mono (by decide)) rfl ALawTold.m ALawTold.kp ALawTold.b .nil pass0 (pa_cons (pv 7) (pa_cons (pv 3) (pa_cons (pv 4) (pa_cons (pv 5) pa_nil))))))) (pe_op op_rep (pe_lst (pa_cons pe_str pa_nil)) pe_int) (nomark _))
    (pss_one (ps_ret pe_bl))
    pss_nil)))))
    (pss_cons (ps_for PassesOwn.never rfl (pi_list (pe_call GLawBadIntegers (hr.mono (by decide)) rfl ALawBadIntegers.m ALawBadIntegers.kp ALawBadIntegers.b .nil pass0 (pa_cons pe_int (pa_cons (pe_op op_sub (pv 1) pe_int) pa_nil)))) (pg_name (i := 3) scLawRight.nd rfl (Or.inr rfl))
    (pss_cons ?cc1
    (pss_cons (ps_set (i := 6) scLawRight.nd rfl (Or.inl rfl) (pe_op op_cat (pv 6) (pe_lc (own := [("way", 7)]) rfl scLawRight.nd (pi_tup (pe_tup (pa_cons pe_int (pa_cons pe_int pa_nil)))) (blkOk_by (N := ["bag", "size", "entry", "bad", "two", "three", "told", "way"]) (sc := defScope sLawRight) (by decide +kernel)) (fun _ _ _ _ _ => (pg_name (i := 7) scLawRight.nd rfl (Or.inl rfl))) (fun _ _ _ _ _ => pts_nil) (fun _ _ _ _ _ => (pe_call GLawTold (hr.mono (by decide)) rfl ALawTold.m ALawTold.kp ALawTold.b .nil pass0 (pa_cons (pv 7) (pa_cons (pv 1) (pa_cons (pv 3) (pa_cons (pv 1) pa_nil)))))))))
    (pss_cons (ps_set (i := 6) scLawRight.nd rfl (Or.inl rfl) (pe_op op_cat (pv 6) (pe_lc (own := [("way", 7)]) rfl scLawRight.nd (pi_tup (pe_tup (pa_cons pe_int (pa_cons pe_int pa_nil)))) (blkOk_by (N := ["bag", "size", "entry", "bad", "two", "three", "told", "way"]) (sc := defScope sLawRight) (by decide +kernel)) (fun _ _ _ _ _ => (pg_name (i := 7) scLawRight.nd rfl (Or.inl rfl))) (fun _ _ _ _ _ => pts_nil) (fun _ _ _ _ _ => (pe_call GLawTold (hr.mono (by decide)) rfl ALawTold.m ALawTold.kp ALawTold.b .nil pass0 (pa_cons (pv 7) (pa_cons (pv 1) (pa_cons (pv 3) (pa_cons pe_non pa_nil)))))))))
    (pss_one (ps_if (pt_cmpR (op_neD hr.units) (pv 6) (pe_op op_cat (pe_op op_rep (pe_lst (pa_cons pe_str pa_nil)) pe_int) (pe_op op_rep (pe_lst (pa_cons pe_str pa_nil)) pe_int)) (nomark _))
    (pss_one (ps_ret pe_bl))
    pss_nil))))))
    (pss_cons (ps_for PassesOwn.never rfl (pi_list (pe_call GLawBadIntegers (hr.mono (by decide)) rfl ALawBadIntegers.m ALawBadIntegers.kp ALawBadIntegers.b .nil pass0 (pa_cons (pe_op op_add (pv 2) pe_int) (pa_cons (pv 1) pa_nil)))) (pg_name (i := 3) scLawRight.nd rfl (Or.inr rfl))
    (pss_one (ps_if (pt_cmpR (op_neD hr.units) (pe_lc (own := [("way", 7)]) rfl scLawRight.nd (pi_tup (pe_tup (pa_cons pe_int (pa_cons pe_int pa_nil)))) (blkOk_by (N := ["bag", "size", "entry", "bad", "two", "three", "told", "way"]) (sc := defScope sLawRight) (by decide +kernel)) (fun _ _ _ _ _ => (pg_name (i := 7) scLawRight.nd rfl (Or.inl rfl))) (fun _ _ _ _ _ => pts_nil) (fun _ _ _ _ _ => (pe_call GLawTold (hr.mono (by decide)) rfl ALawTold.m ALawTold.kp ALawTold.b .nil pass0 (pa_cons (pv 7) (pa_cons (pv 1) (pa_cons (pv 2) (pa_cons (pv 3) pa_nil))))))) (pe_op op_rep (pe_lst (pa_cons pe_str pa_nil)) pe_int) (nomark _))
    (pss_one (ps_ret pe_bl))
    pss_nil)))
    (pss_cons (ps_for PassesOwn.never rfl (pi_list (pe_lst (pa_cons pe_non (pa_cons pe_bl (pa_cons pe_bl (pa_cons pe_str (pa_cons pe_str (pa_cons (pe_lst (pa_cons pe_int pa_nil)) (pa_cons (pe_tup (pa_cons pe_int pa_nil)) (pa_cons pe_dnewK pa_nil)))))))))) (pg_name (i := 3) scLawRight.nd rfl (Or.inr rfl))
    (pss_one (ps_if (pt_cmpR op_ne (pe_call GLawTold (hr.mono (by decide)) rfl ALawTold.m ALawTold.kp ALawTold.b .nil pass0 (pa_cons pe_int (pa_cons (pv 1) (pa_cons (pv 3) (pa_cons pe_non pa_nil))))) pe_str (nomark _))
    (pss_one (ps_ret pe_bl))
    pss_nil)))
    (pss_cons (ps_set (i := 6) scLawRight.nd rfl (Or.inl rfl) (pe_op op_cat (pe_lc (own := [("way", 7)]) rfl scLawRight.nd (pi_range1 (by rfl) z_range (pa_cons pe_int pa_nil)) (blkOk_by (N := ["bag", "size", "entry", "bad", "two", "three", "told", "way"]) (sc := defScope sLawRight) (by decide +kernel)) (fun _ _ _ _ _ => (pg_name (i := 7) scLawRight.nd rfl (Or.inl rfl))) (fun _ _ _ _ _ => pts_nil) (fun _ _ _ _ _ => (pe_call GLawTold (hr.mono (by decide)) rfl ALawTold.m ALawTold.kp ALawTold.b .nil pass0 (pa_cons (pv 7) (pa_cons (pv 1) (pa_cons (pv 2) (pa_cons (pv 1) pa_nil))))))) (pe_lst (pa_cons (pe_call GLawTold (hr.mono (by decide)) rfl ALawTold.m ALawTold.kp ALawTold.b .nil pass0 (pa_cons pe_int (pa_cons (pv 1) (pa_cons (pv 2) (pa_cons (pe_op op_add (pv 2) pe_int) pa_nil))))) pa_nil))))
    (pss_one (ps_ret (pe_and (pe_cmpR (op_eqD hr.units) (pe_op op_cat (pv 6) (pe_lst (pa_cons (pe_call GLawTold (hr.mono (by decide)) rfl ALawTold.m ALawTold.kp ALawTold.b .nil pass0 (pa_cons pe_int (pa_cons (pv 1) (pa_cons (pe_op op_sub pe_int (pe_op op_pow pe_int pe_int)) (pa_cons pe_non pa_nil))))) pa_nil))) (pe_op op_rep (pe_lst (pa_cons pe_str pa_nil)) pe_int) (nomark _)) (pe_one (pe_call GLawSizesRight (hr.mono (by decide)) rfl ALawSizesRight.m ALawSizesRight.kp ALawSizesRight.b .nil pass0 (pa_cons (pv 2) pa_nil))))))))))))), ?_⟩
  case cc1 => exact (ps_setLc (i := 6) (own := [("way", 7)]) rfl scLawRight.nd rfl rfl (sw_true rfl rfl rfl (by decide +kernel)) (pi_tup (pe_tup (pa_cons pe_int (pa_cons pe_int pa_nil)))) (blkOk_by (N := ["bag", "size", "entry", "bad", "two", "three", "told", "way"]) (sc := defScope sLawRight) (by decide +kernel)) (fun _ _ _ _ _ => (pg_name (i := 7) scLawRight.nd rfl (Or.inl rfl))) (fun _ _ _ _ _ => pts_nil) (fun _ _ _ _ _ => (pe_call GLawTold (hr.mono (by decide)) rfl ALawTold.m ALawTold.kp ALawTold.b .nil pass0 (pa_cons (pv 7) (pa_cons (pv 1) (pa_cons (pv 3) (pa_cons pe_non pa_nil)))))))
  refine ⟨_, rfl, b, rfl, hb, fun n G1 n1 n30 B1 hb1 => ?_⟩
  refine ⟨_, rfl, _, rfl, b, (n : Int), rfl, by omega, (show _ < 2 ^ 250 by omega), hb1, fun r G2 r0 r1 k2 hb2 => ?_⟩
  obtain ⟨e, rfl⟩ := Int.eq_ofNat_of_zero_le r0
  have he : e < n := by omega
  have inN := in_size n1 n30
  have inE := in_one he
  have B2 : But b H G2 := fun a o z k => by rw [k2 a z]; exact B1 a o z k
  have fin : ∀ H', Same G2 H' → Q (.bl true) H' := fun H' s' => q H' (B2.trans (But.of s')) (hb2.same s')
  clear q hb hb1 B1 B2 k2 hb2
  -- sizes
  refine ⟨_, _, rfl, rfl, ⟨by decide, by decide, by decide⟩, 1, _, rfl, by decide, by decide, by decide, by decide, fun H1 r xs t1 _ hr1 hb => ⟨r, rfl, ⟨_, SqL.of hr1⟩, for_list (K := K) (a := r) (xs := xs) (fun i σ H' => ∃ v3 v4 v5 : Option V, σ = [some (.ref b), some (.int (n : Int)), some (.int (e : Int)), v3, v4, v5, none, none] ∧ Same H1 H')
    ⟨none, none, none, rfl, Same.refl _⟩ (fun i σ H' _ ⟨_, _, _, _, s5⟩ => SqL.of (s5 _ _ hr1)) ?_ ?_⟩⟩
  · rintro i x σ H2 hi ⟨v3, v4, v5, rfl, sm1⟩
    obtain ⟨ty, hx, hxr⟩ := hb.2 x (List.mem_of_getElem? hi)
    replace hxr : inRange 1 top30 x = false := hxr
    refine ⟨two_, fun p1 m1 => ⟨two_, fun p2 m2 => ⟨two_, fun p3 m3 => ?_⟩⟩⟩
    have u1 := same_upd (o := .tup [.int 0, .int 1]) m1
    have u2 := same_upd (o := .tup [.non, .non]) m2
    have u3 := same_upd (o := .tup [.ref p1, .ref p2]) m3
    have h1 := u3 _ _ (u2 _ _ (upd_same (H := H2) (a := p1) (o := .tup [.int 0, .int 1])))
    have h2 := u3 _ _ (upd_same (H := upd H2 p1 (.tup [.int 0, .int 1])) (a := p2) (o := .tup [.non, .non]))
    have h3 := upd_same (H := upd (upd H2 p1 (.tup [.int 0, .int 1])) p2 (.tup [.non, .non])) (a := p3) (o := .tup [.ref p1, .ref p2])
    have su := sm1.trans (u1.trans (u2.trans u3))
    generalize upd (upd (upd H2 p1 (.tup [.int 0, .int 1])) p2 (.tup [.non, .non])) p3 (.tup [.ref p1, .ref p2]) = H3 at h1 h2 h3 su
    refine ⟨p3, rfl, ⟨_, SqT.of h3⟩, for_tup (K := K) (a := p3) (xs := [.ref p1, .ref p2]) (fun i σ H' => ∃ v4 v5 : Option V, σ = [some (.ref b), some (.int (n : Int)), some (.int (e : Int)), some x, v4, v5, none, none] ∧ Same H3 H')
      ⟨_, _, rfl, Same.refl _⟩ (fun i σ H' _ ⟨_, _, _, s5⟩ => SqT.of (s5 _ _ h3)) ?_ ?_⟩
    · rintro i2 y σ H4 hi2 ⟨w4, w5, rfl, sm2⟩
      obtain ⟨pa, a2, a3, rfl, hpa, pl2, pl3⟩ : ∃ (pa : Addr) (a2 a3 : V), y = .ref pa ∧ H4 pa = some (.tup [a2, a3]) ∧ (∀ G, ∃ t, Pl K G a2 t) ∧ (∀ G, ∃ t, Pl K G a3 t) := by
        have m := List.mem_of_getElem? hi2
        simp only [List.mem_cons, List.not_mem_nil, or_false] at m
        rcases m with rfl | rfl
        · exact ⟨p1, _, _, rfl, sm2 _ _ h1, fun G => ⟨_, .int 0⟩, fun G => ⟨_, .int 1⟩⟩
        · exact ⟨p2, _, _, rfl, sm2 _ _ h2, fun G => ⟨_, .non⟩, fun G => ⟨_, .non⟩⟩
      refine ⟨pa, _, rfl, SqT.of hpa, rfl, _, _, rfl, _, _, rfl, rfl, ?_⟩
      refine ⟨5, rfl, by decide, by decide, fun D nD => lc_range (lo := 0) (n := 5) (fun i H' => Same H4 H' ∧ H' D = some (.lst (List.replicate i (V.str "InvalidSize")))) ⟨same_upd nD, upd_same⟩ ?_ ?_⟩
      · rintro j H5 hj ⟨s4, hD⟩
        have ej : (0 : Int) + (j : Int) = (j : Int) := by omega
        rw [ej]
        obtain ⟨t2, pl2⟩ := pl2 H5
        obtain ⟨t3, pl3⟩ := pl3 H5
        refine ⟨rfl, ?_⟩
        refine ⟨_, rfl, _, rfl, _, rfl, _, rfl, j, x, a2, a3, _, _, _, "InvalidSize", rfl, by omega, hx.same (su.trans (sm2.trans s4)), pl2, pl3, outS hj hxr, fun H6 s6 => ⟨_, s6 _ _ hD, szlt (by rw [List.length_replicate]; omega), ?_, ?_⟩⟩
        · exact fun a o k => by rw [upd_ne (ne_of_none k nD)]; exact s6 _ _ (s4 _ _ k)
        · rw [rep_more]
          exact upd_same
      rintro H5 ⟨s4, hD⟩
      refine ⟨one1, fun l2 nl2 => ⟨l2, 5, _, rfl, rfl, upd_same, by decide, by decide, (by show 1 * 5 ≤ sizeLine; decide), fun p np => ?_⟩⟩
      have u2 := same_upd (o := .lst [.str "InvalidSize"]) nl2
      have u3 := same_upd (o := .lst (List.replicate (Int.toNat 5) [V.str "InvalidSize"]).flatten) np
      refine ⟨.list ((["InvalidSize", "InvalidSize", "InvalidSize", "InvalidSize", "InvalidSize"] : List Str).map PyData.str), .list ((["InvalidSize", "InvalidSize", "InvalidSize", "InvalidSize", "InvalidSize"] : List Str).map PyData.str), .lst (SqL.of (u3 _ _ (u2 _ _ hD))) (strs_dp ["InvalidSize", "InvalidSize", "InvalidSize", "InvalidSize", "InvalidSize"]), .lst (SqL.of upd_same) (strs_dp ["InvalidSize", "InvalidSize", "InvalidSize", "InvalidSize", "InvalidSize"]), sh5, sh5, ?_⟩
      rw [strs_same sh5]
      exact ⟨false, rfl, _, _, rfl, (sm2.trans s4).trans (u2.trans u3)⟩
    rintro σ H4 ⟨w4, w5, rfl, sm2⟩
    exact ⟨_, _, _, rfl, su.trans sm2⟩
  rintro σ H2 ⟨v3, v4, v5, rfl, sm1⟩
  have gH := t1.trans sm1
  clear hb hr1 t1 sm1
  -- entries, spans
  refine ⟨_, rfl, _, _, rfl, rfl, 0, _, rfl, by decide, by decide, by omega, by omega, fun H3 r xs t1 _ hr1 hb => ⟨r, rfl, ⟨_, SqL.of hr1⟩, for_list (K := K) (a := r) (xs := xs) (fun i σ H' => ∃ v3 v4 v5 v6 : Option V, σ = [some (.ref b), some (.int (n : Int)), some (.int (e : Int)), v3, v4, v5, v6, none] ∧ Same H3 H')
    ⟨_, _, _, _, rfl, Same.refl _⟩ (fun i σ H' _ ⟨_, _, _, _, _, s5⟩ => SqL.of (s5 _ _ hr1)) ?_ ?_⟩⟩
  · rintro i x σ H4 hi ⟨w3, w4, w5, w6, rfl, sm1⟩
    obtain ⟨ty, hx, hxr⟩ := hb.2 x (List.mem_of_getElem? hi)
    replace hx := hx.same sm1
    replace hxr : inRange 0 ((n : Int) - 1) x = false := hxr
    refine ⟨two_, fun ta mta => ?_⟩
    have uta := same_upd (H := H4) (o := .tup [.int 0, .int 1]) mta
    have hta : (upd H4 ta (.tup [.int 0, .int 1])) ta = some (.tup [.int 0, .int 1]) := upd_same
    generalize upd H4 ta (.tup [.int 0, .int 1]) = Jta at uta hta
    refine ⟨ta, rfl, ⟨_, SqT.of hta⟩, fun da nda => lc_tup (xs := [.int 0, .int 1]) (fun i H' => Same Jta H' ∧ H' da = some (.lst (List.replicate i (V.str "InvalidEntry")))) ⟨same_upd nda, upd_same⟩ (fun i H' _ k => SqT.of (k.1 _ _ hta)) ?_ ?_⟩
    · rintro j y H5 hj ⟨s4, hD⟩
      have j2 : j < 2 := (List.getElem?_eq_some_iff.mp hj).1
      obtain ⟨wy, rfl, hwy⟩ : ∃ wy : Nat, y = .int (wy : Int) ∧ (wy = 0 ∨ wy = 1) := by
        have m := List.mem_of_getElem? hj
        simp only [List.mem_cons, List.not_mem_nil, or_false] at m
        rcases m with rfl | rfl
        · exact ⟨0, rfl, .inl rfl⟩
        · exact ⟨1, rfl, .inr rfl⟩
      refine ⟨rfl, ?_⟩
      refine ⟨_, rfl, _, rfl, _, rfl, wy, .int (n : Int), x, .non, _, _, _, "InvalidEntry", rfl, by omega, .int _, (hx.same uta).same s4, .non, outE hwy inN hxr, fun H6 s6 => ⟨_, s6 _ _ hD, szlt (by rw [List.length_replicate]; omega), ?_, ?_⟩⟩
      · exact fun a o k => by rw [upd_ne (ne_of_none k nda)]; exact s6 _ _ (s4 _ _ k)
      · rw [rep_more]
        exact upd_same
    rintro I1 ⟨sda, hda⟩
    replace hda : I1 da = some (.lst [V.str "InvalidEntry", V.str "InvalidEntry"]) := hda
    have q1 := uta.trans sda
    have hx1 := hx.same q1
    refine ⟨_, rfl, ?_⟩
    refine ⟨two_, fun tb mtb => ?_⟩
    have utb := same_upd (H := I1) (o := .tup [.int 3, .int 4]) mtb
    have htb : (upd I1 tb (.tup [.int 3, .int 4])) tb = some (.tup [.int 3, .int 4]) := upd_same
    generalize upd I1 tb (.tup [.int 3, .int 4]) = Jtb at utb htb
    refine ⟨tb, rfl, ⟨_, SqT.of htb⟩, fun db ndb => lc_tup (xs := [.int 3, .int 4]) (fun i H' => Same Jtb H' ∧ H' db = some (.lst (List.replicate i (V.str "InvalidSpan")))) ⟨same_upd ndb, upd_same⟩ (fun i H' _ k => SqT.of (k.1 _ _ htb)) ?_ ?_⟩
    · rintro j y H5 hj ⟨s4, hD⟩
      have j2 : j < 2 := (List.getElem?_eq_some_iff.mp hj).1
      obtain ⟨wy, rfl, hwy⟩ : ∃ wy : Nat, y = .int (wy : Int) ∧ (wy = 3 ∨ wy = 4) := by
        have m := List.mem_of_getElem? hj
        simp only [List.mem_cons, List.not_mem_nil, or_false] at m
        rcases m with rfl | rfl
        · exact ⟨3, rfl, .inl rfl⟩
        · exact ⟨4, rfl, .inr rfl⟩
      refine ⟨rfl, ?_⟩
      refine ⟨_, rfl, _, rfl, _, rfl, _, rfl, wy, .int (n : Int), x, .int (n : Int), _, _, _, "InvalidSpan", rfl, by omega, .int _, (hx1.same utb).same s4, .int _, outP hwy inN hxr, fun H6 s6 => ⟨_, s6 _ _ hD, szlt (by rw [List.length_replicate]; omega), ?_, ?_⟩⟩
      · exact fun a o k => by rw [upd_ne (ne_of_none k ndb)]; exact s6 _ _ (s4 _ _ k)
      · rw [rep_more]
        exact upd_same
    rintro I2 ⟨sdb, hdb⟩
    replace hdb : I2 db = some (.lst [V.str "InvalidSpan", V.str "InvalidSpan"]) := hdb
    have q2 := utb.trans sdb
    have hx2 := hx1.same q2
    refine ⟨da, db, _, _, rfl, rfl, q2 _ _ hda, hdb, (by show 2 + 2 ≤ sizeLine; decide), fun l1 nl1 => ?_⟩
    have u1 := same_upd (H := I2) (o := .lst ([V.str "InvalidEntry", V.str "InvalidEntry"] ++ [V.str "InvalidSpan", V.str "InvalidSpan"])) nl1
    have hl1 : (upd I2 l1 (.lst ([V.str "InvalidEntry", V.str "InvalidEntry"] ++ [V.str "InvalidSpan", V.str "InvalidSpan"]))) l1 = some (.lst ([V.str "InvalidEntry", V.str "InvalidEntry"] ++ [V.str "InvalidSpan", V.str "InvalidSpan"])) := upd_same
    generalize upd I2 l1 (.lst ([V.str "InvalidEntry", V.str "InvalidEntry"] ++ [V.str "InvalidSpan", V.str "InvalidSpan"])) = I3 at u1 hl1
    replace hx2 := hx2.same u1
    refine ⟨_, rfl, ?_⟩
    refine ⟨two_, fun tc mtc => ?_⟩
    have utc := same_upd (H := I3) (o := .tup [.int 3, .int 4]) mtc
    have htc : (upd I3 tc (.tup [.int 3, .int 4])) tc = some (.tup [.int 3, .int 4]) := upd_same
    generalize upd I3 tc (.tup [.int 3, .int 4]) = Jtc at utc htc
    refine ⟨tc, rfl, ⟨_, SqT.of htc⟩, fun dc ndc => lc_tup (xs := [.int 3, .int 4]) (fun i H' => Same Jtc H' ∧ H' dc = some (.lst (List.replicate i (V.str "InvalidSpan")))) ⟨same_upd ndc, upd_same⟩ (fun i H' _ k => SqT.of (k.1 _ _ htc)) ?_ ?_⟩
    · rintro j y H5 hj ⟨s4, hD⟩
      have j2 : j < 2 := (List.getElem?_eq_some_iff.mp hj).1
      obtain ⟨wy, rfl, hwy⟩ : ∃ wy : Nat, y = .int (wy : Int) ∧ (wy = 3 ∨ wy = 4) := by
        have m := List.mem_of_getElem? hj
        simp only [List.mem_cons, List.not_mem_nil, or_false] at m
        rcases m with rfl | rfl
        · exact ⟨3, rfl, .inl rfl⟩
        · exact ⟨4, rfl, .inr rfl⟩
      refine ⟨rfl, ?_⟩
      refine ⟨_, rfl, _, rfl, _, rfl, wy, .int (n : Int), x, .non, _, _, _, "InvalidSpan", rfl, by omega, .int _, (hx2.same utc).same s4, .non, outP hwy inN hxr, fun H6 s6 => ⟨_, s6 _ _ hD, szlt (by rw [List.length_replicate]; omega), ?_, ?_⟩⟩
      · exact fun a o k => by rw [upd_ne (ne_of_none k ndc)]; exact s6 _ _ (s4 _ _ k)
      · rw [rep_more]
        exact upd_same
    rintro I4 ⟨sdc, hdc⟩
    replace hdc : I4 dc = some (.lst [V.str "InvalidSpan", V.str "InvalidSpan"]) := hdc
    have q3 := utc.trans sdc
    refine ⟨l1, dc, _, _, rfl, rfl, q3 _ _ hl1, hdc, (by show 4 + 2 ≤ sizeLine; decide), fun l2 nl2 => ?_⟩
    have u2 := same_upd (H := I4) (o := .lst (([V.str "InvalidEntry", V.str "InvalidEntry"] ++ [V.str "InvalidSpan", V.str "InvalidSpan"]) ++ [V.str "InvalidSpan", V.str "InvalidSpan"])) nl2
    have hl2 : (upd I4 l2 (.lst (([V.str "InvalidEntry", V.str "InvalidEntry"] ++ [V.str "InvalidSpan", V.str "InvalidSpan"]) ++ [V.str "InvalidSpan", V.str "InvalidSpan"]))) l2 = some (.lst (([V.str "InvalidEntry", V.str "InvalidEntry"] ++ [V.str "InvalidSpan", V.str "InvalidSpan"]) ++ [V.str "InvalidSpan", V.str "InvalidSpan"])) := upd_same
    generalize upd I4 l2 (.lst (([V.str "InvalidEntry", V.str "InvalidEntry"] ++ [V.str "InvalidSpan", V.str "InvalidSpan"]) ++ [V.str "InvalidSpan", V.str "InvalidSpan"])) = I5 at u2 hl2
    refine ⟨_, rfl, one1, fun l3 nl3 => ⟨l3, 2, _, rfl, rfl, upd_same, by decide, by decide, (by show 1 * 2 ≤ sizeLine; decide), fun l4 nl4 => ⟨one1, fun l5 nl5 => ⟨l5, 4, _, rfl, rfl, upd_same, by decide, by decide, (by show 1 * 4 ≤ sizeLine; decide), fun l6 nl6 => ?_⟩⟩⟩⟩
    have u3 := same_upd (o := .lst [.str "InvalidEntry"]) nl3
    have u4 := same_upd (o := .lst (List.replicate (Int.toNat 2) [V.str "InvalidEntry"]).flatten) nl4
    have u5 := same_upd (o := .lst [.str "InvalidSpan"]) nl5
    have u6 := same_upd (o := .lst (List.replicate (Int.toNat 4) [V.str "InvalidSpan"]).flatten) nl6
    refine ⟨l4, l6, _, _, rfl, rfl, u6 _ _ (u5 _ _ upd_same), upd_same, (by show 2 + 4 ≤ sizeLine; decide), fun l7 nl7 => ?_⟩
    have u7 := same_upd (o := .lst ((List.replicate (Int.toNat 2) [V.str "InvalidEntry"]).flatten ++ (List.replicate (Int.toNat 4) [V.str "InvalidSpan"]).flatten)) nl7
    have uu := u3.trans (u4.trans (u5.trans (u6.trans u7)))
    refine ⟨.list ((["InvalidEntry", "InvalidEntry", "InvalidSpan", "InvalidSpan", "InvalidSpan", "InvalidSpan"] : List Str).map PyData.str), .list ((["InvalidEntry", "InvalidEntry", "InvalidSpan", "InvalidSpan", "InvalidSpan", "InvalidSpan"] : List Str).map PyData.str), .lst (SqL.of (uu _ _ hl2)) (strs_dp ["InvalidEntry", "InvalidEntry", "InvalidSpan", "InvalidSpan", "InvalidSpan", "InvalidSpan"]), .lst (SqL.of upd_same) (strs_dp ["InvalidEntry", "InvalidEntry", "InvalidSpan", "InvalidSpan", "InvalidSpan", "InvalidSpan"]), sh6, sh6, ?_⟩
    rw [strs_same sh6]
    exact ⟨false, rfl, _, _, _, _, rfl, sm1.trans (q1.trans (q2.trans (u1.trans (q3.trans (u2.trans uu)))))⟩
  rintro σ H4 ⟨w3, w4, w5, w6, rfl, sm1⟩
  replace gH := gH.trans (t1.trans sm1)
  clear hb hr1 t1 sm1
  -- ends
  refine ⟨_, rfl, _, _, rfl, rfl, _, rfl, _, _, rfl, by omega, by omega, by omega, by omega, fun H5 r xs t1 _ hr1 hb => ⟨r, rfl, ⟨_, SqL.of hr1⟩, for_list (K := K) (a := r) (xs := xs) (fun i σ H' => ∃ v3 : Option V, σ = [some (.ref b), some (.int (n : Int)), some (.int (e : Int)), v3, w4, w5, w6, none] ∧ Same H5 H')
    ⟨_, rfl, Same.refl _⟩ (fun i σ H' _ ⟨_, _, s5⟩ => SqL.of (s5 _ _ hr1)) ?_ ?_⟩⟩
  · rintro i x σ H6 hi ⟨z3, rfl, sm1⟩
    obtain ⟨ty, hx, hxr⟩ := hb.2 x (List.mem_of_getElem? hi)
    replace hx := hx.same sm1
    replace hxr : inRange ((e : Int) + 1) (n : Int) x = false := hxr
    refine ⟨two_, fun ta mta => ?_⟩
    have uta := same_upd (H := H6) (o := .tup [.int 3, .int 4]) mta
    have hta : (upd H6 ta (.tup [.int 3, .int 4])) ta = some (.tup [.int 3, .int 4]) := upd_same
    generalize upd H6 ta (.tup [.int 3, .int 4]) = Jta at uta hta
    refine ⟨ta, rfl, ⟨_, SqT.of hta⟩, fun da nda => lc_tup (xs := [.int 3, .int 4]) (fun i H' => Same Jta H' ∧ H' da = some (.lst (List.replicate i (V.str "InvalidSpan")))) ⟨same_upd nda, upd_same⟩ (fun i H' _ k => SqT.of (k.1 _ _ hta)) ?_ ?_⟩
    · rintro j y H5 hj ⟨s4, hD⟩
      have j2 : j < 2 := (List.getElem?_eq_some_iff.mp hj).1
      obtain ⟨wy, rfl, hwy⟩ : ∃ wy : Nat, y = .int (wy : Int) ∧ (wy = 3 ∨ wy = 4) := by
        have m := List.mem_of_getElem? hj
        simp only [List.mem_cons, List.not_mem_nil, or_false] at m
        rcases m with rfl | rfl
        · exact ⟨3, rfl, .inl rfl⟩
        · exact ⟨4, rfl, .inr rfl⟩
      refine ⟨rfl, ?_⟩
      refine ⟨_, rfl, _, rfl, _, rfl, _, rfl, wy, .int (n : Int), .int (e : Int), x, _, _, _, "InvalidSpan", rfl, by omega, .int _, .int _, (hx.same uta).same s4, outQ hwy inN inE hxr, fun H6 s6 => ⟨_, s6 _ _ hD, szlt (by rw [List.length_replicate]; omega), ?_, ?_⟩⟩
      · exact fun a o k => by rw [upd_ne (ne_of_none k nda)]; exact s6 _ _ (s4 _ _ k)
      · rw [rep_more]
        exact upd_same
    rintro I1 ⟨sda, hda⟩
    replace hda : I1 da = some (.lst [V.str "InvalidSpan", V.str "InvalidSpan"]) := hda
    refine ⟨one1, fun l2 nl2 => ⟨l2, 2, _, rfl, rfl, upd_same, by decide, by decide, (by show 1 * 2 ≤ sizeLine; decide), fun p np => ?_⟩⟩
    have u2 := same_upd (o := .lst [.str "InvalidSpan"]) nl2
    have u3 := same_upd (o := .lst (List.replicate (Int.toNat 2) [V.str "InvalidSpan"]).flatten) np
    refine ⟨.list ((["InvalidSpan", "InvalidSpan"] : List Str).map PyData.str), .list ((["InvalidSpan", "InvalidSpan"] : List Str).map PyData.str), .lst (SqL.of (u3 _ _ (u2 _ _ hda))) (strs_dp ["InvalidSpan", "InvalidSpan"]), .lst (SqL.of upd_same) (strs_dp ["InvalidSpan", "InvalidSpan"]), shP2, shP2, ?_⟩
    rw [strs_same shP2]
    exact ⟨false, rfl, _, rfl, sm1.trans (uta.trans (sda.trans (u2.trans u3)))⟩
  rintro σ H6 ⟨z3, rfl, sm1⟩
  replace gH := gH.trans (t1.trans sm1)
  clear hb hr1 t1 sm1
  -- numbers
  refine ⟨one1, fun n1_ m1 => ⟨one1, fun n2 m2 => fun n3 m3 => ⟨(by show 8 ≤ sizeLine; decide), fun nb mb => ?_⟩⟩⟩
  have s1 := same_upd (o := .lst [.int 1]) m1
  have s2 := same_upd (o := .tup [.int 1]) m2
  have s3 := same_upd (o := .dK []) m3
  have s4 := same_upd (o := .lst [V.non, V.bl true, V.bl false, V.str (Str.ofString ""), V.str (Str.ofString "1"), V.ref n1_, V.ref n2, V.ref n3]) mb
  have hN := noi8 (K := K) (s4 _ _ (s3 _ _ (s2 _ _ upd_same))) (s4 _ _ (s3 _ _ upd_same)) (s4 _ _ upd_same)
  have hnb : (upd (upd (upd (upd H6 n1_ (.lst [.int 1])) n2 (.tup [.int 1])) n3 (.dK [])) nb (.lst [V.non, V.bl true, V.bl false, V.str (Str.ofString ""), V.str (Str.ofString "1"), V.ref n1_, V.ref n2, V.ref n3])) nb = some (.lst [V.non, V.bl true, V.bl false, V.str (Str.ofString ""), V.str (Str.ofString "1"), V.ref n1_, V.ref n2, V.ref n3]) := upd_same
  have sH := gH.trans (s1.trans (s2.trans (s3.trans s4)))
  generalize upd (upd (upd (upd H6 n1_ (.lst [.int 1])) n2 (.tup [.int 1])) n3 (.dK [])) nb (.lst [V.non, V.bl true, V.bl false, V.str (Str.ofString ""), V.str (Str.ofString "1"), V.ref n1_, V.ref n2, V.ref n3]) = H7 at hN sH hnb
  clear s1 s2 s3 s4 m1 m2 m3 mb
  generalize [V.non, V.bl true, V.bl false, V.str (Str.ofString ""), V.str (Str.ofString "1"), V.ref n1_, V.ref n2, V.ref n3] = ns at hN hnb
  refine ⟨nb, rfl, ⟨_, SqL.of hnb⟩, for_list (K := K) (a := nb) (xs := ns) (fun i σ H' => ∃ v3 : Option V, σ = [some (.ref b), some (.int (n : Int)), some (.int (e : Int)), v3, w4, w5, w6, none] ∧ Same H7 H')
    ⟨_, rfl, Same.refl _⟩ (fun i σ H' _ ⟨_, _, s5⟩ => SqL.of (s5 _ _ hnb)) ?_ ?_⟩
  · rintro i x σ H8 hi ⟨v2, rfl, sm1⟩
    obtain ⟨ty, hx, hxr⟩ := hN x (List.mem_of_getElem? hi)
    refine ⟨_, rfl, _, rfl, 2, .int (n : Int), x, .non, _, _, _, "InvalidNumber", rfl, by decide, .int _, hx.same sm1, .non, .inr (.inl ⟨rfl, inN, hxr⟩), fun H9 sm2 => ?_⟩
    refine ⟨rfl, ?_⟩
    rw [show decide (V.str "InvalidNumber" = V.str "InvalidNumber") = true from decide_eq_true rfl]
    exact ⟨false, rfl, _, rfl, sm1.trans sm2⟩
  rintro σ H8 ⟨z4, rfl, sm1⟩
  replace gH := sH.trans sm1
  clear sm1 sH hN hnb
  -- what is fine
  refine ⟨5, rfl, by decide, by decide, fun D nD => lc_range (lo := 0) (n := 5) (fun i H' => Same H8 H' ∧ H' D = some (.lst (List.replicate i (V.str "fine")))) ⟨same_upd nD, upd_same⟩ ?_ ?_⟩
  · rintro j H9 hj ⟨s4, hD⟩
    have ej : (0 : Int) + (j : Int) = (j : Int) := by omega
    rw [ej]
    refine ⟨rfl, ?_⟩
    refine ⟨_, rfl, _, rfl, _, rfl, _, rfl, j, .int (n : Int), .int (e : Int), .int (n : Int), _, _, _, "fine", rfl, by omega, .int _, .int _, .int _, outG hj he n30, fun H10 s6 => ⟨_, s6 _ _ hD, szlt (by rw [List.length_replicate]; omega), ?_, ?_⟩⟩
    · exact fun a o k => by rw [upd_ne (ne_of_none k nD)]; exact s6 _ _ (s4 _ _ k)
    · rw [rep_more]
      exact upd_same
  rintro H9 ⟨s9, hD⟩
  have e1 : (e : Int) + 1 = ((e + 1 : Nat) : Int) := by omega
  refine ⟨_, rfl, _, rfl, _, rfl, _, _, rfl, rfl, 3, .int (n : Int), .int (e : Int), .int ((e : Int) + 1), _, _, _, "fine", rfl, by decide, .int _, .int _, .int _, (by rw [e1]; exact outF (.inl rfl) (by omega) (by omega) n30), fun H10 s10 => ⟨one1, fun l1 nl1 => ?_⟩⟩
  have u1 := same_upd (o := .lst [V.str "fine"]) nl1
  refine ⟨D, l1, _, _, rfl, rfl, u1 _ _ (s10 _ _ hD), upd_same, (by rw [List.length_replicate]; show 5 + 1 ≤ sizeLine; decide), fun l2 nl2 => ?_⟩
  have u2 := same_upd (o := .lst (List.replicate 5 (V.str "fine") ++ [V.str "fine"])) nl2
  have hl2 : (upd (upd H10 l1 (.lst [V.str "fine"])) l2 (.lst (List.replicate 5 (V.str "fine") ++ [V.str "fine"]))) l2 = some (.lst (List.replicate 5 (V.str "fine") ++ [V.str "fine"])) := upd_same
  have gI := gH.trans (s9.trans (s10.trans (u1.trans u2)))
  generalize upd (upd H10 l1 (.lst [V.str "fine"])) l2 (.lst (List.replicate 5 (V.str "fine") ++ [V.str "fine"])) = H11 at hl2 gI
  clear u1 u2 nl1 nl2 s9 s10 hD nD
  refine ⟨_, rfl, _, rfl, _, _, rfl, rfl, ⟨by decide, by decide, by decide⟩, _, _, rfl, rfl, 2, .int (n : Int), _, .non, _, _, _, "fine", rfl, by decide, .int _, .int _, .non, .inr (.inr ⟨rfl, n, _, rfl, rfl, n1, n30⟩), fun H12 s12 => ⟨one1, fun l3 nl3 => ?_⟩⟩
  have u3 := same_upd (o := .lst [V.str "fine"]) nl3
  refine ⟨l2, l3, _, _, rfl, rfl, u3 _ _ (s12 _ _ hl2), upd_same, (by show 6 + 1 ≤ sizeLine; decide), fun l4 nl4 => ⟨one1, fun l5 nl5 => ⟨l5, 7, _, rfl, rfl, upd_same, by decide, by decide, (by show 1 * 7 ≤ sizeLine; decide), fun l6 nl6 => ?_⟩⟩⟩
  have u4 := same_upd (o := .lst ((List.replicate 5 (V.str "fine") ++ [V.str "fine"]) ++ [V.str "fine"])) nl4
  have u5 := same_upd (o := .lst [V.str "fine"]) nl5
  have u6 := same_upd (o := .lst (List.replicate (Int.toNat 7) [V.str "fine"]).flatten) nl6
  refine ⟨.list ((["fine", "fine", "fine", "fine", "fine", "fine", "fine"] : List Str).map PyData.str), .list ((["fine", "fine", "fine", "fine", "fine", "fine", "fine"] : List Str).map PyData.str), .lst (SqL.of (u6 _ _ (u5 _ _ upd_same))) (strs_dp ["fine", "fine", "fine", "fine", "fine", "fine", "fine"]), .lst (SqL.of upd_same) (strs_dp ["fine", "fine", "fine", "fine", "fine", "fine", "fine"]), sh7, sh7, ?_⟩
  rw [strs_same sh7]
  refine ⟨true, rfl, ?_⟩
  exact ⟨_, rfl, e, rfl, by omega, fun H13 s13 => fin _ (gI.trans (s12.trans (u3.trans (u4.trans (u5.trans (u6.trans s13))))))⟩
end
end LT

namespace LT
open PySem PySem.Spec PyProof.Rows L2
theorem script_at {ns : List Int} {lo hi : Option Int} {i : Nat} {x : V} (h : (cutV (ns.map V.int) lo hi ++ [.int 0])[i]? = some x) : ∃ c : Int, x = .int c := by
  have m := List.mem_of_getElem? h
  rcases List.mem_append.mp m with m | m
  · unfold cutV at m
    have m2 := List.mem_of_mem_drop (List.mem_of_mem_take m)
    obtain ⟨c, _, e⟩ := List.mem_map.mp m2
    exact ⟨c, e.symm⟩
  · exact ⟨0, List.mem_singleton.mp m⟩
theorem sqSame {K : PySem.W.Frag} {H H' : Hp} {a : Addr} {xs : List V} (h : SqL K H a xs) (e : Same H H') : SqL K H' a xs :=
  h.elim (fun h => .inl (h.elim (fun h => .inl (e _ _ h)) fun ⟨o, h⟩ => .inr ⟨o, e _ _ h⟩)) fun h => .inr h
def spLaw (K : PySem.W.Frag) : Sp := fun vs H Q _ => ∃ (a : Addr) (ns : List Int), vs = [.ref a] ∧ SqL K H a (ns.map V.int) ∧ ns.length ≤ 63 ∧ ∀ H', Q (.bl true) H'
end LT

namespace LT
open PySem PySem.Spec PyProof.Rows L2
section
variable {P : Program} {w : World} {K : PySem.W.Frag} {mg : Str → Option Value} {base : Heap}
theorem ok_law {f g1 g2 : Addr} {fd d1 d2 : FuncData} (F : Fun K "law" "law" sLaw f fd)
    (GLawBag : FnOk P w K mg base CX0 1 g1 d1 ["cell"] spBag) (ALawBag : At K mg "_law_bag" g1 d1 ["cell"])
    (GLawRight : FnOk P w K mg base CX0 11 g2 d2 ["bag"] spRight) (ALawRight : At K mg "_law_right" g2 d2 ["bag"]) : FnOk P w K mg base CX0 12 f fd ["script"] (spLaw K) := by
  refine F.ok scLaw (fun vs H Q E h => ?_) (fun cdv A outer s H vs Q E hr h => ?_)
  · obtain ⟨_, _, rfl, _⟩ := h
    rfl
  obtain ⟨a, ns, rfl, hS, h63, q⟩ := h
  refine' ⟨_, (pss_cons (ps_for PassesOwn.never rfl (pi_list (pe_op op_cat (pe_slice sl_list (pv 0) po_none (po_some pe_int)) (pe_lst (pa_cons pe_int pa_nil)))) (pg_name (i := 1) scLaw.nd rfl (Or.inl rfl))
    (pss_cons (ps_set (i := 2) scLaw.nd rfl (Or.inl rfl) (pe_call GLawBag (hr.mono (by decide)) rfl ALawBag.m ALawBag.kp ALawBag.b .nil pass0 (pa_cons (pv 1) pa_nil)))
    (pss_one (ps_if (pt_not (pt_val (pe_call GLawRight (hr.mono (by decide)) rfl ALawRight.m ALawRight.kp ALawRight.b .nil pass0 (pa_cons (pv 2) pa_nil))))
    (pss_one (ps_ret pe_bl))
    pss_nil))))
    (pss_one (ps_ret pe_bl))), ?_⟩
  refine ⟨_, rfl, 6, rfl, a, _, rfl, hS, fun c nc => ⟨(by show 1 ≤ sizeLine; decide), fun z nz => ?_⟩⟩
  have s1 := same_upd (o := .lst (cutV (ns.map V.int) none (some 6))) nc
  have s2 := same_upd (o := .lst [.int 0]) nz
  have hcl := cutV_length (ns.map V.int) none (some 6)
  rw [List.length_map] at hcl
  refine ⟨c, z, _, _, rfl, rfl, s2 _ _ upd_same, upd_same, szle (by rw [List.length_singleton]; omega), fun r nr => ?_⟩
  have s3 := same_upd (o := .lst (cutV (ns.map V.int) none (some 6) ++ [.int 0])) nr
  have hr0 : (upd (upd (upd H c (.lst (cutV (ns.map V.int) none (some 6)))) z (.lst [.int 0])) r (.lst (cutV (ns.map V.int) none (some 6) ++ [.int 0]))) r = some (.lst (cutV (ns.map V.int) none (some 6) ++ [.int 0])) := upd_same
  generalize upd (upd (upd H c (.lst (cutV (ns.map V.int) none (some 6)))) z (.lst [.int 0])) r (.lst (cutV (ns.map V.int) none (some 6) ++ [.int 0])) = H0 at hr0
  refine ⟨r, rfl, ⟨_, SqL.of hr0⟩, for_list (K := K) (a := r) (xs := cutV (ns.map V.int) none (some 6) ++ [.int 0]) (fun i σ H' => ∃ v1 v2 : Option V, σ = [some (.ref a), v1, v2] ∧ Same H0 H')
    ⟨none, none, rfl, Same.refl _⟩ (fun i σ H' _ ⟨_, _, _, s5⟩ => SqL.of (s5 _ _ hr0)) ?_ ?_⟩
  · rintro i x σ H1 hi ⟨v1, v2, rfl, sm1⟩
    obtain ⟨cell, rfl⟩ := script_at hi
    refine ⟨_, rfl, cell, rfl, fun H2 b sm2 nb hb => ?_⟩
    have nb0 : H0 b = none := sm1.free nb
    refine ⟨_, rfl, b, rfl, hb, fun H3 B3 hb3 => ⟨true, rfl, ?_⟩⟩
    exact ⟨_, _, rfl, fun u o k => B3 u o (ne_of_none k nb0) (sm2 _ _ (sm1 _ _ k))⟩
  · rintro σ H1 ⟨v1, v2, rfl, sm1⟩
    exact q _
end
end LT

namespace LT
open PySem PySem.Spec PyProof.Rows L2
/-- isinstance of an own class, from what the top says of it -/
theorem kit_of {K : PySem.W.Frag} {C D : Addr} {b : Bool} (i : PySem.W.isClsIn K D = true) (t : PySem.W.typeIn K (.ref D) = some (.type "type")) (s : PySem.W.subIn K (.ref C) (.ref D) = some b) (z : PySem.W.subIn K (.ref C) (.ref C) = some true) : PySem.W.kitOne K (.ref C) (.ref D) = some b := by
  unfold PySem.W.kitOne
  split
  · rename_i h
    have e : C = D := Value.ref.inj (beq_iff_eq.mp h)
    subst e
    rw [z] at s
    exact s
  · show (if ((PySem.W.clsIn K D).isSome && PySem.W.typeIn K (.ref D) == some (.type "type")) = true then PySem.W.subIn K (.ref C) (.ref D) else none) = some b
    have i' : (PySem.W.clsIn K D).isSome = true := i
    have e : ((PySem.W.clsIn K D).isSome && PySem.W.typeIn K (.ref D) == some (.type "type")) = true := by rw [i', t] <;> rfl
    rw [if_pos e]
    exact s
theorem kit_ty {K : PySem.W.Frag} {C : Addr} {T : String} {b : Bool} (m : PySem.W.kitMeta T = true) (s : PySem.W.subIn K (.ref C) (.type T) = some b) : PySem.W.kitOne K (.ref C) (.type T) = some b := by
  unfold PySem.W.kitOne
  rw [if_neg (by intro h; exact absurd (beq_iff_eq.mp h) (fun z => nomatch z))]
  show (if PySem.W.kitMeta T = true then PySem.W.subIn K (.ref C) (.type T) else none) = some b
  rw [if_pos m]
  exact s
theorem all_mk {l : PySem.W.OpenLaw} {w : World} {K : PySem.W.Frag} {h : Heap} {mg : Str → Option Value} {fa f0 f1 f2 f3 f4 f5 f6 f7 f8 f9 f10 f11 f12 f13 f14 f15 f16 f17 f18 f19 f20 f21 f22 f23 f24 f25 f26 f27 f28 : Addr} (X : K.In h) (G : h.Ns mainGlobals mg) (hfa : mg "law" = some (.ref fa))
    {od0 an0 od1 an1 od2 an2 od3 an3 od4 an4 od5 an5 od6 an6 od7 an7 od8 an8 od9 an9 od10 an10 od11 an11 od12 an12 od13 an13 od14 an14 od15 an15 od16 an16 od17 an17 od18 an18 od19 an19 od20 an20 od21 an21 od22 an22 od23 an23 od24 an24 od25 an25 od26 an26 od27 an27 od28 an28 : Option Addr} {sl0 sl1 sl2 sl3 sl4 sl5 sl6 sl7 sl8 sl9 sl10 sl11 sl12 sl13 sl14 sl15 sl16 sl17 sl18 sl19 sl20 sl21 sl22 sl23 sl24 sl25 sl26 sl27 sl28 : Array (Option Value)} {oc0 kV0 dc0 pm0 cd0 ct0 oc1 kV1 dc1 pm1 cd1 ct1 oc2 kV2 dc2 pm2 cd2 ct2 oc3 kV3 dc3 pm3 cd3 ct3 oc4 kV4 dc4 pm4 cd4 ct4 oc5 kV5 dc5 pm5 cd5 ct5 oc6 kV6 dc6 pm6 cd6 ct6 oc7 kV7 dc7 pm7 cd7 ct7 oc8 kV8 dc8 pm8 cd8 ct8 oc9 kV9 dc9 pm9 cd9 ct9 oc10 kV10 dc10 pm10 cd10 ct10 oc11 kV11 dc11 pm11 cd11 ct11 oc12 kV12 dc12 pm12 cd12 ct12 oc13 kV13 dc13 pm13 cd13 ct13 oc14 kV14 dc14 pm14 cd14 ct14 oc15 kV15 dc15 pm15 cd15 ct15 oc16 kV16 dc16 pm16 cd16 ct16 oc17 kV17 dc17 pm17 cd17 ct17 oc18 kV18 dc18 pm18 cd18 ct18 oc19 kV19 dc19 pm19 cd19 ct19 oc20 kV20 dc20 pm20 cd20 ct20 oc21 kV21 dc21 pm21 cd21 ct21 oc22 kV22 dc22 pm22 cd22 ct22 oc23 kV23 dc23 pm23 cd23 ct23 oc24 kV24 dc24 pm24 cd24 ct24 oc25 kV25 dc25 pm25 cd25 ct25 oc26 kV26 dc26 pm26 cd26 ct26 oc27 kV27 dc27 pm27 cd27 ct27 oc28 kV28 dc28 pm28 cd28 ct28 : Value}
    (a0 : PySem.W.nsIn K mainGlobals "is_whole" = some (some (.ref f0))) (l0 : K.lookup f0 = some ⟨oc0, od0, .func (PySem.W.fnOf "is_whole" "is_whole" (defArgs sIsWhole) (defBody sIsWhole) (defScope sIsWhole) .none kV0 dc0 pm0 an0 cd0 ct0), sl0⟩) (c0 : PySem.W.codeIn K cd0 "is_whole" = true) (k0 : PySem.W.keepIn K (.ref f0) = true)
    (a1 : PySem.W.nsIn K mainGlobals "is_between" = some (some (.ref f1))) (l1 : K.lookup f1 = some ⟨oc1, od1, .func (PySem.W.fnOf "is_between" "is_between" (defArgs sIsBetween) (defBody sIsBetween) (defScope sIsBetween) .none kV1 dc1 pm1 an1 cd1 ct1), sl1⟩) (c1 : PySem.W.codeIn K cd1 "is_between" = true) (k1 : PySem.W.keepIn K (.ref f1) = true)
    (a2 : PySem.W.nsIn K mainGlobals "is_tree_node" = some (some (.ref f2))) (l2 : K.lookup f2 = some ⟨oc2, od2, .func (PySem.W.fnOf "is_tree_node" "is_tree_node" (defArgs sIsTreeNode) (defBody sIsTreeNode) (defScope sIsTreeNode) .none kV2 dc2 pm2 an2 cd2 ct2), sl2⟩) (c2 : PySem.W.codeIn K cd2 "is_tree_node" = true) (k2 : PySem.W.keepIn K (.ref f2) = true)
    (a3 : PySem.W.nsIn K mainGlobals "check_size" = some (some (.ref f3))) (l3 : K.lookup f3 = some ⟨oc3, od3, .func (PySem.W.fnOf "check_size" "check_size" (defArgs sCheckSize) (defBody sCheckSize) (defScope sCheckSize) .none kV3 dc3 pm3 an3 cd3 ct3), sl3⟩) (c3 : PySem.W.codeIn K cd3 "check_size" = true) (k3 : PySem.W.keepIn K (.ref f3) = true)
    (a4 : PySem.W.nsIn K mainGlobals "check_entry" = some (some (.ref f4))) (l4 : K.lookup f4 = some ⟨oc4, od4, .func (PySem.W.fnOf "check_entry" "check_entry" (defArgs sCheckEntry) (defBody sCheckEntry) (defScope sCheckEntry) .none kV4 dc4 pm4 an4 cd4 ct4), sl4⟩) (c4 : PySem.W.codeIn K cd4 "check_entry" = true) (k4 : PySem.W.keepIn K (.ref f4) = true)
    (a5 : PySem.W.nsIn K mainGlobals "check_node" = some (some (.ref f5))) (l5 : K.lookup f5 = some ⟨oc5, od5, .func (PySem.W.fnOf "check_node" "check_node" (defArgs sCheckNode) (defBody sCheckNode) (defScope sCheckNode) .none kV5 dc5 pm5 an5 cd5 ct5), sl5⟩) (c5 : PySem.W.codeIn K cd5 "check_node" = true) (k5 : PySem.W.keepIn K (.ref f5) = true)
    (a6 : PySem.W.nsIn K mainGlobals "check_span" = some (some (.ref f6))) (l6 : K.lookup f6 = some ⟨oc6, od6, .func (PySem.W.fnOf "check_span" "check_span" (defArgs sCheckSpan) (defBody sCheckSpan) (defScope sCheckSpan) .none kV6 dc6 pm6 an6 cd6 ct6), sl6⟩) (c6 : PySem.W.codeIn K cd6 "check_span" = true) (k6 : PySem.W.keepIn K (.ref f6) = true)
    (a7 : PySem.W.nsIn K mainGlobals "check_number" = some (some (.ref f7))) (l7 : K.lookup f7 = some ⟨oc7, od7, .func (PySem.W.fnOf "check_number" "check_number" (defArgs sCheckNumber) (defBody sCheckNumber) (defScope sCheckNumber) .none kV7 dc7 pm7 an7 cd7 ct7), sl7⟩) (c7 : PySem.W.codeIn K cd7 "check_number" = true) (k7 : PySem.W.keepIn K (.ref f7) = true)
    (a8 : PySem.W.nsIn K mainGlobals "power_within" = some (some (.ref f8))) (l8 : K.lookup f8 = some ⟨oc8, od8, .func (PySem.W.fnOf "power_within" "power_within" (defArgs sPowerWithin) (defBody sPowerWithin) (defScope sPowerWithin) .none kV8 dc8 pm8 an8 cd8 ct8), sl8⟩) (c8 : PySem.W.codeIn K cd8 "power_within" = true) (k8 : PySem.W.keepIn K (.ref f8) = true)
    (a9 : PySem.W.nsIn K mainGlobals "peaks" = some (some (.ref f9))) (l9 : K.lookup f9 = some ⟨oc9, od9, .func (PySem.W.fnOf "peaks" "peaks" (defArgs sPeaks) (defBody sPeaks) (defScope sPeaks) .none kV9 dc9 pm9 an9 cd9 ct9), sl9⟩) (c9 : PySem.W.codeIn K cd9 "peaks" = true) (k9 : PySem.W.keepIn K (.ref f9) = true)
    (a10 : PySem.W.nsIn K mainGlobals "halves" = some (some (.ref f10))) (l10 : K.lookup f10 = some ⟨oc10, od10, .func (PySem.W.fnOf "halves" "halves" (defArgs sHalves) (defBody sHalves) (defScope sHalves) .none kV10 dc10 pm10 an10 cd10 ct10), sl10⟩) (c10 : PySem.W.codeIn K cd10 "halves" = true) (k10 : PySem.W.keepIn K (.ref f10) = true)
    (a11 : PySem.W.nsIn K mainGlobals "depth" = some (some (.ref f11))) (l11 : K.lookup f11 = some ⟨oc11, od11, .func (PySem.W.fnOf "depth" "depth" (defArgs sDepth) (defBody sDepth) (defScope sDepth) .none kV11 dc11 pm11 an11 cd11 ct11), sl11⟩) (c11 : PySem.W.codeIn K cd11 "depth" = true) (k11 : PySem.W.keepIn K (.ref f11) = true)
    (a12 : PySem.W.nsIn K mainGlobals "path" = some (some (.ref f12))) (l12 : K.lookup f12 = some ⟨oc12, od12, .func (PySem.W.fnOf "path" "path" (defArgs sPath) (defBody sPath) (defScope sPath) .none kV12 dc12 pm12 an12 cd12 ct12), sl12⟩) (c12 : PySem.W.codeIn K cd12 "path" = true) (k12 : PySem.W.keepIn K (.ref f12) = true)
    (a13 : PySem.W.nsIn K mainGlobals "_peak_depths" = some (some (.ref f13))) (l13 : K.lookup f13 = some ⟨oc13, od13, .func (PySem.W.fnOf "_peak_depths" "_peak_depths" (defArgs sPeakDepths) (defBody sPeakDepths) (defScope sPeakDepths) .none kV13 dc13 pm13 an13 cd13 ct13), sl13⟩) (c13 : PySem.W.codeIn K cd13 "_peak_depths" = true) (k13 : PySem.W.keepIn K (.ref f13) = true)
    (a14 : PySem.W.nsIn K mainGlobals "_depths_between" = some (some (.ref f14))) (l14 : K.lookup f14 = some ⟨oc14, od14, .func (PySem.W.fnOf "_depths_between" "_depths_between" (defArgs sDepthsBetween) (defBody sDepthsBetween) (defScope sDepthsBetween) .none kV14 dc14 pm14 an14 cd14 ct14), sl14⟩) (c14 : PySem.W.codeIn K cd14 "_depths_between" = true) (k14 : PySem.W.keepIn K (.ref f14) = true)
    (a15 : PySem.W.nsIn K mainGlobals "depth_sum" = some (some (.ref f15))) (l15 : K.lookup f15 = some ⟨oc15, od15, .func (PySem.W.fnOf "depth_sum" "depth_sum" (defArgs sDepthSum) (defBody sDepthSum) (defScope sDepthSum) .none kV15 dc15 pm15 an15 cd15 ct15), sl15⟩) (c15 : PySem.W.codeIn K cd15 "depth_sum" = true) (k15 : PySem.W.keepIn K (.ref f15) = true)
    (a16 : PySem.W.nsIn K mainGlobals "depth_range" = some (some (.ref f16))) (l16 : K.lookup f16 = some ⟨oc16, od16, .func (PySem.W.fnOf "depth_range" "depth_range" (defArgs sDepthRange) (defBody sDepthRange) (defScope sDepthRange) .none kV16 dc16 pm16 an16 cd16 ct16), sl16⟩) (c16 : PySem.W.codeIn K cd16 "depth_range" = true) (k16 : PySem.W.keepIn K (.ref f16) = true)
    (a17 : PySem.W.nsIn K mainGlobals "first_of_depth" = some (some (.ref f17))) (l17 : K.lookup f17 = some ⟨oc17, od17, .func (PySem.W.fnOf "first_of_depth" "first_of_depth" (defArgs sFirstOfDepth) (defBody sFirstOfDepth) (defScope sFirstOfDepth) .none kV17 dc17 pm17 an17 cd17 ct17), sl17⟩) (c17 : PySem.W.codeIn K cd17 "first_of_depth" = true) (k17 : PySem.W.keepIn K (.ref f17) = true)
    (a18 : PySem.W.nsIn K mainGlobals "_next_end" = some (some (.ref f18))) (l18 : K.lookup f18 = some ⟨oc18, od18, .func (PySem.W.fnOf "_next_end" "_next_end" (defArgs sNextEnd) (defBody sNextEnd) (defScope sNextEnd) .none kV18 dc18 pm18 an18 cd18 ct18), sl18⟩) (c18 : PySem.W.codeIn K cd18 "_next_end" = true) (k18 : PySem.W.keepIn K (.ref f18) = true)
    (a19 : PySem.W.nsIn K mainGlobals "sizes_with" = some (some (.ref f19))) (l19 : K.lookup f19 = some ⟨oc19, od19, .func (PySem.W.fnOf "sizes_with" "sizes_with" (defArgs sSizesWith) (defBody sSizesWith) (defScope sSizesWith) .none kV19 dc19 pm19 an19 cd19 ct19), sl19⟩) (c19 : PySem.W.codeIn K cd19 "sizes_with" = true) (k19 : PySem.W.keepIn K (.ref f19) = true)
    (a20 : PySem.W.nsIn K mainGlobals "_law_bag" = some (some (.ref f20))) (l20 : K.lookup f20 = some ⟨oc20, od20, .func (PySem.W.fnOf "_law_bag" "_law_bag" (defArgs sLawBag) (defBody sLawBag) (defScope sLawBag) .none kV20 dc20 pm20 an20 cd20 ct20), sl20⟩) (c20 : PySem.W.codeIn K cd20 "_law_bag" = true) (k20 : PySem.W.keepIn K (.ref f20) = true)
    (a21 : PySem.W.nsIn K mainGlobals "_law_pick" = some (some (.ref f21))) (l21 : K.lookup f21 = some ⟨oc21, od21, .func (PySem.W.fnOf "_law_pick" "_law_pick" (defArgs sLawPick) (defBody sLawPick) (defScope sLawPick) .none kV21 dc21 pm21 an21 cd21 ct21), sl21⟩) (c21 : PySem.W.codeIn K cd21 "_law_pick" = true) (k21 : PySem.W.keepIn K (.ref f21) = true)
    (a22 : PySem.W.nsIn K mainGlobals "_law_size" = some (some (.ref f22))) (l22 : K.lookup f22 = some ⟨oc22, od22, .func (PySem.W.fnOf "_law_size" "_law_size" (defArgs sLawSize) (defBody sLawSize) (defScope sLawSize) .none kV22 dc22 pm22 an22 cd22 ct22), sl22⟩) (c22 : PySem.W.codeIn K cd22 "_law_size" = true) (k22 : PySem.W.keepIn K (.ref f22) = true)
    (a23 : PySem.W.nsIn K mainGlobals "_law_class" = some (some (.ref f23))) (l23 : K.lookup f23 = some ⟨oc23, od23, .func (PySem.W.fnOf "_law_class" "_law_class" (defArgs sLawClass) (defBody sLawClass) (defScope sLawClass) .none kV23 dc23 pm23 an23 cd23 ct23), sl23⟩) (c23 : PySem.W.codeIn K cd23 "_law_class" = true) (k23 : PySem.W.keepIn K (.ref f23) = true)
    (a24 : PySem.W.nsIn K mainGlobals "_law_bad_integers" = some (some (.ref f24))) (l24 : K.lookup f24 = some ⟨oc24, od24, .func (PySem.W.fnOf "_law_bad_integers" "_law_bad_integers" (defArgs sLawBadIntegers) (defBody sLawBadIntegers) (defScope sLawBadIntegers) .none kV24 dc24 pm24 an24 cd24 ct24), sl24⟩) (c24 : PySem.W.codeIn K cd24 "_law_bad_integers" = true) (k24 : PySem.W.keepIn K (.ref f24) = true)
    (a25 : PySem.W.nsIn K mainGlobals "_law_told" = some (some (.ref f25))) (l25 : K.lookup f25 = some ⟨oc25, od25, .func (PySem.W.fnOf "_law_told" "_law_told" (defArgs sLawTold) (defBody sLawTold) (defScope sLawTold) .none kV25 dc25 pm25 an25 cd25 ct25), sl25⟩) (c25 : PySem.W.codeIn K cd25 "_law_told" = true) (k25 : PySem.W.keepIn K (.ref f25) = true)
    (a26 : PySem.W.nsIn K mainGlobals "_law_sizes_right" = some (some (.ref f26))) (l26 : K.lookup f26 = some ⟨oc26, od26, .func (PySem.W.fnOf "_law_sizes_right" "_law_sizes_right" (defArgs sLawSizesRight) (defBody sLawSizesRight) (defScope sLawSizesRight) .none kV26 dc26 pm26 an26 cd26 ct26), sl26⟩) (c26 : PySem.W.codeIn K cd26 "_law_sizes_right" = true) (k26 : PySem.W.keepIn K (.ref f26) = true)
    (a27 : PySem.W.nsIn K mainGlobals "_law_right" = some (some (.ref f27))) (l27 : K.lookup f27 = some ⟨oc27, od27, .func (PySem.W.fnOf "_law_right" "_law_right" (defArgs sLawRight) (defBody sLawRight) (defScope sLawRight) .none kV27 dc27 pm27 an27 cd27 ct27), sl27⟩) (c27 : PySem.W.codeIn K cd27 "_law_right" = true) (k27 : PySem.W.keepIn K (.ref f27) = true)
    (a28 : PySem.W.nsIn K mainGlobals "law" = some (some (.ref f28))) (l28 : K.lookup f28 = some ⟨oc28, od28, .func (PySem.W.fnOf "law" "law" (defArgs sLaw) (defBody sLaw) (defScope sLaw) .none kV28 dc28 pm28 an28 cd28 ct28), sl28⟩) (c28 : PySem.W.codeIn K cd28 "law" = true) (k28 : PySem.W.keepIn K (.ref f28) = true)
    (z_ValueError : PySem.W.nsIn K mainGlobals "ValueError" = some none)
    (z_bool : PySem.W.nsIn K mainGlobals "bool" = some none)
    (z_enumerate : PySem.W.nsIn K mainGlobals "enumerate" = some none)
    (z_int : PySem.W.nsIn K mainGlobals "int" = some none)
    (z_isinstance : PySem.W.nsIn K mainGlobals "isinstance" = some none)
    (z_len : PySem.W.nsIn K mainGlobals "len" = some none)
    (z_max : PySem.W.nsIn K mainGlobals "max" = some none)
    (z_min : PySem.W.nsIn K mainGlobals "min" = some none)
    (z_range : PySem.W.nsIn K mainGlobals "range" = some none)
    (z_repr : PySem.W.nsIn K mainGlobals "repr" = some none)
    (z_sum : PySem.W.nsIn K mainGlobals "sum" = some none)
    (z_tuple : PySem.W.nsIn K mainGlobals "tuple" = some none)
    {t_MOST_ENTRIES : Tok} (g_MOST_ENTRIES : PySem.W.nsIn K mainGlobals "MOST_ENTRIES" = some (some (.int 1000000000000000000000000000000 t_MOST_ENTRIES)))
    {CInvalidSpans CInvalidNodes CInvalidBounds CInvalidText COverBudget CInvalidSize CInvalidEntry CInvalidNode CInvalidSpan CInvalidNumber CInvalidHeight CInvalidBudget CNothing CInvalidOperation CInvalidCommand CLogError : Addr}
    (n_InvalidSpans : PySem.W.nsIn K mainGlobals "InvalidSpans" = some (some (.ref CInvalidSpans)))
    (i_InvalidSpans : PySem.W.isClsIn K CInvalidSpans = true)
    (t_InvalidSpans : PySem.W.typeIn K (.ref CInvalidSpans) = some (.type "type"))
    (n_InvalidNodes : PySem.W.nsIn K mainGlobals "InvalidNodes" = some (some (.ref CInvalidNodes)))
    (i_InvalidNodes : PySem.W.isClsIn K CInvalidNodes = true)
    (t_InvalidNodes : PySem.W.typeIn K (.ref CInvalidNodes) = some (.type "type"))
    (n_InvalidBounds : PySem.W.nsIn K mainGlobals "InvalidBounds" = some (some (.ref CInvalidBounds)))
    (i_InvalidBounds : PySem.W.isClsIn K CInvalidBounds = true)
    (t_InvalidBounds : PySem.W.typeIn K (.ref CInvalidBounds) = some (.type "type"))
    (n_InvalidText : PySem.W.nsIn K mainGlobals "InvalidText" = some (some (.ref CInvalidText)))
    (i_InvalidText : PySem.W.isClsIn K CInvalidText = true)
    (t_InvalidText : PySem.W.typeIn K (.ref CInvalidText) = some (.type "type"))
    (n_OverBudget : PySem.W.nsIn K mainGlobals "OverBudget" = some (some (.ref COverBudget)))
    (i_OverBudget : PySem.W.isClsIn K COverBudget = true)
    (t_OverBudget : PySem.W.typeIn K (.ref COverBudget) = some (.type "type"))
    (n_InvalidSize : PySem.W.nsIn K mainGlobals "InvalidSize" = some (some (.ref CInvalidSize)))
    (i_InvalidSize : PySem.W.isClsIn K CInvalidSize = true)
    (t_InvalidSize : PySem.W.typeIn K (.ref CInvalidSize) = some (.type "type"))
    (n_InvalidEntry : PySem.W.nsIn K mainGlobals "InvalidEntry" = some (some (.ref CInvalidEntry)))
    (i_InvalidEntry : PySem.W.isClsIn K CInvalidEntry = true)
    (t_InvalidEntry : PySem.W.typeIn K (.ref CInvalidEntry) = some (.type "type"))
    (n_InvalidNode : PySem.W.nsIn K mainGlobals "InvalidNode" = some (some (.ref CInvalidNode)))
    (i_InvalidNode : PySem.W.isClsIn K CInvalidNode = true)
    (t_InvalidNode : PySem.W.typeIn K (.ref CInvalidNode) = some (.type "type"))
    (n_InvalidSpan : PySem.W.nsIn K mainGlobals "InvalidSpan" = some (some (.ref CInvalidSpan)))
    (i_InvalidSpan : PySem.W.isClsIn K CInvalidSpan = true)
    (t_InvalidSpan : PySem.W.typeIn K (.ref CInvalidSpan) = some (.type "type"))
    (n_InvalidNumber : PySem.W.nsIn K mainGlobals "InvalidNumber" = some (some (.ref CInvalidNumber)))
    (i_InvalidNumber : PySem.W.isClsIn K CInvalidNumber = true)
    (t_InvalidNumber : PySem.W.typeIn K (.ref CInvalidNumber) = some (.type "type"))
    (n_InvalidHeight : PySem.W.nsIn K mainGlobals "InvalidHeight" = some (some (.ref CInvalidHeight)))
    (i_InvalidHeight : PySem.W.isClsIn K CInvalidHeight = true)
    (t_InvalidHeight : PySem.W.typeIn K (.ref CInvalidHeight) = some (.type "type"))
    (n_InvalidBudget : PySem.W.nsIn K mainGlobals "InvalidBudget" = some (some (.ref CInvalidBudget)))
    (i_InvalidBudget : PySem.W.isClsIn K CInvalidBudget = true)
    (t_InvalidBudget : PySem.W.typeIn K (.ref CInvalidBudget) = some (.type "type"))
    (n_Nothing : PySem.W.nsIn K mainGlobals "Nothing" = some (some (.ref CNothing)))
    (i_Nothing : PySem.W.isClsIn K CNothing = true)
    (t_Nothing : PySem.W.typeIn K (.ref CNothing) = some (.type "type"))
    (n_InvalidOperation : PySem.W.nsIn K mainGlobals "InvalidOperation" = some (some (.ref CInvalidOperation)))
    (i_InvalidOperation : PySem.W.isClsIn K CInvalidOperation = true)
    (t_InvalidOperation : PySem.W.typeIn K (.ref CInvalidOperation) = some (.type "type"))
    (n_InvalidCommand : PySem.W.nsIn K mainGlobals "InvalidCommand" = some (some (.ref CInvalidCommand)))
    (i_InvalidCommand : PySem.W.isClsIn K CInvalidCommand = true)
    (t_InvalidCommand : PySem.W.typeIn K (.ref CInvalidCommand) = some (.type "type"))
    (n_LogError : PySem.W.nsIn K mainGlobals "LogError" = some (some (.ref CLogError)))
    (i_LogError : PySem.W.isClsIn K CLogError = true)
    (t_LogError : PySem.W.typeIn K (.ref CLogError) = some (.type "type"))
    (b_LogError : PySem.W.subIn K (.ref CLogError) (.type "BaseException") = some true)
    (d_LogError : PySem.W.hasDictIn K CLogError = true)
    (x_n : PySem.W.specialIn K (.builtin "object.__class__") "__get__" = some (some (.builtin "getset_descriptor.__get__")))
    (x_t : PySem.W.takesIn K (.builtin "object.__class__") = some true)
    (k_InvalidSize : PySem.W.keepIn K (.ref CInvalidSize) = true)
    (q_InvalidSize : PySem.W.excIn K CInvalidSize [.type "ValueError", .type "Exception", .type "BaseException", .type "object"] "ValueError.__new__" = true)
    (b_InvalidSize : PySem.W.subIn K (.ref CInvalidSize) (.type "BaseException") = some true)
    (g_InvalidSize : PySem.W.findIn K (.ref CInvalidSize) "__getattribute__" = some (some (.builtin "BaseException.__getattribute__")))
    (a_InvalidSize : PySem.W.findIn K (.ref CInvalidSize) "__getattr__" = some none)
    (d_InvalidSize : PySem.W.hasDictIn K CInvalidSize = true)
    (c_InvalidSize : PySem.W.findIn K (.ref CInvalidSize) "__class__" = some (some (.builtin "object.__class__")))
    (m_InvalidSize : PySem.W.mroIn K CInvalidSize (.type "object") = some true)
    (v_InvalidSize : PySem.W.subIn K (.ref CInvalidSize) (.type "ValueError") = some true)
    (l_InvalidSize : PySem.W.subIn K (.ref CInvalidSize) (.ref CLogError) = some true)
    (s_InvalidSize_InvalidSpans : PySem.W.subIn K (.ref CInvalidSize) (.ref CInvalidSpans) = some false)
    (s_InvalidSize_InvalidNodes : PySem.W.subIn K (.ref CInvalidSize) (.ref CInvalidNodes) = some false)
    (s_InvalidSize_InvalidBounds : PySem.W.subIn K (.ref CInvalidSize) (.ref CInvalidBounds) = some false)
    (s_InvalidSize_InvalidText : PySem.W.subIn K (.ref CInvalidSize) (.ref CInvalidText) = some false)
    (s_InvalidSize_OverBudget : PySem.W.subIn K (.ref CInvalidSize) (.ref COverBudget) = some false)
    (s_InvalidSize_InvalidSize : PySem.W.subIn K (.ref CInvalidSize) (.ref CInvalidSize) = some true)
    (s_InvalidSize_InvalidEntry : PySem.W.subIn K (.ref CInvalidSize) (.ref CInvalidEntry) = some false)
    (s_InvalidSize_InvalidNode : PySem.W.subIn K (.ref CInvalidSize) (.ref CInvalidNode) = some false)
    (s_InvalidSize_InvalidSpan : PySem.W.subIn K (.ref CInvalidSize) (.ref CInvalidSpan) = some false)
    (s_InvalidSize_InvalidNumber : PySem.W.subIn K (.ref CInvalidSize) (.ref CInvalidNumber) = some false)
    (s_InvalidSize_InvalidHeight : PySem.W.subIn K (.ref CInvalidSize) (.ref CInvalidHeight) = some false)
    (s_InvalidSize_InvalidBudget : PySem.W.subIn K (.ref CInvalidSize) (.ref CInvalidBudget) = some false)
    (s_InvalidSize_Nothing : PySem.W.subIn K (.ref CInvalidSize) (.ref CNothing) = some false)
    (s_InvalidSize_InvalidOperation : PySem.W.subIn K (.ref CInvalidSize) (.ref CInvalidOperation) = some false)
    (s_InvalidSize_InvalidCommand : PySem.W.subIn K (.ref CInvalidSize) (.ref CInvalidCommand) = some false)
    (k_InvalidEntry : PySem.W.keepIn K (.ref CInvalidEntry) = true)
    (q_InvalidEntry : PySem.W.excIn K CInvalidEntry [.type "ValueError", .type "Exception", .type "BaseException", .type "object"] "ValueError.__new__" = true)
    (b_InvalidEntry : PySem.W.subIn K (.ref CInvalidEntry) (.type "BaseException") = some true)
    (g_InvalidEntry : PySem.W.findIn K (.ref CInvalidEntry) "__getattribute__" = some (some (.builtin "BaseException.__getattribute__")))
    (a_InvalidEntry : PySem.W.findIn K (.ref CInvalidEntry) "__getattr__" = some none)
    (d_InvalidEntry : PySem.W.hasDictIn K CInvalidEntry = true)
    (c_InvalidEntry : PySem.W.findIn K (.ref CInvalidEntry) "__class__" = some (some (.builtin "object.__class__")))
    (m_InvalidEntry : PySem.W.mroIn K CInvalidEntry (.type "object") = some true)
    (v_InvalidEntry : PySem.W.subIn K (.ref CInvalidEntry) (.type "ValueError") = some true)
    (l_InvalidEntry : PySem.W.subIn K (.ref CInvalidEntry) (.ref CLogError) = some true)
    (s_InvalidEntry_InvalidSpans : PySem.W.subIn K (.ref CInvalidEntry) (.ref CInvalidSpans) = some false)
    (s_InvalidEntry_InvalidNodes : PySem.W.subIn K (.ref CInvalidEntry) (.ref CInvalidNodes) = some false)
    (s_InvalidEntry_InvalidBounds : PySem.W.subIn K (.ref CInvalidEntry) (.ref CInvalidBounds) = some false)
    (s_InvalidEntry_InvalidText : PySem.W.subIn K (.ref CInvalidEntry) (.ref CInvalidText) = some false)
    (s_InvalidEntry_OverBudget : PySem.W.subIn K (.ref CInvalidEntry) (.ref COverBudget) = some false)
    (s_InvalidEntry_InvalidSize : PySem.W.subIn K (.ref CInvalidEntry) (.ref CInvalidSize) = some false)
    (s_InvalidEntry_InvalidEntry : PySem.W.subIn K (.ref CInvalidEntry) (.ref CInvalidEntry) = some true)
    (s_InvalidEntry_InvalidNode : PySem.W.subIn K (.ref CInvalidEntry) (.ref CInvalidNode) = some false)
    (s_InvalidEntry_InvalidSpan : PySem.W.subIn K (.ref CInvalidEntry) (.ref CInvalidSpan) = some false)
    (s_InvalidEntry_InvalidNumber : PySem.W.subIn K (.ref CInvalidEntry) (.ref CInvalidNumber) = some false)
    (s_InvalidEntry_InvalidHeight : PySem.W.subIn K (.ref CInvalidEntry) (.ref CInvalidHeight) = some false)
    (s_InvalidEntry_InvalidBudget : PySem.W.subIn K (.ref CInvalidEntry) (.ref CInvalidBudget) = some false)
    (s_InvalidEntry_Nothing : PySem.W.subIn K (.ref CInvalidEntry) (.ref CNothing) = some false)
    (s_InvalidEntry_InvalidOperation : PySem.W.subIn K (.ref CInvalidEntry) (.ref CInvalidOperation) = some false)
    (s_InvalidEntry_InvalidCommand : PySem.W.subIn K (.ref CInvalidEntry) (.ref CInvalidCommand) = some false)
    (k_InvalidSpan : PySem.W.keepIn K (.ref CInvalidSpan) = true)
    (q_InvalidSpan : PySem.W.excIn K CInvalidSpan [.type "ValueError", .type "Exception", .type "BaseException", .type "object"] "ValueError.__new__" = true)
    (b_InvalidSpan : PySem.W.subIn K (.ref CInvalidSpan) (.type "BaseException") = some true)
    (g_InvalidSpan : PySem.W.findIn K (.ref CInvalidSpan) "__getattribute__" = some (some (.builtin "BaseException.__getattribute__")))
    (a_InvalidSpan : PySem.W.findIn K (.ref CInvalidSpan) "__getattr__" = some none)
    (d_InvalidSpan : PySem.W.hasDictIn K CInvalidSpan = true)
    (c_InvalidSpan : PySem.W.findIn K (.ref CInvalidSpan) "__class__" = some (some (.builtin "object.__class__")))
    (m_InvalidSpan : PySem.W.mroIn K CInvalidSpan (.type "object") = some true)
    (v_InvalidSpan : PySem.W.subIn K (.ref CInvalidSpan) (.type "ValueError") = some true)
    (l_InvalidSpan : PySem.W.subIn K (.ref CInvalidSpan) (.ref CLogError) = some true)
    (s_InvalidSpan_InvalidSpans : PySem.W.subIn K (.ref CInvalidSpan) (.ref CInvalidSpans) = some false)
    (s_InvalidSpan_InvalidNodes : PySem.W.subIn K (.ref CInvalidSpan) (.ref CInvalidNodes) = some false)
    (s_InvalidSpan_InvalidBounds : PySem.W.subIn K (.ref CInvalidSpan) (.ref CInvalidBounds) = some false)
    (s_InvalidSpan_InvalidText : PySem.W.subIn K (.ref CInvalidSpan) (.ref CInvalidText) = some false)
    (s_InvalidSpan_OverBudget : PySem.W.subIn K (.ref CInvalidSpan) (.ref COverBudget) = some false)
    (s_InvalidSpan_InvalidSize : PySem.W.subIn K (.ref CInvalidSpan) (.ref CInvalidSize) = some false)
    (s_InvalidSpan_InvalidEntry : PySem.W.subIn K (.ref CInvalidSpan) (.ref CInvalidEntry) = some false)
    (s_InvalidSpan_InvalidNode : PySem.W.subIn K (.ref CInvalidSpan) (.ref CInvalidNode) = some false)
    (s_InvalidSpan_InvalidSpan : PySem.W.subIn K (.ref CInvalidSpan) (.ref CInvalidSpan) = some true)
    (s_InvalidSpan_InvalidNumber : PySem.W.subIn K (.ref CInvalidSpan) (.ref CInvalidNumber) = some false)
    (s_InvalidSpan_InvalidHeight : PySem.W.subIn K (.ref CInvalidSpan) (.ref CInvalidHeight) = some false)
    (s_InvalidSpan_InvalidBudget : PySem.W.subIn K (.ref CInvalidSpan) (.ref CInvalidBudget) = some false)
    (s_InvalidSpan_Nothing : PySem.W.subIn K (.ref CInvalidSpan) (.ref CNothing) = some false)
    (s_InvalidSpan_InvalidOperation : PySem.W.subIn K (.ref CInvalidSpan) (.ref CInvalidOperation) = some false)
    (s_InvalidSpan_InvalidCommand : PySem.W.subIn K (.ref CInvalidSpan) (.ref CInvalidCommand) = some false)
    (k_InvalidNumber : PySem.W.keepIn K (.ref CInvalidNumber) = true)
    (q_InvalidNumber : PySem.W.excIn K CInvalidNumber [.type "ValueError", .type "Exception", .type "BaseException", .type "object"] "ValueError.__new__" = true)
    (b_InvalidNumber : PySem.W.subIn K (.ref CInvalidNumber) (.type "BaseException") = some true)
    (g_InvalidNumber : PySem.W.findIn K (.ref CInvalidNumber) "__getattribute__" = some (some (.builtin "BaseException.__getattribute__")))
    (a_InvalidNumber : PySem.W.findIn K (.ref CInvalidNumber) "__getattr__" = some none)
    (d_InvalidNumber : PySem.W.hasDictIn K CInvalidNumber = true)
    (c_InvalidNumber : PySem.W.findIn K (.ref CInvalidNumber) "__class__" = some (some (.builtin "object.__class__")))
    (m_InvalidNumber : PySem.W.mroIn K CInvalidNumber (.type "object") = some true)
    (v_InvalidNumber : PySem.W.subIn K (.ref CInvalidNumber) (.type "ValueError") = some true)
    (l_InvalidNumber : PySem.W.subIn K (.ref CInvalidNumber) (.ref CLogError) = some true)
    (s_InvalidNumber_InvalidSpans : PySem.W.subIn K (.ref CInvalidNumber) (.ref CInvalidSpans) = some false)
    (s_InvalidNumber_InvalidNodes : PySem.W.subIn K (.ref CInvalidNumber) (.ref CInvalidNodes) = some false)
    (s_InvalidNumber_InvalidBounds : PySem.W.subIn K (.ref CInvalidNumber) (.ref CInvalidBounds) = some false)
    (s_InvalidNumber_InvalidText : PySem.W.subIn K (.ref CInvalidNumber) (.ref CInvalidText) = some false)
    (s_InvalidNumber_OverBudget : PySem.W.subIn K (.ref CInvalidNumber) (.ref COverBudget) = some false)
    (s_InvalidNumber_InvalidSize : PySem.W.subIn K (.ref CInvalidNumber) (.ref CInvalidSize) = some false)
    (s_InvalidNumber_InvalidEntry : PySem.W.subIn K (.ref CInvalidNumber) (.ref CInvalidEntry) = some false)
    (s_InvalidNumber_InvalidNode : PySem.W.subIn K (.ref CInvalidNumber) (.ref CInvalidNode) = some false)
    (s_InvalidNumber_InvalidSpan : PySem.W.subIn K (.ref CInvalidNumber) (.ref CInvalidSpan) = some false)
    (s_InvalidNumber_InvalidNumber : PySem.W.subIn K (.ref CInvalidNumber) (.ref CInvalidNumber) = some true)
    (s_InvalidNumber_InvalidHeight : PySem.W.subIn K (.ref CInvalidNumber) (.ref CInvalidHeight) = some false)
    (s_InvalidNumber_InvalidBudget : PySem.W.subIn K (.ref CInvalidNumber) (.ref CInvalidBudget) = some false)
    (s_InvalidNumber_Nothing : PySem.W.subIn K (.ref CInvalidNumber) (.ref CNothing) = some false)
    (s_InvalidNumber_InvalidOperation : PySem.W.subIn K (.ref CInvalidNumber) (.ref CInvalidOperation) = some false)
    (s_InvalidNumber_InvalidCommand : PySem.W.subIn K (.ref CInvalidNumber) (.ref CInvalidCommand) = some false)
    : ∃ fd : FuncData, (∀ (s : Shared) (v : Value), BindsTo s fd ⟨[v], []⟩ [("script", v)]) ∧ ∀ base : Heap, K.In base → base.Ns mainGlobals mg → FnOk l.prog w K mg base CX0 12 fa fd ["script"] (spLaw K) := by
  have e := hfa.symm.trans (PySem.W.mg_of X G a28)
  cases e
  have FIsWhole := fun_mk (st := sIsWhole) l0 c0 k0
  have FIsBetween := fun_mk (st := sIsBetween) l1 c1 k1
  have FIsTreeNode := fun_mk (st := sIsTreeNode) l2 c2 k2
  have FCheckSize := fun_mk (st := sCheckSize) l3 c3 k3
  have FCheckEntry := fun_mk (st := sCheckEntry) l4 c4 k4
  have FCheckNode := fun_mk (st := sCheckNode) l5 c5 k5
  have FCheckSpan := fun_mk (st := sCheckSpan) l6 c6 k6
  have FCheckNumber := fun_mk (st := sCheckNumber) l7 c7 k7
  have FPowerWithin := fun_mk (st := sPowerWithin) l8 c8 k8
  have FPeaks := fun_mk (st := sPeaks) l9 c9 k9
  have FHalves := fun_mk (st := sHalves) l10 c10 k10
  have FDepth := fun_mk (st := sDepth) l11 c11 k11
  have FPath := fun_mk (st := sPath) l12 c12 k12
  have FPeakDepths := fun_mk (st := sPeakDepths) l13 c13 k13
  have FDepthsBetween := fun_mk (st := sDepthsBetween) l14 c14 k14
  have FDepthSum := fun_mk (st := sDepthSum) l15 c15 k15
  have FDepthRange := fun_mk (st := sDepthRange) l16 c16 k16
  have FFirstOfDepth := fun_mk (st := sFirstOfDepth) l17 c17 k17
  have FNextEnd := fun_mk (st := sNextEnd) l18 c18 k18
  have FSizesWith := fun_mk (st := sSizesWith) l19 c19 k19
  have FLawBag := fun_mk (st := sLawBag) l20 c20 k20
  have FLawPick := fun_mk (st := sLawPick) l21 c21 k21
  have FLawSize := fun_mk (st := sLawSize) l22 c22 k22
  have FLawClass := fun_mk (st := sLawClass) l23 c23 k23
  have FLawBadIntegers := fun_mk (st := sLawBadIntegers) l24 c24 k24
  have FLawTold := fun_mk (st := sLawTold) l25 c25 k25
  have FLawSizesRight := fun_mk (st := sLawSizesRight) l26 c26 k26
  have FLawRight := fun_mk (st := sLawRight) l27 c27 k27
  have FLaw := fun_mk (st := sLaw) l28 c28 k28
  have AIsWhole : At K mg "is_whole" f0 (PySem.W.fnOf "is_whole" "is_whole" (defArgs sIsWhole) (defBody sIsWhole) (defScope sIsWhole) .none kV0 dc0 pm0 an0 cd0 ct0) ["value"] := ⟨PySem.W.mg_of X G a0, k0, FIsWhole.binds (ps := ["value"]) fun _ _ _ _ _ _ us hl => match us, hl with | [_], _ => rfl⟩
  have AIsBetween : At K mg "is_between" f1 (PySem.W.fnOf "is_between" "is_between" (defArgs sIsBetween) (defBody sIsBetween) (defScope sIsBetween) .none kV1 dc1 pm1 an1 cd1 ct1) ["value", "low", "high"] := ⟨PySem.W.mg_of X G a1, k1, FIsBetween.binds (ps := ["value", "low", "high"]) fun _ _ _ _ _ _ us hl => match us, hl with | [_, _, _], _ => rfl⟩
  have AIsTreeNode : At K mg "is_tree_node" f2 (PySem.W.fnOf "is_tree_node" "is_tree_node" (defArgs sIsTreeNode) (defBody sIsTreeNode) (defScope sIsTreeNode) .none kV2 dc2 pm2 an2 cd2 ct2) ["size", "value"] := ⟨PySem.W.mg_of X G a2, k2, FIsTreeNode.binds (ps := ["size", "value"]) fun _ _ _ _ _ _ us hl => match us, hl with | [_, _], _ => rfl⟩
  have ACheckSize : At K mg "check_size" f3 (PySem.W.fnOf "check_size" "check_size" (defArgs sCheckSize) (defBody sCheckSize) (defScope sCheckSize) .none kV3 dc3 pm3 an3 cd3 ct3) ["size"] := ⟨PySem.W.mg_of X G a3, k3, FCheckSize.binds (ps := ["size"]) fun _ _ _ _ _ _ us hl => match us, hl with | [_], _ => rfl⟩
  have ACheckEntry : At K mg "check_entry" f4 (PySem.W.fnOf "check_entry" "check_entry" (defArgs sCheckEntry) (defBody sCheckEntry) (defScope sCheckEntry) .none kV4 dc4 pm4 an4 cd4 ct4) ["size", "entry"] := ⟨PySem.W.mg_of X G a4, k4, FCheckEntry.binds (ps := ["size", "entry"]) fun _ _ _ _ _ _ us hl => match us, hl with | [_, _], _ => rfl⟩
  have ACheckNode : At K mg "check_node" f5 (PySem.W.fnOf "check_node" "check_node" (defArgs sCheckNode) (defBody sCheckNode) (defScope sCheckNode) .none kV5 dc5 pm5 an5 cd5 ct5) ["size", "node"] := ⟨PySem.W.mg_of X G a5, k5, FCheckNode.binds (ps := ["size", "node"]) fun _ _ _ _ _ _ us hl => match us, hl with | [_, _], _ => rfl⟩
  have ACheckSpan : At K mg "check_span" f6 (PySem.W.fnOf "check_span" "check_span" (defArgs sCheckSpan) (defBody sCheckSpan) (defScope sCheckSpan) .none kV6 dc6 pm6 an6 cd6 ct6) ["size", "begin", "end"] := ⟨PySem.W.mg_of X G a6, k6, FCheckSpan.binds (ps := ["size", "begin", "end"]) fun _ _ _ _ _ _ us hl => match us, hl with | [_, _, _], _ => rfl⟩
  have ACheckNumber : At K mg "check_number" f7 (PySem.W.fnOf "check_number" "check_number" (defArgs sCheckNumber) (defBody sCheckNumber) (defScope sCheckNumber) .none kV7 dc7 pm7 an7 cd7 ct7) ["number"] := ⟨PySem.W.mg_of X G a7, k7, FCheckNumber.binds (ps := ["number"]) fun _ _ _ _ _ _ us hl => match us, hl with | [_], _ => rfl⟩
  have APowerWithin : At K mg "power_within" f8 (PySem.W.fnOf "power_within" "power_within" (defArgs sPowerWithin) (defBody sPowerWithin) (defScope sPowerWithin) .none kV8 dc8 pm8 an8 cd8 ct8) ["number"] := ⟨PySem.W.mg_of X G a8, k8, FPowerWithin.binds (ps := ["number"]) fun _ _ _ _ _ _ us hl => match us, hl with | [_], _ => rfl⟩
  have APeaks : At K mg "peaks" f9 (PySem.W.fnOf "peaks" "peaks" (defArgs sPeaks) (defBody sPeaks) (defScope sPeaks) .none kV9 dc9 pm9 an9 cd9 ct9) ["size"] := ⟨PySem.W.mg_of X G a9, k9, FPeaks.binds (ps := ["size"]) fun _ _ _ _ _ _ us hl => match us, hl with | [_], _ => rfl⟩
  have AHalves : At K mg "halves" f10 (PySem.W.fnOf "halves" "halves" (defArgs sHalves) (defBody sHalves) (defScope sHalves) .none kV10 dc10 pm10 an10 cd10 ct10) ["size", "node"] := ⟨PySem.W.mg_of X G a10, k10, FHalves.binds (ps := ["size", "node"]) fun _ _ _ _ _ _ us hl => match us, hl with | [_, _], _ => rfl⟩
  have ADepth : At K mg "depth" f11 (PySem.W.fnOf "depth" "depth" (defArgs sDepth) (defBody sDepth) (defScope sDepth) .none kV11 dc11 pm11 an11 cd11 ct11) ["size", "entry"] := ⟨PySem.W.mg_of X G a11, k11, FDepth.binds (ps := ["size", "entry"]) fun _ _ _ _ _ _ us hl => match us, hl with | [_, _], _ => rfl⟩
  have APath : At K mg "path" f12 (PySem.W.fnOf "path" "path" (defArgs sPath) (defBody sPath) (defScope sPath) .none kV12 dc12 pm12 an12 cd12 ct12) ["size", "entry"] := ⟨PySem.W.mg_of X G a12, k12, FPath.binds (ps := ["size", "entry"]) fun _ _ _ _ _ _ us hl => match us, hl with | [_, _], _ => rfl⟩
  have APeakDepths : At K mg "_peak_depths" f13 (PySem.W.fnOf "_peak_depths" "_peak_depths" (defArgs sPeakDepths) (defBody sPeakDepths) (defScope sPeakDepths) .none kV13 dc13 pm13 an13 cd13 ct13) ["size"] := ⟨PySem.W.mg_of X G a13, k13, FPeakDepths.binds (ps := ["size"]) fun _ _ _ _ _ _ us hl => match us, hl with | [_], _ => rfl⟩
  have ADepthsBetween : At K mg "_depths_between" f14 (PySem.W.fnOf "_depths_between" "_depths_between" (defArgs sDepthsBetween) (defBody sDepthsBetween) (defScope sDepthsBetween) .none kV14 dc14 pm14 an14 cd14 ct14) ["size", "begin", "end"] := ⟨PySem.W.mg_of X G a14, k14, FDepthsBetween.binds (ps := ["size", "begin", "end"]) fun _ _ _ _ _ _ us hl => match us, hl with | [_, _, _], _ => rfl⟩
  have ADepthSum : At K mg "depth_sum" f15 (PySem.W.fnOf "depth_sum" "depth_sum" (defArgs sDepthSum) (defBody sDepthSum) (defScope sDepthSum) .none kV15 dc15 pm15 an15 cd15 ct15) ["size", "begin", "end"] := ⟨PySem.W.mg_of X G a15, k15, FDepthSum.binds (ps := ["size", "begin", "end"]) fun _ _ _ _ _ _ us hl => match us, hl with | [_, _, _], _ => rfl⟩
  have ADepthRange : At K mg "depth_range" f16 (PySem.W.fnOf "depth_range" "depth_range" (defArgs sDepthRange) (defBody sDepthRange) (defScope sDepthRange) .none kV16 dc16 pm16 an16 cd16 ct16) ["size", "begin", "end"] := ⟨PySem.W.mg_of X G a16, k16, FDepthRange.binds (ps := ["size", "begin", "end"]) fun _ _ _ _ _ _ us hl => match us, hl with | [_, _, _], _ => rfl⟩
  have AFirstOfDepth : At K mg "first_of_depth" f17 (PySem.W.fnOf "first_of_depth" "first_of_depth" (defArgs sFirstOfDepth) (defBody sFirstOfDepth) (defScope sFirstOfDepth) .none kV17 dc17 pm17 an17 cd17 ct17) ["size", "number"] := ⟨PySem.W.mg_of X G a17, k17, FFirstOfDepth.binds (ps := ["size", "number"]) fun _ _ _ _ _ _ us hl => match us, hl with | [_, _], _ => rfl⟩
  have ANextEnd : At K mg "_next_end" f18 (PySem.W.fnOf "_next_end" "_next_end" (defArgs sNextEnd) (defBody sNextEnd) (defScope sNextEnd) .none kV18 dc18 pm18 an18 cd18 ct18) ["entry", "end"] := ⟨PySem.W.mg_of X G a18, k18, FNextEnd.binds (ps := ["entry", "end"]) fun _ _ _ _ _ _ us hl => match us, hl with | [_, _], _ => rfl⟩
  have ASizesWith : At K mg "sizes_with" f19 (PySem.W.fnOf "sizes_with" "sizes_with" (defArgs sSizesWith) (defBody sSizesWith) (defScope sSizesWith) .none kV19 dc19 pm19 an19 cd19 ct19) ["entry", "number", "most"] := ⟨PySem.W.mg_of X G a19, k19, FSizesWith.binds (ps := ["entry", "number", "most"]) fun _ _ _ _ _ _ us hl => match us, hl with | [_, _, _], _ => rfl⟩
  have ALawBag : At K mg "_law_bag" f20 (PySem.W.fnOf "_law_bag" "_law_bag" (defArgs sLawBag) (defBody sLawBag) (defScope sLawBag) .none kV20 dc20 pm20 an20 cd20 ct20) ["cell"] := ⟨PySem.W.mg_of X G a20, k20, FLawBag.binds (ps := ["cell"]) fun _ _ _ _ _ _ us hl => match us, hl with | [_], _ => rfl⟩
  have ALawPick : At K mg "_law_pick" f21 (PySem.W.fnOf "_law_pick" "_law_pick" (defArgs sLawPick) (defBody sLawPick) (defScope sLawPick) .none kV21 dc21 pm21 an21 cd21 ct21) ["bag", "many"] := ⟨PySem.W.mg_of X G a21, k21, FLawPick.binds (ps := ["bag", "many"]) fun _ _ _ _ _ _ us hl => match us, hl with | [_, _], _ => rfl⟩
  have ALawSize : At K mg "_law_size" f22 (PySem.W.fnOf "_law_size" "_law_size" (defArgs sLawSize) (defBody sLawSize) (defScope sLawSize) .none kV22 dc22 pm22 an22 cd22 ct22) ["bag"] := ⟨PySem.W.mg_of X G a22, k22, FLawSize.binds (ps := ["bag"]) fun _ _ _ _ _ _ us hl => match us, hl with | [_], _ => rfl⟩
  have ALawClass : At K mg "_law_class" f23 (PySem.W.fnOf "_law_class" "_law_class" (defArgs sLawClass) (defBody sLawClass) (defScope sLawClass) .none kV23 dc23 pm23 an23 cd23 ct23) ["caught"] := ⟨PySem.W.mg_of X G a23, k23, FLawClass.binds (ps := ["caught"]) fun _ _ _ _ _ _ us hl => match us, hl with | [_], _ => rfl⟩
  have ALawBadIntegers : At K mg "_law_bad_integers" f24 (PySem.W.fnOf "_law_bad_integers" "_law_bad_integers" (defArgs sLawBadIntegers) (defBody sLawBadIntegers) (defScope sLawBadIntegers) .none kV24 dc24 pm24 an24 cd24 ct24) ["low", "high"] := ⟨PySem.W.mg_of X G a24, k24, FLawBadIntegers.binds (ps := ["low", "high"]) fun _ _ _ _ _ _ us hl => match us, hl with | [_, _], _ => rfl⟩
  have ALawTold : At K mg "_law_told" f25 (PySem.W.fnOf "_law_told" "_law_told" (defArgs sLawTold) (defBody sLawTold) (defScope sLawTold) .none kV25 dc25 pm25 an25 cd25 ct25) ["way", "one", "two", "three"] := ⟨PySem.W.mg_of X G a25, k25, FLawTold.binds (ps := ["way", "one", "two", "three"]) fun _ _ _ _ _ _ us hl => match us, hl with | [_, _, _, _], _ => rfl⟩
  have ALawSizesRight : At K mg "_law_sizes_right" f26 (PySem.W.fnOf "_law_sizes_right" "_law_sizes_right" (defArgs sLawSizesRight) (defBody sLawSizesRight) (defScope sLawSizesRight) .none kV26 dc26 pm26 an26 cd26 ct26) ["entry"] := ⟨PySem.W.mg_of X G a26, k26, FLawSizesRight.binds (ps := ["entry"]) fun _ _ _ _ _ _ us hl => match us, hl with | [_], _ => rfl⟩
  have ALawRight : At K mg "_law_right" f27 (PySem.W.fnOf "_law_right" "_law_right" (defArgs sLawRight) (defBody sLawRight) (defScope sLawRight) .none kV27 dc27 pm27 an27 cd27 ct27) ["bag"] := ⟨PySem.W.mg_of X G a27, k27, FLawRight.binds (ps := ["bag"]) fun _ _ _ _ _ _ us hl => match us, hl with | [_], _ => rfl⟩
  have z_ValueError := PySem.W.mg_none_of X G z_ValueError
  have z_bool := PySem.W.mg_none_of X G z_bool
  have z_enumerate := PySem.W.mg_none_of X G z_enumerate
  have z_int := PySem.W.mg_none_of X G z_int
  have z_isinstance := PySem.W.mg_none_of X G z_isinstance
  have z_len := PySem.W.mg_none_of X G z_len
  have z_max := PySem.W.mg_none_of X G z_max
  have z_min := PySem.W.mg_none_of X G z_min
  have z_range := PySem.W.mg_none_of X G z_range
  have z_repr := PySem.W.mg_none_of X G z_repr
  have z_sum := PySem.W.mg_none_of X G z_sum
  have z_tuple := PySem.W.mg_none_of X G z_tuple
  have g_MOST_ENTRIES := PySem.W.mg_of X G g_MOST_ENTRIES
  refine ⟨PySem.W.fnOf "law" "law" (defArgs sLaw) (defBody sLaw) (defScope sLaw) .none kV28 dc28 pm28 an28 cd28 ct28, fun s v => .of_eq rfl, fun base _ _ => ?_⟩
  have GInvalidSpans : GF mg "InvalidSpans" CInvalidSpans := ⟨PySem.W.mg_of X G n_InvalidSpans⟩
  have GInvalidNodes : GF mg "InvalidNodes" CInvalidNodes := ⟨PySem.W.mg_of X G n_InvalidNodes⟩
  have GInvalidBounds : GF mg "InvalidBounds" CInvalidBounds := ⟨PySem.W.mg_of X G n_InvalidBounds⟩
  have GInvalidText : GF mg "InvalidText" CInvalidText := ⟨PySem.W.mg_of X G n_InvalidText⟩
  have GOverBudget : GF mg "OverBudget" COverBudget := ⟨PySem.W.mg_of X G n_OverBudget⟩
  have GInvalidSize : GF mg "InvalidSize" CInvalidSize := ⟨PySem.W.mg_of X G n_InvalidSize⟩
  have GInvalidEntry : GF mg "InvalidEntry" CInvalidEntry := ⟨PySem.W.mg_of X G n_InvalidEntry⟩
  have GInvalidNode : GF mg "InvalidNode" CInvalidNode := ⟨PySem.W.mg_of X G n_InvalidNode⟩
  have GInvalidSpan : GF mg "InvalidSpan" CInvalidSpan := ⟨PySem.W.mg_of X G n_InvalidSpan⟩
  have GInvalidNumber : GF mg "InvalidNumber" CInvalidNumber := ⟨PySem.W.mg_of X G n_InvalidNumber⟩
  have GInvalidHeight : GF mg "InvalidHeight" CInvalidHeight := ⟨PySem.W.mg_of X G n_InvalidHeight⟩
  have GInvalidBudget : GF mg "InvalidBudget" CInvalidBudget := ⟨PySem.W.mg_of X G n_InvalidBudget⟩
  have GNothing : GF mg "Nothing" CNothing := ⟨PySem.W.mg_of X G n_Nothing⟩
  have GInvalidOperation : GF mg "InvalidOperation" CInvalidOperation := ⟨PySem.W.mg_of X G n_InvalidOperation⟩
  have GInvalidCommand : GF mg "InvalidCommand" CInvalidCommand := ⟨PySem.W.mg_of X G n_InvalidCommand⟩
  have GLogError : GF mg "LogError" CLogError := ⟨PySem.W.mg_of X G n_LogError⟩
  have XInvalidSize : XF K mg "InvalidSize" CInvalidSize := ⟨PySem.W.mg_of X G n_InvalidSize, k_InvalidSize, q_InvalidSize, b_InvalidSize, t_InvalidSize⟩
  have KInvalidSize : CK K [CInvalidSpans, CInvalidNodes, CInvalidBounds, CInvalidText, COverBudget, CInvalidSize, CInvalidEntry, CInvalidNode, CInvalidSpan, CInvalidNumber, CInvalidHeight, CInvalidBudget, CNothing, CInvalidOperation, CInvalidCommand] CLogError CInvalidSize "InvalidSize" := ⟨⟨g_InvalidSize, a_InvalidSize, b_InvalidSize, d_InvalidSize, c_InvalidSize, x_n, x_t, m_InvalidSize⟩, ⟨[false, false, false, false, false, true, false, false, false, false, false, false, false, false, false], ⟨kit_of i_InvalidSpans t_InvalidSpans s_InvalidSize_InvalidSpans s_InvalidSize_InvalidSize, kit_of i_InvalidNodes t_InvalidNodes s_InvalidSize_InvalidNodes s_InvalidSize_InvalidSize, kit_of i_InvalidBounds t_InvalidBounds s_InvalidSize_InvalidBounds s_InvalidSize_InvalidSize, kit_of i_InvalidText t_InvalidText s_InvalidSize_InvalidText s_InvalidSize_InvalidSize, kit_of i_OverBudget t_OverBudget s_InvalidSize_OverBudget s_InvalidSize_InvalidSize, kit_of i_InvalidSize t_InvalidSize s_InvalidSize_InvalidSize s_InvalidSize_InvalidSize, kit_of i_InvalidEntry t_InvalidEntry s_InvalidSize_InvalidEntry s_InvalidSize_InvalidSize, kit_of i_InvalidNode t_InvalidNode s_InvalidSize_InvalidNode s_InvalidSize_InvalidSize, kit_of i_InvalidSpan t_InvalidSpan s_InvalidSize_InvalidSpan s_InvalidSize_InvalidSize, kit_of i_InvalidNumber t_InvalidNumber s_InvalidSize_InvalidNumber s_InvalidSize_InvalidSize, kit_of i_InvalidHeight t_InvalidHeight s_InvalidSize_InvalidHeight s_InvalidSize_InvalidSize, kit_of i_InvalidBudget t_InvalidBudget s_InvalidSize_InvalidBudget s_InvalidSize_InvalidSize, kit_of i_Nothing t_Nothing s_InvalidSize_Nothing s_InvalidSize_InvalidSize, kit_of i_InvalidOperation t_InvalidOperation s_InvalidSize_InvalidOperation s_InvalidSize_InvalidSize, kit_of i_InvalidCommand t_InvalidCommand s_InvalidSize_InvalidCommand s_InvalidSize_InvalidSize, trivial⟩, by decide +kernel⟩, kit_ty (by decide) v_InvalidSize, by decide +kernel, by decide +kernel, by decide +kernel, PySem.W.exm_ref b_LogError d_LogError t_LogError l_InvalidSize⟩
  have XInvalidEntry : XF K mg "InvalidEntry" CInvalidEntry := ⟨PySem.W.mg_of X G n_InvalidEntry, k_InvalidEntry, q_InvalidEntry, b_InvalidEntry, t_InvalidEntry⟩
  have KInvalidEntry : CK K [CInvalidSpans, CInvalidNodes, CInvalidBounds, CInvalidText, COverBudget, CInvalidSize, CInvalidEntry, CInvalidNode, CInvalidSpan, CInvalidNumber, CInvalidHeight, CInvalidBudget, CNothing, CInvalidOperation, CInvalidCommand] CLogError CInvalidEntry "InvalidEntry" := ⟨⟨g_InvalidEntry, a_InvalidEntry, b_InvalidEntry, d_InvalidEntry, c_InvalidEntry, x_n, x_t, m_InvalidEntry⟩, ⟨[false, false, false, false, false, false, true, false, false, false, false, false, false, false, false], ⟨kit_of i_InvalidSpans t_InvalidSpans s_InvalidEntry_InvalidSpans s_InvalidEntry_InvalidEntry, kit_of i_InvalidNodes t_InvalidNodes s_InvalidEntry_InvalidNodes s_InvalidEntry_InvalidEntry, kit_of i_InvalidBounds t_InvalidBounds s_InvalidEntry_InvalidBounds s_InvalidEntry_InvalidEntry, kit_of i_InvalidText t_InvalidText s_InvalidEntry_InvalidText s_InvalidEntry_InvalidEntry, kit_of i_OverBudget t_OverBudget s_InvalidEntry_OverBudget s_InvalidEntry_InvalidEntry, kit_of i_InvalidSize t_InvalidSize s_InvalidEntry_InvalidSize s_InvalidEntry_InvalidEntry, kit_of i_InvalidEntry t_InvalidEntry s_InvalidEntry_InvalidEntry s_InvalidEntry_InvalidEntry, kit_of i_InvalidNode t_InvalidNode s_InvalidEntry_InvalidNode s_InvalidEntry_InvalidEntry, kit_of i_InvalidSpan t_InvalidSpan s_InvalidEntry_InvalidSpan s_InvalidEntry_InvalidEntry, kit_of i_InvalidNumber t_InvalidNumber s_InvalidEntry_InvalidNumber s_InvalidEntry_InvalidEntry, kit_of i_InvalidHeight t_InvalidHeight s_InvalidEntry_InvalidHeight s_InvalidEntry_InvalidEntry, kit_of i_InvalidBudget t_InvalidBudget s_InvalidEntry_InvalidBudget s_InvalidEntry_InvalidEntry, kit_of i_Nothing t_Nothing s_InvalidEntry_Nothing s_InvalidEntry_InvalidEntry, kit_of i_InvalidOperation t_InvalidOperation s_InvalidEntry_InvalidOperation s_InvalidEntry_InvalidEntry, kit_of i_InvalidCommand t_InvalidCommand s_InvalidEntry_InvalidCommand s_InvalidEntry_InvalidEntry, trivial⟩, by decide +kernel⟩, kit_ty (by decide) v_InvalidEntry, by decide +kernel, by decide +kernel, by decide +kernel, PySem.W.exm_ref b_LogError d_LogError t_LogError l_InvalidEntry⟩
  have XInvalidSpan : XF K mg "InvalidSpan" CInvalidSpan := ⟨PySem.W.mg_of X G n_InvalidSpan, k_InvalidSpan, q_InvalidSpan, b_InvalidSpan, t_InvalidSpan⟩
  have KInvalidSpan : CK K [CInvalidSpans, CInvalidNodes, CInvalidBounds, CInvalidText, COverBudget, CInvalidSize, CInvalidEntry, CInvalidNode, CInvalidSpan, CInvalidNumber, CInvalidHeight, CInvalidBudget, CNothing, CInvalidOperation, CInvalidCommand] CLogError CInvalidSpan "InvalidSpan" := ⟨⟨g_InvalidSpan, a_InvalidSpan, b_InvalidSpan, d_InvalidSpan, c_InvalidSpan, x_n, x_t, m_InvalidSpan⟩, ⟨[false, false, false, false, false, false, false, false, true, false, false, false, false, false, false], ⟨kit_of i_InvalidSpans t_InvalidSpans s_InvalidSpan_InvalidSpans s_InvalidSpan_InvalidSpan, kit_of i_InvalidNodes t_InvalidNodes s_InvalidSpan_InvalidNodes s_InvalidSpan_InvalidSpan, kit_of i_InvalidBounds t_InvalidBounds s_InvalidSpan_InvalidBounds s_InvalidSpan_InvalidSpan, kit_of i_InvalidText t_InvalidText s_InvalidSpan_InvalidText s_InvalidSpan_InvalidSpan, kit_of i_OverBudget t_OverBudget s_InvalidSpan_OverBudget s_InvalidSpan_InvalidSpan, kit_of i_InvalidSize t_InvalidSize s_InvalidSpan_InvalidSize s_InvalidSpan_InvalidSpan, kit_of i_InvalidEntry t_InvalidEntry s_InvalidSpan_InvalidEntry s_InvalidSpan_InvalidSpan, kit_of i_InvalidNode t_InvalidNode s_InvalidSpan_InvalidNode s_InvalidSpan_InvalidSpan, kit_of i_InvalidSpan t_InvalidSpan s_InvalidSpan_InvalidSpan s_InvalidSpan_InvalidSpan, kit_of i_InvalidNumber t_InvalidNumber s_InvalidSpan_InvalidNumber s_InvalidSpan_InvalidSpan, kit_of i_InvalidHeight t_InvalidHeight s_InvalidSpan_InvalidHeight s_InvalidSpan_InvalidSpan, kit_of i_InvalidBudget t_InvalidBudget s_InvalidSpan_InvalidBudget s_InvalidSpan_InvalidSpan, kit_of i_Nothing t_Nothing s_InvalidSpan_Nothing s_InvalidSpan_InvalidSpan, kit_of i_InvalidOperation t_InvalidOperation s_InvalidSpan_InvalidOperation s_InvalidSpan_InvalidSpan, kit_of i_InvalidCommand t_InvalidCommand s_InvalidSpan_InvalidCommand s_InvalidSpan_InvalidSpan, trivial⟩, by decide +kernel⟩, kit_ty (by decide) v_InvalidSpan, by decide +kernel, by decide +kernel, by decide +kernel, PySem.W.exm_ref b_LogError d_LogError t_LogError l_InvalidSpan⟩
  have XInvalidNumber : XF K mg "InvalidNumber" CInvalidNumber := ⟨PySem.W.mg_of X G n_InvalidNumber, k_InvalidNumber, q_InvalidNumber, b_InvalidNumber, t_InvalidNumber⟩
  have KInvalidNumber : CK K [CInvalidSpans, CInvalidNodes, CInvalidBounds, CInvalidText, COverBudget, CInvalidSize, CInvalidEntry, CInvalidNode, CInvalidSpan, CInvalidNumber, CInvalidHeight, CInvalidBudget, CNothing, CInvalidOperation, CInvalidCommand] CLogError CInvalidNumber "InvalidNumber" := ⟨⟨g_InvalidNumber, a_InvalidNumber, b_InvalidNumber, d_InvalidNumber, c_InvalidNumber, x_n, x_t, m_InvalidNumber⟩, ⟨[false, false, false, false, false, false, false, false, false, true, false, false, false, false, false], ⟨kit_of i_InvalidSpans t_InvalidSpans s_InvalidNumber_InvalidSpans s_InvalidNumber_InvalidNumber, kit_of i_InvalidNodes t_InvalidNodes s_InvalidNumber_InvalidNodes s_InvalidNumber_InvalidNumber, kit_of i_InvalidBounds t_InvalidBounds s_InvalidNumber_InvalidBounds s_InvalidNumber_InvalidNumber, kit_of i_InvalidText t_InvalidText s_InvalidNumber_InvalidText s_InvalidNumber_InvalidNumber, kit_of i_OverBudget t_OverBudget s_InvalidNumber_OverBudget s_InvalidNumber_InvalidNumber, kit_of i_InvalidSize t_InvalidSize s_InvalidNumber_InvalidSize s_InvalidNumber_InvalidNumber, kit_of i_InvalidEntry t_InvalidEntry s_InvalidNumber_InvalidEntry s_InvalidNumber_InvalidNumber, kit_of i_InvalidNode t_InvalidNode s_InvalidNumber_InvalidNode s_InvalidNumber_InvalidNumber, kit_of i_InvalidSpan t_InvalidSpan s_InvalidNumber_InvalidSpan s_InvalidNumber_InvalidNumber, kit_of i_InvalidNumber t_InvalidNumber s_InvalidNumber_InvalidNumber s_InvalidNumber_InvalidNumber, kit_of i_InvalidHeight t_InvalidHeight s_InvalidNumber_InvalidHeight s_InvalidNumber_InvalidNumber, kit_of i_InvalidBudget t_InvalidBudget s_InvalidNumber_InvalidBudget s_InvalidNumber_InvalidNumber, kit_of i_Nothing t_Nothing s_InvalidNumber_Nothing s_InvalidNumber_InvalidNumber, kit_of i_InvalidOperation t_InvalidOperation s_InvalidNumber_InvalidOperation s_InvalidNumber_InvalidNumber, kit_of i_InvalidCommand t_InvalidCommand s_InvalidNumber_InvalidCommand s_InvalidNumber_InvalidNumber, trivial⟩, by decide +kernel⟩, kit_ty (by decide) v_InvalidNumber, by decide +kernel, by decide +kernel, by decide +kernel, PySem.W.exm_ref b_LogError d_LogError t_LogError l_InvalidNumber⟩
  have GIsWholeV := ok_is_wholeV (P := l.prog) (w := w) (base := base) FIsWhole z_isinstance z_int z_bool
  have GIsWhole := ok_is_whole (P := l.prog) (w := w) (base := base) FIsWhole z_isinstance z_int z_bool
  have GIsBetweenV := ok_is_betweenV FIsBetween GIsWholeV AIsWhole
  have GIsBetween := ok_is_between FIsBetween GIsWhole AIsWhole
  have GIsTreeNode := ok_is_tree_node FIsTreeNode GIsBetween AIsBetween z_isinstance z_tuple z_len
  have GCheckSize := ok_check_size FCheckSize GIsBetween AIsBetween g_MOST_ENTRIES
  have GCheckEntry := ok_check_entry FCheckEntry GIsBetween AIsBetween
  have GCheckSpan := ok_check_span FCheckSpan GIsBetween AIsBetween
  have GCheckNode := ok_check_node FCheckNode GIsTreeNode AIsTreeNode
  have GCheckNumber := ok_check_number FCheckNumber GIsWhole AIsWhole
  have GPowerWithin := ok_power_within (P := l.prog) (w := w) (mg := mg) (base := base) FPowerWithin
  have GPeaks := ok_peaks FPeaks GCheckSize ACheckSize GPowerWithin APowerWithin
  have GPeakDepths := ok_peak_depths FPeakDepths GPeaks APeaks z_min z_enumerate z_len
  have GDepthsBetween := ok_depths_between FDepthsBetween GPeakDepths APeakDepths z_min z_max
  have GDepthSum := ok_depth_sum FDepthSum GCheckSize ACheckSize GCheckSpan ACheckSpan GDepthsBetween ADepthsBetween z_sum
  have GDepthRange := ok_depth_range FDepthRange GCheckSize ACheckSize GCheckSpan ACheckSpan GDepthsBetween ADepthsBetween z_min z_max
  have GFirstOfDepth := ok_first_of_depth FFirstOfDepth GCheckSize ACheckSize GCheckNumber ACheckNumber GPeakDepths APeakDepths
  have GHalves := ok_halves FHalves GCheckSize ACheckSize GCheckNode ACheckNode GPowerWithin APowerWithin
  have GPath := ok_path FPath GCheckSize ACheckSize GCheckEntry ACheckEntry GHalves AHalves
  have GDepth := ok_depth FDepth GPath APath z_len
  have GNextEnd := ok_next_end (P := l.prog) (w := w) (mg := mg) (base := base) FNextEnd
  have GSizesWith := ok_sizes_with FSizesWith GCheckEntry ACheckEntry GCheckNumber ACheckNumber GCheckSize ACheckSize GDepth ADepth GNextEnd ANextEnd g_MOST_ENTRIES z_min
  have YCheckSize := okX_check_size FCheckSize XInvalidSize GIsBetweenV AIsBetween g_MOST_ENTRIES
  have YCheckEntry := okX_check_entry FCheckEntry XInvalidEntry GIsBetweenV AIsBetween
  have YCheckSpan := okX_check_span FCheckSpan XInvalidSpan GIsBetweenV AIsBetween
  have YCheckNumber := okX_check_number FCheckNumber XInvalidNumber GIsWholeV AIsWhole
  have YPath := okX_path FPath YCheckSize ACheckSize YCheckEntry ACheckEntry GHalves AHalves
  have YDepth := okX_depth FDepth YPath APath z_len
  have YFirstOfDepth := okX_first_of_depth FFirstOfDepth YCheckSize ACheckSize YCheckNumber ACheckNumber GPeakDepths APeakDepths
  have YDepthSum := okX_depth_sum FDepthSum YCheckSize ACheckSize YCheckSpan ACheckSpan GDepthsBetween ADepthsBetween z_sum
  have YDepthRange := okX_depth_range FDepthRange YCheckSize ACheckSize YCheckSpan ACheckSpan GDepthsBetween ADepthsBetween z_min z_max
  have YSizesWith := okX_sizes_with FSizesWith YCheckEntry ACheckEntry YCheckNumber ACheckNumber YCheckSize ACheckSize GDepth ADepth GNextEnd ANextEnd g_MOST_ENTRIES z_min
  have GLawBag := ok_law_bag (P := l.prog) (w := w) (base := base) FLawBag z_max
  have GLawPick := ok_law_pick (P := l.prog) (w := w) (base := base) FLawPick z_int
  have GLawSize := ok_law_size FLawSize GLawPick ALawPick z_max z_min
  have GLawClass := ok_law_class (P := l.prog) (w := w) (base := base) FLawClass GInvalidSpans GInvalidNodes GInvalidBounds GInvalidText GOverBudget GInvalidSize GInvalidEntry GInvalidNode GInvalidSpan GInvalidNumber GInvalidHeight GInvalidBudget GNothing GInvalidOperation GInvalidCommand z_isinstance z_len z_repr z_ValueError
  have GLawBadIntegers := ok_law_bad_integers (P := l.prog) (w := w) (mg := mg) (base := base) FLawBadIntegers
  have GLawTold := ok_law_told FLawTold GLogError KInvalidSize KInvalidEntry KInvalidSpan KInvalidNumber (both (toX GDepth) YDepth) ADepth (both (toX GPath) YPath) APath (both (toX GFirstOfDepth) YFirstOfDepth) AFirstOfDepth (both (toX GDepthSum) YDepthSum) ADepthSum (both (toX GDepthRange) YDepthRange) ADepthRange (both (toX GSizesWith) YSizesWith) ASizesWith GLawClass ALawClass
  have GLawSizesRight := ok_law_sizes_right FLawSizesRight GLawBadIntegers ALawBadIntegers GLawTold ALawTold
  have GLawRight := ok_law_right FLawRight GLawSize ALawSize GLawPick ALawPick GLawBadIntegers ALawBadIntegers GLawTold ALawTold GLawSizesRight ALawSizesRight z_range
  exact ok_law FLaw GLawBag ALawBag GLawRight ALawRight
end LT
open PySem PySem.W PyProof.Rows
set_option maxRecDepth 100000 in
set_option maxHeartbeats 0 in
theorem PySem.Challenge.cw_logtrees_k09_errors_of_depths_holds : PySem.Challenge.rw_logtrees_k09_errors_of_depths.Holds := by
  w_on; o_law; k_head; (case hw => w_witness2)
  k_fill
  refine L2.walk_of (l := PySem.Challenge.rw_logtrees_k09_errors_of_depths) (n := 63) (k := 12) (x := "script") (CX := fun _ => L2.CX0) (sp := fun w => LT.spLaw _) rfl (by decide) rfl ⟨rfl, by decide, by decide⟩ (fun w h Y => PySem.W.kIn_of Y) ?F (fun _ _ a ns hl _ hS => ⟨a, ns, rfl, hS, hl, fun _ => rfl⟩) (fun _ _ _ _ _ h => h)
  case F =>
    intro w mg fa h KX G hmg
    refine' LT.all_mk KX G hmg ?a0 ?l0 ?c0 ?k0 ?a1 ?l1 ?c1 ?k1 ?a2 ?l2 ?c2 ?k2 ?a3 ?l3 ?c3 ?k3 ?a4 ?l4 ?c4 ?k4 ?a5 ?l5 ?c5 ?k5 ?a6 ?l6 ?c6 ?k6 ?a7 ?l7 ?c7 ?k7 ?a8 ?l8 ?c8 ?k8 ?a9 ?l9 ?c9 ?k9 ?a10 ?l10 ?c10 ?k10 ?a11 ?l11 ?c11 ?k11 ?a12 ?l12 ?c12 ?k12 ?a13 ?l13 ?c13 ?k13 ?a14 ?l14 ?c14 ?k14 ?a15 ?l15 ?c15 ?k15 ?a16 ?l16 ?c16 ?k16 ?a17 ?l17 ?c17 ?k17 ?a18 ?l18 ?c18 ?k18 ?a19 ?l19 ?c19 ?k19 ?a20 ?l20 ?c20 ?k20 ?a21 ?l21 ?c21 ?k21 ?a22 ?l22 ?c22 ?k22 ?a23 ?l23 ?c23 ?k23 ?a24 ?l24 ?c24 ?k24 ?a25 ?l25 ?c25 ?k25 ?a26 ?l26 ?c26 ?k26 ?a27 ?l27 ?c27 ?k27 ?a28 ?l28 ?c28 ?k28 ?z_ValueError ?z_bool ?z_enumerate ?z_int ?z_isinstance ?z_len ?z_max ?z_min ?z_range ?z_repr ?z_sum ?z_tuple ?g_MOST_ENTRIES ?n_InvalidSpans ?i_InvalidSpans ?t_InvalidSpans ?n_InvalidNodes ?i_InvalidNodes ?t_InvalidNodes ?n_InvalidBounds ?i_InvalidBounds ?t_InvalidBounds ?n_InvalidText ?i_InvalidText ?t_InvalidText ?n_OverBudget ?i_OverBudget ?t_OverBudget ?n_InvalidSize ?i_InvalidSize ?t_InvalidSize ?n_InvalidEntry ?i_InvalidEntry ?t_InvalidEntry ?n_InvalidNode ?i_InvalidNode ?t_InvalidNode ?n_InvalidSpan ?i_InvalidSpan ?t_InvalidSpan ?n_InvalidNumber ?i_InvalidNumber ?t_InvalidNumber ?n_InvalidHeight ?i_InvalidHeight ?t_InvalidHeight ?n_InvalidBudget ?i_InvalidBudget ?t_InvalidBudget ?n_Nothing ?i_Nothing ?t_Nothing ?n_InvalidOperation ?i_InvalidOperation ?t_InvalidOperation ?n_InvalidCommand ?i_InvalidCommand ?t_InvalidCommand ?n_LogError ?i_LogError ?t_LogError ?b_LogError ?d_LogError ?x_n ?x_t ?k_InvalidSize ?q_InvalidSize ?b_InvalidSize ?g_InvalidSize ?a_InvalidSize ?d_InvalidSize ?c_InvalidSize ?m_InvalidSize ?v_InvalidSize ?l_InvalidSize ?s_InvalidSize_InvalidSpans ?s_InvalidSize_InvalidNodes ?s_InvalidSize_InvalidBounds ?s_InvalidSize_InvalidText ?s_InvalidSize_OverBudget ?s_InvalidSize_InvalidSize ?s_InvalidSize_InvalidEntry ?s_InvalidSize_InvalidNode ?s_InvalidSize_InvalidSpan ?s_InvalidSize_InvalidNumber ?s_InvalidSize_InvalidHeight ?s_InvalidSize_InvalidBudget ?s_InvalidSize_Nothing ?s_InvalidSize_InvalidOperation ?s_InvalidSize_InvalidCommand ?k_InvalidEntry ?q_InvalidEntry ?b_InvalidEntry ?g_InvalidEntry ?a_InvalidEntry ?d_InvalidEntry ?c_InvalidEntry ?m_InvalidEntry ?v_InvalidEntry ?l_InvalidEntry ?s_InvalidEntry_InvalidSpans ?s_InvalidEntry_InvalidNodes ?s_InvalidEntry_InvalidBounds ?s_InvalidEntry_InvalidText ?s_InvalidEntry_OverBudget ?s_InvalidEntry_InvalidSize ?s_InvalidEntry_InvalidEntry ?s_InvalidEntry_InvalidNode ?s_InvalidEntry_InvalidSpan ?s_InvalidEntry_InvalidNumber ?s_InvalidEntry_InvalidHeight ?s_InvalidEntry_InvalidBudget ?s_InvalidEntry_Nothing ?s_InvalidEntry_InvalidOperation ?s_InvalidEntry_InvalidCommand ?k_InvalidSpan ?q_InvalidSpan ?b_InvalidSpan ?g_InvalidSpan ?a_InvalidSpan ?d_InvalidSpan ?c_InvalidSpan ?m_InvalidSpan ?v_InvalidSpan ?l_InvalidSpan ?s_InvalidSpan_InvalidSpans ?s_InvalidSpan_InvalidNodes ?s_InvalidSpan_InvalidBounds ?s_InvalidSpan_InvalidText ?s_InvalidSpan_OverBudget ?s_InvalidSpan_InvalidSize ?s_InvalidSpan_InvalidEntry ?s_InvalidSpan_InvalidNode ?s_InvalidSpan_InvalidSpan ?s_InvalidSpan_InvalidNumber ?s_InvalidSpan_InvalidHeight ?s_InvalidSpan_InvalidBudget ?s_InvalidSpan_Nothing ?s_InvalidSpan_InvalidOperation ?s_InvalidSpan_InvalidCommand ?k_InvalidNumber ?q_InvalidNumber ?b_InvalidNumber ?g_InvalidNumber ?a_InvalidNumber ?d_InvalidNumber ?c_InvalidNumber ?m_InvalidNumber ?v_InvalidNumber ?l_InvalidNumber ?s_InvalidNumber_InvalidSpans ?s_InvalidNumber_InvalidNodes ?s_InvalidNumber_InvalidBounds ?s_InvalidNumber_InvalidText ?s_InvalidNumber_OverBudget ?s_InvalidNumber_InvalidSize ?s_InvalidNumber_InvalidEntry ?s_InvalidNumber_InvalidNode ?s_InvalidNumber_InvalidSpan ?s_InvalidNumber_InvalidNumber ?s_InvalidNumber_InvalidHeight ?s_InvalidNumber_InvalidBudget ?s_InvalidNumber_Nothing ?s_InvalidNumber_InvalidOperation ?s_InvalidNumber_InvalidCommand
    (case a0 => k_is)
    (case l0 => k_is)
    (case c0 => k_is)
    (case k0 => k_is)
    (case a1 => k_is)
    (case l1 => k_is)
    (case c1 => k_is)
    (case k1 => k_is)
    (case a2 => k_is)
    (case l2 => k_is)
    (case c2 => k_is)
    (case k2 => k_is)
    (case a3 => k_is)
    (case l3 => k_is)
    (case c3 => k_is)
    (case k3 => k_is)
    (case a4 => k_is)
    (case l4 => k_is)
    (case c4 => k_is)
    (case k4 => k_is)
    (case a5 => k_is)
    (case l5 => k_is)
    (case c5 => k_is)
    (case k5 => k_is)
    (case a6 => k_is)
    (case l6 => k_is)
    (case c6 => k_is)
    (case k6 => k_is)
    (case a7 => k_is)
    (case l7 => k_is)
    (case c7 => k_is)
    (case k7 => k_is)
    (case a8 => k_is)
    (case l8 => k_is)
    (case c8 => k_is)
    (case k8 => k_is)
    (case a9 => k_is)
    (case l9 => k_is)
    (case c9 => k_is)
    (case k9 => k_is)
    (case a10 => k_is)
    (case l10 => k_is)
    (case c10 => k_is)
    (case k10 => k_is)
    (case a11 => k_is)
    (case l11 => k_is)
    (case c11 => k_is)
    (case k11 => k_is)
    (case a12 => k_is)
    (case l12 => k_is)
    (case c12 => k_is)
    (case k12 => k_is)
    (case a13 => k_is)
    (case l13 => k_is)
    (case c13 => k_is)
    (case k13 => k_is)
    (case a14 => k_is)
    (case l14 => k_is)
    (case c14 => k_is)
    (case k14 => k_is)
    (case a15 => k_is)
    (case l15 => k_is)
    (case c15 => k_is)
    (case k15 => k_is)
    (case a16 => k_is)
    (case l16 => k_is)
    (case c16 => k_is)
    (case k16 => k_is)
    (case a17 => k_is)
    (case l17 => k_is)
    (case c17 => k_is)
    (case k17 => k_is)
    (case a18 => k_is)
    (case l18 => k_is)
    (case c18 => k_is)
    (case k18 => k_is)
    (case a19 => k_is)
    (case l19 => k_is)
    (case c19 => k_is)
    (case k19 => k_is)
    (case a20 => k_is)
    (case l20 => k_is)
    (case c20 => k_is)
    (case k20 => k_is)
    (case a21 => k_is)
    (case l21 => k_is)
    (case c21 => k_is)
    (case k21 => k_is)
    (case a22 => k_is)
    (case l22 => k_is)
    (case c22 => k_is)
    (case k22 => k_is)
    (case a23 => k_is)
    (case l23 => k_is)
    (case c23 => k_is)
    (case k23 => k_is)
    (case a24 => k_is)
    (case l24 => k_is)
    (case c24 => k_is)
    (case k24 => k_is)
    (case a25 => k_is)
    (case l25 => k_is)
    (case c25 => k_is)
    (case k25 => k_is)
    (case a26 => k_is)
    (case l26 => k_is)
    (case c26 => k_is)
    (case k26 => k_is)
    (case a27 => k_is)
    (case l27 => k_is)
    (case c27 => k_is)
    (case k27 => k_is)
    (case a28 => k_is)
    (case l28 => k_is)
    (case c28 => k_is)
    (case k28 => k_is)
    (case z_ValueError => k_is)
    (case z_bool => k_is)
    (case z_enumerate => k_is)
    (case z_int => k_is)
    (case z_isinstance => k_is)
    (case z_len => k_is)
    (case z_max => k_is)
    (case z_min => k_is)
    (case z_range => k_is)
    (case z_repr => k_is)
    (case z_sum => k_is)
    (case z_tuple => k_is)
    (case g_MOST_ENTRIES => k_is)
    (case n_InvalidSpans => k_is)
    (case i_InvalidSpans => k_is)
    (case t_InvalidSpans => k_is)
    (case n_InvalidNodes => k_is)
    (case i_InvalidNodes => k_is)
    (case t_InvalidNodes => k_is)
    (case n_InvalidBounds => k_is)
    (case i_InvalidBounds => k_is)
    (case t_InvalidBounds => k_is)
    (case n_InvalidText => k_is)
    (case i_InvalidText => k_is)
    (case t_InvalidText => k_is)
    (case n_OverBudget => k_is)
    (case i_OverBudget => k_is)
    (case t_OverBudget => k_is)
    (case n_InvalidSize => k_is)
    (case i_InvalidSize => k_is)
    (case t_InvalidSize => k_is)
    (case n_InvalidEntry => k_is)
    (case i_InvalidEntry => k_is)
    (case t_InvalidEntry => k_is)
    (case n_InvalidNode => k_is)
    (case i_InvalidNode => k_is)
    (case t_InvalidNode => k_is)
    (case n_InvalidSpan => k_is)
    (case i_InvalidSpan => k_is)
    (case t_InvalidSpan => k_is)
    (case n_InvalidNumber => k_is)
    (case i_InvalidNumber => k_is)
    (case t_InvalidNumber => k_is)
    (case n_InvalidHeight => k_is)
    (case i_InvalidHeight => k_is)
    (case t_InvalidHeight => k_is)
    (case n_InvalidBudget => k_is)
    (case i_InvalidBudget => k_is)
    (case t_InvalidBudget => k_is)
    (case n_Nothing => k_is)
    (case i_Nothing => k_is)
    (case t_Nothing => k_is)
    (case n_InvalidOperation => k_is)
    (case i_InvalidOperation => k_is)
    (case t_InvalidOperation => k_is)
    (case n_InvalidCommand => k_is)
    (case i_InvalidCommand => k_is)
    (case t_InvalidCommand => k_is)
    (case n_LogError => k_is)
    (case i_LogError => k_is)
    (case t_LogError => k_is)
    (case b_LogError => k_is)
    (case d_LogError => k_is)
    (case x_n => k_is)
    (case x_t => k_is)
    (case k_InvalidSize => k_is)
    (case q_InvalidSize => k_exc)
    (case b_InvalidSize => k_is)
    (case g_InvalidSize => k_is)
    (case a_InvalidSize => k_is)
    (case d_InvalidSize => k_is)
    (case c_InvalidSize => k_is)
    (case m_InvalidSize => k_is)
    (case v_InvalidSize => k_is)
    (case l_InvalidSize => k_is)
    (case s_InvalidSize_InvalidSpans => k_is)
    (case s_InvalidSize_InvalidNodes => k_is)
    (case s_InvalidSize_InvalidBounds => k_is)
    (case s_InvalidSize_InvalidText => k_is)
    (case s_InvalidSize_OverBudget => k_is)
    (case s_InvalidSize_InvalidSize => k_is)
    (case s_InvalidSize_InvalidEntry => k_is)
    (case s_InvalidSize_InvalidNode => k_is)
    (case s_InvalidSize_InvalidSpan => k_is)
    (case s_InvalidSize_InvalidNumber => k_is)
    (case s_InvalidSize_InvalidHeight => k_is)
    (case s_InvalidSize_InvalidBudget => k_is)
    (case s_InvalidSize_Nothing => k_is)
    (case s_InvalidSize_InvalidOperation => k_is)
    (case s_InvalidSize_InvalidCommand => k_is)
    (case k_InvalidEntry => k_is)
    (case q_InvalidEntry => k_exc)
    (case b_InvalidEntry => k_is)
    (case g_InvalidEntry => k_is)
    (case a_InvalidEntry => k_is)
    (case d_InvalidEntry => k_is)
    (case c_InvalidEntry => k_is)
    (case m_InvalidEntry => k_is)
    (case v_InvalidEntry => k_is)
    (case l_InvalidEntry => k_is)
    (case s_InvalidEntry_InvalidSpans => k_is)
    (case s_InvalidEntry_InvalidNodes => k_is)
    (case s_InvalidEntry_InvalidBounds => k_is)
    (case s_InvalidEntry_InvalidText => k_is)
    (case s_InvalidEntry_OverBudget => k_is)
    (case s_InvalidEntry_InvalidSize => k_is)
    (case s_InvalidEntry_InvalidEntry => k_is)
    (case s_InvalidEntry_InvalidNode => k_is)
    (case s_InvalidEntry_InvalidSpan => k_is)
    (case s_InvalidEntry_InvalidNumber => k_is)
    (case s_InvalidEntry_InvalidHeight => k_is)
    (case s_InvalidEntry_InvalidBudget => k_is)
    (case s_InvalidEntry_Nothing => k_is)
    (case s_InvalidEntry_InvalidOperation => k_is)
    (case s_InvalidEntry_InvalidCommand => k_is)
    (case k_InvalidSpan => k_is)
    (case q_InvalidSpan => k_exc)
    (case b_InvalidSpan => k_is)
    (case g_InvalidSpan => k_is)
    (case a_InvalidSpan => k_is)
    (case d_InvalidSpan => k_is)
    (case c_InvalidSpan => k_is)
    (case m_InvalidSpan => k_is)
    (case v_InvalidSpan => k_is)
    (case l_InvalidSpan => k_is)
    (case s_InvalidSpan_InvalidSpans => k_is)
    (case s_InvalidSpan_InvalidNodes => k_is)
    (case s_InvalidSpan_InvalidBounds => k_is)
    (case s_InvalidSpan_InvalidText => k_is)
    (case s_InvalidSpan_OverBudget => k_is)
    (case s_InvalidSpan_InvalidSize => k_is)
    (case s_InvalidSpan_InvalidEntry => k_is)
    (case s_InvalidSpan_InvalidNode => k_is)
    (case s_InvalidSpan_InvalidSpan => k_is)
    (case s_InvalidSpan_InvalidNumber => k_is)
    (case s_InvalidSpan_InvalidHeight => k_is)
    (case s_InvalidSpan_InvalidBudget => k_is)
    (case s_InvalidSpan_Nothing => k_is)
    (case s_InvalidSpan_InvalidOperation => k_is)
    (case s_InvalidSpan_InvalidCommand => k_is)
    (case k_InvalidNumber => k_is)
    (case q_InvalidNumber => k_exc)
    (case b_InvalidNumber => k_is)
    (case g_InvalidNumber => k_is)
    (case a_InvalidNumber => k_is)
    (case d_InvalidNumber => k_is)
    (case c_InvalidNumber => k_is)
    (case m_InvalidNumber => k_is)
    (case v_InvalidNumber => k_is)
    (case l_InvalidNumber => k_is)
    (case s_InvalidNumber_InvalidSpans => k_is)
    (case s_InvalidNumber_InvalidNodes => k_is)
    (case s_InvalidNumber_InvalidBounds => k_is)
    (case s_InvalidNumber_InvalidText => k_is)
    (case s_InvalidNumber_OverBudget => k_is)
    (case s_InvalidNumber_InvalidSize => k_is)
    (case s_InvalidNumber_InvalidEntry => k_is)
    (case s_InvalidNumber_InvalidNode => k_is)
    (case s_InvalidNumber_InvalidSpan => k_is)
    (case s_InvalidNumber_InvalidNumber => k_is)
    (case s_InvalidNumber_InvalidHeight => k_is)
    (case s_InvalidNumber_InvalidBudget => k_is)
    (case s_InvalidNumber_Nothing => k_is)
    (case s_InvalidNumber_InvalidOperation => k_is)
    (case s_InvalidNumber_InvalidCommand => k_is)
