import PyProof.Rows.All
import Wide.All
import OpenK.AllK
import Wide.FinOn
import HandS.ForMost
import HandS.Wide
import HandS.WideBits
import HandS.IsInst
import HandS.Style
import HandS.Deep
import HandS.RaiseMore
import HandS.Conv
import HandS.Flow
import HandS.SortRule
import PyProof.ReprRoads
import PyProof.Rows.NestShow
import PySem.Challenge.RW_logtrees_k05_depths_and_paths_by_built_t
set_option Elab.async false
set_option linter.all false
set_option maxRecDepth 100000
set_option maxHeartbeats 4000000
namespace LT
/-- the greatest power of two less than m (m from 2) -/
def gp (m : Nat) : Nat := 2 ^ Nat.log2 (m - 1)
theorem gp_pos (m : Nat) : 0 < gp m := Nat.pow_pos (by decide)
theorem gp_lt {m : Nat} (h : 2 ≤ m) : gp m < m := by
  have := Nat.log2_self_le (n := m - 1) (by omega)
  unfold gp; omega
theorem gp_ge {m : Nat} (h : 2 ≤ m) : m ≤ 2 * gp m := by
  have := Nat.lt_log2_self (n := m - 1)
  unfold gp; rw [Nat.pow_succ] at this; omega
theorem pow_eq_of {i j : Nat} {m : Nat} (h1 : 2 ^ i < m) (h2 : m ≤ 2 * 2 ^ i) (h3 : 2 ^ j < m) (h4 : m ≤ 2 * 2 ^ j) : i = j := by
  have a : 2 ^ i < 2 ^ (j + 1) := by rw [Nat.pow_succ]; omega
  have b : 2 ^ j < 2 ^ (i + 1) := by rw [Nat.pow_succ]; omega
  have a' := (Nat.pow_lt_pow_iff_right (by decide : 1 < 2)).mp a
  have b' := (Nat.pow_lt_pow_iff_right (by decide : 1 < 2)).mp b
  omega
theorem gp_eq {i m : Nat} (h1 : 2 ^ i < m) (h2 : m ≤ 2 * 2 ^ i) : gp m = 2 ^ i := by
  have h : 2 ≤ m := by have := Nat.pow_pos (a := 2) (n := i) (by decide); omega
  have := pow_eq_of (gp_lt h) (gp_ge h) h1 h2
  unfold gp; rw [this]
theorem gp_pow (i : Nat) : gp (2 ^ (i + 1)) = 2 ^ i := gp_eq (by rw [Nat.pow_succ]; have := Nat.pow_pos (a := 2) (n := i) (by decide); omega) (by rw [Nat.pow_succ]; omega)

/-- siblings from the root's half down to the leaf's: nodes as (begin, length-end) pairs -/
def sib (b m e : Nat) : List (Nat × Nat) :=
  if h : m ≤ 1 then [] else
    if e < b + gp m then (b + gp m, b + m) :: sib b (gp m) e
    else (b, b + gp m) :: sib (b + gp m) (m - gp m) e
termination_by m
decreasing_by
  · exact gp_lt (by omega)
  · have := gp_pos m; omega
theorem sib_one {b m e : Nat} (h : m ≤ 1) : sib b m e = [] := by rw [sib]; simp [h]
theorem sib_low {b m e : Nat} (h : 2 ≤ m) (k : e < b + gp m) : sib b m e = (b + gp m, b + m) :: sib b (gp m) e := by
  rw [sib]; rw [dif_neg (by omega), if_pos k]
theorem sib_high {b m e : Nat} (h : 2 ≤ m) (k : ¬ e < b + gp m) : sib b m e = (b, b + gp m) :: sib (b + gp m) (m - gp m) e := by
  rw [sib]; rw [dif_neg (by omega), if_neg k]

/-! ### joining up again -/
def join (x y : Nat × Nat) : Nat × Nat := (min x.1 y.1, max x.2 y.2)
/-- the halves of a node -/
def halv (x : Nat × Nat) : (Nat × Nat) × (Nat × Nat) := ((x.1, x.1 + gp (x.2 - x.1)), (x.1 + gp (x.2 - x.1), x.2))
def ok1 (x y : Nat × Nat) : Prop := (join x y).1 + 2 ≤ (join x y).2 ∧ (halv (join x y) = (x, y) ∨ halv (join x y) = (y, x))
def oks : Nat × Nat → List (Nat × Nat) → Prop
  | _, [] => True
  | x, y :: r => ok1 x y ∧ oks (join x y) r
def top : Nat × Nat → List (Nat × Nat) → Nat × Nat
  | x, [] => x
  | x, y :: r => top (join x y) r
theorem oks_append : ∀ (x : Nat × Nat) (l r : List (Nat × Nat)), oks x l → oks (top x l) r → oks x (l ++ r)
  | _, [], _, _, h => h
  | x, y :: l, r, h1, h2 => ⟨h1.1, oks_append (join x y) l r h1.2 h2⟩
theorem top_append : ∀ (x : Nat × Nat) (l r : List (Nat × Nat)), top x (l ++ r) = top (top x l) r
  | _, [], _ => rfl
  | x, y :: l, r => top_append (join x y) l r
theorem sib_up : ∀ (m b e : Nat), b ≤ e → e < b + m → oks (e, e + 1) (sib b m e).reverse ∧ top (e, e + 1) (sib b m e).reverse = (b, b + m) := by
  intro m
  induction m using Nat.strongRecOn with
  | ind m ih =>
    intro b e h1 h2
    by_cases hm : m ≤ 1
    · have : m = 1 := by omega
      subst this
      rw [sib_one (by omega)]
      have : e = b := by omega
      subst this
      exact ⟨True.intro, rfl⟩
    · have g1 := gp_lt (m := m) (by omega)
      have g2 := gp_pos m
      by_cases k : e < b + gp m
      · rw [sib_low (by omega) k, List.reverse_cons]
        obtain ⟨p, q⟩ := ih (gp m) g1 b e h1 k
        have j : join (b, b + gp m) (b + gp m, b + m) = (b, b + m) := by
          unfold join; simp only []; rw [Nat.min_eq_left (by omega), Nat.max_eq_right (by omega)]
        refine ⟨oks_append _ _ _ p ?_, ?_⟩
        · rw [q]
          refine ⟨⟨?_, .inl ?_⟩, True.intro⟩
          · rw [j]; simp only []; omega
          · rw [j]; unfold halv; simp only []; rw [Nat.add_sub_cancel_left]
        · rw [top_append, q]; exact j
      · rw [sib_high (by omega) k, List.reverse_cons]
        obtain ⟨p, q⟩ := ih (m - gp m) (by omega) (b + gp m) e (by omega) (by omega)
        have e2 : b + gp m + (m - gp m) = b + m := by omega
        rw [e2] at q
        have j : join (b + gp m, b + m) (b, b + gp m) = (b, b + m) := by
          unfold join; simp only []; rw [Nat.min_eq_right (by omega), Nat.max_eq_left (by omega)]
        refine ⟨oks_append _ _ _ p ?_, ?_⟩
        · rw [q]
          refine ⟨⟨?_, .inr ?_⟩, True.intro⟩
          · rw [j]; simp only []; omega
          · rw [j]; unfold halv; simp only []; rw [Nat.add_sub_cancel_left]
        · rw [top_append, q]; exact j
theorem sib_len_pow (i : Nat) : ∀ (b e : Nat), b ≤ e → e < b + 2 ^ i → (sib b (2 ^ i) e).length = i := by
  induction i with
  | zero => intro b e h1 h2; rw [sib_one (by simp)]; rfl
  | succ i ih =>
    intro b e h1 h2
    have h3 : 2 ≤ 2 ^ (i + 1) := by rw [Nat.pow_succ]; have := Nat.pow_pos (a := 2) (n := i) (by decide); omega
    have g := gp_pow i
    have e2 : 2 ^ (i + 1) - 2 ^ i = 2 ^ i := by rw [Nat.pow_succ]; omega
    by_cases k : e < b + gp (2 ^ (i + 1))
    · rw [sib_low h3 k, List.length_cons, g, ih b e h1 (by omega)]
    · rw [sib_high h3 k, List.length_cons, g, e2, ih (b + 2 ^ i) e (by omega) (by rw [Nat.pow_succ] at h2; omega)]
/-! ### the peaks by digits: (begin, height) -/
def pk : Nat → Nat → Nat → List (Nat × Nat)
  | 0, _, _ => []
  | i + 1, n, b => if n.testBit i then (b, i) :: pk i n (b + 2 ^ i) else pk i n b
theorem mod_succ (n i : Nat) : n % 2 ^ (i + 1) = (if n.testBit i then 2 ^ i else 0) + n % 2 ^ i := by
  rw [Nat.mod_pow_succ, Nat.testBit_eq_decide_div_mod_eq, Nat.add_comm]
  have h : n / 2 ^ i % 2 = 0 ∨ n / 2 ^ i % 2 = 1 := by omega
  rcases h with h | h <;> rw [h] <;> simp
theorem pk_nil : ∀ (i n b : Nat), n % 2 ^ i = 0 → pk i n b = []
  | 0, _, _, _ => rfl
  | i + 1, n, b, h => by
    rw [mod_succ] at h
    have p := Nat.pow_pos (a := 2) (n := i) (by decide)
    unfold pk
    cases t : n.testBit i with
    | true => rw [t] at h; simp at h
    | false => rw [t] at h; simp at h; simp; exact pk_nil i n b h
theorem pk_ne : ∀ (i n b : Nat), n % 2 ^ i ≠ 0 → pk i n b ≠ []
  | 0, _, _, h => by simp [Nat.mod_one] at h
  | i + 1, n, b, h => by
    rw [mod_succ] at h
    unfold pk
    cases t : n.testBit i with
    | true => simp
    | false => rw [t] at h; simp at h; simp; exact pk_ne i n b (by omega)
theorem pk_begin : ∀ (i n b : Nat) (x : Nat × Nat), x ∈ pk i n b → b ≤ x.1 ∧ x.2 < i
  | 0, _, _, _, h => by simp [pk] at h
  | i + 1, n, b, x, h => by
    unfold pk at h
    cases t : n.testBit i with
    | true =>
      rw [t] at h; simp at h
      rcases h with h | h
      · subst h; exact ⟨Nat.le_refl _, Nat.lt_succ_self _⟩
      · have := pk_begin i n _ x h; have p := Nat.pow_pos (a := 2) (n := i) (by decide); omega
    | false =>
      rw [t] at h; simp at h
      have := pk_begin i n _ x h; omega
/-- what the law says of the levels: s the place of the first row, of t rows in all -/
def lev (t : Nat) : Nat → List (Nat × Nat) → List (Nat × Nat × Nat)
  | _, [] => []
  | s, x :: r => (x.1, x.1 + 2 ^ x.2, x.2 + min (s + 1) (t - 1)) :: lev t (s + 1) r
def due (e : Nat) (l : List (Nat × Nat × Nat)) : List Nat := (l.filter fun x => decide (x.1 ≤ e) && decide (e < x.2.1)).map fun x => x.2.2
theorem due_none (t e : Nat) : ∀ (l : List (Nat × Nat)) (s : Nat), (∀ x ∈ l, e < x.1) → due e (lev t s l) = []
  | [], _, _ => rfl
  | x :: r, s, h => by
    have h1 := h x (List.mem_cons_self)
    have ih := due_none t e r (s + 1) fun y hy => h y (List.mem_cons_of_mem _ hy)
    show List.map _ (List.filter _ ((x.1, x.1 + 2 ^ x.2, x.2 + min (s + 1) (t - 1)) :: lev t (s + 1) r)) = []
    rw [List.filter_cons, if_neg (by simp; omega)]
    exact ih
theorem due_is (n e : Nat) : ∀ (i b s : Nat), b ≤ e → e < b + n % 2 ^ i → due e (lev (s + (pk i n b).length) s (pk i n b)) = [(sib b (n % 2 ^ i) e).length + min s (s + (pk i n b).length - 1)] := by
  intro i
  induction i with
  | zero => intro b s h1 h2; simp [Nat.mod_one] at h2; omega
  | succ i ih =>
    intro b s h1 h2
    have p := Nat.pow_pos (a := 2) (n := i) (by decide)
    have ml := Nat.mod_lt n p
    cases t : n.testBit i with
    | false =>
      have e1 : n % 2 ^ (i + 1) = n % 2 ^ i := by rw [mod_succ, t]; simp
      have e2 : pk (i + 1) n b = pk i n b := by show (if n.testBit i = true then _ else _) = _; rw [t]; simp
      rw [e1] at h2
      rw [e1, e2]; exact ih b s h1 h2
    | true =>
      have e1 : n % 2 ^ (i + 1) = 2 ^ i + n % 2 ^ i := by rw [mod_succ, t]; simp
      have e2 : pk (i + 1) n b = (b, i) :: pk i n (b + 2 ^ i) := by show (if n.testBit i = true then _ else _) = _; rw [t]; simp
      rw [e1] at h2
      rw [e1, e2, List.length_cons]
      by_cases r0 : n % 2 ^ i = 0
      · rw [pk_nil i n _ r0, r0]
        rw [r0] at h2
        rw [Nat.add_zero] at h2
        rw [Nat.add_zero (2 ^ i), sib_len_pow i b e h1 h2]
        show List.map _ (List.filter _ [(b, b + 2 ^ i, i + min (s + 1) (s + (0 + 1) - 1))]) = _
        rw [List.filter_cons, if_pos (by simp; omega)]
        simp
      · have hne : 1 ≤ (pk i n (b + 2 ^ i)).length := by
          have := pk_ne i n (b + 2 ^ i) r0
          cases hh : pk i n (b + 2 ^ i) with
          | nil => exact absurd hh this
          | cons _ _ => rw [List.length_cons]; omega
        have g : gp (2 ^ i + n % 2 ^ i) = 2 ^ i := gp_eq (by omega) (by omega)
        by_cases k : e < b + 2 ^ i
        · rw [sib_low (by omega) (by rw [g]; exact k), g, List.length_cons, sib_len_pow i b e h1 k]
          have d := due_none (s + ((pk i n (b + 2 ^ i)).length + 1)) e (pk i n (b + 2 ^ i)) (s + 1) fun x hx => by have := pk_begin _ _ _ x hx; omega
          show List.map _ (List.filter _ ((b, b + 2 ^ i, i + min (s + 1) (s + ((pk i n (b + 2 ^ i)).length + 1) - 1)) :: lev (s + ((pk i n (b + 2 ^ i)).length + 1)) (s + 1) (pk i n (b + 2 ^ i)))) = _
          rw [List.filter_cons, if_pos (by simp; omega), List.map_cons]
          have d' : List.map (fun x => x.2.2) (List.filter (fun x => decide (x.1 ≤ e) && decide (e < x.2.1)) (lev (s + ((pk i n (b + 2 ^ i)).length + 1)) (s + 1) (pk i n (b + 2 ^ i)))) = [] := d
          rw [d']
          simp
          omega
        · rw [sib_high (by omega) (by rw [g]; exact k), g, List.length_cons, Nat.add_sub_cancel_left]
          have q := ih (b + 2 ^ i) (s + 1) (by omega) (by omega)
          have e3 : s + 1 + (pk i n (b + 2 ^ i)).length = s + ((pk i n (b + 2 ^ i)).length + 1) := by omega
          rw [e3] at q
          show List.map _ (List.filter _ ((b, b + 2 ^ i, i + min (s + 1) (s + ((pk i n (b + 2 ^ i)).length + 1) - 1)) :: lev (s + ((pk i n (b + 2 ^ i)).length + 1)) (s + 1) (pk i n (b + 2 ^ i)))) = _
          rw [List.filter_cons, if_neg (by simp; omega)]
          refine Eq.trans q ?_
          congr 1
          omega
/-! ### which pairs are nodes -/
/-- the bits of m - 1 -/
def lb (m : Nat) : Nat := if m ≤ 1 then 0 else Nat.log2 (m - 1) + 1
theorem lb_le {x i : Nat} (h : x ≤ 2 ^ i) : lb x ≤ i := by
  unfold lb
  by_cases k : x ≤ 1
  · rw [if_pos k]; omega
  · rw [if_neg k]
    have h1 := Nat.log2_self_le (n := x - 1) (by omega)
    have h2 : 2 ^ Nat.log2 (x - 1) < 2 ^ i := by omega
    exact (Nat.pow_lt_pow_iff_right (by decide : 1 < 2)).mp h2
theorem lb_ge (x : Nat) : x ≤ 2 ^ lb x := by
  unfold lb
  by_cases k : x ≤ 1
  · rw [if_pos k]; omega
  · rw [if_neg k]
    have := Nat.lt_log2_self (n := x - 1)
    omega
theorem lb_pow (i : Nat) : lb (2 ^ i) = i := by
  have h1 := lb_le (Nat.le_refl (2 ^ i))
  have h2 := (Nat.pow_le_pow_iff_right (by decide : 1 < 2)).mp (lb_ge (2 ^ i))
  omega
theorem lb_gp {m : Nat} (h : 2 ≤ m) : 2 ^ lb m = 2 * gp m := by
  unfold lb gp; rw [if_neg (by omega), Nat.pow_succ]; omega
def tree (n b m : Nat) : Prop := 2 ^ lb m ∣ b ∧ (m = 2 ^ lb m ∨ b + m = n)
theorem tree_root (n : Nat) : tree n 0 n := ⟨Nat.dvd_zero _, .inr (Nat.zero_add _)⟩
theorem tree_low {n b m : Nat} (h : 2 ≤ m) (t : tree n b m) : tree n b (gp m) := by
  obtain ⟨d, _⟩ := t
  rw [lb_gp h] at d
  have e : 2 ^ lb (gp m) = gp m := by unfold gp; rw [lb_pow]
  exact ⟨by rw [e]; exact Nat.dvd_trans (Nat.dvd_mul_left _ _) d, .inl e.symm⟩
theorem tree_high {n b m : Nat} (h : 2 ≤ m) (t : tree n b m) : tree n (b + gp m) (m - gp m) := by
  obtain ⟨d, k⟩ := t
  rw [lb_gp h] at d k
  have g1 := gp_lt h
  have g2 := gp_ge h
  have dg : 2 ^ lb (m - gp m) ∣ gp m := by
    have : lb (m - gp m) ≤ Nat.log2 (m - 1) := lb_le (by unfold gp at g1 g2 ⊢; omega)
    exact Nat.pow_dvd_pow 2 this
  refine ⟨Nat.dvd_add (Nat.dvd_trans dg (Nat.dvd_trans (Nat.dvd_mul_left _ _) d)) dg, ?_⟩
  rcases k with k | k
  · left
    have e : m - gp m = gp m := by omega
    rw [e]
    unfold gp; rw [lb_pow]
  · right; omega
theorem sib_len_le : ∀ (m b e : Nat), b ≤ e → e < b + m → (sib b m e).length ≤ lb m := by
  intro m
  induction m using Nat.strongRecOn with
  | ind m ih =>
    intro b e h1 h2
    by_cases hm : m ≤ 1
    · rw [sib_one hm]; exact Nat.zero_le _
    · have g1 := gp_lt (m := m) (by omega)
      have g2 := gp_ge (m := m) (by omega)
      have g3 := gp_pos m
      have e1 : lb m = Nat.log2 (m - 1) + 1 := by unfold lb; rw [if_neg hm]
      by_cases k : e < b + gp m
      · rw [sib_low (by omega) k, List.length_cons]
        have := ih (gp m) g1 b e h1 k
        have e2 : lb (gp m) = Nat.log2 (m - 1) := by unfold gp; rw [lb_pow]
        omega
      · rw [sib_high (by omega) k, List.length_cons]
        have := ih (m - gp m) (by omega) (b + gp m) e (by omega) (by omega)
        have e2 : lb (m - gp m) ≤ Nat.log2 (m - 1) := lb_le (by unfold gp at g1 g2 ⊢; omega)
        omega
end LT
namespace LT
open PySem PySem.Spec PyProof.Rows L2
def topS (i : Nat) : Stmt := PySem.Challenge.pw_logtrees_k05_depths_and_paths_by_built_t.main.body.getD i (.Pass ⟨0, 0, 0, 0⟩)
abbrev sIsWhole : Stmt := topS 9
theorem scIsWhole : FnScope ["value"] ["value"] (defScope sIsWhole) := ⟨rfl, rfl, rfl, by decide +kernel, rfl, by decide +kernel, by decide +kernel⟩
abbrev sIsBetween : Stmt := topS 10
theorem scIsBetween : FnScope ["value", "low", "high"] ["value", "low", "high"] (defScope sIsBetween) := ⟨rfl, rfl, rfl, by decide +kernel, rfl, by decide +kernel, by decide +kernel⟩
abbrev sIsTreeNode : Stmt := topS 11
theorem scIsTreeNode : FnScope ["size", "value", "begin", "end", "room"] ["size", "value"] (defScope sIsTreeNode) := ⟨rfl, rfl, rfl, by decide +kernel, rfl, by decide +kernel, by decide +kernel⟩
abbrev sCheckSize : Stmt := topS 12
theorem scCheckSize : FnScope ["size"] ["size"] (defScope sCheckSize) := ⟨rfl, rfl, rfl, by decide +kernel, rfl, by decide +kernel, by decide +kernel⟩
abbrev sCheckEntry : Stmt := topS 13
theorem scCheckEntry : FnScope ["size", "entry"] ["size", "entry"] (defScope sCheckEntry) := ⟨rfl, rfl, rfl, by decide +kernel, rfl, by decide +kernel, by decide +kernel⟩
abbrev sCheckNode : Stmt := topS 14
theorem scCheckNode : FnScope ["size", "node"] ["size", "node"] (defScope sCheckNode) := ⟨rfl, rfl, rfl, by decide +kernel, rfl, by decide +kernel, by decide +kernel⟩
abbrev sCheckSpan : Stmt := topS 15
theorem scCheckSpan : FnScope ["size", "begin", "end"] ["size", "begin", "end"] (defScope sCheckSpan) := ⟨rfl, rfl, rfl, by decide +kernel, rfl, by decide +kernel, by decide +kernel⟩
abbrev sCheckNumber : Stmt := topS 16
theorem scCheckNumber : FnScope ["number"] ["number"] (defScope sCheckNumber) := ⟨rfl, rfl, rfl, by decide +kernel, rfl, by decide +kernel, by decide +kernel⟩
abbrev sPowerWithin : Stmt := topS 18
theorem scPowerWithin : FnScope ["number"] ["number"] (defScope sPowerWithin) := ⟨rfl, rfl, rfl, by decide +kernel, rfl, by decide +kernel, by decide +kernel⟩
abbrev sPeaks : Stmt := topS 19
theorem scPeaks : FnScope ["size", "found", "begin", "end"] ["size"] (defScope sPeaks) := ⟨rfl, rfl, rfl, by decide +kernel, rfl, by decide +kernel, by decide +kernel⟩
abbrev sHalves : Stmt := topS 20
theorem scHalves : FnScope ["size", "node", "begin", "end", "middle"] ["size", "node"] (defScope sHalves) := ⟨rfl, rfl, rfl, by decide +kernel, rfl, by decide +kernel, by decide +kernel⟩
abbrev sDepth : Stmt := topS 22
theorem scDepth : FnScope ["size", "entry"] ["size", "entry"] (defScope sDepth) := ⟨rfl, rfl, rfl, by decide +kernel, rfl, by decide +kernel, by decide +kernel⟩
abbrev sPath : Stmt := topS 23
theorem scPath : FnScope ["size", "entry", "siblings", "node", "low", "high"] ["size", "entry"] (defScope sPath) := ⟨rfl, rfl, rfl, by decide +kernel, rfl, by decide +kernel, by decide +kernel⟩
abbrev sPeakDepths : Stmt := topS 24
theorem scPeakDepths : FnScope ["size", "tops", "rows", "place", "begin", "end", "above"] ["size"] (defScope sPeakDepths) := ⟨rfl, rfl, rfl, by decide +kernel, rfl, by decide +kernel, by decide +kernel⟩
abbrev sDepthsBetween : Stmt := topS 25
theorem scDepthsBetween : FnScope ["size", "begin", "end", "rows", "first", "last", "deep", "count"] ["size", "begin", "end"] (defScope sDepthsBetween) := ⟨rfl, rfl, rfl, by decide +kernel, rfl, by decide +kernel, by decide +kernel⟩
abbrev sDepthSum : Stmt := topS 26
theorem scDepthSum : FnScope ["size", "begin", "end", "count", "deep"] ["size", "begin", "end"] (defScope sDepthSum) := ⟨rfl, rfl, rfl, by decide +kernel, rfl, by decide +kernel, by decide +kernel⟩
abbrev sDepthRange : Stmt := topS 27
theorem scDepthRange : FnScope ["size", "begin", "end", "found", "_", "deep"] ["size", "begin", "end"] (defScope sDepthRange) := ⟨rfl, rfl, rfl, by decide +kernel, rfl, by decide +kernel, by decide +kernel⟩
abbrev sFirstOfDepth : Stmt := topS 28
theorem scFirstOfDepth : FnScope ["size", "number", "first", "_", "deep"] ["size", "number"] (defScope sFirstOfDepth) := ⟨rfl, rfl, rfl, by decide +kernel, rfl, by decide +kernel, by decide +kernel⟩
abbrev sLawBag : Stmt := topS 30
theorem scLawBag : FnScope ["cell"] ["cell"] (defScope sLawBag) := ⟨rfl, rfl, rfl, by decide +kernel, rfl, by decide +kernel, by decide +kernel⟩
abbrev sLawPick : Stmt := topS 31
theorem scLawPick : FnScope ["bag", "many", "told", "seed", "turn", "first", "second", "drawn"] ["bag", "many"] (defScope sLawPick) := ⟨rfl, rfl, rfl, by decide +kernel, rfl, by decide +kernel, by decide +kernel⟩
abbrev sLawHalved : Stmt := topS 32
theorem scLawHalved : FnScope ["node", "begin", "end", "step"] ["node"] (defScope sLawHalved) := ⟨rfl, rfl, rfl, by decide +kernel, rfl, by decide +kernel, by decide +kernel⟩
abbrev sLawNodes : Stmt := topS 33
theorem scLawNodes : FnScope ["node", "one", "other"] ["node"] (defScope sLawNodes) := ⟨rfl, rfl, rfl, by decide +kernel, rfl, by decide +kernel, by decide +kernel⟩
abbrev sLawPath : Stmt := topS 34
theorem scLawPath : FnScope ["size", "entry", "at", "found", "one", "other", "beside"] ["size", "entry"] (defScope sLawPath) := ⟨rfl, rfl, rfl, by decide +kernel, rfl, by decide +kernel, by decide +kernel⟩
abbrev sLawRight : Stmt := topS 35
theorem scLawRight : FnScope ["bag", "size", "every", "due", "entry", "begin", "end", "told", "turn", "some", "number"] ["bag", "size"] (defScope sLawRight) := ⟨rfl, rfl, rfl, by decide +kernel, rfl, by decide +kernel, by decide +kernel⟩
abbrev sLaw : Stmt := topS 36
theorem scLaw : FnScope ["script", "cell", "bag", "turn", "told"] ["script"] (defScope sLaw) := ⟨rfl, rfl, rfl, by decide +kernel, rfl, by decide +kernel, by decide +kernel⟩
/-- a def as it stands behind the top -/
structure At (K : PySem.W.Frag) (mg : Str → Option Value) (x : Str) (f : Addr) (fd : FuncData) (ps : List Str) : Prop where
  m : mg x = some (.ref f)
  kp : PySem.W.keepIn K (.ref f) = true
  b : Binds K fd ps []
theorem units1 {k : Nat} {A : Around} (r : Room k A) : A.units + 65 < cLine := by have := r.un; omega
/-- all but b as it was -/
def But (b : Addr) (H H' : Hp) : Prop := ∀ a o, a ≠ b → H a = some o → H' a = some o
theorem But.refl (b : Addr) (H : Hp) : But b H H := fun _ _ _ h => h
theorem But.trans {b : Addr} {H H1 H2 : Hp} (x : But b H H1) (y : But b H1 H2) : But b H H2 := fun a o n h => y a o n (x a o n h)
theorem But.of {b : Addr} {H H1 : Hp} (x : Same H H1) : But b H H1 := fun a o _ h => x a o h
theorem same_upd {H : Hp} {p : Addr} {o : HO} (h : H p = none) : Same H (upd H p o) := fun b x e => by
  rw [upd_ne (ne_of_none e h)]
  exact e
def BagAt (H : Hp) (b : Addr) : Prop := ∃ x y z : Int, H b = some (.lst [.int x, .int y, .int z])
theorem BagAt.same {H H' : Hp} {b : Addr} (h : BagAt H b) (s : Same H H') : BagAt H' b := by
  obtain ⟨x, y, z, e⟩ := h
  exact ⟨x, y, z, s _ _ e⟩
/-- a pair of ints -/
def Nd (H : Hp) (v : V) (x : Nat × Nat) : Prop := ∃ p, v = .ref p ∧ H p = some (.tup [.int x.1, .int x.2])
theorem Nd.same {H H' : Hp} {v : V} {x : Nat × Nat} (h : Nd H v x) (s : Same H H') : Nd H' v x := by
  obtain ⟨p, e, q⟩ := h
  exact ⟨p, e, s _ _ q⟩
theorem Nd.dp {K : PySem.W.Frag} {H : Hp} {v : V} {x : Nat × Nat} (h : Nd H v x) : Dp K H v (.tuple [.int x.1, .int x.2]) := by
  obtain ⟨p, rfl, q⟩ := h
  exact .tup (SqT.of q) (.cons (.int _) (.cons (.int _) .nil))
theorem nd_shaped (a b : Int) : SeqAt.shaped (.tuple [.int a, .int b]) = true := by
  show (PyData.canLay0 _ && decide (PyData.depth _ ≤ 64)) = true
  simp [PyData.canLay0, PyData.canLayAll0, PyData.depth, PyData.depthAll]
theorem nd_eqv (a b c d : Int) : PyData.eqv (.tuple [.int a, .int b]) (.tuple [.int c, .int d]) = (decide (a = c) && decide (b = d)) := by
  have e : PyData.eqv (.tuple [.int a, .int b]) (.tuple [.int c, .int d]) = ((a == c) && ((b == d) && true)) := by simp only [PyData.eqv, PyData.eqvAll]
  rw [e, Bool.and_true]
  by_cases h1 : a = c <;> by_cases h2 : b = d <;> simp [h1, h2]
/-- lists of values and what they stand for -/
inductive All2 {α : Type} (R : V → α → Prop) : List V → List α → Prop
  | nil : All2 R [] []
  | cons {v : V} {x : α} {vs : List V} {xs : List α} : R v x → All2 R vs xs → All2 R (v :: vs) (x :: xs)
section
variable {α : Type} {R R' : V → α → Prop}
theorem All2.mono (f : ∀ v x, R v x → R' v x) : ∀ {vs : List V} {xs : List α}, All2 R vs xs → All2 R' vs xs
  | _, _, .nil => .nil
  | _, _, .cons h t => .cons (f _ _ h) (All2.mono f t)
theorem All2.len : ∀ {vs : List V} {xs : List α}, All2 R vs xs → vs.length = xs.length
  | _, _, .nil => rfl
  | _, _, .cons _ t => by rw [List.length_cons, List.length_cons, All2.len t]
theorem All2.app : ∀ {vs : List V} {xs : List α} {us : List V} {ys : List α}, All2 R vs xs → All2 R us ys → All2 R (vs ++ us) (xs ++ ys)
  | _, _, _, _, .nil, h => h
  | _, _, _, _, .cons h t, k => .cons h (All2.app t k)
theorem All2.rev : ∀ {vs : List V} {xs : List α}, All2 R vs xs → All2 R vs.reverse xs.reverse
  | _, _, .nil => .nil
  | _, _, .cons h t => by
    rw [List.reverse_cons, List.reverse_cons]
    exact All2.app (All2.rev t) (.cons h .nil)
theorem All2.nth : ∀ {vs : List V} {xs : List α} {i : Nat} {v : V}, All2 R vs xs → vs[i]? = some v → ∃ x, xs[i]? = some x ∧ R v x
  | _, _, _, _, .nil, h => by simp at h
  | _, _, 0, _, .cons h t, e => by
    have := Option.some.inj e
    subst this
    exact ⟨_, rfl, h⟩
  | _, _, i + 1, _, .cons h t, e => by
    rw [List.getElem?_cons_succ] at e ⊢
    exact All2.nth t e
theorem All2.nth2 : ∀ {vs : List V} {xs : List α} {i : Nat} {x : α}, All2 R vs xs → xs[i]? = some x → ∃ v, vs[i]? = some v ∧ R v x
  | _, _, _, _, .nil, h => by simp at h
  | _, _, 0, _, .cons h t, e => by
    have := Option.some.inj e
    subst this
    exact ⟨_, rfl, h⟩
  | _, _, i + 1, _, .cons h t, e => by
    rw [List.getElem?_cons_succ] at e ⊢
    exact All2.nth2 t e
end

/-! ### rules within a comprehension: what they say of the written part is said of the def's -/
section
open PySem L2
variable {X : Cx} {s : Shared} {H : Hp} {sc : Scope} {ce : Env} {fp : List Addr}
theorem pg_tupB {es : List Expr} {k : Nat} {pos : Pos} {t : TGs} {n : Nat} (hc : X.calm = true) (h : PGs (X.blk s H sc ce fp) es t)
    (hn : (assignEach es (X.blk s H sc ce fp).env).length = n := by rfl) (hst : (assignEach es (X.blk s H sc ce fp).env).findIdx? (·.1) = none := by rfl) : PG (X.blk s H sc ce fp) (.Tuple es k pos) (gTup X.K n t) := pg_tup hc h hn hst
theorem ix_listB : IxR (X.blk s H sc ce fp) (rIxL X.K) := ix_list
theorem ix_tupB : IxR (X.blk s H sc ce fp) (rIxT X.K) := ix_tup
theorem call_len_seqB : CallR (X.blk s H sc ce fp) (.builtin "len") (fun xs H Q => ∃ p ys, xs = [.ref p] ∧ (SqL X.K H p ys ∨ SqT X.K H p ys) ∧ Q (.int ys.length) H) := call_len_seq
theorem op_eqDB (hu : X.A.units + 64 < cLine) : OpR (X.blk s H sc ce fp) (compareOp .Eq) (rEqD X.K) := op_eqD (X := X.blk s H sc ce fp) hu
theorem op_neDB (hu : X.A.units + 64 < cLine) : OpR (X.blk s H sc ce fp) (compareOp .NotEq) (rNeD X.K) := op_neD (X := X.blk s H sc ce fp) hu
theorem op_inDB (hu : X.A.units + 65 < cLine) : OpR (X.blk s H sc ce fp) (compareOp .In) (rInD X.K) := op_inD (X := X.blk s H sc ce fp) hu
theorem op_notInDB (hu : X.A.units + 65 < cLine) : OpR (X.blk s H sc ce fp) (compareOp .NotIn) (rNotInD X.K) := op_notInD (X := X.blk s H sc ce fp) hu
end
theorem Nd.upd {H : Hp} {v : V} {x : Nat × Nat} {s : Addr} {xs : List V} {o : HO} (h : Nd H v x) (hs : H s = some (.lst xs)) : Nd (upd H s o) v x := by
  obtain ⟨p, e, q⟩ := h
  exact ⟨p, e, by rw [upd_ne (ne_of q hs (by intro z; cases z))]; exact q⟩
def full (x : Nat × Nat) : Nat × Nat := (x.1, x.1 + 2 ^ x.2)
theorem pk_len : ∀ (i n b : Nat), (pk i n b).length ≤ i
  | 0, _, _ => Nat.le_refl _
  | i + 1, n, b => by
    show (if n.testBit i = true then (b, i) :: pk i n (b + 2 ^ i) else pk i n b).length ≤ i + 1
    by_cases t : n.testBit i = true
    · rw [if_pos t, List.length_cons]
      exact Nat.succ_le_succ (pk_len i n _)
    · rw [if_neg t]
      exact Nat.le_succ_of_le (pk_len i n b)
theorem take_more {α : Type} : ∀ {l : List α} {i : Nat} {x : α}, l[i]? = some x → l.take (i + 1) = l.take i ++ [x]
  | [], i, x, h => by simp at h
  | a :: l, 0, x, h => by
    have e : a = x := Option.some.inj h
    subst e
    rfl
  | a :: l, i + 1, x, h => by
    have ih := take_more (l := l) (i := i) (x := x) h
    show a :: l.take (i + 1) = a :: l.take i ++ [x]
    rw [ih]
    rfl
theorem szle {n : Nat} (h : n ≤ 100000) : n ≤ sizeLine := Nat.le_trans h (by decide)
theorem szlt {n : Nat} (h : n < 100000) : n < sizeLine := Nat.lt_of_lt_of_le h (by decide)
end LT

namespace LT
open PySem PySem.Spec PyProof.Rows L2
section
variable {P : Program} {w : World} {K : PySem.W.Frag} {mg : Str → Option Value} {base : Heap}
def spWhole : Sp := fun vs H Q _ => ∃ i : Int, vs = [.int i] ∧ Q (.bl true) H
theorem ok_is_whole {f : Addr} {fd : FuncData} (F : Fun K "is_whole" "is_whole" sIsWhole f fd) (z_isinstance : mg "isinstance" = none) (z_int : mg "int" = none) (z_bool : mg "bool" = none) : FnOk P w K mg base CX0 1 f fd ["value"] spWhole := by
  refine F.ok scIsWhole (fun vs H Q E h => ?_) (fun cdv A outer s H vs Q E hr h => ?_)
  · obtain ⟨i, rfl, _⟩ := h
    rfl
  obtain ⟨i, rfl, q⟩ := h
  refine ⟨_, (pss_one (ps_ret (pe_and (pe_callB call_isi (by rfl) z_isinstance (by decide +kernel) (pa_cons (pv 0) (pa_cons (pe_bltn (v := .ty "int") (u := .type "int") (by rfl) z_int (by decide +kernel) rfl) pa_nil))) (pe_one (pe_not (pe_callB call_isi (by rfl) z_isinstance (by decide +kernel) (pa_cons (pv 0) (pa_cons (pe_bltn (v := .ty "bool") (u := .type "bool") (by rfl) z_bool (by decide +kernel) rfl) pa_nil)))))))), ?_⟩
  refine ⟨_, rfl, _, _, _, _, true, rfl, .ty "int", .base (.int i), kit_ty (by decide +kernel), true, rfl, ?_⟩
  refine ⟨_, rfl, _, _, _, _, false, rfl, .ty "bool", .base (.int i), kit_ty (by decide +kernel), false, rfl, ?_⟩
  exact q
def spBetween : Sp := fun vs H Q _ => ∃ v lo hi : Int, vs = [.int v, .int lo, .int hi] ∧ Q (.bl (decide (lo ≤ v) && decide (v ≤ hi))) H
theorem ok_is_between {f g : Addr} {fd gd : FuncData} (F : Fun K "is_between" "is_between" sIsBetween f fd) (GIsWhole : FnOk P w K mg base CX0 1 g gd ["value"] spWhole) (AIsWhole : At K mg "is_whole" g gd ["value"]) : FnOk P w K mg base CX0 2 f fd ["value", "low", "high"] spBetween := by
  refine F.ok scIsBetween (fun vs H Q E h => ?_) (fun cdv A outer s H vs Q E hr h => ?_)
  · obtain ⟨i, _, _, rfl, _⟩ := h
    rfl
  obtain ⟨v, lo, hi, rfl, q⟩ := h
  refine ⟨_, (pss_one (ps_ret (pe_and (pe_call GIsWhole (hr.mono (by decide)) rfl AIsWhole.m AIsWhole.kp AIsWhole.b .nil pass0 (pa_cons (pv 0) pa_nil)) (pe_one (pe_chain op_le op_le (pv 1) (pv 0) (pv 2)))))), ?_⟩
  refine ⟨_, rfl, v, rfl, true, rfl, ?_⟩
  refine ⟨_, rfl, _, rfl, _, _, rfl, rfl, _, rfl, ?_⟩
  by_cases h1 : lo ≤ v
  · rw [decide_eq_true h1] at q ⊢
    exact ⟨_, rfl, _, _, rfl, rfl, q⟩
  · rw [decide_eq_false h1] at q ⊢
    exact q
def spCheckSize : Sp := fun vs H Q _ => ∃ n : Int, vs = [.int n] ∧ 1 ≤ n ∧ n ≤ 10 ^ 30 ∧ Q .non H
theorem ok_check_size {f g : Addr} {fd gd : FuncData} {t : Tok} (F : Fun K "check_size" "check_size" sCheckSize f fd) (GIsBetween : FnOk P w K mg base CX0 2 g gd ["value", "low", "high"] spBetween) (AIsBetween : At K mg "is_between" g gd ["value", "low", "high"]) (g_MOST_ENTRIES : mg "MOST_ENTRIES" = some (.int 1000000000000000000000000000000 t)) : FnOk P w K mg base CX0 3 f fd ["size"] spCheckSize := by
  refine F.ok scCheckSize (fun vs H Q E h => ?_) (fun cdv A outer s H vs Q E hr h => ?_)
  · obtain ⟨i, rfl, _⟩ := h
    rfl
  obtain ⟨n, rfl, h1, h2, q⟩ := h
  refine ⟨_, (pss_one (ps_if (pt_not (pt_val (pe_call GIsBetween (hr.mono (by decide)) rfl AIsBetween.m AIsBetween.kp AIsBetween.b .nil pass0 (pa_cons (pv 0) (pa_cons pe_int (pa_cons (pe_glob (v := .int 1000000000000000000000000000000) rfl g_MOST_ENTRIES ⟨_, rfl⟩) pa_nil))))))
    (pss_one ps_never)
    pss_nil)), ?_⟩
  refine ⟨_, rfl, n, 1, 1000000000000000000000000000000, rfl, _, rfl, ?_⟩
  rw [decide_eq_true h1, decide_eq_true (show n ≤ 1000000000000000000000000000000 from h2)]
  exact q
end
end LT

namespace LT
open PySem PySem.Spec PyProof.Rows L2
section
variable {P : Program} {w : World} {K : PySem.W.Frag} {mg : Str → Option Value} {base : Heap}
def spCheckEntry : Sp := fun vs H Q _ => ∃ n e : Int, vs = [.int n, .int e] ∧ 0 ≤ e ∧ e < n ∧ Q .non H
theorem ok_check_entry {f g : Addr} {fd gd : FuncData} (F : Fun K "check_entry" "check_entry" sCheckEntry f fd) (GIsBetween : FnOk P w K mg base CX0 2 g gd ["value", "low", "high"] spBetween) (AIsBetween : At K mg "is_between" g gd ["value", "low", "high"]) : FnOk P w K mg base CX0 3 f fd ["size", "entry"] spCheckEntry := by
  refine F.ok scCheckEntry (fun vs H Q E h => ?_) (fun cdv A outer s H vs Q E hr h => ?_)
  · obtain ⟨i, _, rfl, _⟩ := h
    rfl
  obtain ⟨n, e, rfl, h1, h2, q⟩ := h
  refine ⟨_, (pss_one (ps_if (pt_not (pt_val (pe_call GIsBetween (hr.mono (by decide)) rfl AIsBetween.m AIsBetween.kp AIsBetween.b .nil pass0 (pa_cons (pv 1) (pa_cons pe_int (pa_cons (pe_op op_sub (pv 0) pe_int) pa_nil))))))
    (pss_one ps_never)
    pss_nil)), ?_⟩
  refine ⟨_, rfl, _, rfl, _, _, rfl, rfl, e, 0, n - 1, rfl, _, rfl, ?_⟩
  rw [decide_eq_true h1, decide_eq_true (show e ≤ n - 1 by omega)]
  exact q
end
end LT

namespace LT
open PySem PySem.Spec PyProof.Rows L2
theorem bits_nat (k : Nat) : Builtin.Int.intBits (k : Int) = if k = 0 then 0 else k.log2 + 1 := by
  unfold Builtin.Int.intBits
  by_cases h : k = 0
  · subst h; rfl
  · rw [if_neg h, if_neg (by simpa using h)]
    rfl
theorem bits_lb {m : Nat} (h : 1 ≤ m) : Builtin.Int.intBits ((m - 1 : Nat) : Int) = lb m := by
  rw [bits_nat]
  unfold lb
  by_cases k : m ≤ 1
  · rw [if_pos k, if_pos (by omega)]
  · rw [if_neg k, if_neg (by omega)]
theorem lb100 {m : Nat} (h : m ≤ 10 ^ 30) : lb m ≤ 100 := lb_le (Nat.le_trans h (by decide))
theorem fmod_of_dvd {a b : Nat} (h : a ∣ b) : Int.fmod (b : Int) (a : Int) = 0 := by
  rw [Int.fmod_eq_emod_of_nonneg _ (Int.natCast_nonneg _)]
  exact Int.emod_eq_zero_of_dvd (Int.natCast_dvd_natCast.mpr h)
end LT

namespace LT
open PySem PySem.Spec PyProof.Rows L2
section
variable {P : Program} {w : World} {K : PySem.W.Frag} {mg : Str → Option Value} {base : Heap}
def spTree : Sp := fun vs H Q _ => ∃ (n b m : Nat) (v : V), vs = [.int n, v] ∧ Nd H v (b, b + m) ∧ 1 ≤ m ∧ b + m ≤ n ∧ n ≤ 10 ^ 30 ∧ tree n b m ∧ Q (.bl true) H
theorem ok_is_tree_node {f g : Addr} {fd gd : FuncData} (F : Fun K "is_tree_node" "is_tree_node" sIsTreeNode f fd) (GIsBetween : FnOk P w K mg base CX0 2 g gd ["value", "low", "high"] spBetween) (AIsBetween : At K mg "is_between" g gd ["value", "low", "high"])
    (z_isinstance : mg "isinstance" = none) (z_tuple : mg "tuple" = none) (z_len : mg "len" = none) : FnOk P w K mg base CX0 3 f fd ["size", "value"] spTree := by
  refine F.ok scIsTreeNode (fun vs H Q E h => ?_) (fun cdv A outer s H vs Q E hr h => ?_)
  · obtain ⟨_, _, _, _, rfl, _⟩ := h
    rfl
  obtain ⟨n, b, m, v, rfl, ⟨p, rfl, hp⟩, hm, hn, h30, ht, q⟩ := h
  refine ⟨_, (pss_cons (ps_if (PW.pt (pw_or (pt_not (pt_val (pe_callB call_isi (by rfl) z_isinstance (by decide +kernel) (pa_cons (pv 1) (pa_cons (pe_bltn (v := .ty "tuple") (u := .type "tuple") (by rfl) z_tuple (by decide +kernel) rfl) pa_nil))))) (pw_or1 (pt_cmpR op_ne (pe_callB call_len_seq (by rfl) z_len PySem.boot_len (pa_cons (pv 1) pa_nil)) pe_int (nomark _)))))
    (pss_one (ps_ret pe_bl))
    pss_nil)
    (pss_cons (ps_asg (pv 1) (pg_tup (by rfl) (pgs_cons (pg_name (i := 2) scIsTreeNode.nd rfl (Or.inl rfl)) (pgs_cons (pg_name (i := 3) scIsTreeNode.nd rfl (Or.inl rfl)) pgs_nil))))
    (pss_cons (ps_if (PW.pt (pw_or (pt_not (pt_val (pe_call GIsBetween (hr.mono (by decide)) rfl AIsBetween.m AIsBetween.kp AIsBetween.b .nil pass0 (pa_cons (pv 2) (pa_cons pe_int (pa_cons (pe_op op_sub (pv 0) pe_int) pa_nil)))))) (pw_or1 (pt_not (pt_val (pe_call GIsBetween (hr.mono (by decide)) rfl AIsBetween.m AIsBetween.kp AIsBetween.b .nil pass0 (pa_cons (pv 3) (pa_cons (pe_op op_add (pv 2) pe_int) (pa_cons (pv 0) pa_nil)))))))))
    (pss_one (ps_ret pe_bl))
    pss_nil)
    (pss_cons (ps_set (i := 4) scIsTreeNode.nd rfl (Or.inl rfl) (pe_op op_shl pe_int (pe_bits (pe_op op_sub (pe_op op_sub (pv 3) (pv 2)) pe_int))))
    (pss_one (ps_ret (pe_and (pe_cmpR op_eq (pe_op op_modN (pv 2) (pv 4)) pe_int (nomark _)) (pe_one (pe_or (pe_cmpR op_eq (pe_op op_sub (pv 3) (pv 2)) (pv 4) (nomark _)) (pe_one (pe_cmpR op_eq (pv 3) (pv 0) (nomark _)))))))))))), ?_⟩
  refine ⟨_, rfl, _, _, _, _, true, rfl, .ty "tuple", .base (.tup hp), kit_ty (by decide +kernel), true, rfl, ?_⟩
  refine ⟨_, rfl, p, _, rfl, .inr (SqT.of hp), rfl, false, rfl, ?_⟩
  refine ⟨_, rfl, p, _, rfl, SqT.of hp, rfl, _, _, rfl, _, _, rfl, rfl, ?_⟩
  refine ⟨_, rfl, _, rfl, _, _, rfl, rfl, _, _, _, rfl, true, ?_, ?_⟩
  · exact congrArg V.bl (by rw [Bool.and_eq_true]; exact ⟨decide_eq_true (by omega), decide_eq_true (by show (b : Int) ≤ n - 1; omega)⟩)
  refine ⟨_, rfl, _, rfl, _, _, rfl, rfl, _, rfl, _, _, _, rfl, true, ?_, ?_⟩
  · exact congrArg V.bl (by rw [Bool.and_eq_true]; exact ⟨decide_eq_true (by show (b : Int) + 1 ≤ ((b + m : Nat) : Int); omega), decide_eq_true (by show ((b + m : Nat) : Int) ≤ n; omega)⟩)
  have e1 : ((b + m : Nat) : Int) - (b : Int) - 1 = ((m - 1 : Nat) : Int) := by omega
  refine ⟨_, rfl, _, rfl, _, _, rfl, rfl, _, _, rfl, rfl, _, rfl, ?_⟩
  dsimp only
  rw [e1, bits_lb hm]
  have l100 := lb100 (show m ≤ 10 ^ 30 by omega)
  refine ⟨_, _, rfl, rfl, ⟨Int.natCast_nonneg _, by omega, by decide⟩, ?_⟩
  have e2 : (1 : Int) * 2 ^ ((lb m : Nat) : Int).toNat = ((2 ^ lb m : Nat) : Int) := by rw [Int.one_mul, Int.toNat_natCast]; exact (Int.natCast_pow 2 (lb m)).symm
  dsimp only
  rw [e2]
  obtain ⟨d, k⟩ := ht
  have pz : 0 < 2 ^ lb m := Nat.pow_pos (by decide)
  generalize 2 ^ lb m = R at d k pz
  refine ⟨_, rfl, _, rfl, _, _, rfl, rfl, by omega, rfl, true, ?_, ?_⟩
  · show V.bl (decide (V.int (Int.fmod (b : Int) (R : Int)) = V.int 0)) = V.bl true
    rw [fmod_of_dvd d, decide_eq_true rfl]
  refine ⟨_, rfl, _, rfl, _, _, rfl, rfl, _, rfl, rfl, _, rfl, ite2 (fun c => q) (fun c => ?_)⟩
  have c1 : ¬ V.int (((b + m : Nat) : Int) - (b : Int)) = V.int (R : Int) := of_decide_eq_false (Bool.eq_false_iff.mpr c)
  refine ⟨_, rfl, _, rfl, rfl, ?_⟩
  have e4 : b + m = n := by
    rcases k with k | k
    · exact absurd (congrArg V.int (by omega)) c1
    · exact k
  show Q (V.bl (decide (V.int ((b + m : Nat) : Int) = V.int (n : Int)))) H
  rw [decide_eq_true (by rw [e4])]
  exact q
def spCheckNode : Sp := fun vs H Q _ => ∃ (n b m : Nat) (v : V), vs = [.int n, v] ∧ Nd H v (b, b + m) ∧ 1 ≤ m ∧ b + m ≤ n ∧ n ≤ 10 ^ 30 ∧ tree n b m ∧ Q .non H
theorem ok_check_node {f g : Addr} {fd gd : FuncData} (F : Fun K "check_node" "check_node" sCheckNode f fd) (GIsTreeNode : FnOk P w K mg base CX0 3 g gd ["size", "value"] spTree) (AIsTreeNode : At K mg "is_tree_node" g gd ["size", "value"]) : FnOk P w K mg base CX0 4 f fd ["size", "node"] spCheckNode := by
  refine F.ok scCheckNode (fun vs H Q E h => ?_) (fun cdv A outer s H vs Q E hr h => ?_)
  · obtain ⟨_, _, _, _, rfl, _⟩ := h
    rfl
  obtain ⟨n, b, m, v, rfl, hv, hm, hn, h30, ht, q⟩ := h
  refine ⟨_, (pss_one (ps_if (pt_not (pt_val (pe_call GIsTreeNode (hr.mono (by decide)) rfl AIsTreeNode.m AIsTreeNode.kp AIsTreeNode.b .nil pass0 (pa_cons (pv 0) (pa_cons (pv 1) pa_nil)))))
    (pss_one ps_never)
    pss_nil)), ?_⟩
  refine ⟨_, rfl, _, rfl, n, b, m, v, rfl, hv, hm, hn, h30, ht, true, rfl, q⟩
end
end LT

namespace LT
open PySem PySem.Spec PyProof.Rows L2
section
variable {P : Program} {w : World} {K : PySem.W.Frag} {mg : Str → Option Value} {base : Heap}
def spPower : Sp := fun vs H Q _ => ∃ (k : Nat), vs = [.int k] ∧ 1 ≤ k ∧ k ≤ 10 ^ 30 ∧ Q (.int ((2 ^ k.log2 : Nat) : Int)) H
theorem ok_power_within {f : Addr} {fd : FuncData} (F : Fun K "power_within" "power_within" sPowerWithin f fd) : FnOk P w K mg base CX0 1 f fd ["number"] spPower := by
  refine F.ok scPowerWithin (fun vs H Q E h => ?_) (fun cdv A outer s H vs Q E hr h => ?_)
  · obtain ⟨_, rfl, _⟩ := h
    rfl
  obtain ⟨k, rfl, h1, h30, q⟩ := h
  refine ⟨_, (pss_one (ps_ret (pe_op op_shl pe_int (pe_op op_sub (pe_bits (pv 0)) pe_int)))), ?_⟩
  refine ⟨_, rfl, _, rfl, _, _, rfl, rfl, ?_⟩
  dsimp only
  have e : ((Builtin.Int.intBits (k : Int) : Nat) : Int) - 1 = ((k.log2 : Nat) : Int) := by
    rw [bits_nat, if_neg (by omega)]
    omega
  rw [e]
  have l100 : k.log2 < 100 := (Nat.log2_lt (by omega)).mpr (Nat.lt_of_le_of_lt h30 (by decide))
  refine ⟨_, _, rfl, rfl, ⟨Int.natCast_nonneg _, by omega, by decide⟩, ?_⟩
  have e2 : (1 : Int) * 2 ^ ((k.log2 : Nat) : Int).toNat = ((2 ^ k.log2 : Nat) : Int) := by rw [Int.one_mul, Int.toNat_natCast]; exact (Int.natCast_pow 2 _).symm
  show Q (.int ((1 : Int) * 2 ^ ((k.log2 : Nat) : Int).toNat)) H
  rw [e2]
  exact q
end
end LT

namespace LT
open PySem PySem.Spec PyProof.Rows L2
section
variable {P : Program} {w : World} {K : PySem.W.Frag} {mg : Str → Option Value} {base : Heap}
def spHalves : Sp := fun vs H Q _ => ∃ (n b m : Nat) (v : V), vs = [.int n, v] ∧ Nd H v (b, b + m) ∧ 2 ≤ m ∧ b + m ≤ n ∧ n ≤ 10 ^ 30 ∧ tree n b m ∧
  ∀ (H' : Hp) (q : Addr) (l h : V), Same H H' → H q = none → H' q = some (.tup [l, h]) → Nd H' l (b, b + gp m) → Nd H' h (b + gp m, b + m) → Q (.ref q) H'
theorem ok_halves {f g1 g2 g3 : Addr} {fd d1 d2 d3 : FuncData} (F : Fun K "halves" "halves" sHalves f fd) (GCheckSize : FnOk P w K mg base CX0 3 g1 d1 ["size"] spCheckSize) (ACheckSize : At K mg "check_size" g1 d1 ["size"])
    (GCheckNode : FnOk P w K mg base CX0 4 g2 d2 ["size", "node"] spCheckNode) (ACheckNode : At K mg "check_node" g2 d2 ["size", "node"]) (GPowerWithin : FnOk P w K mg base CX0 1 g3 d3 ["number"] spPower) (APowerWithin : At K mg "power_within" g3 d3 ["number"]) :
    FnOk P w K mg base CX0 5 f fd ["size", "node"] spHalves := by
  refine F.ok scHalves (fun vs H Q E h => ?_) (fun cdv A outer s H vs Q E hr h => ?_)
  · obtain ⟨_, _, _, _, rfl, _⟩ := h
    rfl
  obtain ⟨n, b, m, v, rfl, hv, hm, hn, h30, ht, q⟩ := h
  refine ⟨_, (pss_cons (ps_expr (pe_call GCheckSize (hr.mono (by decide)) rfl ACheckSize.m ACheckSize.kp ACheckSize.b .nil pass0 (pa_cons (pv 0) pa_nil)))
    (pss_cons (ps_expr (pe_call GCheckNode (hr.mono (by decide)) rfl ACheckNode.m ACheckNode.kp ACheckNode.b .nil pass0 (pa_cons (pv 0) (pa_cons (pv 1) pa_nil))))
    (pss_cons (ps_asg (pv 1) (pg_tup (by rfl) (pgs_cons (pg_name (i := 2) scHalves.nd rfl (Or.inl rfl)) (pgs_cons (pg_name (i := 3) scHalves.nd rfl (Or.inl rfl)) pgs_nil))))
    (pss_cons (ps_if (pt_cmpR op_eq (pe_op op_sub (pv 3) (pv 2)) pe_int (nomark _))
    (pss_one (ps_ret pe_non))
    pss_nil)
    (pss_cons (ps_set (i := 4) scHalves.nd rfl (Or.inl rfl) (pe_op op_add (pv 2) (pe_call GPowerWithin (hr.mono (by decide)) rfl APowerWithin.m APowerWithin.kp APowerWithin.b .nil pass0 (pa_cons (pe_op op_sub (pe_op op_sub (pv 3) (pv 2)) pe_int) pa_nil))))
    (pss_one (ps_ret (pe_tup (pa_cons (pe_tup (pa_cons (pv 2) (pa_cons (pv 4) pa_nil))) (pa_cons (pe_tup (pa_cons (pv 4) (pa_cons (pv 3) pa_nil))) pa_nil)))))))))), ?_⟩
  refine ⟨_, rfl, n, rfl, by omega, by omega, ?_⟩
  refine ⟨_, rfl, _, rfl, n, b, m, v, rfl, hv, by omega, hn, h30, ht, ?_⟩
  obtain ⟨p, rfl, hp⟩ := id hv
  refine ⟨_, rfl, p, _, rfl, SqT.of hp, rfl, _, _, rfl, _, _, rfl, rfl, ?_⟩
  refine ⟨_, rfl, _, rfl, _, _, rfl, rfl, rfl, _, rfl, ite2 (fun c => ?_) (fun _ => ?_)⟩
  · have c1 : V.int (((b + m : Nat) : Int) - (b : Int)) = V.int 1 := of_decide_eq_true c
    have := V.int.inj c1
    omega
  have e1 : ((b + m : Nat) : Int) - (b : Int) - 1 = ((m - 1 : Nat) : Int) := by omega
  refine ⟨_, rfl, _, rfl, _, rfl, _, _, rfl, rfl, _, _, rfl, rfl, m - 1, congrArg (fun z => [V.int z]) e1, by omega, by omega, _, _, rfl, rfl, ?_⟩
  have e2 : (b : Int) + ((2 ^ (m - 1).log2 : Nat) : Int) = ((b + gp m : Nat) : Int) := by unfold gp; omega
  have two : 2 ≤ sizeLine := by decide
  refine ⟨_, rfl, _, rfl, two, fun t1 n1 => ⟨_, rfl, _, rfl, two, fun t2 n2 => ⟨two, fun t3 n3 => ?_⟩⟩⟩
  dsimp only
  have s1 := same_upd (o := .tup [.int (b : Int), .int ((b : Int) + ((2 ^ (m - 1).log2 : Nat) : Int))]) n1
  have s2 := same_upd (o := .tup [.int ((b : Int) + ((2 ^ (m - 1).log2 : Nat) : Int)), .int ((b + m : Nat) : Int)]) n2
  have s3 := same_upd (o := .tup [.ref t1, .ref t2]) n3
  refine q _ t3 (.ref t1) (.ref t2) (s1.trans (s2.trans s3)) ((s1.trans s2).free n3) upd_same ⟨t1, rfl, s3 _ _ (s2 _ _ ?_)⟩ ⟨t2, rfl, s3 _ _ ?_⟩
  · rw [upd_same]
    dsimp only
    rw [e2]
  · rw [upd_same]
    dsimp only
    rw [e2]
def spPath : Sp := fun vs H Q _ => ∃ (n e : Nat), vs = [.int n, .int e] ∧ e < n ∧ n ≤ 10 ^ 30 ∧
  ∀ (H' : Hp) (p : Addr) (xs : List V), Same H H' → H p = none → H' p = some (.lst xs) → All2 (Nd H') xs (sib 0 n e).reverse → Q (.ref p) H'
theorem ok_path {f g1 g2 g3 : Addr} {fd d1 d2 d3 : FuncData} (F : Fun K "path" "path" sPath f fd) (GCheckSize : FnOk P w K mg base CX0 3 g1 d1 ["size"] spCheckSize) (ACheckSize : At K mg "check_size" g1 d1 ["size"])
    (GCheckEntry : FnOk P w K mg base CX0 3 g2 d2 ["size", "entry"] spCheckEntry) (ACheckEntry : At K mg "check_entry" g2 d2 ["size", "entry"]) (GHalves : FnOk P w K mg base CX0 5 g3 d3 ["size", "node"] spHalves) (AHalves : At K mg "halves" g3 d3 ["size", "node"]) :
    FnOk P w K mg base CX0 6 f fd ["size", "entry"] spPath := by
  refine F.ok scPath (fun vs H Q E h => ?_) (fun cdv A outer s H vs Q E hr h => ?_)
  · obtain ⟨_, _, rfl, _⟩ := h
    rfl
  obtain ⟨n, e, rfl, he, h30, q⟩ := h
  refine ⟨_, (pss_cons (ps_expr (pe_call GCheckSize (hr.mono (by decide)) rfl ACheckSize.m ACheckSize.kp ACheckSize.b .nil pass0 (pa_cons (pv 0) pa_nil)))
    (pss_cons (ps_expr (pe_call GCheckEntry (hr.mono (by decide)) rfl ACheckEntry.m ACheckEntry.kp ACheckEntry.b .nil pass0 (pa_cons (pv 0) (pa_cons (pv 1) pa_nil))))
    (pss_cons (ps_set (i := 2) scPath.nd rfl (Or.inl rfl) (pe_lst pa_nil))
    (pss_cons (ps_set (i := 3) scPath.nd rfl (Or.inl rfl) (pe_tup (pa_cons pe_int (pa_cons (pv 0) pa_nil))))
    (pss_cons (ps_while PassesOwn.never (pt_cmpR (op_neD hr.units) (pv 3) (pe_tup (pa_cons (pv 1) (pa_cons (pe_op op_add (pv 1) pe_int) pa_nil))) (nomark _))
    (pss_cons (ps_asg (pe_call GHalves (hr.mono (by decide)) rfl AHalves.m AHalves.kp AHalves.b .nil pass0 (pa_cons (pv 0) (pa_cons (pv 3) pa_nil))) (pg_tup (by rfl) (pgs_cons (pg_name (i := 4) scPath.nd rfl (Or.inl rfl)) (pgs_cons (pg_name (i := 5) scPath.nd rfl (Or.inl rfl)) pgs_nil))))
    (pss_one (ps_if (pt_cmpR op_lt (pv 1) (pe_ix ix_tup (pv 4) pe_int (fun _ _ => rfl)) (nomark _))
    (pss_cons (ps_set (i := 3) scPath.nd rfl (Or.inl rfl) (pv 4))
    (pss_one (ps_expr (pe_bm PySem.F.plainAttrs_list PySem.F.slot_list_append PySem.F.type_list_append mt_append (pv 2) (pa_cons (pv 5) pa_nil)))))
    (pss_cons (ps_set (i := 3) scPath.nd rfl (Or.inl rfl) (pv 5))
    (pss_one (ps_expr (pe_bm PySem.F.plainAttrs_list PySem.F.slot_list_append PySem.F.type_list_append mt_append (pv 2) (pa_cons (pv 4) pa_nil)))))))))
    (pss_one (ps_ret (pe_revL (pv 2))))))))), ?_⟩
  refine ⟨_, rfl, n, rfl, by omega, by omega, ?_⟩
  refine ⟨_, rfl, _, rfl, n, e, rfl, by omega, by omega, ?_⟩
  have two : 2 ≤ sizeLine := by decide
  refine ⟨Nat.zero_le _, fun sb nsb => ?_⟩
  have z1 := same_upd (o := .lst []) nsb
  refine ⟨_, rfl, two, fun t0 n0 => ?_⟩
  have z2 := same_upd (o := .tup [.int 0, .int (n : Int)]) n0
  refine ⟨fun mu σ H' => ∃ (b : Nat) (nv : V) (v4 v5 : Option V) (xs : List V) (done : List (Nat × Nat)), σ = [some (.int n), some (.int e), some (.ref sb), some nv, v4, v5] ∧ Same H H' ∧ H' sb = some (.lst xs) ∧ All2 (Nd H') xs done ∧
      Nd H' nv (b, b + mu) ∧ 1 ≤ mu ∧ b ≤ e ∧ e < b + mu ∧ b + mu ≤ n ∧ tree n b mu ∧ done ++ sib b mu e = sib 0 n e,
    ⟨n, 0, .ref t0, none, none, [], [], rfl, z1.trans z2, z2 _ _ upd_same, .nil, ⟨t0, rfl, by rw [upd_same]; simp⟩, by omega, by omega, by omega, by omega, tree_root n, rfl⟩, ?_⟩
  rintro m σ H1 ⟨b, nv, v4, v5, xs, done, rfl, sm, hs, hx, hv, hm, hb, hb2, hn, ht, hd⟩
  refine ⟨_, rfl, _, rfl, _, rfl, _, _, rfl, rfl, two, fun t nt => ?_⟩
  have s1 := same_upd (o := .tup [.int (e : Int), .int ((e : Int) + 1)]) nt
  refine ⟨_, _, (hv.same s1).dp, .tup (SqT.of upd_same) (.cons (.int _) (.cons (.int _) .nil)), nd_shaped _ _, nd_shaped _ _, ?_⟩
  rw [nd_eqv]
  have hlen : done.length ≤ 100 := by
    have k1 := sib_len_le n 0 e (Nat.zero_le _) (by omega)
    have k2 := lb100 h30
    have k3 := congrArg List.length hd
    rw [List.length_append] at k3
    omega
  have hs1 : (upd H1 t (.tup [.int (e : Int), .int ((e : Int) + 1)])) sb = some (.lst xs) := s1 _ _ hs
  have hx1 := hx.mono (fun v x (k : Nd H1 v x) => k.same s1)
  have hv1 := hv.same s1
  have sm1 := sm.trans s1
  generalize upd H1 t (.tup [.int (e : Int), .int ((e : Int) + 1)]) = H2 at hs1 hx1 hv1 sm1
  by_cases h1 : m = 1
  · refine ⟨false, ?_, iteF ?_⟩
    · subst h1
      have : b = e := by omega
      subst this
      simp
    · subst h1
      rw [sib_one (by omega), List.append_nil] at hd
      refine ⟨_, rfl, sb, xs, rfl, SqL.of hs1, fun p np => ?_⟩
      have s3 := same_upd (o := .lst xs.reverse) np
      refine q _ p xs.reverse (sm1.trans s3) (sm1.free np) upd_same ?_
      rw [← hd]
      exact (hx1.mono (fun v x (k : Nd H2 v x) => k.same s3)).rev
  · refine ⟨true, ?_, iteT ⟨fun σ' H' => ∃ mu, mu < m ∧ ∃ (b : Nat) (nv : V) (v4 v5 : Option V) (xs : List V) (done : List (Nat × Nat)), σ' = [some (.int n), some (.int e), some (.ref sb), some nv, v4, v5] ∧ Same H H' ∧ H' sb = some (.lst xs) ∧ All2 (Nd H') xs done ∧
      Nd H' nv (b, b + mu) ∧ 1 ≤ mu ∧ b ≤ e ∧ e < b + mu ∧ b + mu ≤ n ∧ tree n b mu ∧ done ++ sib b mu e = sib 0 n e, fun σ' H' h => h, ?_⟩⟩
    · refine congrArg V.bl ?_
      rw [Bool.not_eq_true', Bool.and_eq_false_iff]
      by_cases c : b = e
      · right
        exact decide_eq_false (by show ¬ ((b + m : Nat) : Int) = (e : Int) + 1; omega)
      · left
        exact decide_eq_false (by show ¬ (b : Int) = (e : Int); omega)
    have hm2 : 2 ≤ m := by omega
    have gl := gp_lt hm2
    have gg := gp_pos m
    refine ⟨_, rfl, _, rfl, n, b, m, nv, rfl, hv1, hm2, hn, h30, ht, fun H3 qa l h s3 nqa hqa hl hh => ?_⟩
    refine ⟨qa, _, rfl, SqT.of hqa, rfl, _, _, rfl, _, _, rfl, rfl, ?_⟩
    obtain ⟨lp, rfl, hlp⟩ := id hl
    refine ⟨_, rfl, _, rfl, lp, _, _, _, rfl, rfl, SqT.of hlp, (atI_nat (j := 1) rfl), _, _, rfl, rfl, _, rfl, ite2 (fun c => ?_) (fun c => ?_)⟩
    · have c1 : (e : Int) < ((b + gp m : Nat) : Int) := of_decide_eq_true c
      have hs3 := s3 _ _ hs1
      refine ⟨_, rfl, ?_⟩
      refine ⟨_, rfl, .inl ⟨rfl, _, SqL.of hs3⟩, _, rfl, sb, _, _, rfl, rfl, hs3, szlt (by rw [hx.len]; omega), ?_⟩
      refine ⟨gp m, gl, b, _, _, _, xs ++ [h], done ++ [(b + gp m, b + m)], rfl, ?_, upd_same, ?_, hl.upd hs3, by omega, hb, by omega, by omega, tree_low hm2 ht, ?_⟩
      · exact fun a o k => by rw [upd_ne (ne_of_none k nsb)]; exact s3 _ _ (sm1 _ _ k)
      · exact (hx1.mono (fun v x (k : Nd H2 v x) => (k.same s3).upd hs3)).app (.cons (hh.upd hs3) .nil)
      · rw [sib_low hm2 (by omega)] at hd
        rw [← hd, List.append_assoc]
        rfl
    · have c1 : ¬ (e : Int) < ((b + gp m : Nat) : Int) := of_decide_eq_false (Bool.eq_false_iff.mpr c)
      have hs3 := s3 _ _ hs1
      refine ⟨_, rfl, ?_⟩
      refine ⟨_, rfl, .inl ⟨rfl, _, SqL.of hs3⟩, _, rfl, sb, _, _, rfl, rfl, hs3, szlt (by rw [hx.len]; omega), ?_⟩
      have e5 : b + gp m + (m - gp m) = b + m := by omega
      refine ⟨m - gp m, by omega, b + gp m, _, _, _, xs ++ [.ref lp], done ++ [(b, b + gp m)], rfl, ?_, upd_same, ?_, by rw [e5]; exact hh.upd hs3, by omega, by omega, by omega, by omega, tree_high hm2 ht, ?_⟩
      · exact fun a o k => by rw [upd_ne (ne_of_none k nsb)]; exact s3 _ _ (sm1 _ _ k)
      · exact (hx1.mono (fun v x (k : Nd H2 v x) => (k.same s3).upd hs3)).app (.cons (hl.upd hs3) .nil)
      · rw [sib_high hm2 (by omega)] at hd
        rw [← hd, List.append_assoc]
        rfl
def spDepth : Sp := fun vs H Q _ => ∃ (n e : Nat), vs = [.int n, .int e] ∧ e < n ∧ n ≤ 10 ^ 30 ∧ ∀ (H' : Hp), Same H H' → Q (.int (((sib 0 n e).length : Nat) : Int)) H'
theorem ok_depth {f g1 : Addr} {fd d1 : FuncData} (F : Fun K "depth" "depth" sDepth f fd) (GPath : FnOk P w K mg base CX0 6 g1 d1 ["size", "entry"] spPath) (APath : At K mg "path" g1 d1 ["size", "entry"]) (z_len : mg "len" = none) :
    FnOk P w K mg base CX0 7 f fd ["size", "entry"] spDepth := by
  refine F.ok scDepth (fun vs H Q E h => ?_) (fun cdv A outer s H vs Q E hr h => ?_)
  · obtain ⟨_, _, rfl, _⟩ := h
    rfl
  obtain ⟨n, e, rfl, he, h30, q⟩ := h
  refine ⟨_, (pss_one (ps_ret (pe_callB call_len_seq (by rfl) z_len PySem.boot_len (pa_cons (pe_call GPath (hr.mono (by decide)) rfl APath.m APath.kp APath.b .nil pass0 (pa_cons (pv 0) (pa_cons (pv 1) pa_nil))) pa_nil)))), ?_⟩
  refine ⟨_, rfl, _, rfl, n, e, rfl, he, h30, fun H' p xs sm np hp hx => ⟨p, xs, rfl, .inl (SqL.of hp), ?_⟩⟩
  have k := hx.len
  rw [List.length_reverse] at k
  rw [k]
  exact q H' sm
end
end LT

namespace LT
open PySem PySem.Spec PyProof.Rows L2
section
variable {P : Program} {w : World} {K : PySem.W.Frag} {mg : Str → Option Value} {base : Heap}
def spBag : Sp := fun vs H Q _ => ∃ c : Int, vs = [.int c] ∧ ∀ (H' : Hp) (p : Addr), Same H H' → H p = none → BagAt H' p → Q (.ref p) H'
theorem ok_law_bag {f : Addr} {fd : FuncData} (F : Fun K "_law_bag" "_law_bag" sLawBag f fd) (z_max : mg "max" = none) : FnOk P w K mg base CX0 1 f fd ["cell"] spBag := by
  refine F.ok scLawBag (fun vs H Q E h => ?_) (fun cdv A outer s H vs Q E hr h => ?_)
  · obtain ⟨_, rfl, _⟩ := h
    rfl
  obtain ⟨c, rfl, q⟩ := h
  refine ⟨_, (pss_one (ps_ret (pe_lst (pa_cons (pe_callB (call_max2 rfl) (by rfl) z_max (by decide +kernel) (pa_cons pe_int (pa_cons (pe_op op_sub (pv 0) (pe_op op_pow pe_int pe_int)) pa_nil))) (pa_cons (pv 0) (pa_cons pe_int pa_nil)))))), ?_⟩
  refine ⟨_, rfl, _, _, rfl, rfl, ⟨by decide, by decide, by decide⟩, _, _, rfl, rfl, _, _, rfl, _, rfl, (by show 3 ≤ sizeLine; decide), fun p np => ?_⟩
  exact q _ p (same_upd np) np ⟨_, _, _, upd_same⟩
theorem fm0 (x : Int) {m : Int} (h : 0 < m) : 0 ≤ x.fmod m := by
  rw [Int.fmod_eq_emod_of_nonneg _ (by omega)]
  exact Int.emod_nonneg _ (by omega)
theorem fm1 (x : Int) {m : Int} (h : 0 < m) : x.fmod m < m := by
  rw [Int.fmod_eq_emod_of_nonneg _ (by omega)]
  exact Int.emod_lt_of_pos _ h
def spPick : Sp := fun vs H Q _ => ∃ (b : Addr) (many : Int), vs = [.ref b, .int many] ∧ 0 < many ∧ many.natAbs < 2 ^ 250 ∧ BagAt H b ∧
  ∀ (r : Int) (H' : Hp), 0 ≤ r → r < many → (∀ a, a ≠ b → H' a = H a) → BagAt H' b → Q (.int r) H'
theorem ok_law_pick {f : Addr} {fd : FuncData} (F : Fun K "_law_pick" "_law_pick" sLawPick f fd) (z_int : mg "int" = none) : FnOk P w K mg base CX0 1 f fd ["bag", "many"] spPick := by
  refine F.ok scLawPick (fun vs H Q E h => ?_) (fun cdv A outer s H vs Q E hr h => ?_)
  · obtain ⟨_, _, rfl, _⟩ := h
    rfl
  obtain ⟨b, many, rfl, hm, hm2, ⟨x, y, z, h0⟩, q⟩ := h
  refine ⟨_, (pss_cons (ps_asg (pe_op op_add (pe_ix ix_list (pv 0) pe_int (fun _ _ => rfl)) pe_int) (pg_sub (pv 0) pe_int set_list))
    (pss_cons (ps_if (pt_cmpR op_gt (pe_ix ix_list (pv 0) pe_int (fun _ _ => rfl)) pe_int (nomark _))
    (pss_cons (ps_set (i := 2) scLawPick.nd rfl (Or.inl rfl) (pe_op op_modN (pe_callTy call_int1 (by rfl) z_int (by decide +kernel) (pa_cons (pe_ix ix_list (pv 0) pe_int (fun _ _ => rfl)) pa_nil)) (pv 1)))
    (pss_cons (ps_asg (pe_op op_fdivW (pe_callTy call_int1 (by rfl) z_int (by decide +kernel) (pa_cons (pe_ix ix_list (pv 0) pe_int (fun _ _ => rfl)) pa_nil)) (pv 1)) (pg_sub (pv 0) pe_int set_list))
    (pss_one (ps_ret (pv 2)))))
    pss_nil)
    (pss_cons (ps_par (i := 3) (j := 4) (by rfl) scLawPick.nd rfl rfl (by decide) rfl rfl (pa_cons (pe_callTy call_int1 (by rfl) z_int (by decide +kernel) (pa_cons (pe_ix ix_list (pv 0) pe_int (fun _ _ => rfl)) pa_nil)) (pa_cons (pe_callTy call_int1 (by rfl) z_int (by decide +kernel) (pa_cons (pe_ix ix_list (pv 0) pe_int (fun _ _ => rfl)) pa_nil)) pa_nil)) (by rfl))
    (pss_cons (ps_set (i := 5) scLawPick.nd rfl (Or.inl rfl) (pe_op op_modN (pe_callTy call_int1 (by rfl) z_int (by decide +kernel) (pa_cons (pe_op op_add (pe_op op_add (pe_op op_mul (pe_op op_modN (pv 3) pe_int) pe_int) (pe_op op_mul (pv 4) pe_int)) pe_int) pa_nil)) pe_int))
    (pss_cons (ps_set (i := 6) scLawPick.nd rfl (Or.inl rfl) (pe_op op_modN (pe_callTy call_int1 (by rfl) z_int (by decide +kernel) (pa_cons (pe_op op_add (pe_op op_mul (pv 5) (pv 5)) (pe_op op_mul (pv 4) pe_int)) pa_nil)) pe_int))
    (pss_cons (ps_set (i := 7) scLawPick.nd rfl (Or.inl rfl) (pe_op op_fdivW (pe_callTy call_int1 (by rfl) z_int (by decide +kernel) (pa_cons (pe_op op_add (pe_op op_mul (pv 5) pe_int) (pv 6)) pa_nil)) pe_int))
    (pss_cons (ps_if (pt_cmpR op_gt (pv 1) (pe_op op_pow pe_int pe_int) (nomark _))
    (pss_one (ps_set (i := 7) scLawPick.nd rfl (Or.inl rfl) (pe_op op_add (pe_op op_pow (pv 7) pe_int) (pv 6))))
    pss_nil)
    (pss_one (ps_ret (pe_op op_modN (pe_callTy call_int1 (by rfl) z_int (by decide +kernel) (pa_cons (pv 7) pa_nil)) (pv 1))))))))))), ?_⟩
  refine ⟨_, rfl, b, _, _, _, rfl, rfl, SqL.of h0, atI_nat (j := 2) rfl, _, _, rfl, rfl, _, rfl, b, _, _, 2, rfl, rfl, h0, rfl, ?_⟩
  dsimp only
  have h1 : (upd H b (.lst ([.int x, .int y, .int z].set 2 (.int (z + 1))))) b = some (.lst [.int x, .int y, .int (z + 1)]) := upd_same
  have k1 : ∀ a, a ≠ b → (upd H b (.lst ([.int x, .int y, .int z].set 2 (.int (z + 1))))) a = H a := fun a ha => upd_ne ha
  generalize upd H b (.lst ([.int x, .int y, .int z].set 2 (.int (z + 1)))) = H1 at h1 k1
  refine ⟨_, rfl, b, _, _, _, rfl, rfl, SqL.of h1, atI_nat (j := 0) rfl, _, _, rfl, rfl, _, rfl, ite2 (fun c => ?_) (fun c => ?_)⟩
  · refine ⟨_, rfl, b, _, _, _, rfl, rfl, SqL.of h1, atI_nat (j := 0) rfl, .inl ⟨_, rfl, _, rfl, _, _, rfl, rfl, by omega, ?_⟩⟩
    refine ⟨_, rfl, b, _, _, _, rfl, rfl, SqL.of h1, atI_nat (j := 0) rfl, .inl ⟨_, rfl, _, rfl, _, _, rfl, rfl, wide_div hm hm2 (by decide) (by decide), _, rfl, b, _, _, 0, rfl, rfl, h1, rfl, ?_⟩⟩
    refine ⟨_, rfl, ?_⟩
    exact q _ _ (fm0 x hm) (fm1 x hm) (fun a ha => by rw [upd_ne ha]; exact k1 a ha) ⟨_, _, _, upd_same⟩
  · refine ⟨_, rfl, b, _, _, _, rfl, rfl, SqL.of h1, atI_nat (j := 1) rfl, .inl ⟨_, rfl, _, rfl, b, _, _, _, rfl, rfl, SqL.of h1, atI_nat (j := 2) rfl, .inl ⟨_, rfl, _, _, rfl, ?_⟩⟩⟩
    refine ⟨_, rfl, _, _, rfl, rfl, (by show (2147483629 : Int) ≠ 0; decide), _, _, rfl, rfl, .inr ⟨by decide, by decide⟩, _, rfl, _, _, rfl, rfl, .inr ⟨by decide, by decide⟩, _, _, rfl, rfl, _, _, rfl, rfl, .inl ⟨_, rfl, _, _, rfl, rfl, (by show (2147483647 : Int) ≠ 0; decide), ?_⟩⟩
    dsimp only
    have a0 := fm0 (y.fmod 2147483629 * 48271 + (z + 1) * 69621 + 12345) (m := 2147483647) (by decide)
    have a1 := fm1 (y.fmod 2147483629 * 48271 + (z + 1) * 69621 + 12345) (m := 2147483647) (by decide)
    generalize (y.fmod 2147483629 * 48271 + (z + 1) * 69621 + 12345).fmod 2147483647 = fi at a0 a1
    refine ⟨_, rfl, _, rfl, _, _, rfl, rfl, .inl ⟨by omega, by omega⟩, _, rfl, _, _, rfl, rfl, .inr ⟨by decide, by decide⟩, _, _, rfl, rfl, .inl ⟨_, rfl, _, _, rfl, rfl, (by show (2147483587 : Int) ≠ 0; decide), ?_⟩⟩
    dsimp only
    have b0 := fm0 (fi * fi + (z + 1) * 40692) (m := 2147483587) (by decide)
    have b1 := fm1 (fi * fi + (z + 1) * 40692) (m := 2147483587) (by decide)
    generalize (fi * fi + (z + 1) * 40692).fmod 2147483587 = se at b0 b1
    refine ⟨_, rfl, _, _, rfl, rfl, .inl ⟨by omega, by omega⟩, _, rfl, _, _, rfl, rfl, .inl ⟨_, rfl, _, _, rfl, rfl, wide_div (b := 6) (by decide) (by decide) (by decide) (by decide), ?_⟩⟩
    dsimp only
    have c0 : 0 ≤ (fi * 2147483587 + se) / 32 := by omega
    have c1 : (fi * 2147483587 + se) / 32 < 2 ^ 62 := by omega
    generalize (fi * 2147483587 + se) / 32 = dr at c0 c1
    refine ⟨_, rfl, _, _, rfl, rfl, ⟨by decide, by decide, by decide⟩, _, _, rfl, rfl, _, rfl, ite2 (fun c => ?_) (fun c => ?_)⟩
    · refine ⟨_, rfl, _, _, rfl, rfl, ⟨by decide, by decide, by omega⟩, _, rfl, _, _, rfl, rfl, ?_⟩
      refine ⟨_, rfl, .inl ⟨_, rfl, _, rfl, _, _, rfl, rfl, by omega, ?_⟩⟩
      exact q _ _ (fm0 _ hm) (fm1 _ hm) k1 ⟨_, _, _, h1⟩
    · refine ⟨_, rfl, .inl ⟨_, rfl, _, rfl, _, _, rfl, rfl, by omega, ?_⟩⟩
      exact q _ _ (fm0 _ hm) (fm1 _ hm) k1 ⟨_, _, _, h1⟩
end
end LT

namespace LT
open PySem PySem.Spec PyProof.Rows L2
section
variable {P : Program} {w : World} {K : PySem.W.Frag} {mg : Str → Option Value} {base : Heap}
def spHalved : Sp := fun vs H Q _ => ∃ (x y : Nat) (v : V), vs = [v] ∧ Nd H v (x, y) ∧ x + 2 ≤ y ∧
  ∀ (H' : Hp) (q : Addr) (l h : V), Same H H' → H q = none → H' q = some (.tup [l, h]) → Nd H' l (x, x + gp (y - x)) → Nd H' h (x + gp (y - x), y) → Q (.ref q) H'
theorem ok_law_halved {f : Addr} {fd : FuncData} (F : Fun K "_law_halved" "_law_halved" sLawHalved f fd) : FnOk P w K mg base CX0 1 f fd ["node"] spHalved := by
  refine F.ok scLawHalved (fun vs H Q E h => ?_) (fun cdv A outer s H vs Q E hr h => ?_)
  · obtain ⟨_, _, _, rfl, _⟩ := h
    rfl
  obtain ⟨x, y, v, rfl, ⟨p, rfl, hp⟩, hxy, q⟩ := h
  refine ⟨_, (pss_cons (ps_asg (pv 0) (pg_tup (by rfl) (pgs_cons (pg_name (i := 1) scLawHalved.nd rfl (Or.inl rfl)) (pgs_cons (pg_name (i := 2) scLawHalved.nd rfl (Or.inl rfl)) pgs_nil))))
    (pss_cons (ps_set (i := 3) scLawHalved.nd rfl (Or.inl rfl) pe_int)
    (pss_cons (ps_while PassesOwn.never (pt_cmpR op_lt (pe_op op_mul pe_int (pv 3)) (pe_op op_sub (pv 2) (pv 1)) (nomark _))
    (pss_one (ps_set (i := 3) scLawHalved.nd rfl (Or.inl rfl) (pe_op op_mul pe_int (pv 3)))))
    (pss_one (ps_ret (pe_tup (pa_cons (pe_tup (pa_cons (pv 1) (pa_cons (pe_op op_add (pv 1) (pv 3)) pa_nil))) (pa_cons (pe_tup (pa_cons (pe_op op_add (pv 1) (pv 3)) (pa_cons (pv 2) pa_nil))) pa_nil)))))))), ?_⟩
  refine ⟨_, rfl, p, _, rfl, SqT.of hp, rfl, _, _, rfl, _, _, rfl, rfl, ?_⟩
  refine ⟨fun mu σ H' => ∃ j : Nat, σ = [some (.ref p), some (.int (x : Int)), some (.int (y : Int)), some (.int ((2 ^ j : Nat) : Int))] ∧ H' = H ∧ 2 ^ j < y - x ∧ mu = y - x - 2 ^ j, ⟨y - x - 1, 0, rfl, rfl, by simp; omega, by simp⟩, ?_⟩
  rintro m σ H1 ⟨j, rfl, rfl, hj, rfl⟩
  refine ⟨_, rfl, _, _, rfl, rfl, .inl ⟨by decide, by decide⟩, _, rfl, _, rfl, _, _, rfl, rfl, _, _, rfl, rfl, _, rfl, ite2 (fun c => ?_) (fun c => ?_)⟩
  · have c1 : 2 * ((2 ^ j : Nat) : Int) < (y : Int) - (x : Int) := of_decide_eq_true c
    have pj : 0 < 2 ^ j := Nat.pow_pos (by decide)
    refine ⟨_, fun σ' H' h => h, _, rfl, _, _, rfl, rfl, .inl ⟨by decide, by decide⟩, ?_⟩
    refine ⟨y - x - 2 ^ (j + 1), by rw [Nat.pow_succ]; omega, j + 1, ?_, rfl, by rw [Nat.pow_succ]; omega, rfl⟩
    have e : (2 : Int) * ((2 ^ j : Nat) : Int) = ((2 ^ (j + 1) : Nat) : Int) := by rw [Nat.pow_succ]; omega
    rw [← e]
    rfl
  · have c1 : ¬ 2 * ((2 ^ j : Nat) : Int) < (y : Int) - (x : Int) := of_decide_eq_false (Bool.eq_false_iff.mpr c)
    have g : gp (y - x) = 2 ^ j := gp_eq hj (by omega)
    have two : 2 ≤ sizeLine := by decide
    refine ⟨_, rfl, _, rfl, _, rfl, _, _, rfl, rfl, two, fun t1 n1 => ⟨_, rfl, _, rfl, _, _, rfl, rfl, _, rfl, two, fun t2 n2 => ⟨two, fun t3 n3 => ?_⟩⟩⟩
    have e2 : (x : Int) + ((2 ^ j : Nat) : Int) = ((x + gp (y - x) : Nat) : Int) := by rw [g]; omega
    dsimp only at n1 n2 n3 ⊢
    rw [e2] at n2 n3 ⊢
    have s1 := same_upd (o := .tup [.int (x : Int), .int ((x + gp (y - x) : Nat) : Int)]) n1
    have s2 := same_upd (o := .tup [.int ((x + gp (y - x) : Nat) : Int), .int (y : Int)]) n2
    have s3 := same_upd (o := .tup [.ref t1, .ref t2]) n3
    exact q _ t3 (.ref t1) (.ref t2) (s1.trans (s2.trans s3)) ((s1.trans s2).free n3) upd_same ⟨t1, rfl, s3 _ _ (s2 _ _ upd_same)⟩ ⟨t2, rfl, s3 _ _ upd_same⟩
end
end LT

namespace LT
open PySem PySem.Spec PyProof.Rows L2
section
variable {P : Program} {w : World} {K : PySem.W.Frag} {mg : Str → Option Value} {base : Heap}
/-! ### walking an enumerate -/
theorem for_enum {a : Addr} {xs : List V} {g : TG} {tb : TS} {D : Ends} {σ : L2.St} {H : Hp} (Pv : Nat → L2.St → Hp → Prop) (h0 : Pv 0 σ H) (hl : ∀ i σ H, i ≤ xs.length → Pv i σ H → SqL K H a xs)
    (hs : ∀ i x σ H T, xs[i]? = some x → Pv i σ H → H T = none → g (.ref T) σ (upd H T (.tup [.int (i : Nat), x])) fun σ2 H2 => tb { D with nx := Pv (i + 1), ct := Pv (i + 1), bk := D.nx } σ2 H2) (hd : ∀ σ H, Pv xs.length σ H → D.nx σ H) :
    ∃ W : Nat → Nat → L2.St → Hp → Prop, (∃ m, W 0 m σ H) ∧ ∀ i m σ H, W i m σ H →
      ((Ite K a).stop i H ∧ D.nx σ H) ∨ ((Ite K a).go i H ∧ ∃ N : L2.St → Hp → Prop, (∀ σ' H', N σ' H' → ∃ m', m' < m ∧ W (i + 1) m' σ' H') ∧ ∀ x H', (Ite K a).yld i H x H' → g x σ H' fun σ2 H2 => tb { D with nx := N, ct := N, bk := D.nx } σ2 H2) := by
  refine ⟨fun i m σ H => m = xs.length - i ∧ i ≤ xs.length ∧ Pv i σ H, ⟨xs.length, by simp, Nat.zero_le _, h0⟩, ?_⟩
  rintro i m σ H ⟨rfl, hi, p⟩
  have q := hl i σ H hi p
  by_cases hlt : i < xs.length
  · refine .inr ⟨⟨xs, xs[i], q, by simp [hlt]⟩, Pv (i + 1), fun σ' H' p' => ⟨xs.length - (i + 1), by omega, rfl, hlt, p'⟩, fun x H' y => ?_⟩
    obtain ⟨T, x1, rfl, nT, rfl, f⟩ := y
    exact hs i x1 σ H T (f xs q) p nT
  · have e : i = xs.length := by omega
    subst e
    exact .inl ⟨⟨xs, q, Nat.le_refl _⟩, hd σ H p⟩
end
end LT

namespace LT
open PySem PySem.Spec PyProof.Rows L2
/-- three ints -/
def Tr (H : Hp) (v : V) (x : Nat × Nat × Nat) : Prop := ∃ p, v = .ref p ∧ H p = some (.tup [.int x.1, .int x.2.1, .int x.2.2])
theorem Tr.same {H H' : Hp} {v : V} {x : Nat × Nat × Nat} (h : Tr H v x) (s : Same H H') : Tr H' v x := by
  obtain ⟨p, e, q⟩ := h
  exact ⟨p, e, s _ _ q⟩
theorem Tr.upd {H : Hp} {v : V} {x : Nat × Nat × Nat} {s : Addr} {xs : List V} {o : HO} (h : Tr H v x) (hs : H s = some (.lst xs)) : Tr (upd H s o) v x := by
  obtain ⟨p, e, q⟩ := h
  exact ⟨p, e, by rw [upd_ne (ne_of q hs (by intro z; cases z))]; exact q⟩
theorem lev_len (t : Nat) : ∀ (l : List (Nat × Nat)) (s : Nat), (lev t s l).length = l.length
  | [], _ => rfl
  | x :: r, s => by
    show (lev t (s + 1) r).length + 1 = r.length + 1
    rw [lev_len t r (s + 1)]
theorem lev_app (t : Nat) : ∀ (l r : List (Nat × Nat)) (s : Nat), lev t s (l ++ r) = lev t s l ++ lev t (s + l.length) r
  | [], r, s => rfl
  | x :: l, r, s => by
    show _ :: lev t (s + 1) (l ++ r) = _ :: (lev t (s + 1) l ++ lev t (s + (l.length + 1)) r)
    rw [lev_app t l r (s + 1), show s + 1 + l.length = s + (l.length + 1) by omega]
end LT

namespace LT
open PySem PySem.Spec PyProof.Rows L2
section
variable {P : Program} {w : World} {K : PySem.W.Frag} {mg : Str → Option Value} {base : Heap}
def spCheckNumber : Sp := fun vs H Q _ => ∃ n : Int, vs = [.int n] ∧ Q .non H
theorem ok_check_number {f g : Addr} {fd gd : FuncData} (F : Fun K "check_number" "check_number" sCheckNumber f fd) (GIsWhole : FnOk P w K mg base CX0 1 g gd ["value"] spWhole) (AIsWhole : At K mg "is_whole" g gd ["value"]) : FnOk P w K mg base CX0 2 f fd ["number"] spCheckNumber := by
  refine F.ok scCheckNumber (fun vs H Q E h => ?_) (fun cdv A outer s H vs Q E hr h => ?_)
  · obtain ⟨_, rfl, _⟩ := h
    rfl
  obtain ⟨n, rfl, q⟩ := h
  refine ⟨_, (pss_one (ps_if (pt_not (pt_val (pe_call GIsWhole (hr.mono (by decide)) rfl AIsWhole.m AIsWhole.kp AIsWhole.b .nil pass0 (pa_cons (pv 0) pa_nil))))
    (pss_one ps_never)
    pss_nil)), ?_⟩
  exact ⟨_, rfl, n, rfl, true, rfl, q⟩
end
end LT

namespace LT
open PySem PySem.Spec PyProof.Rows L2
theorem log2_is {r h : Nat} (h1 : 2 ^ h ≤ r) (h2 : r < 2 ^ (h + 1)) : r.log2 = h := (Nat.log2_eq_iff (by have := Nat.pow_pos (a := 2) (n := h) (by decide); omega)).mpr ⟨h1, h2⟩
theorem pk_step : ∀ (i n b : Nat), n % 2 ^ i ≠ 0 → ∃ h, h < i ∧ pk i n b = (b, h) :: pk h n (b + 2 ^ h) ∧ n % 2 ^ i = 2 ^ h + n % 2 ^ h
  | 0, n, b, hr => by simp [Nat.mod_one] at hr
  | i + 1, n, b, hr => by
    rw [mod_succ] at hr
    by_cases t : n.testBit i = true
    · refine ⟨i, Nat.lt_succ_self i, ?_, by rw [mod_succ, if_pos t]⟩
      show (if n.testBit i = true then _ else _) = _
      rw [if_pos t]
    · rw [if_neg t, Nat.zero_add] at hr
      obtain ⟨h, h1, h2, h3⟩ := pk_step i n b hr
      refine ⟨h, by omega, ?_, by rw [mod_succ, if_neg t, Nat.zero_add]; exact h3⟩
      show (if n.testBit i = true then _ else _) = _
      rw [if_neg t]
      exact h2
section
variable {P : Program} {w : World} {K : PySem.W.Frag} {mg : Str → Option Value} {base : Heap}
def spTops : Sp := fun vs H Q _ => ∃ (n : Nat), vs = [.int n] ∧ 1 ≤ n ∧ n ≤ 10 ^ 30 ∧ ∀ (H' : Hp) (p : Addr) (xs : List V), Same H H' → H p = none → H' p = some (.lst xs) → All2 (Nd H') xs ((pk 101 n 0).map full) → Q (.ref p) H'
theorem ok_peaks {f g1 g2 : Addr} {fd d1 d2 : FuncData} (F : Fun K "peaks" "peaks" sPeaks f fd) (GCheckSize : FnOk P w K mg base CX0 3 g1 d1 ["size"] spCheckSize) (ACheckSize : At K mg "check_size" g1 d1 ["size"])
    (GPowerWithin : FnOk P w K mg base CX0 1 g2 d2 ["number"] spPower) (APowerWithin : At K mg "power_within" g2 d2 ["number"]) : FnOk P w K mg base CX0 4 f fd ["size"] spTops := by
  refine F.ok scPeaks (fun vs H Q E h => ?_) (fun cdv A outer s H vs Q E hr h => ?_)
  · obtain ⟨_, rfl, _⟩ := h
    rfl
  obtain ⟨n, rfl, h1, h30, q⟩ := h
  refine ⟨_, (pss_cons (ps_expr (pe_call GCheckSize (hr.mono (by decide)) rfl ACheckSize.m ACheckSize.kp ACheckSize.b .nil pass0 (pa_cons (pv 0) pa_nil)))
    (pss_cons (ps_set (i := 1) scPeaks.nd rfl (Or.inl rfl) (pe_lst pa_nil))
    (pss_cons (ps_set (i := 2) scPeaks.nd rfl (Or.inl rfl) pe_int)
    (pss_cons (ps_while PassesOwn.never (pt_cmpR op_lt (pv 2) (pv 0) (nomark _))
    (pss_cons (ps_set (i := 3) scPeaks.nd rfl (Or.inl rfl) (pe_op op_add (pv 2) (pe_call GPowerWithin (hr.mono (by decide)) rfl APowerWithin.m APowerWithin.kp APowerWithin.b .nil pass0 (pa_cons (pe_op op_sub (pv 0) (pv 2)) pa_nil))))
    (pss_cons (ps_expr (pe_bm PySem.F.plainAttrs_list PySem.F.slot_list_append PySem.F.type_list_append mt_append (pv 1) (pa_cons (pe_tup (pa_cons (pv 2) (pa_cons (pv 3) pa_nil))) pa_nil)))
    (pss_one (ps_set (i := 2) scPeaks.nd rfl (Or.inl rfl) (pv 3))))))
    (pss_one (ps_ret (pv 1))))))), ?_⟩
  refine ⟨_, rfl, n, rfl, by omega, by omega, ?_⟩
  refine ⟨Nat.zero_le _, fun fa nf => ?_⟩
  have nm : n % 2 ^ 101 = n := Nat.mod_eq_of_lt (Nat.lt_of_le_of_lt h30 (by decide))
  refine ⟨fun mu σ H' => ∃ (i b : Nat) (v3 : Option V) (xs : List V) (done : List (Nat × Nat)), σ = [some (.int n), some (.ref fa), some (.int b), v3] ∧ Same H H' ∧ H' fa = some (.lst xs) ∧ All2 (Nd H') xs (done.map full) ∧ done ++ pk i n b = pk 101 n 0 ∧ b + n % 2 ^ i = n ∧ mu = n - b,
    ⟨n, 101, 0, none, [], [], rfl, same_upd nf, upd_same, .nil, rfl, by omega, by omega⟩, ?_⟩
  rintro m σ H1 ⟨i, b, v3, xs, done, rfl, sm, hf, hx, hd, hb, rfl⟩
  refine ⟨_, rfl, _, rfl, _, _, rfl, rfl, _, rfl, ite2 (fun c => ?_) (fun c => ?_)⟩
  · have c1 : (b : Int) < (n : Int) := of_decide_eq_true c
    obtain ⟨h, hi, hp, hm⟩ := pk_step i n b (by omega)
    have ph := Nat.pow_pos (a := 2) (n := h) (by decide)
    have lh : (n - b).log2 = h := log2_is (by omega) (by have := Nat.mod_lt n ph; rw [Nat.pow_succ]; omega)
    have dl : done.length ≤ 101 := by
      have k1 := congrArg List.length hd
      rw [List.length_append] at k1
      have k2 := pk_len 101 n 0
      omega
    refine ⟨fun σ' H' => ∃ mu, mu < n - b ∧ ∃ (i b : Nat) (v3 : Option V) (xs : List V) (done : List (Nat × Nat)), σ' = [some (.int n), some (.ref fa), some (.int b), v3] ∧ Same H H' ∧ H' fa = some (.lst xs) ∧ All2 (Nd H') xs (done.map full) ∧ done ++ pk i n b = pk 101 n 0 ∧ b + n % 2 ^ i = n ∧ mu = n - b, fun σ' H' h => h, ?_⟩
    have e1 : (n : Int) - (b : Int) = ((n - b : Nat) : Int) := by omega
    refine ⟨_, rfl, _, rfl, _, rfl, _, _, rfl, rfl, n - b, congrArg (fun z => [V.int z]) e1, by omega, by omega, _, _, rfl, rfl, ?_⟩
    have e2 : (b : Int) + ((2 ^ (n - b).log2 : Nat) : Int) = ((b + 2 ^ h : Nat) : Int) := by rw [lh]; omega
    dsimp only
    rw [e2]
    refine ⟨_, rfl, .inl ⟨rfl, _, SqL.of hf⟩, _, rfl, _, rfl, (by show 2 ≤ sizeLine; decide), fun t nt => ?_⟩
    have s1 := same_upd (o := .tup [.int (b : Int), .int ((b + 2 ^ h : Nat) : Int)]) nt
    have hf1 := s1 _ _ hf
    refine ⟨fa, _, _, rfl, rfl, hf1, szlt (by rw [hx.len, List.length_map]; omega), ?_⟩
    refine ⟨_, rfl, ?_⟩
    refine ⟨n - (b + 2 ^ h), by omega, h, b + 2 ^ h, _, xs ++ [.ref t], done ++ [(b, h)], rfl, ?_, upd_same, ?_, ?_, by omega, rfl⟩
    · exact fun a o k => by rw [upd_ne (ne_of_none k nf)]; exact s1 _ _ (sm _ _ k)
    · rw [List.map_append]
      refine (hx.mono (fun v x (k : Nd H1 v x) => (k.same s1).upd hf1)).app (.cons ?_ .nil)
      exact Nd.upd (x := full (b, h)) ⟨t, rfl, upd_same⟩ hf1
    · rw [← hd, hp, List.append_assoc]
      rfl
  · have c1 : ¬ (b : Int) < (n : Int) := of_decide_eq_false (Bool.eq_false_iff.mpr c)
    rw [pk_nil i n b (by omega), List.append_nil] at hd
    rw [hd] at hx
    exact ⟨_, rfl, q H1 fa xs sm nf hf hx⟩
end
end LT

namespace LT
open PySem PySem.Spec PyProof.Rows L2
/-- the parts of a stretch within the rows -/
def db (b e : Nat) (T : List (Nat × Nat × Nat)) : List (Nat × Nat) := (T.filter fun x => decide (max b x.1 < min e x.2.1)).map fun x => (min e x.2.1 - max b x.1, x.2.2)
def total (b e : Nat) (T : List (Nat × Nat × Nat)) : Nat := ((db b e T).map fun p => p.1 * p.2).sum
theorem db_len (b e : Nat) (T : List (Nat × Nat × Nat)) : (db b e T).length ≤ T.length := by
  unfold db
  rw [List.length_map]
  exact List.length_filter_le _ _
theorem db_more {b e i : Nat} {T : List (Nat × Nat × Nat)} {y : Nat × Nat × Nat} (h : T[i]? = some y) : db b e (T.take (i + 1)) = db b e (T.take i) ++ (if max b y.1 < min e y.2.1 then [(min e y.2.1 - max b y.1, y.2.2)] else []) := by
  rw [take_more h]
  unfold db
  rw [List.filter_append, List.map_append, List.filter_cons, List.filter_nil]
  by_cases c : max b y.1 < min e y.2.1
  · rw [if_pos (decide_eq_true c), if_pos c]; rfl
  · rw [if_neg (by simpa using c), if_neg c]; rfl
theorem sum_cast : ∀ l : List Nat, (l.map fun x => ((x : Nat) : Int)).sum = ((l.sum : Nat) : Int)
  | [] => rfl
  | x :: l => by
    rw [List.map_cons, List.sum_cons, List.sum_cons, sum_cast l]
    omega
theorem lev_deep (t : Nat) : ∀ (l : List (Nat × Nat)) (s : Nat) (x : Nat × Nat × Nat), x ∈ lev t s l → (∀ y ∈ l, y.2 ≤ 100) → t ≤ 101 → x.2.2 ≤ 201
  | [], _, _, h, _, _ => by simp [lev] at h
  | y :: r, s, x, h, hl, ht => by
    have h' : x ∈ (y.1, y.1 + 2 ^ y.2, y.2 + min (s + 1) (t - 1)) :: lev t (s + 1) r := h
    rcases List.mem_cons.mp h' with h | h
    · subst h
      have := hl y List.mem_cons_self
      simp only []
      omega
    · exact lev_deep t r (s + 1) x h (fun z hz => hl z (List.mem_cons_of_mem _ hz)) ht
theorem rows_deep (n : Nat) (x : Nat × Nat × Nat) (h : x ∈ lev (pk 101 n 0).length 0 (pk 101 n 0)) : x.2.2 ≤ 201 :=
  lev_deep _ _ _ x h (fun y hy => by have := (pk_begin 101 n 0 y hy).2; omega) (pk_len 101 n 0)
theorem db_deep {b e n : Nat} (p : Nat × Nat) (h : p ∈ db b e (lev (pk 101 n 0).length 0 (pk 101 n 0))) : p.2 ≤ 201 := by
  unfold db at h
  obtain ⟨x, h1, h2⟩ := List.mem_map.mp h
  have := rows_deep n x (List.mem_filter.mp h1).1
  rw [← h2]
  exact this
theorem rows_len (n : Nat) : (lev (pk 101 n 0).length 0 (pk 101 n 0)).length ≤ 101 := by
  rw [lev_len]
  exact pk_len 101 n 0
theorem min_castA (a c : Nat) : (if ((c : Nat) : Int) < (a : Int) then (c : Int) else (a : Int)) = ((min a c : Nat) : Int) := by split <;> omega
theorem max_castA (a c : Nat) : (if ((c : Nat) : Int) > (a : Int) then (c : Int) else (a : Int)) = ((max a c : Nat) : Int) := by split <;> omega
section
variable {P : Program} {w : World} {K : PySem.W.Frag} {mg : Str → Option Value} {base : Heap}
def spCheckSpan : Sp := fun vs H Q _ => ∃ n b e : Nat, vs = [.int n, .int b, .int e] ∧ b < e ∧ e ≤ n ∧ Q .non H
theorem ok_check_span {f g : Addr} {fd gd : FuncData} (F : Fun K "check_span" "check_span" sCheckSpan f fd) (GIsBetween : FnOk P w K mg base CX0 2 g gd ["value", "low", "high"] spBetween) (AIsBetween : At K mg "is_between" g gd ["value", "low", "high"]) : FnOk P w K mg base CX0 3 f fd ["size", "begin", "end"] spCheckSpan := by
  refine F.ok scCheckSpan (fun vs H Q E h => ?_) (fun cdv A outer s H vs Q E hr h => ?_)
  · obtain ⟨_, _, _, rfl, _⟩ := h
    rfl
  obtain ⟨n, b, e, rfl, h1, h2, q⟩ := h
  refine ⟨_, (pss_cons (ps_if (pt_not (pt_val (pe_call GIsBetween (hr.mono (by decide)) rfl AIsBetween.m AIsBetween.kp AIsBetween.b .nil pass0 (pa_cons (pv 1) (pa_cons pe_int (pa_cons (pe_op op_sub (pv 0) pe_int) pa_nil))))))
    (pss_one ps_never)
    pss_nil)
    (pss_one (ps_if (pt_not (pt_val (pe_call GIsBetween (hr.mono (by decide)) rfl AIsBetween.m AIsBetween.kp AIsBetween.b .nil pass0 (pa_cons (pv 2) (pa_cons (pe_op op_add (pv 1) pe_int) (pa_cons (pv 0) pa_nil))))))
    (pss_one ps_never)
    pss_nil))), ?_⟩
  refine ⟨_, rfl, _, rfl, _, _, rfl, rfl, _, _, _, rfl, true, ?_, ?_⟩
  · exact congrArg V.bl (by rw [Bool.and_eq_true]; exact ⟨decide_eq_true (by omega), decide_eq_true (by show (b : Int) ≤ n - 1; omega)⟩)
  refine ⟨_, rfl, _, rfl, _, _, rfl, rfl, _, rfl, _, _, _, rfl, true, ?_, ?_⟩
  · exact congrArg V.bl (by rw [Bool.and_eq_true]; exact ⟨decide_eq_true (by show (b : Int) + 1 ≤ (e : Int); omega), decide_eq_true (by show (e : Int) ≤ n; omega)⟩)
  exact q
def spRows : Sp := fun vs H Q _ => ∃ (n : Nat), vs = [.int n] ∧ 1 ≤ n ∧ n ≤ 10 ^ 30 ∧ ∀ (H' : Hp) (p : Addr) (xs : List V), Same H H' → H p = none → H' p = some (.lst xs) → All2 (Tr H') xs (lev (pk 101 n 0).length 0 (pk 101 n 0)) → Q (.ref p) H'
theorem ok_peak_depths {f g1 : Addr} {fd d1 : FuncData} (F : Fun K "_peak_depths" "_peak_depths" sPeakDepths f fd) (GPeaks : FnOk P w K mg base CX0 4 g1 d1 ["size"] spTops) (APeaks : At K mg "peaks" g1 d1 ["size"])
    (z_min : mg "min" = none) (z_enumerate : mg "enumerate" = none) (z_len : mg "len" = none) : FnOk P w K mg base CX0 5 f fd ["size"] spRows := by
  refine F.ok scPeakDepths (fun vs H Q E h => ?_) (fun cdv A outer s H vs Q E hr h => ?_)
  · obtain ⟨_, rfl, _⟩ := h
    rfl
  obtain ⟨n, rfl, h1, h30, q⟩ := h
  refine ⟨_, (pss_cons (ps_set (i := 1) scPeakDepths.nd rfl (Or.inl rfl) (pe_call GPeaks (hr.mono (by decide)) rfl APeaks.m APeaks.kp APeaks.b .nil pass0 (pa_cons (pv 0) pa_nil)))
    (pss_cons (ps_set (i := 2) scPeakDepths.nd rfl (Or.inl rfl) (pe_lst pa_nil))
    (pss_cons (ps_for PassesOwn.never rfl (pi_enum (by rfl) z_enumerate (pa_cons (pv 1) pa_nil)) (pg_tup (by rfl) (pgs_cons (pg_name (i := 3) scPeakDepths.nd rfl (Or.inl rfl)) (pgs_cons (pg_tup (by rfl) (pgs_cons (pg_name (i := 4) scPeakDepths.nd rfl (Or.inl rfl)) (pgs_cons (pg_name (i := 5) scPeakDepths.nd rfl (Or.inl rfl)) pgs_nil))) pgs_nil)))
    (pss_cons (ps_set (i := 6) scPeakDepths.nd rfl (Or.inl rfl) (pe_callB (call_min2 rfl) (by rfl) z_min (by decide +kernel) (pa_cons (pe_op op_add (pv 3) pe_int) (pa_cons (pe_op op_sub (pe_callB call_len_seq (by rfl) z_len PySem.boot_len (pa_cons (pv 1) pa_nil)) pe_int) pa_nil))))
    (pss_one (ps_expr (pe_bm PySem.F.plainAttrs_list PySem.F.slot_list_append PySem.F.type_list_append mt_append (pv 2) (pa_cons (pe_tup (pa_cons (pv 4) (pa_cons (pv 5) (pa_cons (pe_op op_sub (pe_op op_add (pv 6) (pe_bits (pe_op op_sub (pv 5) (pv 4)))) pe_int) pa_nil)))) pa_nil))))))
    (pss_one (ps_ret (pv 2)))))), ?_⟩
  refine ⟨_, rfl, n, rfl, h1, h30, fun H1 pa xs sm0 npa hpa hxs => ?_⟩
  refine ⟨Nat.zero_le _, fun fa nf => ?_⟩
  have nf0 : H fa = none := sm0.free nf
  have sf := same_upd (o := .lst []) nf
  refine ⟨_, rfl, pa, xs, rfl, sf.seq (SqL.of hpa), ?_⟩
  have L101 := pk_len 101 n 0
  have pkb : ∀ x ∈ pk 101 n 0, x.2 ≤ 100 := fun x hx => by have := (pk_begin 101 n 0 x hx).2; omega
  generalize pk 101 n 0 = L at q hxs L101 pkb
  refine for_enum (a := pa) (xs := xs) (fun i σ H' => ∃ (v3 v4 v5 v6 : Option V) (ys : List V), σ = [some (.int n), some (.ref pa), some (.ref fa), v3, v4, v5, v6] ∧ Same H1 H' ∧ H' fa = some (.lst ys) ∧ All2 (Tr H') ys (lev L.length 0 (L.take i)))
    ⟨none, none, none, none, [], rfl, sf, upd_same, .nil⟩ (fun i σ H' _ ⟨_, _, _, _, _, _, sm, _⟩ => SqL.of (sm _ _ hpa)) ?_ ?_
  · rintro i x σ H2 T hi ⟨v3, v4, v5, v6, ys, rfl, sm, hf, hy⟩ nT
    obtain ⟨⟨b, h⟩, hbh, hnd⟩ : ∃ y : Nat × Nat, L[i]? = some y ∧ Nd H1 x (full y) := by
      obtain ⟨y, e1, e2⟩ := hxs.nth hi
      rw [List.getElem?_map] at e1
      cases e3 : L[i]? with
      | none => rw [e3] at e1; cases e1
      | some z => rw [e3] at e1; exact ⟨z, rfl, by rw [show full z = y from Option.some.inj e1]; exact e2⟩
    have hh : h ≤ 100 := pkb _ (List.mem_of_getElem? hbh)
    obtain ⟨p, rfl, hp⟩ := hnd
    have sT := same_upd (o := .tup [.int ((i : Nat) : Int), .ref p]) nT
    refine ⟨T, _, rfl, SqT.of upd_same, rfl, _, _, rfl, _, _, rfl, p, _, rfl, SqT.of (sT _ _ (sm _ _ hp)), rfl, _, _, rfl, _, _, rfl, rfl, rfl, ?_⟩
    have hpa3 := sT _ _ (sm _ _ hpa)
    have hf3 := sT _ _ hf
    have hy3 := hy.mono (fun v x (k : Tr H2 v x) => k.same sT)
    have sm3 := sm.trans sT
    generalize upd H2 T (.tup [.int ((i : Nat) : Int), .ref p]) = H3 at hpa3 hf3 hy3 sm3
    have xl : xs.length = L.length := by rw [hxs.len, List.length_map]
    have il : i < L.length := (List.getElem?_eq_some_iff.mp hbh).1
    refine ⟨_, rfl, _, _, rfl, rfl, _, rfl, pa, _, rfl, .inl (SqL.of hpa3), _, _, rfl, rfl, _, _, rfl, ?_⟩
    have e6 : (if ((xs.length : Nat) : Int) - 1 < (i : Int) + 1 then ((xs.length : Nat) : Int) - 1 else (i : Int) + 1) = ((min (i + 1) (L.length - 1) : Nat) : Int) := by
      rw [xl]
      split <;> omega
    dsimp only
    rw [e6]
    refine ⟨_, rfl, .inl ⟨rfl, _, SqL.of hf3⟩, _, rfl, _, rfl, _, rfl, _, rfl, _, rfl, _, _, rfl, rfl, _, rfl, _, _, rfl, rfl, _, _, rfl, rfl, (by show 3 ≤ sizeLine; decide), fun t nt => ?_⟩
    have e7 : ((b + 2 ^ h : Nat) : Int) - (b : Int) = ((2 ^ h : Nat) : Int) := by omega
    have e8 : ((min (i + 1) (L.length - 1) : Nat) : Int) + ((Builtin.Int.intBits (((b + 2 ^ h : Nat) : Int) - (b : Int)) : Nat) : Int) - 1 = ((h + min (i + 1) (L.length - 1) : Nat) : Int) := by
      have ph := Nat.pow_pos (a := 2) (n := h) (by decide)
      rw [e7, bits_nat, if_neg (by omega), log2_is (Nat.le_refl _) (by rw [Nat.pow_succ]; omega)]
      omega
    dsimp only
    have e8' : ((min (i + 1) (L.length - 1) : Nat) : Int) + ((Builtin.Int.intBits (((full (b, h)).2 : Int) - ((full (b, h)).1 : Int)) : Nat) : Int) - 1 = ((h + min (i + 1) (L.length - 1) : Nat) : Int) := e8
    rw [e8']
    have st := same_upd (o := .tup [.int ((full (b, h)).1 : Int), .int ((full (b, h)).2 : Int), .int ((h + min (i + 1) (L.length - 1) : Nat) : Int)]) nt
    have hf5 := st _ _ hf3
    have hlen : (lev L.length 0 (L.take i)).length ≤ 101 := by rw [lev_len, List.length_take]; omega
    refine ⟨fa, _, _, rfl, rfl, hf5, szlt (by rw [hy.len]; omega), ?_⟩
    refine ⟨_, _, _, _, ys ++ [.ref t], rfl, ?_, upd_same, ?_⟩
    · exact fun a o k => by rw [upd_ne (ne_of_none k nf)]; exact st _ _ (sm3 _ _ k)
    · rw [take_more hbh, lev_app]
      refine (hy3.mono (fun v x (k : Tr H3 v x) => (k.same st).upd hf5)).app (.cons ?_ .nil)
      have e9 : 0 + (L.take i).length = i := by rw [List.length_take]; omega
      rw [e9]
      exact Tr.upd (x := (b, b + 2 ^ h, h + min (i + 1) (L.length - 1))) ⟨t, rfl, upd_same⟩ hf5
  · rintro σ H2 ⟨v3, v4, v5, v6, ys, rfl, sm, hf, hy⟩
    have e : L.take xs.length = L := List.take_of_length_le (by rw [hxs.len, List.length_map]; exact Nat.le_refl _)
    rw [e] at hy
    exact ⟨_, rfl, q H2 fa ys (sm0.trans sm) nf0 hf hy⟩
def spBetweenRows : Sp := fun vs H Q _ => ∃ (n b e : Nat), vs = [.int n, .int b, .int e] ∧ 1 ≤ n ∧ n ≤ 10 ^ 30 ∧ ∀ (H' : Hp) (p : Addr) (xs : List V), Same H H' → H p = none → H' p = some (.lst xs) → All2 (Nd H') xs (db b e (lev (pk 101 n 0).length 0 (pk 101 n 0))) → Q (.ref p) H'
theorem ok_depths_between {f g1 : Addr} {fd d1 : FuncData} (F : Fun K "_depths_between" "_depths_between" sDepthsBetween f fd) (GPeakDepths : FnOk P w K mg base CX0 5 g1 d1 ["size"] spRows) (APeakDepths : At K mg "_peak_depths" g1 d1 ["size"])
    (z_min : mg "min" = none) (z_max : mg "max" = none) : FnOk P w K mg base CX0 6 f fd ["size", "begin", "end"] spBetweenRows := by
  refine F.ok scDepthsBetween (fun vs H Q E h => ?_) (fun cdv A outer s H vs Q E hr h => ?_)
  · obtain ⟨_, _, _, rfl, _⟩ := h
    rfl
  obtain ⟨n, b, e, rfl, h1, h30, q⟩ := h
  refine ⟨_, (pss_cons (ps_set (i := 3) scDepthsBetween.nd rfl (Or.inl rfl) (pe_lst pa_nil))
    (pss_cons (ps_for PassesOwn.never rfl (pi_list (pe_call GPeakDepths (hr.mono (by decide)) rfl APeakDepths.m APeakDepths.kp APeakDepths.b .nil pass0 (pa_cons (pv 0) pa_nil))) (pg_tup (by rfl) (pgs_cons (pg_name (i := 4) scDepthsBetween.nd rfl (Or.inl rfl)) (pgs_cons (pg_name (i := 5) scDepthsBetween.nd rfl (Or.inl rfl)) (pgs_cons (pg_name (i := 6) scDepthsBetween.nd rfl (Or.inl rfl)) pgs_nil))))
    (pss_cons (ps_set (i := 7) scDepthsBetween.nd rfl (Or.inl rfl) (pe_op op_sub (pe_callB (call_min2 rfl) (by rfl) z_min (by decide +kernel) (pa_cons (pv 2) (pa_cons (pv 5) pa_nil))) (pe_callB (call_max2 rfl) (by rfl) z_max (by decide +kernel) (pa_cons (pv 1) (pa_cons (pv 4) pa_nil)))))
    (pss_one (ps_if (pt_cmpR op_gt (pv 7) pe_int (nomark _))
    (pss_one (ps_expr (pe_bm PySem.F.plainAttrs_list PySem.F.slot_list_append PySem.F.type_list_append mt_append (pv 3) (pa_cons (pe_tup (pa_cons (pv 7) (pa_cons (pv 6) pa_nil))) pa_nil))))
    pss_nil))))
    (pss_one (ps_ret (pv 3))))), ?_⟩
  refine ⟨Nat.zero_le _, fun fa nf => ?_⟩
  have sf := same_upd (o := .lst []) nf
  refine ⟨_, rfl, n, rfl, h1, h30, fun H1 pa xs sm0 npa hpa hxs => ?_⟩
  have T101 := rows_len n
  generalize lev (pk 101 n 0).length 0 (pk 101 n 0) = T at q hxs T101
  refine ⟨pa, rfl, ⟨_, SqL.of hpa⟩, for_list (K := K) (a := pa) (xs := xs) (fun i σ H' => ∃ (v4 v5 v6 v7 : Option V) (ys : List V), σ = [some (.int n), some (.int b), some (.int e), some (.ref fa), v4, v5, v6, v7] ∧ (∀ a o, a ≠ fa → H1 a = some o → H' a = some o) ∧ H' fa = some (.lst ys) ∧ All2 (Nd H') ys (db b e (T.take i)))
    ⟨none, none, none, none, [], rfl, fun a o _ k => k, sm0 _ _ upd_same, .nil⟩ (fun i σ H' _ ⟨_, _, _, _, _, _, sm, _⟩ => SqL.of (sm _ _ (fun z => by rw [z, upd_same] at npa; cases npa) hpa)) ?_ ?_⟩
  · rintro i x σ H2 hi ⟨v4, v5, v6, v7, ys, rfl, sm, hf, hy⟩
    obtain ⟨y, hyT, p, rfl, hp⟩ := hxs.nth hi
    have pf : p ≠ fa := fun z => by
      have k := sm0 _ _ (upd_same (H := H) (a := fa) (o := .lst []))
      rw [← z, hp] at k
      cases k
    have hp2 := sm _ _ pf hp
    have hdl : (db b e (T.take i)).length ≤ 101 := Nat.le_trans (db_len _ _ _) (by rw [List.length_take]; omega)
    refine ⟨p, _, rfl, SqT.of hp2, rfl, _, _, rfl, _, _, rfl, _, _, rfl, rfl, ?_⟩
    refine ⟨_, rfl, _, rfl, _, _, rfl, _, rfl, _, rfl, _, _, rfl, _, _, rfl, rfl, ?_⟩
    dsimp only
    rw [min_castA, max_castA]
    refine ⟨_, rfl, _, _, rfl, rfl, _, rfl, ite2 (fun c => ?_) (fun c => ?_)⟩
    · have c1 : ((min e y.2.1 : Nat) : Int) - ((max b y.1 : Nat) : Int) > 0 := of_decide_eq_true c
      have e1 : ((min e y.2.1 : Nat) : Int) - ((max b y.1 : Nat) : Int) = ((min e y.2.1 - max b y.1 : Nat) : Int) := by omega
      rw [e1]
      refine ⟨_, rfl, .inl ⟨rfl, _, SqL.of hf⟩, _, rfl, _, rfl, (by show 2 ≤ sizeLine; decide), fun t nt => ?_⟩
      have st := same_upd (o := .tup [.int ((min e y.2.1 - max b y.1 : Nat) : Int), .int (y.2.2 : Int)]) nt
      have hf5 := st _ _ hf
      refine ⟨fa, _, _, rfl, rfl, hf5, szlt (by rw [hy.len]; omega), ?_⟩
      refine ⟨_, _, _, _, ys ++ [.ref t], rfl, ?_, upd_same, ?_⟩
      · exact fun a o n k => by rw [upd_ne n]; exact st _ _ (sm _ _ n k)
      · rw [db_more hyT, if_pos (by omega)]
        refine (hy.mono (fun v x (k : Nd H2 v x) => (k.same st).upd hf5)).app (.cons ?_ .nil)
        exact Nd.upd (x := (min e y.2.1 - max b y.1, y.2.2)) ⟨t, rfl, upd_same⟩ hf5
    · have c1 : ¬ ((min e y.2.1 : Nat) : Int) - ((max b y.1 : Nat) : Int) > 0 := of_decide_eq_false (Bool.eq_false_iff.mpr c)
      refine ⟨_, _, _, _, ys, rfl, sm, hf, ?_⟩
      rw [db_more hyT, if_neg (by omega), List.append_nil]
      exact hy
  · rintro σ H2 ⟨v4, v5, v6, v7, ys, rfl, sm, hf, hy⟩
    have e : T.take xs.length = T := List.take_of_length_le (by rw [hxs.len]; exact Nat.le_refl _)
    rw [e] at hy
    exact ⟨_, rfl, q H2 fa ys (fun a o k => sm _ _ (ne_of_none k nf) (sm0 _ _ (sf _ _ k))) nf hf hy⟩
def spDepthSum : Sp := fun vs H Q _ => ∃ (n b e : Nat), vs = [.int n, .int b, .int e] ∧ b < e ∧ e ≤ n ∧ n ≤ 10 ^ 30 ∧ ∀ (H' : Hp), Same H H' → Q (.int ((total b e (lev (pk 101 n 0).length 0 (pk 101 n 0)) : Nat) : Int)) H'
theorem ok_depth_sum {f g1 g2 g3 : Addr} {fd d1 d2 d3 : FuncData} (F : Fun K "depth_sum" "depth_sum" sDepthSum f fd) (GCheckSize : FnOk P w K mg base CX0 3 g1 d1 ["size"] spCheckSize) (ACheckSize : At K mg "check_size" g1 d1 ["size"])
    (GCheckSpan : FnOk P w K mg base CX0 3 g2 d2 ["size", "begin", "end"] spCheckSpan) (ACheckSpan : At K mg "check_span" g2 d2 ["size", "begin", "end"])
    (GDepthsBetween : FnOk P w K mg base CX0 6 g3 d3 ["size", "begin", "end"] spBetweenRows) (ADepthsBetween : At K mg "_depths_between" g3 d3 ["size", "begin", "end"]) (z_sum : mg "sum" = none) : FnOk P w K mg base CX0 7 f fd ["size", "begin", "end"] spDepthSum := by
  refine F.ok scDepthSum (fun vs H Q E h => ?_) (fun cdv A outer s H vs Q E hr h => ?_)
  · obtain ⟨_, _, _, rfl, _⟩ := h
    rfl
  obtain ⟨n, b, e, rfl, h1, h2, h30, q⟩ := h
  refine ⟨_, (pss_cons (ps_expr (pe_call GCheckSize (hr.mono (by decide)) rfl ACheckSize.m ACheckSize.kp ACheckSize.b .nil pass0 (pa_cons (pv 0) pa_nil)))
    (pss_cons (ps_expr (pe_call GCheckSpan (hr.mono (by decide)) rfl ACheckSpan.m ACheckSpan.kp ACheckSpan.b .nil pass0 (pa_cons (pv 0) (pa_cons (pv 1) (pa_cons (pv 2) pa_nil)))))
    (pss_one (ps_ret (pe_callB (cr_sum rfl) (by rfl) z_sum (by decide +kernel) (pa_cons (pe_lc (own := [("count", 3), ("deep", 4)]) rfl scDepthSum.nd (pi_list (pe_call GDepthsBetween (hr.mono (by decide)) rfl ADepthsBetween.m ADepthsBetween.kp ADepthsBetween.b .nil pass0 (pa_cons (pv 0) (pa_cons (pv 1) (pa_cons (pv 2) pa_nil))))) (blkOk_by (N := ["size", "begin", "end", "count", "deep"]) (sc := defScope sDepthSum) (by decide +kernel)) (fun _ _ _ _ _ => (pg_tupB (n := 2) rfl (pgs_cons (pg_name (i := 3) scDepthSum.nd rfl (Or.inl rfl)) (pgs_cons (pg_name (i := 4) scDepthSum.nd rfl (Or.inl rfl)) pgs_nil)))) (fun _ _ _ _ _ => pts_nil) (fun _ _ _ _ _ => (pe_op op_mul (pv 3) (pv 4)))) pa_nil)))))), ?_⟩
  refine ⟨_, rfl, n, rfl, by omega, by omega, ?_⟩
  refine ⟨_, rfl, _, rfl, _, rfl, n, b, e, rfl, h1, h2, ?_⟩
  refine ⟨_, rfl, _, rfl, _, rfl, n, b, e, rfl, by omega, h30, fun H1 p xs sm np hp hx => ?_⟩
  have hd : ∀ z ∈ db b e (lev (pk 101 n 0).length 0 (pk 101 n 0)), z.2 ≤ 201 := fun z hz => db_deep z hz
  have hl : (db b e (lev (pk 101 n 0).length 0 (pk 101 n 0))).length ≤ 101 := Nat.le_trans (db_len _ _ _) (rows_len n)
  have q' : ∀ H', Same H H' → Q (.int ((((db b e (lev (pk 101 n 0).length 0 (pk 101 n 0))).map fun p => p.1 * p.2).sum : Nat) : Int)) H' := q
  generalize db b e (lev (pk 101 n 0).length 0 (pk 101 n 0)) = T at q' hx hd hl
  refine ⟨p, rfl, ⟨_, SqL.of hp⟩, fun D nD => lc_list (xs := xs) (fun i H' => Same H1 H' ∧ H' D = some (.lst (((T.take i).map fun z => ((z.1 * z.2 : Nat) : Int)).map V.int))) ⟨same_upd nD, upd_same⟩ (fun i H' _ k => SqL.of (k.1 _ _ hp)) ?_ ?_⟩
  · rintro i x H2 hi ⟨s2, hD⟩
    obtain ⟨y, hy, xp, rfl, hxp⟩ := hx.nth hi
    have il : i < T.length := (List.getElem?_eq_some_iff.mp hy).1
    have y2 := hd y (List.mem_of_getElem? hy)
    refine ⟨xp, _, rfl, SqT.of (s2 _ _ hxp), rfl, _, _, rfl, _, _, rfl, rfl, rfl, ?_⟩
    refine ⟨_, rfl, _, rfl, _, _, rfl, rfl, .inr ⟨by omega, by omega⟩, _, hD, szlt (by rw [List.length_map, List.length_map, List.length_take]; omega), ?_, ?_⟩
    · exact fun a o k => by rw [upd_ne (ne_of_none k nD)]; exact s2 _ _ k
    · rw [take_more hy, List.map_append, List.map_append]
      have em : ((y.1 : Nat) : Int) * ((y.2 : Nat) : Int) = ((y.1 * y.2 : Nat) : Int) := (Int.natCast_mul _ _).symm
      dsimp only
      rw [em]
      exact upd_same
  rintro H2 ⟨s2, hD⟩
  have et : T.take xs.length = T := List.take_of_length_le (by rw [hx.len]; exact Nat.le_refl _)
  rw [et] at hD
  refine ⟨D, _, rfl, SqL.of hD, ?_⟩
  have es : (T.map fun z => ((z.1 * z.2 : Nat) : Int)).sum = (((T.map fun p => p.1 * p.2).sum : Nat) : Int) := by
    rw [← sum_cast, List.map_map]
    rfl
  rw [es]
  exact q' _ (sm.trans s2)
def least (m : Int) (l : List (Nat × Nat)) : Prop := (∃ z ∈ l, m = (z.2 : Int)) ∧ ∀ z ∈ l, m ≤ (z.2 : Int)
def most (m : Int) (l : List (Nat × Nat)) : Prop := (∃ z ∈ l, m = (z.2 : Int)) ∧ ∀ z ∈ l, (z.2 : Int) ≤ m
def spDepthRange : Sp := fun vs H Q _ => ∃ (n b e : Nat), vs = [.int n, .int b, .int e] ∧ b < e ∧ e ≤ n ∧ n ≤ 10 ^ 30 ∧ db b e (lev (pk 101 n 0).length 0 (pk 101 n 0)) ≠ [] ∧
  ∀ (H' : Hp) (p : Addr) (lo hi : Int), Same H H' → H' p = some (.tup [.int lo, .int hi]) → least lo (db b e (lev (pk 101 n 0).length 0 (pk 101 n 0))) → most hi (db b e (lev (pk 101 n 0).length 0 (pk 101 n 0))) → Q (.ref p) H'
theorem ok_depth_range {f g1 g2 g3 : Addr} {fd d1 d2 d3 : FuncData} (F : Fun K "depth_range" "depth_range" sDepthRange f fd) (GCheckSize : FnOk P w K mg base CX0 3 g1 d1 ["size"] spCheckSize) (ACheckSize : At K mg "check_size" g1 d1 ["size"])
    (GCheckSpan : FnOk P w K mg base CX0 3 g2 d2 ["size", "begin", "end"] spCheckSpan) (ACheckSpan : At K mg "check_span" g2 d2 ["size", "begin", "end"])
    (GDepthsBetween : FnOk P w K mg base CX0 6 g3 d3 ["size", "begin", "end"] spBetweenRows) (ADepthsBetween : At K mg "_depths_between" g3 d3 ["size", "begin", "end"]) (z_min : mg "min" = none) (z_max : mg "max" = none) : FnOk P w K mg base CX0 7 f fd ["size", "begin", "end"] spDepthRange := by
  refine F.ok scDepthRange (fun vs H Q E h => ?_) (fun cdv A outer s H vs Q E hr h => ?_)
  · obtain ⟨_, _, _, rfl, _⟩ := h
    rfl
  obtain ⟨n, b, e, rfl, h1, h2, h30, hne, q⟩ := h
  refine' ⟨_, (pss_cons (ps_expr (pe_call GCheckSize (hr.mono (by decide)) rfl ACheckSize.m ACheckSize.kp ACheckSize.b .nil pass0 (pa_cons (pv 0) pa_nil)))
    (pss_cons (ps_expr (pe_call GCheckSpan (hr.mono (by decide)) rfl ACheckSpan.m ACheckSpan.kp ACheckSpan.b .nil pass0 (pa_cons (pv 0) (pa_cons (pv 1) (pa_cons (pv 2) pa_nil)))))
    (pss_cons ?cc1
    (pss_one (ps_ret (pe_tup (pa_cons (pe_callB (cr_min rfl) (by rfl) z_min (by decide +kernel) (pa_cons (pv 3) pa_nil)) (pa_cons (pe_callB (cr_max rfl) (by rfl) z_max (by decide +kernel) (pa_cons (pv 3) pa_nil)) pa_nil)))))))), ?_⟩
  case cc1 => exact (ps_setLc (i := 3) (own := [("_", 4), ("deep", 5)]) rfl scDepthRange.nd rfl rfl (sw_true rfl rfl rfl (by decide +kernel)) (pi_list (pe_call GDepthsBetween (hr.mono (by decide)) rfl ADepthsBetween.m ADepthsBetween.kp ADepthsBetween.b .nil pass0 (pa_cons (pv 0) (pa_cons (pv 1) (pa_cons (pv 2) pa_nil))))) (blkOk_by (N := ["size", "begin", "end", "found", "_", "deep"]) (sc := defScope sDepthRange) (by decide +kernel)) (fun _ _ _ _ _ => (pg_tupB (n := 2) rfl (pgs_cons (pg_name (i := 4) scDepthRange.nd rfl (Or.inl rfl)) (pgs_cons (pg_name (i := 5) scDepthRange.nd rfl (Or.inl rfl)) pgs_nil)))) (fun _ _ _ _ _ => pts_nil) (fun _ _ _ _ _ => (pv 5)))
  refine ⟨_, rfl, n, rfl, by omega, by omega, ?_⟩
  refine ⟨_, rfl, _, rfl, _, rfl, n, b, e, rfl, h1, h2, ?_⟩
  refine ⟨_, rfl, _, rfl, _, rfl, n, b, e, rfl, by omega, h30, fun H1 p xs sm np hp hx => ?_⟩
  have hl : (db b e (lev (pk 101 n 0).length 0 (pk 101 n 0))).length ≤ 101 := Nat.le_trans (db_len _ _ _) (rows_len n)
  generalize db b e (lev (pk 101 n 0).length 0 (pk 101 n 0)) = T at q hx hne hl
  refine ⟨p, rfl, ⟨_, SqL.of hp⟩, fun D nD => lc_list (xs := xs) (fun i H' => Same H1 H' ∧ H' D = some (.lst (((T.take i).map fun z => ((z.2 : Nat) : Int)).map V.int))) ⟨same_upd nD, upd_same⟩ (fun i H' _ k => SqL.of (k.1 _ _ hp)) ?_ ?_⟩
  · rintro i x H2 hi ⟨s2, hD⟩
    obtain ⟨y, hy, xp, rfl, hxp⟩ := hx.nth hi
    have il : i < T.length := (List.getElem?_eq_some_iff.mp hy).1
    refine ⟨xp, _, rfl, SqT.of (s2 _ _ hxp), rfl, _, _, rfl, _, _, rfl, rfl, rfl, ?_⟩
    refine ⟨_, rfl, _, hD, szlt (by rw [List.length_map, List.length_map, List.length_take]; omega), ?_, ?_⟩
    · exact fun a o k => by rw [upd_ne (ne_of_none k nD)]; exact s2 _ _ k
    · rw [take_more hy, List.map_append, List.map_append]
      exact upd_same
  rintro H2 ⟨s2, hD⟩
  have et : T.take xs.length = T := List.take_of_length_le (by rw [hx.len]; exact Nat.le_refl _)
  rw [et] at hD
  have hlen : 0 < (T.map fun z => ((z.2 : Nat) : Int)).length := by
    rw [List.length_map]
    exact List.length_pos_iff.mpr hne
  refine ⟨_, rfl, D, _, rfl, SqL.of hD, hlen, fun lo hlo hlo2 => ?_⟩
  refine ⟨_, rfl, D, _, rfl, SqL.of hD, hlen, fun hi hhi hhi2 => ?_⟩
  refine ⟨(by show 2 ≤ sizeLine; decide), fun u nu => ?_⟩
  refine q _ u lo hi (sm.trans (s2.trans (same_upd nu))) upd_same ⟨?_, ?_⟩ ⟨?_, ?_⟩
  · obtain ⟨z, h1, h2⟩ := List.mem_map.mp hlo
    exact ⟨z, h1, h2.symm⟩
  · exact fun z hz => hlo2 _ (List.mem_map.mpr ⟨z, hz, rfl⟩)
  · obtain ⟨z, h1, h2⟩ := List.mem_map.mp hhi
    exact ⟨z, h1, h2.symm⟩
  · exact fun z hz => hhi2 _ (List.mem_map.mpr ⟨z, hz, rfl⟩)
def firstOf (k : Int) : List (Nat × Nat × Nat) → V
  | [] => .non
  | x :: r => if (x.2.2 : Int) = k then .int (x.1 : Int) else firstOf k r
def spFirst : Sp := fun vs H Q _ => ∃ (n : Nat) (k : Int), vs = [.int n, .int k] ∧ 1 ≤ n ∧ n ≤ 10 ^ 30 ∧ ∀ (H' : Hp), Same H H' → Q (firstOf k (lev (pk 101 n 0).length 0 (pk 101 n 0))) H'
theorem ok_first_of_depth {f g1 g2 g3 : Addr} {fd d1 d2 d3 : FuncData} (F : Fun K "first_of_depth" "first_of_depth" sFirstOfDepth f fd) (GCheckSize : FnOk P w K mg base CX0 3 g1 d1 ["size"] spCheckSize) (ACheckSize : At K mg "check_size" g1 d1 ["size"])
    (GCheckNumber : FnOk P w K mg base CX0 2 g2 d2 ["number"] spCheckNumber) (ACheckNumber : At K mg "check_number" g2 d2 ["number"])
    (GPeakDepths : FnOk P w K mg base CX0 5 g3 d3 ["size"] spRows) (APeakDepths : At K mg "_peak_depths" g3 d3 ["size"]) : FnOk P w K mg base CX0 6 f fd ["size", "number"] spFirst := by
  refine F.ok scFirstOfDepth (fun vs H Q E h => ?_) (fun cdv A outer s H vs Q E hr h => ?_)
  · obtain ⟨_, _, rfl, _⟩ := h
    rfl
  obtain ⟨n, k, rfl, h1, h30, q⟩ := h
  refine ⟨_, (pss_cons (ps_expr (pe_call GCheckSize (hr.mono (by decide)) rfl ACheckSize.m ACheckSize.kp ACheckSize.b .nil pass0 (pa_cons (pv 0) pa_nil)))
    (pss_cons (ps_expr (pe_call GCheckNumber (hr.mono (by decide)) rfl ACheckNumber.m ACheckNumber.kp ACheckNumber.b .nil pass0 (pa_cons (pv 1) pa_nil)))
    (pss_cons (ps_for PassesOwn.never rfl (pi_list (pe_call GPeakDepths (hr.mono (by decide)) rfl APeakDepths.m APeakDepths.kp APeakDepths.b .nil pass0 (pa_cons (pv 0) pa_nil))) (pg_tup (by rfl) (pgs_cons (pg_name (i := 2) scFirstOfDepth.nd rfl (Or.inl rfl)) (pgs_cons (pg_name (i := 3) scFirstOfDepth.nd rfl (Or.inl rfl)) (pgs_cons (pg_name (i := 4) scFirstOfDepth.nd rfl (Or.inl rfl)) pgs_nil))))
    (pss_one (ps_if (pt_cmpR op_eq (pv 4) (pv 1) (nomark _))
    (pss_one (ps_ret (pv 2)))
    pss_nil)))
    (pss_one (ps_ret pe_non))))), ?_⟩
  refine ⟨_, rfl, n, rfl, by omega, by omega, ?_⟩
  refine ⟨_, rfl, k, rfl, ?_⟩
  refine ⟨_, rfl, n, rfl, h1, h30, fun H1 p xs sm np hp hx => ?_⟩
  generalize lev (pk 101 n 0).length 0 (pk 101 n 0) = T at q hx
  refine ⟨p, rfl, ⟨_, SqL.of hp⟩, for_list (K := K) (a := p) (xs := xs) (fun i σ H' => ∃ (v2 v3 v4 : Option V), σ = [some (.int n), some (.int k), v2, v3, v4] ∧ H' = H1 ∧ firstOf k (T.drop i) = firstOf k T)
    ⟨none, none, none, rfl, rfl, rfl⟩ (fun i σ H' _ ⟨_, _, _, _, s5, _⟩ => by rw [s5]; exact SqL.of hp) ?_ ?_⟩
  · rintro i x σ H2 hi ⟨v2, v3, v4, rfl, rfl, hk⟩
    obtain ⟨y, hy, xp, rfl, hxp⟩ := hx.nth hi
    have ed : T.drop i = y :: T.drop (i + 1) := List.drop_eq_getElem_cons (List.getElem?_eq_some_iff.mp hy).1 ▸ (by rw [(List.getElem?_eq_some_iff.mp hy).2])
    have ef : firstOf k (T.drop i) = if (y.2.2 : Int) = k then .int (y.1 : Int) else firstOf k (T.drop (i + 1)) := by rw [ed]; rfl
    refine ⟨xp, _, rfl, SqT.of hxp, rfl, _, _, rfl, _, _, rfl, _, _, rfl, rfl, ?_⟩
    refine ⟨_, rfl, _, rfl, rfl, _, rfl, ite2 (fun c => ?_) (fun c => ?_)⟩
    · have c1 : V.int (y.2.2 : Int) = V.int k := of_decide_eq_true c
      rw [ef, if_pos (V.int.inj c1)] at hk
      refine ⟨_, rfl, ?_⟩
      show Q (.int (y.1 : Int)) _
      rw [hk]
      exact q _ sm
    · have c1 : ¬ V.int (y.2.2 : Int) = V.int k := of_decide_eq_false (Bool.eq_false_iff.mpr c)
      rw [ef, if_neg (fun z => c1 (by rw [z]))] at hk
      exact ⟨_, _, _, rfl, rfl, hk⟩
  · rintro σ H2 ⟨v2, v3, v4, rfl, rfl, hk⟩
    have ed : T.drop xs.length = [] := List.drop_eq_nil_of_le (by rw [hx.len]; exact Nat.le_refl _)
    rw [ed] at hk
    show Q .non _
    have k2 : V.non = firstOf k T := hk
    rw [k2]
    exact q _ sm
end
end LT

namespace LT
open PySem PySem.Spec PyProof.Rows L2
/-! ### promises of defs that show things: what is being shown around them is told to be nothing -/
structure GOk (P : Program) (w : World) (K : PySem.W.Frag) (mg : Str → Option Value) (base : Heap) (k : Nat) (f : Addr) (fd : FuncData) (ps : List Str) (sp : Sp) : Prop where
  len : ∀ vs H Q E, sp vs H Q E → vs.length = ps.length
  run : ∀ (A : Around) (outer : List Env) (s : Shared) (H : Hp) (args : Args) (us : List Value) (vs : List V) (Q : VK), A.guards = some [] → Room k A → Env0 P w K mg base A outer s H → BindsTo s fd args (ps.zip us) → Vals vs us → sp vs H Q E0 →
    codeAny (model P w) A (.call (.ref f) args) (CR CX0 outer P w H s Q E0) s
section
variable {P : Program} {w : World} {K : PySem.W.Frag} {mg : Str → Option Value} {base : Heap} {k : Nat} {f : Addr} {fd : FuncData} {ps : List Str} {sp : Sp}
theorem GOk.of (F : FnOk P w K mg base CX0 k f fd ps sp) : GOk P w K mg base k f fd ps sp := by
  refine ⟨F.len, ?_⟩
  intro A outer s H args us vs Q _
  exact F.run A outer s H args us vs Q E0
theorem GOk.mono {j : Nat} (F : GOk P w K mg base j f fd ps sp) (h : j ≤ k) : GOk P w K mg base k f fd ps sp := by
  refine ⟨F.len, ?_⟩
  intro A outer s H args us vs Q hg hr
  exact F.run A outer s H args us vs Q hg (hr.mono h)
/-- a def by its body, as Fun.ok -/
theorem okG {x qual : Str} {st : Stmt} {N : List Str} (F : Fun K x qual st f fd) (S : FnScope N ps (defScope st)) (len : ∀ vs H Q E, sp vs H Q E → vs.length = ps.length)
    (body : ∀ (cdv : Value) (A : Around) (outer : List Env) (s : Shared) (H : Hp) (vs : List V) (Q : VK), A.guards = some [] → Room k (A.deeper (envOfC qual (defScope st) s.heap.objs.size f cdv)) → sp vs H Q E0 →
      ∃ t, PSs (cxOf CX0 P w K mg base N qual (defScope st) f cdv A outer s H E0).nox (defBody st) t ∧ t { nx := fun _ H' => Q .non H', rt := Q } (start N vs) H) : GOk P w K mg base (k + 1) f fd ps sp := by
  obtain ⟨oc, od, kV, doc, pm, an, cdv, ct, osl, e, lk, hcd⟩ := F.ex
  subst e
  refine ⟨len, ?_⟩
  intro A outer s H args us vs Q hg hr ev hb rv hsp
  have nvs := len _ _ _ _ hsp
  have there : K.In s.heap := ev.mod.kin.keeps (fun b o q => (ev.bs b o q).1)
  have noLim : s.heap.NoLimit := ev.mod.nolimit.keeps (fun b o q => (ev.bs b o q).1)
  have kinds : ∀ y ∈ ps.zip us, (defScope st).names.lookup y.1 = some .local ∨ ((defScope st).names.lookup y.1 = some .cell ∧ ((cellsFrom (s.heap.objs.size + 1) (defScope st).names []).lookup y.1).isSome = true) := by
    intro y hy
    rcases S.par y.1 (List.of_mem_zip hy).1 with q | q
    · exact Or.inl q
    · exact Or.inr ⟨q, PySem.W.cellsFrom_some _ _ _ (Or.inl q)⟩
  apply codeAny_call_function hr.depth (there _ _ lk) rfl S.co S.gen rfl (PySem.W.codeRec_of there hcd)
  apply hb
  apply wpAny_newFunctionEnv_cells S.kind kinds
  intro env he s1 made
  subst he
  refine ⟨noLim.keeps made.toInCall.keep, codeAny_func ?_⟩
  obtain ⟨t, ht, hq⟩ := body cdv A outer s H vs Q hg (hr.deeper _) hsp
  have I : Inv (cxOf CX0 P w K mg base N qual (defScope st) f cdv A outer s H E0) [] (start N vs) H s1 := inv_start S hr.hd ev nvs rv made
  have ran := ht.nox.run [] s1 (start N vs) H _ I hq
  apply wpAny_mono ran
  · intro fl s' hs
    have fin : ∀ {σ' : L2.St} {H' : Hp} {v : V} {u : Value}, Inv (cxOf CX0 P w K mg base N qual (defScope st) f cdv A outer s H E0) [] σ' H' s' → RelV v u → Q v H' → CE outer P w H s Q u s' := by
      intro σ' H' v u J r q
      exact ⟨v, H', J.os, J.bare, J.base, J.hok, r, q⟩
    match fl, hs with
    | .ret u, ⟨v, σ', H', J, r, q⟩ => exact fin J r q
    | .next, ⟨σ', H', J, q⟩ => exact fin (v := V.non) (u := Value.none) J rfl q
    | .brk, ⟨_, _, _, q⟩ => exact False.elim q
    | .cont, ⟨_, _, _, q⟩ => exact False.elim q
  · intro e s' hs
    exact hs
end
section
variable {X : Cx} {k : Nat} {f : Addr} {fd : FuncData} {ps : List Str} {sp : Sp} {x : Str} {p pos : Pos} {e : Expr} {es : List Expr} {t : TA}
theorem runG {pins : List (Addr × Obj)} {σ : L2.St} {H : Hp} {s : Shared} {Q : VK} {us : List Value} {vs : List V} (F : GOk X.prog X.w X.K X.mg X.base k f fd ps sp) (hg : X.A.guards = some []) (hr : Room k X.A) (hb : Binds X.K fd ps [])
    (I : Inv X pins σ H s) (rv : Vals vs us) (h : sp vs H Q E0) : wpAny (model X.prog X.w) X.A (call (.ref f) us) (EP X pins σ Q) X.xe s := by
  have n : (us ++ []).length = ps.length := by
    rw [List.append_nil, ← rv.length]
    exact F.len _ _ _ _ h
  have b := hb s us I.kIn n
  rw [List.append_nil] at b
  apply wpAny_call
  apply codeAny_mono (F.run X.A X.stack s H ⟨us, []⟩ us vs Q hg hr I.env0 b rv h)
  intro res s' hq
  match res, hq with
  | .error _, hq => exact False.elim hq
  | .ok (.ret u), hq => exact I.after hq
  | .ok .next, hq => exact False.elim hq
  | .ok .brk, hq => exact False.elim hq
  | .ok .cont, hq => exact False.elim hq
theorem pe_callG (F : GOk X.prog X.w X.K X.mg X.base k f fd ps sp) (hgd : X.A.guards = some []) (hr : Room k X.A) (hg : Gl X x) (hm : X.mg x = some (.ref f)) (hk : PySem.W.keepIn X.K (.ref f) = true) (hb : Binds X.K fd ps [])
    (ha : PA X (e :: es) t) (hdb : (x == ("__debug__" : Str)) = false := by decide) (he : starEach (e :: es) X.env = (false, eval e X.env) :: starEach es X.env := by rfl) (hpl : (backTo pos (starEach es X.env)).any (·.1) = false := by rfl) :
    PE X (.Call (.Name x p) (e :: es) [] pos) (tCall sp [] E0 t) := by
  constructor
  intro pins s σ H Q I h
  apply wpAny_Call_Name_kw
  refine ld_glob I hg hm ?_ hdb
  apply PySem.W.callWith_K (h₀ := X.base) I.ok.mod.kin hk _ he hpl
  apply thn (ha.run pos pins s σ H _ I h)
  intro us s1 hh
  obtain ⟨vs, H1, I1, rv, q⟩ := hh
  rw [List.append_nil] at q
  exact ⟨I1.kIn, runG F hgd hr hb I1 rv q⟩
/-- repr of lists and tuples of plain data -/
theorem call_repr (hg : X.A.guards = some []) (hu : X.A.units + 65 < cLine) :
    CallR X (.builtin "repr") (fun xs H Q => ∃ y d, xs = [y] ∧ Dp X.K H y d ∧ PyProof.Rows.isDisplay d = true ∧ SeqAt.shaped d = true ∧ d.showable = true ∧ d.shown.length ≤ sizeLine ∧ Q (.str d.shown) H) := by
  intro pins s σ H xs us Q I r h
  obtain ⟨y, d, rfl, hd, hi, hsh, hs, hl, q⟩ := h
  obtain ⟨u, rfl, r1⟩ := vals1 r
  obtain ⟨as, r2⟩ := Dp.reads I d y u hd r1
  obtain ⟨a, rfl⟩ := PyProof.Rows.isRef_of_reads r2 hi
  have dp := SeqAt.depth_of_shaped hsh
  refine repr_of_reads' r2 hs (PyData.noDict_hsm (PyData.hasDict_of_canLay d (SeqAt.canLay_of_shaped hsh))) hg (by omega) (fun _ _ q => q) ?_ hl
  intro h' u tk kept
  exact ⟨.str d.shown, H, I.kept kept, ⟨_, rfl⟩, q⟩
theorem call_reprB {s : Shared} {H : Hp} {sc : Scope} {ce : Env} {fp : List Addr} (hg : X.A.guards = some []) (hu : X.A.units + 65 < cLine) :
    CallR (X.blk s H sc ce fp) (.builtin "repr") (fun xs H Q => ∃ y d, xs = [y] ∧ Dp X.K H y d ∧ PyProof.Rows.isDisplay d = true ∧ SeqAt.shaped d = true ∧ d.showable = true ∧ d.shown.length ≤ sizeLine ∧ Q (.str d.shown) H) := call_repr (X := X.blk s H sc ce fp) hg hu
end
end LT

namespace LT
open PySem PySem.Spec PyProof.Rows L2
section
variable {P : Program} {w : World} {K : PySem.W.Frag} {mg mb : Str → Option Value} {k : Nat} {fa a : Addr} {fd : FuncData} {x : Str} {sp : Sp} {s₁ : Shared} {vs : List Value} {ns : List Int}
/-- what is told of the heap ahead of the law's call: the script alone, where it is no object of the top -/
def told (K : PySem.W.Frag) (a : Addr) (ob : Obj) (ns : List Int) : Hp := fun b => if b = a ∧ K.lookup a = none then some (.frz ob (.lst (ns.map V.int))) else none
theorem told_at {ob : Obj} {b : Addr} {u : HO} (h : told K a ob ns b = some u) : b = a ∧ K.lookup a = none ∧ u = .frz ob (.lst (ns.map V.int)) := by
  unfold told at h
  by_cases c : b = a ∧ K.lookup a = none
  · rw [if_pos c] at h
    exact ⟨c.1, c.2, (Option.some.inj h).symm⟩
  · rw [if_neg c] at h
    cases h
/-- the law's call, from a promise that asks that nothing is being shown -/
theorem lawG (there : K.In s₁.heap) (globs : s₁.heap.Ns mainGlobals mg) (blts : s₁.heap.Ns builtinsNs mb) (boot : ∀ y : Str, y ≠ "__name__" → mb y = bootBuiltins y) (noLim : s₁.heap.NoLimit) (noGens : s₁.gens = #[])
    (obj : s₁.heap.get? a = some { cls := .type "list", data := .seq vs.toArray }) (areI : IntsAre vs ns) (few : ns.length ≤ sizeLine) (hr : Room k callerA)
    (F : ∀ base : Heap, K.In base → base.Ns mainGlobals mg → GOk P w K mg base k fa fd [x] sp) (binds : ∀ (s : Shared) (u : Value), BindsTo s fd ⟨[u], []⟩ [(x, u)])
    (keeps : ∀ H : Hp, Only H → SqL K H a (ns.map V.int) → sp [.ref a] H (fun v _ => v = .bl true) E0) :
    codeAny (model P w) callerA (.call (.ref fa) ⟨[.ref a], []⟩) (fun r s' => r = .ok (.ret (.bool true)) ∧ OldK s₁.heap s'.heap ∧ s'.os = s₁.os ∧ AllBare s'.gens) s₁ := by
  generalize ho : ({ cls := .type "list", data := .seq vs.toArray } : Obj) = ob at obj
  have items := vals_ints areI
  have only : Only (told K a ob ns) := by
    intro b
    cases q : told K a ob ns b with
    | none => exact Or.inl rfl
    | some u => exact Or.inr ⟨ob, ns.map V.int, by rw [(told_at q).2.2]⟩
  have sq : SqL K (told K a ob ns) a (ns.map V.int) := by
    cases q : K.lookup a with
    | none => exact Or.inl (Or.inr ⟨ob, if_pos ⟨rfl, q⟩⟩)
    | some o =>
      have same : o = ob := Option.some.inj ((there a o q).symm.trans obj)
      subst same
      subst ho
      refine Or.inr ⟨_, vs.toArray, _, q, rfl, rfl, rfl, ?_, by simpa using items⟩
      rw [List.size_toArray, areI.length]
      exact few
  have fits : HOk P w (told K a ob ns) s₁.heap := by
    intro b u q
    obtain ⟨rfl, _, rfl⟩ := told_at q
    subst ho
    exact ⟨obj, by rw [List.length_map]; exact few, vs, _, items, obj⟩
  have behind : ∀ {b : Addr} {o : Obj}, s₁.heap.get? b = some o → told K a ob ns b = none → (hidT s₁.heap (told K a ob ns)).get? b = some o := fun q n => hidT_get q n
  have nsp : ∀ {b : Addr} {m : Str → Option Value}, s₁.heap.Ns b m → (hidT s₁.heap (told K a ob ns)).Ns b m := by
    rintro b m ⟨o, es, ep, q, d, r⟩
    refine ⟨o, es, ep, behind q ?_, d, r⟩
    cases z : told K a ob ns b with
    | none => rfl
    | some u =>
      obtain ⟨rfl, _, _⟩ := told_at z
      rw [obj] at q
      cases q
      subst ho
      cases (show Data.seq vs.toArray _ = Data.dict es ep from d)
  have inB : K.In (hidT s₁.heap (told K a ob ns)) := by
    intro b o q
    refine behind (there b o q) ?_
    cases z : told K a ob ns b with
    | none => rfl
    | some u =>
      obtain ⟨rfl, n, _⟩ := told_at z
      rw [n] at q
      cases q
  have M : Mod K mg (hidT s₁.heap (told K a ob ns)) := by
    obtain ⟨mc, c1, c2⟩ := noLim
    exact ⟨inB, nsp globs, ⟨mb, nsp blts, boot⟩, ⟨mc, nsp c1, c2⟩⟩
  have ev : Env0 P w K mg (hidT s₁.heap (told K a ob ns)) callerA [] s₁ (told K a ob ns) :=
    { frames := rfl, mod := M, bs := fun _ _ q => of_hidT q, bsz := Nat.le_of_eq (hidT_size _ _), funs := trivial, frf := fun b q => absurd (show b ∈ ([] : List Addr) from q) List.not_mem_nil, hok := fits, bare := .of_eq noGens }
  have ran := (F _ inB (nsp globs)).run callerA [] s₁ (told K a ob ns) ⟨[.ref a], []⟩ [.ref a] [.ref a] _ rfl hr ev (binds s₁ (.ref a)) (.cons rfl .nil) (keeps _ only sq)
  apply codeAny_mono ran
  intro res s' h
  match res, h with
  | .error _, h => exact False.elim h
  | .ok .next, h => exact False.elim h
  | .ok .brk, h => exact False.elim h
  | .ok .cont, h => exact False.elim h
  | .ok (.ret u), ⟨v, H', os, bare, un, hok', rv, q⟩ =>
    have qv : v = .bl true := q
    subst qv
    have qu : u = Value.bool true := rv
    subst qu
    refine ⟨rfl, OldK.of_keep ?_, os, bare⟩
    intro b o q1
    cases z : told K a ob ns b with
    | none => exact un.keep b o q1 z (fun m => absurd (show b ∈ ([] : List Addr) from m) List.not_mem_nil) List.not_mem_nil
    | some c =>
      obtain ⟨rfl, n, rfl⟩ := told_at z
      obtain ⟨e1, _⟩ := fits _ _ z
      obtain ⟨e2, _⟩ := hok' _ _ (un.frzs _ _ _ z)
      rw [q1] at e1
      cases e1
      exact e2
end
theorem walkG {l : PySem.W.OpenLaw} {n k : Nat} {q : Program} {loose : List Str} {XP : (Str → Option Value) → Heap → Prop} {YP : World → Heap → Prop} {d : DefRec} {K : Params → PySem.W.Frag} {sp : World → Sp} {x : Str}
    (hn : l.most = some n) (hn2 : n ≤ sizeLine) (hdf : d.params.defaults = []) (hr : Room k callerA) (hY : ∀ (w : World) (h : Heap), YP w h → (K w.params).In h)
    (F : ∀ (w : World) (mg : Str → Option Value) (fa : Addr) (h : Heap), (K w.params).In h → h.Ns mainGlobals mg → mg d.name = some (.ref fa) →
      ∃ fd : FuncData, (∀ (s : Shared) (u : Value), BindsTo s fd ⟨[u], []⟩ [(x, u)]) ∧ ∀ base : Heap, (K w.params).In base → base.Ns mainGlobals mg → GOk l.prog w (K w.params) mg base k fa fd [x] (sp w))
    (keeps : ∀ (w : World) (H : Hp) (a : Addr) (ns : List Int), ns.length ≤ n → Only H → SqL (K w.params) H a (ns.map V.int) → sp w [.ref a] H (fun v _ => v = .bl true) E0) :
    PySem.W.WalkO q loose XP YP l.row.toRowW d [] (fun f vs => PySem.call f vs) := by
  apply Att.attach_call hn hdf
  intro w s₀ s₁ mg mb fa o pm cd doc a vs ns G Y ho hd hcd hmg hobj hints hlen hg
  obtain ⟨fd, hb, hF⟩ := F w mg fa _ (hY w _ Y) G.T.g hmg
  exact lawG (hY w _ Y) G.T.g G.T.b G.T.builtins G.T.nolimit hg hobj hints (Nat.le_trans hlen hn2) hr hF hb (fun H hO hS => keeps w H a ns hlen hO hS)
end LT

namespace LT
/-- the nodes from (b, b + m) down, as the law lists them -/
def nodesF : Nat → Nat → Nat → List (Nat × Nat)
  | 0, _, _ => []
  | i + 1, b, m => if m ≤ 1 then [(b, b + m)] else (b, b + m) :: (nodesF i b (gp m) ++ nodesF i (b + gp m) (m - gp m))
theorem nodesF_one {i b m : Nat} (h : m ≤ 1) : nodesF (i + 1) b m = [(b, b + m)] := if_pos h
theorem nodesF_two {i b m : Nat} (h : ¬ m ≤ 1) : nodesF (i + 1) b m = (b, b + m) :: (nodesF i b (gp m) ++ nodesF i (b + gp m) (m - gp m)) := if_neg h
theorem gp_half {i m : Nat} (h : 2 ≤ m) (k : 2 * m ≤ 2 ^ (i + 1)) : 2 * gp m ≤ 2 ^ i ∧ 2 * (m - gp m) ≤ 2 ^ i := by
  have g1 := gp_lt h
  have g2 := gp_ge h
  have p := Nat.pow_succ (n := 2) (m := i)
  have : gp m < 2 ^ i := by omega
  unfold gp at this ⊢
  have e := (Nat.pow_lt_pow_iff_right (by decide : 1 < 2)).mp this
  have e2 : 2 ^ ((m - 1).log2 + 1) ≤ 2 ^ i := Nat.pow_le_pow_right (by decide) (by omega)
  rw [Nat.pow_succ] at e2
  unfold gp at g1 g2
  omega
theorem nodesF_len : ∀ (i b m : Nat), 1 ≤ m → 2 * m ≤ 2 ^ i → (nodesF i b m).length = 2 * m - 1
  | 0, b, m, h1, h2 => by simp at h2; omega
  | i + 1, b, m, h1, h2 => by
    by_cases c : m ≤ 1
    · rw [nodesF_one c]
      simp
      omega
    · rw [nodesF_two c, List.length_cons, List.length_append]
      have g1 := gp_lt (m := m) (by omega)
      have g3 := gp_pos m
      obtain ⟨k1, k2⟩ := gp_half (by omega) h2
      rw [nodesF_len i b (gp m) g3 k1, nodesF_len i (b + gp m) (m - gp m) (by omega) k2]
      omega
/-- a node of tree(n) -/
def isN (n : Nat) (x : Nat × Nat) : Prop := x.1 < x.2 ∧ x.2 ≤ n ∧ tree n x.1 (x.2 - x.1)
theorem mul_le_of_lt {R a b : Nat} (h1 : R ∣ a) (h2 : R ∣ b) (h : a < b) : a + R ≤ b := by
  obtain ⟨x, rfl⟩ := h1
  obtain ⟨y, rfl⟩ := h2
  have : x < y := Nat.lt_of_mul_lt_mul_left h
  calc R * x + R = R * (x + 1) := by rw [Nat.mul_succ]
    _ ≤ R * y := Nat.mul_le_mul_left R this
/-- a node within another one is it, or lies within one of its halves -/
theorem node_in {n b m : Nat} (h : 2 ≤ m) (t : tree n b m) (hn : b + m ≤ n) {x : Nat × Nat} (hx : isN n x) (h1 : b ≤ x.1) (h2 : x.2 ≤ b + m) : x = (b, b + m) ∨ x.2 ≤ b + gp m ∨ b + gp m ≤ x.1 := by
  obtain ⟨x1, x2⟩ := x
  obtain ⟨k1, k2, d, k3⟩ := hx
  simp only at k1 k2 d k3 h1 h2
  by_cases c1 : x2 ≤ b + gp m
  · exact .inr (.inl c1)
  by_cases c2 : b + gp m ≤ x1
  · exact .inr (.inr c2)
  left
  obtain ⟨td, tk⟩ := t
  have e := lb_gp h
  rw [e] at td tk
  have g1 := gp_lt h
  have g2 := gp_ge h
  have gR : gp m = 2 ^ Nat.log2 (m - 1) := rfl
  generalize hr : lb (x2 - x1) = r at d k3
  have ge := lb_ge (x2 - x1)
  rw [hr] at ge
  by_cases c : r ≤ Nat.log2 (m - 1)
  · -- small: a multiple of 2 ^ r below b + gp m ends there at most
    have dg : 2 ^ r ∣ gp m := by rw [gR]; exact Nat.pow_dvd_pow 2 c
    have db : 2 ^ r ∣ b := Nat.dvd_trans dg (Nat.dvd_trans (Nat.dvd_mul_left _ _) td)
    have := mul_le_of_lt d (Nat.dvd_add db dg) (by omega : x1 < b + gp m)
    omega
  · have dd : 2 * gp m ∣ 2 ^ r := by
      rw [gR, Nat.mul_comm, ← Nat.pow_succ]
      exact Nat.pow_dvd_pow 2 (by omega)
    have dx := Nat.dvd_trans dd d
    have ex : x1 = b := by
      by_cases z : b < x1
      · have := mul_le_of_lt td dx z
        omega
      · omega
    subst ex
    have le : 2 * gp m ≤ 2 ^ r := Nat.le_of_dvd (Nat.pow_pos (by decide)) dd
    have rl : r ≤ Nat.log2 (m - 1) + 1 := by
      rw [← hr]
      refine lb_le ?_
      rw [Nat.pow_succ, ← gR]
      omega
    have e2 : 2 ^ r ≤ 2 * gp m := by
      rw [gR, Nat.mul_comm, ← Nat.pow_succ]
      exact Nat.pow_le_pow_right (by decide) rl
    have : x2 = x1 + m := by
      rcases k3 with k3 | k3 <;> omega
    rw [this]
theorem mem_nodesF (n : Nat) (x : Nat × Nat) : ∀ (i b m : Nat), 1 ≤ m → 2 * m ≤ 2 ^ i → tree n b m → b + m ≤ n → (x ∈ nodesF i b m ↔ isN n x ∧ b ≤ x.1 ∧ x.2 ≤ b + m)
  | 0, b, m, h1, h2, _, _ => by simp at h2; omega
  | i + 1, b, m, h1, h2, t, hn => by
    by_cases c : m ≤ 1
    · have em : m = 1 := by omega
      subst em
      rw [nodesF_one (by omega), List.mem_singleton]
      constructor
      · rintro rfl
        exact ⟨⟨by simp, by simpa using hn, by simpa using t⟩, by simp, by simp⟩
      · rintro ⟨⟨k1, _⟩, k2, k3⟩
        have : x.1 = b ∧ x.2 = b + 1 := by omega
        exact Prod.ext this.1 this.2
    · rw [nodesF_two c, List.mem_cons, List.mem_append]
      have g1 := gp_lt (m := m) (by omega)
      have g3 := gp_pos m
      obtain ⟨k1, k2⟩ := gp_half (by omega) h2
      have e : b + gp m + (m - gp m) = b + m := by omega
      have il := mem_nodesF n x i b (gp m) g3 k1 (tree_low (by omega) t) (by omega)
      have ih := mem_nodesF n x i (b + gp m) (m - gp m) (by omega) k2 (tree_high (by omega) t) (by omega)
      rw [il, ih, e]
      constructor
      · rintro (rfl | ⟨p, q, r⟩ | ⟨p, q, r⟩)
        · exact ⟨⟨by simp; omega, by simpa using hn, by simpa using t⟩, by simp, by simp⟩
        · exact ⟨p, q, by omega⟩
        · exact ⟨p, by omega, r⟩
      · rintro ⟨p, q, r⟩
        rcases node_in (by omega) t hn p q r with z | z | z
        · exact .inl z
        · exact .inr (.inl ⟨p, q, z⟩)
        · exact .inr (.inr ⟨p, z, r⟩)
instance (n : Nat) (x : Nat × Nat) : Decidable (tree n x.1 (x.2 - x.1)) := by unfold tree; infer_instance
instance (n : Nat) (x : Nat × Nat) : Decidable (isN n x) := by unfold isN; infer_instance
end LT

namespace LT
open PySem PySem.Spec PyProof.Rows L2
def nd (x : Nat × Nat) : PyData := .tuple [.int x.1, .int x.2]
theorem nds_lay : ∀ l : List (Nat × Nat), PyData.canLayAll0 (l.map nd) = true
  | [] => by simp [PyData.canLayAll0]
  | x :: l => by simp [PyData.canLayAll0, nd, PyData.canLay0, nds_lay l]
theorem nds_depth : ∀ l : List (Nat × Nat), PyData.depthAll (l.map nd) ≤ 2
  | [] => by simp [PyData.depthAll]
  | x :: l => by
    have := nds_depth l
    simp only [List.map_cons, PyData.depthAll, nd, PyData.depth]
    omega
theorem nds_shaped (l : List (Nat × Nat)) : SeqAt.shaped (.list (l.map nd)) = true := by
  have h := nds_depth l
  have h2 : PyData.depth (.list (l.map nd)) ≤ 64 := by
    simp only [PyData.depth]
    omega
  show (PyData.canLay0 (.list (l.map nd)) && decide (PyData.depth (.list (l.map nd)) ≤ 64)) = true
  rw [Bool.and_eq_true]
  exact ⟨by simp only [PyData.canLay0]; exact nds_lay l, decide_eq_true h2⟩
theorem nds_dp {K : PySem.W.Frag} {H : Hp} : ∀ {vs : List V} {l : List (Nat × Nat)}, All2 (Nd H) vs l → DpAll K H vs (l.map nd)
  | _, _, .nil => .nil
  | _, _, .cons h t => .cons h.dp (nds_dp t)
theorem nds_any (l : List (Nat × Nat)) (x : Nat × Nat) : (l.map nd).any (fun z => PyData.eqv z (.tuple [.int x.1, .int x.2])) = decide (x ∈ l) := by
  induction l with
  | nil => simp
  | cons y l ih =>
    rw [List.map_cons, List.any_cons, ih]
    show (PyData.eqv (.tuple [.int y.1, .int y.2]) _ || _) = _
    rw [nd_eqv]
    by_cases c : x = y
    · subst c
      simp
    · have e : (decide ((y.1 : Int) = (x.1 : Int)) && decide ((y.2 : Int) = (x.2 : Int))) = false := by
        rw [Bool.and_eq_false_iff]
        by_cases c1 : y.1 = x.1
        · right
          refine decide_eq_false (fun z => c (Prod.ext c1.symm ?_))
          omega
        · left
          exact decide_eq_false (fun z => c1 (by omega))
      rw [e, Bool.false_or]
      simp [c]
end LT

namespace LT
open PySem PySem.Spec PyProof.Rows L2
section
variable {P : Program} {w : World} {K : PySem.W.Frag} {mg : Str → Option Value} {base : Heap}
def spNodes (i : Nat) : Sp := fun vs H Q _ => ∃ (b m : Nat) (v : V), vs = [v] ∧ Nd H v (b, b + m) ∧ 1 ≤ m ∧ 2 * m ≤ 2 ^ i ∧ m ≤ 128 ∧
  ∀ (H' : Hp) (p : Addr) (xs : List V), Same H H' → H p = none → H' p = some (.lst xs) → All2 (Nd H') xs (nodesF i b m) → Q (.ref p) H'
theorem ok_nodes_step {i : Nat} {f g : Addr} {fd gd : FuncData} (F : Fun K "_law_nodes" "_law_nodes" sLawNodes f fd) (GLawNodes : FnOk P w K mg base CX0 (i + 1) f fd ["node"] (spNodes i)) (ALawNodes : At K mg "_law_nodes" f fd ["node"])
    (GLawHalved : FnOk P w K mg base CX0 1 g gd ["node"] spHalved) (ALawHalved : At K mg "_law_halved" g gd ["node"]) : FnOk P w K mg base CX0 (i + 1 + 1) f fd ["node"] (spNodes (i + 1)) := by
  refine F.ok scLawNodes (fun vs H Q E h => ?_) (fun cdv A outer s H vs Q E hr h => ?_)
  · obtain ⟨_, _, _, rfl, _⟩ := h
    rfl
  obtain ⟨b, m, v, rfl, hv, h1, h2, h128, q⟩ := h
  have hr1 : Room 1 _ := hr.mono (by omega)
  have hrn : Room (i + 1) _ := hr.mono (Nat.le_refl _)
  refine ⟨_, (pss_cons (ps_if (pt_cmpR op_eq (pe_op op_sub (pe_ix ix_tup (pv 0) pe_int (fun _ _ => rfl)) (pe_ix ix_tup (pv 0) pe_int (fun _ _ => rfl))) pe_int (nomark _)) (pss_one (ps_ret (pe_lst (pa_cons (pv 0) pa_nil)))) pss_nil)
    (pss_cons (ps_asg (pe_call GLawHalved hr1 rfl ALawHalved.m ALawHalved.kp ALawHalved.b .nil pass0 (pa_cons (pv 0) pa_nil)) (pg_tup (by rfl) (pgs_cons (pg_name (i := 1) scLawNodes.nd rfl (Or.inl rfl)) (pgs_cons (pg_name (i := 2) scLawNodes.nd rfl (Or.inl rfl)) pgs_nil))))
    (pss_one (ps_ret (pe_op op_cat (pe_op op_cat (pe_lst (pa_cons (pv 0) pa_nil)) (pe_call GLawNodes hrn rfl ALawNodes.m ALawNodes.kp ALawNodes.b .nil pass0 (pa_cons (pv 1) pa_nil))) (pe_call GLawNodes hrn rfl ALawNodes.m ALawNodes.kp ALawNodes.b .nil pass0 (pa_cons (pv 2) pa_nil))))))), ?_⟩
  obtain ⟨vp, rfl, hvp⟩ := id hv
  refine ⟨_, rfl, vp, _, _, _, rfl, rfl, SqT.of hvp, atI_nat (j := 1) rfl, _, rfl, vp, _, _, _, rfl, rfl, SqT.of hvp, atI_nat (j := 0) rfl, _, _, rfl, rfl, rfl, _, rfl, ite2 (fun c => ?_) (fun c => ?_)⟩
  · have c1 : V.int (((b + m : Nat) : Int) - (b : Int)) = V.int 1 := of_decide_eq_true c
    have c2 := V.int.inj c1
    refine ⟨_, rfl, (by show 1 ≤ sizeLine; decide), fun p np => ?_⟩
    have sp := same_upd (o := .lst [.ref vp]) np
    refine q _ p [.ref vp] sp np upd_same ?_
    rw [nodesF_one (by omega)]
    exact .cons (hv.same sp) .nil
  · have c1 : ¬ V.int (((b + m : Nat) : Int) - (b : Int)) = V.int 1 := of_decide_eq_false (Bool.eq_false_iff.mpr c)
    have hm : ¬ m ≤ 1 := fun z => c1 (congrArg V.int (by omega))
    obtain ⟨k1, k2⟩ := gp_half (by omega) h2
    have g1 := gp_lt (m := m) (by omega)
    have g3 := gp_pos m
    have em : b + m - b = m := by omega
    have ee : b + gp m + (m - gp m) = b + m := by omega
    refine ⟨_, rfl, b, b + m, _, rfl, hv, by omega, fun H1 qa l h s1 nqa hqa hl hh => ?_⟩
    rw [em] at hl hh
    refine ⟨qa, _, rfl, SqT.of hqa, rfl, _, _, rfl, _, _, rfl, rfl, ?_⟩
    refine ⟨_, rfl, (by show 1 ≤ sizeLine; decide), fun l1 nl1 => ?_⟩
    have s2 := same_upd (o := .lst [.ref vp]) nl1
    have hl1 : (upd H1 l1 (.lst [.ref vp])) l1 = some (.lst [.ref vp]) := upd_same
    generalize upd H1 l1 (.lst [.ref vp]) = H2 at s2 hl1
    refine ⟨_, rfl, b, gp m, l, rfl, hl.same s2, g3, k1, by omega, fun H3 p3 xs3 s3 np3 hp3 hx3 => ?_⟩
    have n3 : xs3.length ≤ 256 := by rw [hx3.len, nodesF_len i b (gp m) g3 k1]; omega
    refine ⟨l1, p3, _, _, rfl, rfl, s3 _ _ hl1, hp3, szle (by rw [List.length_singleton]; omega), fun l4 nl4 => ?_⟩
    have s4 := same_upd (o := .lst ([.ref vp] ++ xs3)) nl4
    have hl4 : (upd H3 l4 (.lst ([.ref vp] ++ xs3))) l4 = some (.lst ([.ref vp] ++ xs3)) := upd_same
    have s24 := (s2.trans s3).trans s4
    generalize upd H3 l4 (.lst ([.ref vp] ++ xs3)) = H4 at s4 hl4 s24
    have hh4 : Nd H4 h (b + gp m, b + gp m + (m - gp m)) := by rw [ee]; exact hh.same s24
    refine ⟨_, rfl, b + gp m, m - gp m, h, rfl, hh4, by omega, k2, by omega, fun H5 p5 xs5 s5 np5 hp5 hx5 => ?_⟩
    have n5 : xs5.length ≤ 256 := by rw [hx5.len, nodesF_len i _ _ (by omega) k2]; omega
    refine ⟨l4, p5, _, _, rfl, rfl, s5 _ _ hl4, hp5, szle (by rw [List.length_append, List.length_singleton]; omega), fun p np => ?_⟩
    have s6 := same_upd (o := .lst ([.ref vp] ++ xs3 ++ xs5)) np
    have sAll := s1.trans (s24.trans (s5.trans s6))
    refine q _ p ([.ref vp] ++ xs3 ++ xs5) sAll ?_ upd_same ?_
    · exact ((s1.trans s24).trans s5).free np
    · rw [nodesF_two hm]
      show All2 _ (V.ref vp :: (xs3 ++ xs5)) _
      exact .cons (hv.same sAll) ((hx3.mono (fun v x (k : Nd H3 v x) => k.same (s4.trans (s5.trans s6)))).app (hx5.mono (fun v x (k : Nd H5 v x) => k.same s6)))
theorem ok_law_nodes {f g : Addr} {fd gd : FuncData} (F : Fun K "_law_nodes" "_law_nodes" sLawNodes f fd) (A : At K mg "_law_nodes" f fd ["node"]) (GLawHalved : FnOk P w K mg base CX0 1 g gd ["node"] spHalved) (ALawHalved : At K mg "_law_halved" g gd ["node"]) :
    ∀ i, FnOk P w K mg base CX0 (i + 1) f fd ["node"] (spNodes i)
  | 0 => by
    have no : ∀ vs H Q E, ¬ spNodes 0 vs H Q E := fun vs H Q E h => by
      obtain ⟨b, m, v, _, _, h1, h2, _⟩ := h
      simp at h2
      omega
    exact ⟨fun vs H Q E h => absurd h (no vs H Q E), fun A outer s H args us vs Q E _ _ _ _ h => absurd h (no vs H Q E)⟩
  | i + 1 => ok_nodes_step F (ok_law_nodes F A GLawHalved ALawHalved i) A GLawHalved ALawHalved
end
end LT

namespace LT
open PySem PySem.Spec PyProof.Rows L2
/-! ### lists of ints as data -/
theorem ints_lay : ∀ ns : List Int, PyData.canLayAll0 (ns.map PyData.int) = true
  | [] => by simp [PyData.canLayAll0]
  | n :: ns => by simp [PyData.canLayAll0, PyData.canLay0, ints_lay ns]
theorem ints_depth : ∀ ns : List Int, PyData.depthAll (ns.map PyData.int) ≤ 1
  | [] => by simp [PyData.depthAll]
  | n :: ns => by
    have := ints_depth ns
    simp only [List.map_cons, PyData.depthAll, PyData.depth]
    omega
theorem ints_shaped (ns : List Int) : SeqAt.shaped (.list (ns.map PyData.int)) = true := by
  have h := ints_depth ns
  have h2 : PyData.depth (.list (ns.map PyData.int)) ≤ 64 := by
    simp only [PyData.depth]
    omega
  show (PyData.canLay0 (.list (ns.map PyData.int)) && decide (PyData.depth (.list (ns.map PyData.int)) ≤ 64)) = true
  rw [Bool.and_eq_true]
  exact ⟨by simp only [PyData.canLay0]; exact ints_lay ns, decide_eq_true h2⟩
theorem ints_dp {K : PySem.W.Frag} {H : Hp} : ∀ ns : List Int, DpAll K H (ns.map V.int) (ns.map PyData.int)
  | [] => .nil
  | n :: ns => .cons (.int n) (ints_dp ns)
theorem ints_nil : ∀ ns : List Int, PyData.eqv (.list (ns.map PyData.int)) (.list []) = ns.isEmpty
  | [] => by simp only [List.map_nil, PyData.eqv, PyData.eqvAll, List.isEmpty_nil]
  | n :: ns => by simp only [List.map_cons, PyData.eqv, PyData.eqvAll, List.isEmpty_cons]
theorem nil_shaped : SeqAt.shaped (.list []) = true := ints_shaped []
end LT

namespace LT
open PySem PySem.Spec PyProof.Rows L2
/-! ### what is shown fits -/
def small (x : Nat × Nat) : Prop := x.1 ≤ 1000 ∧ x.2 ≤ 1000
theorem int_short {a : Nat} (h : a ≤ 1000000) : (PyData.shown (.int ((a : Nat) : Int))).length ≤ 13 := PyData.shown_int_le (by show a < 10 ^ 12; omega)
theorem int_weight {a : Nat} (h : a ≤ 1000000) : PyData.weight (.int ((a : Nat) : Int)) ≤ 20 := by
  show (if ((a : Nat) : Int) == 0 then 0 else ((a : Nat) : Int).natAbs.log2 + 1) ≤ 20
  split
  · omega
  · rename_i z
    have : ((a : Nat) : Int).natAbs = a := rfl
    rw [this]
    have a0 : a ≠ 0 := fun e => z (by subst e; rfl)
    have := (Nat.log2_lt (k := 20) a0).mpr (by omega)
    omega
theorem nds_short : ∀ l : List (Nat × Nat), (∀ x ∈ l, small x) → PyData.intsShortAll 13 (l.map nd) = true
  | [], _ => rfl
  | x :: l, h => by
    have hx := h x List.mem_cons_self
    simp only [List.map_cons, PyData.intsShortAll, nd, PyData.intsShort, Bool.and_eq_true, decide_eq_true_eq, Bool.and_true]
    exact ⟨⟨int_short (by have := hx.1; omega), int_short (by have := hx.2; omega)⟩, nds_short l fun y hy => h y (List.mem_cons_of_mem _ hy)⟩
theorem nds_weight : ∀ l : List (Nat × Nat), (∀ x ∈ l, small x) → PyData.weightAll (l.map nd) ≤ 43 * l.length
  | [], _ => Nat.le_refl _
  | x :: l, h => by
    have hx := h x List.mem_cons_self
    have ih := nds_weight l fun y hy => h y (List.mem_cons_of_mem _ hy)
    have w1 := int_weight (a := x.1) (by have := hx.1; omega)
    have w2 := int_weight (a := x.2) (by have := hx.2; omega)
    have e : PyData.weightAll ((x :: l).map nd) = (PyData.weight (.int ((x.1 : Nat) : Int)) + 1 + (PyData.weight (.int ((x.2 : Nat) : Int)) + 1 + 0)) + 1 + PyData.weightAll (l.map nd) := by
      simp only [List.map_cons, PyData.weightAll, nd, PyData.weight]
    rw [e, List.length_cons]
    omega
theorem nds_fits (l : List (Nat × Nat)) (h : ∀ x ∈ l, small x) (hl : l.length ≤ 1000) : (PyData.list (l.map nd)).shown.length ≤ sizeLine := by
  have w := nds_weight l h
  refine PyData.shown_fits (B := 13) (by decide) (by decide) (PyData.leavesShort_of_canLay0 13 _ ?_ ?_) ?_
  · simp only [PyData.canLay0]
    exact nds_lay l
  · simp only [PyData.intsShort]
    exact nds_short l h
  · show PyData.weightAll (l.map nd) ≤ 2 ^ 20
    omega
theorem nds_showable : ∀ l : List (Nat × Nat), (∀ x ∈ l, small x) → PyData.showableAll (l.map nd) = true
  | [], _ => rfl
  | x :: l, h => by
    have hx := h x List.mem_cons_self
    simp only [List.map_cons, PyData.showableAll, nd, PyData.showable, Bool.and_eq_true, Bool.and_true]
    exact ⟨⟨decide_eq_true (Nat.lt_of_le_of_lt (Nat.log2_le_self _) (by have := hx.1; show ((x.1 : Nat) : Int).natAbs < 1920; omega)), decide_eq_true (Nat.lt_of_le_of_lt (Nat.log2_le_self _) (by have := hx.2; show ((x.2 : Nat) : Int).natAbs < 1920; omega))⟩, nds_showable l fun y hy => h y (List.mem_cons_of_mem _ hy)⟩
def nats (l : List Nat) : List PyData := l.map fun a => .int ((a : Nat) : Int)
theorem nats_short : ∀ l : List Nat, (∀ x ∈ l, x ≤ 1000) → PyData.intsShortAll 13 (nats l) = true
  | [], _ => rfl
  | x :: l, h => by
    have hx := h x List.mem_cons_self
    simp only [nats, List.map_cons, PyData.intsShortAll, PyData.intsShort, Bool.and_eq_true, decide_eq_true_eq]
    exact ⟨int_short (by omega), nats_short l fun y hy => h y (List.mem_cons_of_mem _ hy)⟩
theorem nats_weight : ∀ l : List Nat, (∀ x ∈ l, x ≤ 1000) → PyData.weightAll (nats l) ≤ 21 * l.length
  | [], _ => Nat.le_refl _
  | x :: l, h => by
    have hx := h x List.mem_cons_self
    have ih := nats_weight l fun y hy => h y (List.mem_cons_of_mem _ hy)
    have w1 := int_weight (a := x) (by omega)
    have e : PyData.weightAll (nats (x :: l)) = PyData.weight (.int ((x : Nat) : Int)) + 1 + PyData.weightAll (nats l) := by
      simp only [nats, List.map_cons, PyData.weightAll]
    rw [e, List.length_cons]
    omega
theorem nats_lay (l : List Nat) : PyData.canLayAll0 (nats l) = true := by
  unfold nats
  have := ints_lay (l.map fun a => ((a : Nat) : Int))
  rw [List.map_map] at this
  exact this
theorem nats_shaped (l : List Nat) : SeqAt.shaped (.list (nats l)) = true := by
  have := ints_shaped (l.map fun a => ((a : Nat) : Int))
  rw [List.map_map] at this
  exact this
theorem nats_dp {K : PySem.W.Frag} {H : Hp} (l : List Nat) : DpAll K H (l.map fun a => V.int ((a : Nat) : Int)) (nats l) := by
  have := ints_dp (K := K) (H := H) (l.map fun a => ((a : Nat) : Int))
  rw [List.map_map, List.map_map] at this
  exact this
theorem nats_fits (l : List Nat) (h : ∀ x ∈ l, x ≤ 1000) (hl : l.length ≤ 1000) : (PyData.list (nats l)).shown.length ≤ sizeLine := by
  have w := nats_weight l h
  refine PyData.shown_fits (B := 13) (by decide) (by decide) (PyData.leavesShort_of_canLay0 13 _ ?_ ?_) ?_
  · simp only [PyData.canLay0]
    exact nats_lay l
  · simp only [PyData.intsShort]
    exact nats_short l h
  · show PyData.weightAll (nats l) ≤ 2 ^ 20
    omega
theorem nats_showable : ∀ l : List Nat, (∀ x ∈ l, x ≤ 1000) → PyData.showableAll (nats l) = true
  | [], _ => rfl
  | x :: l, h => by
    have hx := h x List.mem_cons_self
    simp only [nats, List.map_cons, PyData.showableAll, PyData.showable, Bool.and_eq_true]
    exact ⟨decide_eq_true (Nat.lt_of_le_of_lt (Nat.log2_le_self _) (by show ((x : Nat) : Int).natAbs < 1920; omega)), nats_showable l fun y hy => h y (List.mem_cons_of_mem _ hy)⟩
/-- a whole number and a pair of them -/
def numPair (a b c : Nat) : PyData := .list [.int ((a : Nat) : Int), .tuple [.int ((b : Nat) : Int), .int ((c : Nat) : Int)]]
theorem numPair_shaped (a b c : Nat) : SeqAt.shaped (numPair a b c) = true := by
  show (PyData.canLay0 _ && decide (PyData.depth _ ≤ 64)) = true
  simp [numPair, PyData.canLay0, PyData.canLayAll0, PyData.depth, PyData.depthAll]
theorem numPair_showable {a b c : Nat} (h1 : a ≤ 1000000) (h2 : b ≤ 1000) (h3 : c ≤ 1000) : (numPair a b c).showable = true := by
  simp only [numPair, PyData.showable, PyData.showableAll, Bool.and_eq_true, Bool.and_true]
  have big : ∀ x : Nat, x ≤ 1000000 → decide (((x : Nat) : Int).natAbs.log2 < 1920) = true := fun x hx => decide_eq_true (by
    show x.log2 < 1920
    by_cases z : x = 0
    · subst z; decide
    · have := (Nat.log2_lt (k := 20) z).mpr (by omega)
      omega)
  exact ⟨big a h1, big b (by omega), big c (by omega)⟩
theorem numPair_fits {a b c : Nat} (h1 : a ≤ 1000000) (h2 : b ≤ 1000) (h3 : c ≤ 1000) : (numPair a b c).shown.length ≤ sizeLine := by
  have w1 := int_weight h1
  have w2 := int_weight (a := b) (by omega)
  have w3 := int_weight (a := c) (by omega)
  refine PyData.shown_fits (B := 13) (by decide) (by decide) (PyData.leavesShort_of_canLay0 13 _ ?_ ?_) ?_
  · simp [numPair, PyData.canLay0, PyData.canLayAll0]
  · simp only [numPair, PyData.intsShort, PyData.intsShortAll, Bool.and_eq_true, decide_eq_true_eq, Bool.and_true]
    exact ⟨int_short h1, int_short (by omega), int_short (by omega)⟩
  · have e : (numPair a b c).weight = PyData.weight (.int ((a : Nat) : Int)) + 1 + ((PyData.weight (.int ((b : Nat) : Int)) + 1 + (PyData.weight (.int ((c : Nat) : Int)) + 1 + 0)) + 1 + 0) := by
      simp only [numPair, PyData.weight, PyData.weightAll]
    rw [e]
    omega
/-! ### repr of single values -/
def reprS : V → Str
  | .int i => toString i
  | .bl b => if b then "True" else "False"
  | _ => "None"
def reprOk : V → Prop
  | .int i => i.natAbs.log2 < 1920
  | .bl _ => True
  | .non => True
  | _ => False
theorem call_reprS {X : Cx} : CallR X (.builtin "repr") (fun xs H Q => ∃ v, xs = [v] ∧ reprOk v ∧ Q (.str (reprS v)) H) := by
  intro pins s σ H xs us Q I r h
  obtain ⟨v, rfl, ok, q⟩ := h
  cases v with
  | int i =>
    obtain ⟨u, rfl, t, rfl⟩ := vals1 r
    exact PySem.P.repr_of_int ok ⟨.str _, H, I.tok _, ⟨_, rfl⟩, q⟩
  | bl b =>
    obtain ⟨u, rfl, e⟩ := vals1 r
    cases (show u = Value.bool b from e)
    exact PySem.P.repr_of_bool ⟨.str _, H, I.tok _, ⟨_, rfl⟩, q⟩
  | non =>
    obtain ⟨u, rfl, e⟩ := vals1 r
    cases (show u = Value.none from e)
    exact PySem.P.repr_of_none ⟨.str _, H, I.tok _, ⟨_, rfl⟩, q⟩
  | str _ => exact ok.elim
  | byt _ => exact ok.elim
  | flt _ => exact ok.elim
  | ref _ => exact ok.elim
  | ty _ => exact ok.elim
end LT

namespace LT
open PySem PySem.Spec PyProof.Rows L2
/-! ### the sums over the rows -/
def cut (b e : Nat) (x : Nat × Nat × Nat) : Nat × Nat × Nat := (max b x.1, min e x.2.1, x.2.2)
def parts (b e : Nat) (T : List (Nat × Nat × Nat)) : List (Nat × Nat × Nat) := (T.map (cut b e)).filter fun x => decide (x.1 < x.2.1)
theorem db_parts (b e : Nat) (T : List (Nat × Nat × Nat)) : db b e T = (parts b e T).map fun x => (x.2.1 - x.1, x.2.2) := by
  unfold db parts
  rw [List.filter_map, List.map_map]
  rfl
theorem due_total (b e : Nat) (T : List (Nat × Nat × Nat)) : (((parts b e T).map fun x => (((x.2.1 : Nat) : Int) - ((x.1 : Nat) : Int)) * ((x.2.2 : Nat) : Int)).sum : Int) = ((total b e T : Nat) : Int) := by
  unfold total
  rw [db_parts, ← sum_cast, List.map_map, List.map_map]
  congr 1
  apply List.map_congr_left
  intro x hx
  unfold parts at hx
  have c := of_decide_eq_true (List.mem_filter.mp hx).2
  have e1 : ((x.2.1 : Nat) : Int) - ((x.1 : Nat) : Int) = ((x.2.1 - x.1 : Nat) : Int) := by omega
  show _ = (((x.2.1 - x.1) * x.2.2 : Nat) : Int)
  rw [e1, Int.natCast_mul]
theorem total_cons (b e : Nat) (x : Nat × Nat × Nat) (T : List (Nat × Nat × Nat)) : total b e (x :: T) = (min e x.2.1 - max b x.1) * x.2.2 + total b e T := by
  unfold total db
  rw [List.filter_cons]
  by_cases c : max b x.1 < min e x.2.1
  · rw [if_pos (decide_eq_true c)]; rfl
  · rw [if_neg (by simpa using c), show min e x.2.1 - max b x.1 = 0 by omega, Nat.zero_mul, Nat.zero_add]
theorem total_split {b m e : Nat} : ∀ {T : List (Nat × Nat × Nat)}, (∀ x ∈ T, x.1 < x.2.1) → b ≤ m → m ≤ e → total b m T + total m e T = total b e T
  | [], _, _, _ => rfl
  | x :: T, h, h1, h2 => by
    have ih := total_split (T := T) (fun y hy => h y (List.mem_cons_of_mem _ hy)) h1 h2
    have hx := h x List.mem_cons_self
    rw [total_cons, total_cons, total_cons]
    have k : (min m x.2.1 - max b x.1) + (min e x.2.1 - max m x.1) = min e x.2.1 - max b x.1 := by omega
    rw [← k, Nat.add_mul]
    omega
theorem total_one {m : Nat} : ∀ {T : List (Nat × Nat × Nat)}, (∀ x ∈ T, x.1 < x.2.1) → total m (m + 1) T = (due m T).sum
  | [], _ => rfl
  | x :: T, h => by
    have ih := total_one (m := m) (T := T) (fun y hy => h y (List.mem_cons_of_mem _ hy))
    have hx := h x List.mem_cons_self
    rw [total_cons]
    unfold due at *
    rw [List.filter_cons]
    by_cases c : x.1 ≤ m ∧ m < x.2.1
    · rw [if_pos (by rw [Bool.and_eq_true]; exact ⟨decide_eq_true c.1, decide_eq_true c.2⟩), List.map_cons, List.sum_cons, ← ih, show min (m + 1) x.2.1 - max m x.1 = 1 by omega, Nat.one_mul]
    · rw [if_neg (by rw [Bool.and_eq_true]; intro z; exact c ⟨of_decide_eq_true z.1, of_decide_eq_true z.2⟩), ← ih, show min (m + 1) x.2.1 - max m x.1 = 0 by omega, Nat.zero_mul, Nat.zero_add]
theorem db_ne {b e k : Nat} {T : List (Nat × Nat × Nat)} (h : due b T = [k]) (hbe : b < e) : db b e T ≠ [] := by
  have m : k ∈ due b T := by rw [h]; exact List.mem_singleton.mpr rfl
  unfold due at m
  obtain ⟨x, hx, _⟩ := List.mem_map.mp m
  obtain ⟨hx1, hx2⟩ := List.mem_filter.mp hx
  rw [Bool.and_eq_true] at hx2
  have h1 := of_decide_eq_true hx2.1
  have h2 := of_decide_eq_true hx2.2
  intro z
  have : (min e x.2.1 - max b x.1, x.2.2) ∈ db b e T := List.mem_map.mpr ⟨x, List.mem_filter.mpr ⟨hx1, decide_eq_true (by omega)⟩, rfl⟩
  rw [z] at this
  exact absurd this List.not_mem_nil
theorem rows_lt (n : Nat) (x : Nat × Nat × Nat) (h : x ∈ lev (pk 101 n 0).length 0 (pk 101 n 0)) : x.1 < x.2.1 := by
  have gen : ∀ (l : List (Nat × Nat)) (t s : Nat) (x : Nat × Nat × Nat), x ∈ lev t s l → x.1 < x.2.1 := by
    intro l
    induction l with
    | nil => intro t s x h; simp [lev] at h
    | cons y r ih =>
      intro t s x h
      have h' : x ∈ (y.1, y.1 + 2 ^ y.2, y.2 + min (s + 1) (t - 1)) :: lev t (s + 1) r := h
      rcases List.mem_cons.mp h' with h | h
      · subst h
        have := Nat.pow_pos (a := 2) (n := y.2) (by decide)
        simp only []
        omega
      · exact ih t (s + 1) x h
  exact gen _ _ _ x h
theorem rows_due {n : Nat} (h30 : n ≤ 10 ^ 30) (m : Nat) (hm : m < n) : due m (lev (pk 101 n 0).length 0 (pk 101 n 0)) = [(sib 0 n m).length] := by
  have q := due_is n m 101 0 0 (Nat.zero_le _) (by rw [Nat.mod_eq_of_lt (Nat.lt_of_le_of_lt h30 (by decide))]; omega)
  rw [Nat.mod_eq_of_lt (Nat.lt_of_le_of_lt h30 (by decide)), Nat.zero_add, Nat.zero_min, Nat.add_zero] at q
  exact q
theorem least_one {m k : Int} {l : List (Nat × Nat)} (h1 : least m l) (h2 : least k l) : m = k := by
  obtain ⟨⟨x, hx, ex⟩, lx⟩ := h1
  obtain ⟨⟨y, hy, ey⟩, ly⟩ := h2
  have a := lx y hy
  have b := ly x hx
  omega
theorem most_one {m k : Int} {l : List (Nat × Nat)} (h1 : most m l) (h2 : most k l) : m = k := by
  obtain ⟨⟨x, hx, ex⟩, lx⟩ := h1
  obtain ⟨⟨y, hy, ey⟩, ly⟩ := h2
  have a := lx y hy
  have b := ly x hx
  omega
def fits (k : Int) (T : List (Nat × Nat × Nat)) : List Int := (T.filter fun x => decide ((x.2.2 : Int) = k)).map fun x => (x.1 : Int)
theorem first_fits (k : Int) : ∀ T : List (Nat × Nat × Nat), firstOf k T = match fits k T with | [] => V.non | z :: _ => V.int z
  | [] => rfl
  | x :: T => by
    show (if (x.2.2 : Int) = k then V.int (x.1 : Int) else firstOf k T) = _
    unfold fits
    rw [List.filter_cons]
    by_cases c : (x.2.2 : Int) = k
    · rw [if_pos c, if_pos (decide_eq_true c)]; rfl
    · rw [if_neg c, if_neg (by simpa using c)]
      exact first_fits k T
end LT

namespace LT
theorem nodesF_in : ∀ (i b m : Nat) (x : Nat × Nat), 1 ≤ m → x ∈ nodesF i b m → b ≤ x.1 ∧ x.2 ≤ b + m
  | 0, _, _, _, _, h => by simp [nodesF] at h
  | i + 1, b, m, x, h1, h => by
    by_cases c : m ≤ 1
    · rw [nodesF_one c, List.mem_singleton] at h
      subst h
      simp
    · rw [nodesF_two c, List.mem_cons, List.mem_append] at h
      have g1 := gp_lt (m := m) (by omega)
      have g3 := gp_pos m
      rcases h with h | h | h
      · subst h; simp
      · have := nodesF_in i b (gp m) x g3 h
        omega
      · have := nodesF_in i (b + gp m) (m - gp m) x (by omega) h
        omega
def hasE (e : Nat) (x : Nat × Nat) : Bool := decide (x.1 ≤ e) && decide (e < x.2)
theorem cnt_out {i b m e : Nat} (h1 : 1 ≤ m) (h : e < b ∨ b + m ≤ e) : (nodesF i b m).filter (hasE e) = [] := by
  rw [List.filter_eq_nil_iff]
  intro x hx z
  have := nodesF_in i b m x h1 hx
  unfold hasE at z
  rw [Bool.and_eq_true] at z
  have z1 := of_decide_eq_true z.1
  have z2 := of_decide_eq_true z.2
  omega
theorem cnt_in (e : Nat) : ∀ (i b m : Nat), 1 ≤ m → 2 * m ≤ 2 ^ i → b ≤ e → e < b + m → ((nodesF i b m).filter (hasE e)).length = (sib b m e).length + 1
  | 0, b, m, h1, h2, _, _ => by simp at h2; omega
  | i + 1, b, m, h1, h2, k1, k2 => by
    by_cases c : m ≤ 1
    · rw [nodesF_one c, sib_one c, List.filter_cons, if_pos (by unfold hasE; rw [Bool.and_eq_true]; exact ⟨decide_eq_true k1, decide_eq_true k2⟩)]
      rfl
    · have g1 := gp_lt (m := m) (by omega)
      have g3 := gp_pos m
      obtain ⟨q1, q2⟩ := gp_half (by omega) h2
      rw [nodesF_two c, List.filter_cons, if_pos (by unfold hasE; rw [Bool.and_eq_true]; exact ⟨decide_eq_true k1, decide_eq_true k2⟩), List.length_cons, List.filter_append, List.length_append]
      by_cases d : e < b + gp m
      · rw [sib_low (by omega) d, List.length_cons, cnt_in e i b (gp m) g3 q1 k1 d, cnt_out (by omega) (.inl d)]
        rfl
      · rw [sib_high (by omega) d, List.length_cons, cnt_in e i (b + gp m) (m - gp m) (by omega) q2 (by omega) (by omega), cnt_out g3 (.inr (by omega)), List.length_nil]
        omega
/-- the depth of an entry -/
def dp (n e : Nat) : Nat := (sib 0 n e).length
theorem dp_le {n e : Nat} (hn : n < 71) (he : e < n) : dp n e ≤ 7 := by
  have k := sib_len_le n 0 e (Nat.zero_le _) (by omega)
  have : lb n ≤ 7 := lb_le (by omega)
  unfold dp
  omega
theorem sib_bound : ∀ (m b e : Nat), b ≤ e → e < b + m → ∀ x ∈ sib b m e, x.2 ≤ b + m ∧ x.1 ≤ x.2 := by
  intro m
  induction m using Nat.strongRecOn with
  | ind m ih =>
    intro b e h1 h2 x hx
    by_cases hm : m ≤ 1
    · rw [sib_one hm] at hx
      cases hx
    · have g1 := gp_lt (m := m) (by omega)
      have g3 := gp_pos m
      by_cases k : e < b + gp m
      · rw [sib_low (by omega) k, List.mem_cons] at hx
        rcases hx with h | h
        · subst h; simp only []; omega
        · have := ih (gp m) g1 b e h1 k x h
          omega
      · rw [sib_high (by omega) k, List.mem_cons] at hx
        rcases hx with h | h
        · subst h; simp only []; omega
        · have := ih (m - gp m) (by omega) (b + gp m) e (by omega) (by omega) x h
          omega
/-- entries from b to e - 1 -/
def ents (n b e : Nat) : List Nat := ((List.range n).drop b).take (e - b)
theorem ents_more {n b e : Nat} (h1 : b ≤ e) (h2 : e < n) : ents n b (e + 1) = ents n b e ++ [e] := by
  unfold ents
  rw [show e + 1 - b = (e - b) + 1 by omega]
  refine take_more ?_
  rw [List.getElem?_drop, List.getElem?_range (by omega)]
  congr 1
  omega
theorem ents_none (n b : Nat) : ents n b b = [] := by
  unfold ents
  rw [Nat.sub_self, List.take_zero]
theorem ents_mem {n b : Nat} : ∀ (e x : Nat), b ≤ e → e ≤ n → (x ∈ ents n b e ↔ b ≤ x ∧ x < e)
  | 0, x, h1, _ => by
    have : b = 0 := by omega
    subst this
    rw [ents_none]
    constructor
    · intro z; cases z
    · omega
  | e + 1, x, h1, h2 => by
    by_cases c : b = e + 1
    · subst c
      rw [ents_none]
      constructor
      · intro z; cases z
      · omega
    · rw [ents_more (by omega) (by omega), List.mem_append, List.mem_singleton, ents_mem e x (by omega) (by omega)]
      omega
end LT

namespace LT
def rows (n : Nat) : List (Nat × Nat × Nat) := lev (pk 101 n 0).length 0 (pk 101 n 0)
theorem sum_ents {n : Nat} (hT : ∀ x ∈ rows n, x.1 < x.2.1) (hd : ∀ m, m < n → due m (rows n) = [dp n m]) (b : Nat) : ∀ e, b ≤ e → e ≤ n → total b e (rows n) = ((ents n b e).map (dp n)).sum
  | 0, h1, _ => by
    have : b = 0 := by omega
    subst this
    rw [ents_none]
    have k := total_split (T := rows n) hT (Nat.le_refl 0) (Nat.le_refl 0)
    show total 0 0 (rows n) = 0
    omega
  | e + 1, h1, h2 => by
    by_cases c : b = e + 1
    · subst c
      rw [ents_none]
      have k := total_split (T := rows n) hT (Nat.le_refl (e + 1)) (Nat.le_refl (e + 1))
      show total (e + 1) (e + 1) (rows n) = 0
      omega
    · rw [ents_more (by omega) (by omega), List.map_append, List.sum_append, ← sum_ents hT hd b e (by omega) (by omega), ← total_split (T := rows n) hT (show b ≤ e by omega) (Nat.le_succ e), total_one (T := rows n) hT, hd e (by omega)]
      simp
theorem db_depths {n b e : Nat} (hT : ∀ x ∈ rows n, x.1 < x.2.1) (hd : ∀ m, m < n → due m (rows n) = [dp n m]) (he : e ≤ n) (k : Nat) : (∃ z ∈ db b e (rows n), z.2 = k) ↔ ∃ x, b ≤ x ∧ x < e ∧ dp n x = k := by
  constructor
  · rintro ⟨z, hz, rfl⟩
    unfold db at hz
    obtain ⟨y, hy, e1⟩ := List.mem_map.mp hz
    obtain ⟨hy1, hy2⟩ := List.mem_filter.mp hy
    have c := of_decide_eq_true hy2
    refine ⟨max b y.1, by omega, by omega, ?_⟩
    have m : y.2.2 ∈ due (max b y.1) (rows n) := by
      unfold due
      exact List.mem_map.mpr ⟨y, List.mem_filter.mpr ⟨hy1, by rw [Bool.and_eq_true]; exact ⟨decide_eq_true (by omega), decide_eq_true (by omega)⟩⟩, rfl⟩
    rw [hd _ (by omega), List.mem_singleton] at m
    rw [← e1]
    exact m.symm
  · rintro ⟨x, h1, h2, rfl⟩
    have m : dp n x ∈ due x (rows n) := by rw [hd x (by omega)]; exact List.mem_singleton.mpr rfl
    unfold due at m
    obtain ⟨y, hy, e1⟩ := List.mem_map.mp m
    obtain ⟨hy1, hy2⟩ := List.mem_filter.mp hy
    rw [Bool.and_eq_true] at hy2
    have c1 := of_decide_eq_true hy2.1
    have c2 := of_decide_eq_true hy2.2
    refine ⟨(min e y.2.1 - max b y.1, y.2.2), ?_, e1⟩
    unfold db
    exact List.mem_map.mpr ⟨y, List.mem_filter.mpr ⟨hy1, decide_eq_true (by omega)⟩, rfl⟩
def dd (n e : Nat) : Nat := (due e (rows n)).headD 0
theorem first_ok : ∀ n, n < 71 → 1 ≤ n → ∀ k, k < 9 → ((rows n).find? fun x => x.2.2 == k).map (·.1) = (List.range n).find? fun e => dd n e == k := by decide +kernel
theorem rows_small : ∀ n, n < 71 → ((rows n).all fun x => decide (x.2.2 < 9)) = true := by decide +kernel
theorem dd_is {n : Nat} (hd : ∀ m, m < n → due m (rows n) = [dp n m]) (e : Nat) (he : e < n) : dd n e = dp n e := by
  unfold dd
  rw [hd e he]
  rfl
end LT

namespace LT
open PySem PySem.Spec PyProof.Rows L2
section
variable {P : Program} {w : World} {K : PySem.W.Frag} {mg : Str → Option Value} {base : Heap}
def spLPath : Sp := fun vs H Q _ => ∃ (n e : Nat), vs = [.int n, .int e] ∧ e < n ∧ n ≤ 10 ^ 30 ∧
  ∀ (H' : Hp) (p : Addr) (xs : List V), Same H H' → H' p = some (.lst xs) → All2 (Nd H') xs (sib 0 n e).reverse → Q (.ref p) H'
theorem ok_law_path {f g1 : Addr} {fd d1 : FuncData} (F : Fun K "_law_path" "_law_path" sLawPath f fd) (GLawHalved : FnOk P w K mg base CX0 1 g1 d1 ["node"] spHalved) (ALawHalved : At K mg "_law_halved" g1 d1 ["node"]) : FnOk P w K mg base CX0 2 f fd ["size", "entry"] spLPath := by
  refine F.ok scLawPath (fun vs H Q E h => ?_) (fun cdv A outer s H vs Q E hr h => ?_)
  · obtain ⟨_, _, rfl, _⟩ := h
    rfl
  obtain ⟨n, e, rfl, he, h30, q⟩ := h
  refine ⟨_, (pss_cons (ps_par (i := 2) (j := 3) (by rfl) scLawPath.nd rfl rfl (by decide) rfl rfl (pa_cons (pe_tup (pa_cons pe_int (pa_cons (pv 0) pa_nil))) (pa_cons (pe_lst pa_nil) pa_nil)) (by rfl))
    (pss_cons (ps_while PassesOwn.never (pt_cmpR op_gt (pe_op op_sub (pe_ix ix_tup (pv 2) pe_int (fun _ _ => rfl)) (pe_ix ix_tup (pv 2) pe_int (fun _ _ => rfl))) pe_int (nomark _))
    (pss_cons (ps_asg (pe_call GLawHalved (hr.mono (by decide)) rfl ALawHalved.m ALawHalved.kp ALawHalved.b .nil pass0 (pa_cons (pv 2) pa_nil)) (pg_tup (by rfl) (pgs_cons (pg_name (i := 4) scLawPath.nd rfl (Or.inl rfl)) (pgs_cons (pg_name (i := 5) scLawPath.nd rfl (Or.inl rfl)) pgs_nil))))
    (pss_cons (ps_asg (pe_ifExp (pt_cmpR op_lt (pv 1) (pe_ix ix_tup (pv 4) pe_int (fun _ _ => rfl)) (nomark _)) (pe_tup (pa_cons (pv 4) (pa_cons (pv 5) pa_nil))) (pe_tup (pa_cons (pv 5) (pa_cons (pv 4) pa_nil)))) (pg_tup (by rfl) (pgs_cons (pg_name (i := 2) scLawPath.nd rfl (Or.inl rfl)) (pgs_cons (pg_name (i := 6) scLawPath.nd rfl (Or.inl rfl)) pgs_nil))))
    (pss_one (ps_set (i := 3) scLawPath.nd rfl (Or.inl rfl) (pe_op op_cat (pe_lst (pa_cons (pv 6) pa_nil)) (pv 3)))))))
    (pss_one (ps_ret (pv 3))))), ?_⟩
  have two : 2 ≤ sizeLine := by decide
  refine ⟨_, rfl, two, fun t0 n0 => ⟨Nat.zero_le _, fun fa0 nf0 => ⟨_, _, rfl, ?_⟩⟩⟩
  have z1 := same_upd (o := .tup [.int 0, .int (n : Int)]) n0
  have z2 := same_upd (o := .lst []) nf0
  have hlen := sib_len_le n 0 e (Nat.zero_le _) (by omega)
  have l100 := lb100 h30
  refine ⟨fun mu σ H' => ∃ (b : Nat) (av : V) (v4 v5 v6 : Option V) (fa : Addr) (xs : List V) (fnd : List (Nat × Nat)), σ = [some (.int n), some (.int e), some av, some (.ref fa), v4, v5, v6] ∧ Same H H' ∧ H' fa = some (.lst xs) ∧ All2 (Nd H') xs fnd ∧
      Nd H' av (b, b + mu) ∧ 1 ≤ mu ∧ b ≤ e ∧ e < b + mu ∧ fnd.reverse ++ sib b mu e = sib 0 n e ∧ fnd.length + (sib b mu e).length = (sib 0 n e).length,
    ⟨n, 0, .ref t0, none, none, none, fa0, [], [], rfl, z1.trans z2, upd_same, .nil, ⟨t0, rfl, by rw [Nat.zero_add]; exact z2 _ _ upd_same⟩, by omega, by omega, by omega, rfl, Nat.zero_add _⟩, ?_⟩
  rintro m σ H1 ⟨b, av, v4, v5, v6, fa, xs, fnd, rfl, sm, hf, hx, hv, hm, hb, hb2, hd, hl0⟩
  obtain ⟨ap, rfl, hap⟩ := id hv
  refine ⟨_, rfl, ap, _, _, _, rfl, rfl, SqT.of hap, atI_nat (j := 1) rfl, _, rfl, ap, _, _, _, rfl, rfl, SqT.of hap, atI_nat (j := 0) rfl, _, _, rfl, rfl, _, _, rfl, rfl, _, rfl, ite2 (fun c => ?_) (fun c => ?_)⟩
  · have c1 : ((b + m : Nat) : Int) - (b : Int) > 1 := of_decide_eq_true c
    have hm2 : 2 ≤ m := by omega
    have gl := gp_lt hm2
    have gg := gp_pos m
    have em : b + m - b = m := by omega
    refine ⟨_, fun σ' H' h => h, _, rfl, b, b + m, _, rfl, hv, by omega, fun H3 qa l h s3 nqa hqa hl hh => ?_⟩
    rw [em] at hl hh
    refine ⟨qa, _, rfl, SqT.of hqa, rfl, _, _, rfl, _, _, rfl, rfl, ?_⟩
    obtain ⟨lp, rfl, hlp⟩ := id hl
    refine ⟨_, rfl, _, rfl, lp, _, _, _, rfl, rfl, SqT.of hlp, (atI_nat (j := 1) rfl), _, _, rfl, rfl, _, rfl, ite2 (fun c => ?_) (fun c => ?_)⟩
    · have c2 : (e : Int) < ((b + gp m : Nat) : Int) := of_decide_eq_true c
      have hlow := sib_low (b := b) (e := e) hm2 (by omega)
      rw [hlow, List.length_cons] at hl0
      refine ⟨_, rfl, _, rfl, two, fun t4 n4 => ?_⟩
      have s4 := same_upd (o := .tup [.ref lp, h]) n4
      refine ⟨t4, _, rfl, SqT.of upd_same, rfl, _, _, rfl, _, _, rfl, rfl, ?_⟩
      refine ⟨_, rfl, (by show 1 ≤ sizeLine; decide), fun l5 n5 => ?_⟩
      have s5 := same_upd (o := .lst [h]) n5
      have s35 := s3.trans (s4.trans s5)
      refine ⟨_, rfl, l5, fa, _, _, rfl, rfl, upd_same, s35 _ _ hf, szle (by rw [List.length_singleton, hx.len]; omega), fun r6 n6 => ?_⟩
      have s6 := same_upd (o := .lst ([h] ++ xs)) n6
      have s36 := s35.trans s6
      refine ⟨gp m, by omega, b, _, _, _, _, r6, [h] ++ xs, (b + gp m, b + m) :: fnd, rfl, sm.trans s36, upd_same, .cons (hh.same (s4.trans (s5.trans s6))) (hx.mono (fun v x (k : Nd H1 v x) => k.same s36)), hl.same (s4.trans (s5.trans s6)), by omega, by omega, by omega, ?_, by rw [List.length_cons]; omega⟩
      rw [List.reverse_cons, List.append_assoc, ← hd, sib_low hm2 (by omega)]
      rfl
    · have c2 : ¬ (e : Int) < ((b + gp m : Nat) : Int) := of_decide_eq_false (Bool.eq_false_iff.mpr c)
      have hhigh := sib_high (b := b) (e := e) hm2 (by omega)
      rw [hhigh, List.length_cons] at hl0
      have e5 : b + gp m + (m - gp m) = b + m := by omega
      refine ⟨_, rfl, _, rfl, two, fun t4 n4 => ?_⟩
      have s4 := same_upd (o := .tup [h, .ref lp]) n4
      refine ⟨t4, _, rfl, SqT.of upd_same, rfl, _, _, rfl, _, _, rfl, rfl, ?_⟩
      refine ⟨_, rfl, (by show 1 ≤ sizeLine; decide), fun l5 n5 => ?_⟩
      have s5 := same_upd (o := .lst [.ref lp]) n5
      have s35 := s3.trans (s4.trans s5)
      refine ⟨_, rfl, l5, fa, _, _, rfl, rfl, upd_same, s35 _ _ hf, szle (by rw [List.length_singleton, hx.len]; omega), fun r6 n6 => ?_⟩
      have s6 := same_upd (o := .lst ([.ref lp] ++ xs)) n6
      have s36 := s35.trans s6
      refine ⟨m - gp m, by omega, b + gp m, _, _, _, _, r6, [.ref lp] ++ xs, (b, b + gp m) :: fnd, rfl, sm.trans s36, upd_same, .cons (hl.same (s4.trans (s5.trans s6))) (hx.mono (fun v x (k : Nd H1 v x) => k.same s36)), (by rw [e5]; exact hh.same (s4.trans (s5.trans s6))), by omega, by omega, by omega, ?_, by rw [List.length_cons]; omega⟩
      rw [List.reverse_cons, List.append_assoc, ← hd, sib_high hm2 (by omega)]
      rfl
  · have c1 : ¬ ((b + m : Nat) : Int) - (b : Int) > 1 := of_decide_eq_false (Bool.eq_false_iff.mpr c)
    rw [sib_one (by omega), List.append_nil] at hd
    refine ⟨_, rfl, q _ fa xs sm hf ?_⟩
    rw [← hd, List.reverse_reverse]
    exact hx
end
end LT

namespace LT
open PySem PySem.Spec PyProof.Rows L2
theorem cut_mid (xs : List V) {b e : Nat} (h1 : b ≤ e) (h2 : e ≤ xs.length) : cutV xs (some ((b : Nat) : Int)) (some ((e : Nat) : Int)) = (xs.drop b).take (e - b) := by
  unfold cutV
  rw [HT.sIx_nat, HT.sIx_nat, Nat.min_eq_left (show b ≤ xs.length by omega), Nat.min_eq_left h2]
theorem int_eqv (a b : Int) : PyData.eqv (.int a) (.int b) = decide (a = b) := by
  have e : PyData.eqv (.int a) (.int b) = (a == b) := by simp only [PyData.eqv]
  rw [e]
  by_cases c : a = b <;> simp [c]
def vints (l : List Nat) : List V := l.map fun a => V.int ((a : Nat) : Int)
theorem vints_get {l : List Nat} {i x : Nat} (h : l[i]? = some x) : (vints l)[i]? = some (.int ((x : Nat) : Int)) := by
  unfold vints
  rw [List.getElem?_map, h]
  rfl
theorem rows_is {n : Nat} (h30 : n ≤ 10 ^ 30) (m : Nat) (hm : m < n) : due m (rows n) = [dp n m] := rows_due h30 m hm
theorem any_ints (l : List Nat) (k : Int) : (nats l).any (fun z => PyData.eqv z (.int k)) = decide (∃ x ∈ l, ((x : Nat) : Int) = k) := by
  induction l with
  | nil => simp [nats]
  | cons y l ih =>
    show (PyData.eqv (.int ((y : Nat) : Int)) (.int k) || (nats l).any _) = _
    rw [ih, int_eqv]
    by_cases c : ((y : Nat) : Int) = k
    · simp [c]
    · simp [c]
/-- the numbers whose first entries are asked -/
def askable (k : Int) : Prop := k < 0 ∨ (∃ j : Nat, j < 9 ∧ k = (j : Int)) ∨ k = 10 ^ 50
theorem first_of {n : Nat} (hn : n < 71) (n1 : 1 ≤ n) (k : Int) (hk : askable k) :
    (firstOf k (rows n) = .non ∧ ∀ e, e < n → ¬ ((dp n e : Nat) : Int) = k) ∨ (∃ j, j < n ∧ firstOf k (rows n) = .int ((j : Nat) : Int) ∧ ((dp n j : Nat) : Int) = k ∧ ∀ e, e < j → ¬ ((dp n e : Nat) : Int) = k) := by
  have hd : ∀ m, m < n → due m (rows n) = [dp n m] := fun m hm => rows_is (by omega) m hm
  have none_rows : ∀ T : List (Nat × Nat × Nat), (∀ x ∈ T, ¬ ((x.2.2 : Nat) : Int) = k) → firstOf k T = .non := by
    intro T
    induction T with
    | nil => intro _; rfl
    | cons y T ih =>
      intro h
      show (if ((y.2.2 : Nat) : Int) = k then V.int (y.1 : Int) else firstOf k T) = .non
      rw [if_neg (h y List.mem_cons_self)]
      exact ih fun x hx => h x (List.mem_cons_of_mem _ hx)
  have find_is : ∀ (T : List (Nat × Nat × Nat)) (j : Nat), k = (j : Int) → firstOf k T = match (T.find? fun x => x.2.2 == j).map (·.1) with | none => V.non | some b => V.int ((b : Nat) : Int) := by
    intro T j ej
    induction T with
    | nil => rfl
    | cons y T ih =>
      show (if ((y.2.2 : Nat) : Int) = k then V.int (y.1 : Int) else firstOf k T) = _
      rw [List.find?_cons]
      by_cases c : y.2.2 = j
      · rw [if_pos (by omega), show (y.2.2 == j) = true from beq_iff_eq.mpr c]
        rfl
      · rw [if_neg (by omega), show (y.2.2 == j) = false from beq_eq_false_iff_ne.mpr c]
        exact ih
  have out : (∀ x ∈ rows n, ¬ ((x.2.2 : Nat) : Int) = k) → (∀ e, e < n → ¬ ((dp n e : Nat) : Int) = k) → (firstOf k (rows n) = .non ∧ ∀ e, e < n → ¬ ((dp n e : Nat) : Int) = k) ∨ (∃ j, j < n ∧ firstOf k (rows n) = .int ((j : Nat) : Int) ∧ ((dp n j : Nat) : Int) = k ∧ ∀ e, e < j → ¬ ((dp n e : Nat) : Int) = k) := fun h1 h2 => .inl ⟨none_rows _ h1, h2⟩
  have small := List.all_eq_true.mp (rows_small n hn)
  rcases hk with c | ⟨j, hj, rfl⟩ | c
  · exact out (fun x _ z => by omega) (fun e _ z => by omega)
  · have fo := first_ok n hn n1 j hj
    have fi := find_is (rows n) j rfl
    rw [fo] at fi
    cases hf : (List.range n).find? fun e => dd n e == j with
    | none =>
      rw [hf] at fi
      left
      refine ⟨fi, fun e he z => ?_⟩
      have k1 := List.find?_eq_none.mp hf e (List.mem_range.mpr he)
      rw [dd_is hd e he] at k1
      exact k1 (beq_iff_eq.mpr (by omega))
    | some b =>
      rw [hf] at fi
      right
      have p1 := List.find?_some hf
      have p2 := List.mem_range.mp (List.mem_of_find?_eq_some hf)
      rw [dd_is hd b p2] at p1
      have p3 := beq_iff_eq.mp p1
      refine ⟨b, p2, fi, by omega, fun e he z => ?_⟩
      have k1 := (List.find?_range_eq_some.mp hf).2.2 e he
      rw [dd_is hd e (by omega)] at k1
      have k2 : (dp n e == j) = true := beq_iff_eq.mpr (by omega)
      rw [k2] at k1
      exact absurd k1 (by decide)
  · refine out (fun x hx z => ?_) (fun e he z => ?_)
    · have := of_decide_eq_true (small x hx)
      omega
    · have := dp_le hn he
      omega
section
variable {P : Program} {w : World} {K : PySem.W.Frag} {mg : Str → Option Value} {base : Heap}
def spRight : Sp := fun vs H Q _ => ∃ (bg : Addr) (n : Nat), vs = [.ref bg, .int n] ∧ n < 71 ∧ 1 ≤ n ∧ BagAt H bg ∧ ∀ (H' : Hp), But bg H H' → BagAt H' bg → Q (.bl true) H'
theorem ok_law_right {f g1 g2 g3 g4 g5 g6 g7 g8 : Addr} {fd d1 d2 d3 d4 d5 d6 d7 d8 : FuncData} (F : Fun K "_law_right" "_law_right" sLawRight f fd)
    (GLawNodes : FnOk P w K mg base CX0 9 g1 d1 ["node"] (spNodes 8)) (ALawNodes : At K mg "_law_nodes" g1 d1 ["node"])
    (GPath : FnOk P w K mg base CX0 6 g2 d2 ["size", "entry"] spPath) (APath : At K mg "path" g2 d2 ["size", "entry"])
    (GLawPath : FnOk P w K mg base CX0 2 g3 d3 ["size", "entry"] spLPath) (ALawPath : At K mg "_law_path" g3 d3 ["size", "entry"])
    (GDepth : FnOk P w K mg base CX0 7 g4 d4 ["size", "entry"] spDepth) (ADepth : At K mg "depth" g4 d4 ["size", "entry"])
    (GLawPick : FnOk P w K mg base CX0 1 g5 d5 ["bag", "many"] spPick) (ALawPick : At K mg "_law_pick" g5 d5 ["bag", "many"])
    (GDepthSum : FnOk P w K mg base CX0 7 g6 d6 ["size", "begin", "end"] spDepthSum) (ADepthSum : At K mg "depth_sum" g6 d6 ["size", "begin", "end"])
    (GDepthRange : FnOk P w K mg base CX0 7 g7 d7 ["size", "begin", "end"] spDepthRange) (ADepthRange : At K mg "depth_range" g7 d7 ["size", "begin", "end"])
    (GFirstOfDepth : FnOk P w K mg base CX0 6 g8 d8 ["size", "number"] spFirst) (AFirstOfDepth : At K mg "first_of_depth" g8 d8 ["size", "number"])
    (z_len : mg "len" = none) (z_repr : mg "repr" = none) (z_list : mg "list" = none) (z_range : mg "range" = none) (z_sum : mg "sum" = none) (z_min : mg "min" = none) (z_max : mg "max" = none) :
    GOk P w K mg base 10 f fd ["bag", "size"] spRight := by
  refine okG F scLawRight (fun vs H Q E h => ?_) (fun cdv A outer s H vs Q hg hr h => ?_)
  · obtain ⟨_, _, rfl, _⟩ := h
    rfl
  obtain ⟨bg, n, rfl, hn, n1, hb0, q⟩ := h
  refine' ⟨_, (pss_cons (ps_par (i := 2) (j := 3) (by rfl) scLawRight.nd rfl rfl (by decide) rfl rfl (pa_cons (pe_call GLawNodes (hr.mono (by decide)) rfl ALawNodes.m ALawNodes.kp ALawNodes.b .nil pass0 (pa_cons (pe_tup (pa_cons pe_int (pa_cons (pv 1) pa_nil))) pa_nil)) (pa_cons (pe_lst pa_nil) pa_nil)) (by rfl))
    (pss_cons (ps_for PassesOwn.never rfl (pi_range1 (by rfl) z_range (pa_cons (pv 1) pa_nil)) (pg_name (i := 4) scLawRight.nd rfl (Or.inr rfl))
    (pss_cons (ps_expr (pe_bm PySem.F.plainAttrs_list PySem.F.slot_list_append PySem.F.type_list_append mt_append (pv 3) (pa_cons (pe_op op_sub (pe_callB call_len_seq (by rfl) z_len PySem.boot_len (pa_cons (pe_lc (own := [("begin", 5), ("end", 6)]) rfl scLawRight.nd (pi_list (pv 2)) (blkOk_by (N := ["bag", "size", "every", "due", "entry", "begin", "end", "told", "turn", "some", "number"]) (sc := defScope sLawRight) (by decide +kernel)) (fun _ _ _ _ _ => (pg_tupB (n := 2) rfl (pgs_cons (pg_name (i := 5) scLawRight.nd rfl (Or.inl rfl)) (pgs_cons (pg_name (i := 6) scLawRight.nd rfl (Or.inl rfl)) pgs_nil)))) (fun _ _ _ _ _ => pts_one (pt_chain op_le op_lt (pv 5) (pv 4) (pv 6))) (fun _ _ _ _ _ => pe_int)) pa_nil)) pe_int) pa_nil)))
    (pss_cons (ps_set (i := 7) scLawRight.nd rfl (Or.inl rfl) (pe_call GPath (hr.mono (by decide)) rfl APath.m APath.kp APath.b .nil pass0 (pa_cons (pv 1) (pa_cons (pv 4) pa_nil))))
    (pss_cons (ps_if (PW.pt (pw_or (pt_cmpR op_ne (pe_callB (call_repr hg (units1 hr)) (by rfl) z_repr (by decide +kernel) (pa_cons (pv 7) pa_nil)) (pe_callB (call_repr hg (units1 hr)) (by rfl) z_repr (by decide +kernel) (pa_cons (pe_call GLawPath (hr.mono (by decide)) rfl ALawPath.m ALawPath.kp ALawPath.b .nil pass0 (pa_cons (pv 1) (pa_cons (pv 4) pa_nil))) pa_nil)) (nomark _)) (pw_or1 (pt_cmpR op_ne (pe_callB call_len_seq (by rfl) z_len PySem.boot_len (pa_cons (pv 7) pa_nil)) (pe_ix ix_list (pv 3) (pv 4) (fun _ _ => rfl)) (nomark _)))))
    (pss_one (ps_ret pe_bl))
    pss_nil)
    (pss_cons (ps_expr (pe_bm PySem.F.plainAttrs_list PySem.F.slot_list_append PySem.F.type_list_append mt_append (pv 7) (pa_cons pe_non pa_nil)))
    (pss_one (ps_if (pt_cmpR (op_neD hr.units) (pe_call GPath (hr.mono (by decide)) rfl APath.m APath.kp APath.b .nil pass0 (pa_cons (pv 1) (pa_cons (pv 4) pa_nil))) (pe_call GLawPath (hr.mono (by decide)) rfl ALawPath.m ALawPath.kp ALawPath.b .nil pass0 (pa_cons (pv 1) (pa_cons (pv 4) pa_nil))) (nomark _))
    (pss_one (ps_ret pe_bl))
    pss_nil)))))))
    (pss_cons (ps_if (pt_cmpR op_ne (pe_callB (call_repr hg (units1 hr)) (by rfl) z_repr (by decide +kernel) (pa_cons (pe_lc (own := [("entry", 4)]) rfl scLawRight.nd (pi_range1 (by rfl) z_range (pa_cons (pv 1) pa_nil)) (blkOk_by (N := ["bag", "size", "every", "due", "entry", "begin", "end", "told", "turn", "some", "number"]) (sc := defScope sLawRight) (by decide +kernel)) (fun _ _ _ _ _ => (pg_name (i := 4) scLawRight.nd rfl (Or.inl rfl))) (fun _ _ _ _ _ => pts_nil) (fun _ _ _ _ _ => (pe_call GDepth (hr.mono (by decide)) rfl ADepth.m ADepth.kp ADepth.b .nil pass0 (pa_cons (pv 1) (pa_cons (pv 4) pa_nil))))) pa_nil)) (pe_callB (call_repr hg (units1 hr)) (by rfl) z_repr (by decide +kernel) (pa_cons (pv 3) pa_nil)) (nomark _))
    (pss_one (ps_ret pe_bl))
    pss_nil)
    (pss_cons (ps_for PassesOwn.never rfl (pi_range1 (by rfl) z_range (pa_cons pe_int pa_nil)) (pg_name (i := 8) scLawRight.nd rfl (Or.inl rfl))
    (pss_cons (ps_set (i := 5) scLawRight.nd rfl (Or.inl rfl) (pe_call GLawPick (hr.mono (by decide)) rfl ALawPick.m ALawPick.kp ALawPick.b .nil pass0 (pa_cons (pv 0) (pa_cons (pv 1) pa_nil))))
    (pss_cons (ps_set (i := 6) scLawRight.nd rfl (Or.inl rfl) (pe_op op_add (pe_op op_add (pv 5) pe_int) (pe_call GLawPick (hr.mono (by decide)) rfl ALawPick.m ALawPick.kp ALawPick.b .nil pass0 (pa_cons (pv 0) (pa_cons (pe_op op_sub (pv 1) (pv 5)) pa_nil)))))
    (pss_cons (ps_set (i := 9) scLawRight.nd rfl (Or.inl rfl) (pe_slice sl_list (pv 3) (po_some (pv 5)) (po_some (pv 6))))
    (pss_cons (ps_set (i := 7) scLawRight.nd rfl (Or.inl rfl) (pe_lst (pa_cons (pe_call GDepthSum (hr.mono (by decide)) rfl ADepthSum.m ADepthSum.kp ADepthSum.b .nil pass0 (pa_cons (pv 1) (pa_cons (pv 5) (pa_cons (pv 6) pa_nil)))) (pa_cons (pe_call GDepthRange (hr.mono (by decide)) rfl ADepthRange.m ADepthRange.kp ADepthRange.b .nil pass0 (pa_cons (pv 1) (pa_cons (pv 5) (pa_cons (pv 6) pa_nil)))) pa_nil))))
    (pss_one (ps_if (pt_cmpR op_ne (pe_callB (call_repr hg (units1 hr)) (by rfl) z_repr (by decide +kernel) (pa_cons (pv 7) pa_nil)) (pe_callB (call_repr hg (units1 hr)) (by rfl) z_repr (by decide +kernel) (pa_cons (pe_lst (pa_cons (pe_callB (cr_sum rfl) (by rfl) z_sum (by decide +kernel) (pa_cons (pv 9) pa_nil)) (pa_cons (pe_tup (pa_cons (pe_callB (cr_min rfl) (by rfl) z_min (by decide +kernel) (pa_cons (pv 9) pa_nil)) (pa_cons (pe_callB (cr_max rfl) (by rfl) z_max (by decide +kernel) (pa_cons (pv 9) pa_nil)) pa_nil))) pa_nil))) pa_nil)) (nomark _))
    (pss_one (ps_ret pe_bl))
    pss_nil)))))))
    (pss_cons (ps_for PassesOwn.never rfl (pi_list (pe_op op_cat (pe_listRg rfl (by rfl) z_list (prg_1 (by rfl) z_range pe_int)) (pe_lst (pa_cons (pe_un un_neg pe_int) (pa_cons (pe_op op_pow pe_int pe_int) pa_nil))))) (pg_name (i := 10) scLawRight.nd rfl (Or.inl rfl))
    (pss_one (ps_if (pt_cmpR op_ne (pe_callB call_reprS (by rfl) z_repr (by decide +kernel) (pa_cons (pe_call GFirstOfDepth (hr.mono (by decide)) rfl AFirstOfDepth.m AFirstOfDepth.kp AFirstOfDepth.b .nil pass0 (pa_cons (pv 1) (pa_cons (pv 10) pa_nil))) pa_nil)) (pe_callB call_reprS (by rfl) z_repr (by decide +kernel) (pa_cons (pe_ifExp (pt_cmpR (op_inD (units1 hr)) (pv 10) (pv 3) (by rfl)) (pe_bm PySem.F.plainAttrs_list PySem.F.slot_list_index PySem.F.type_list_index (mt_indexD (units1 hr)) (pv 3) (pa_cons (pv 10) pa_nil)) pe_non) pa_nil)) (nomark _))
    (pss_one (ps_ret pe_bl))
    pss_nil)))
    (pss_one (ps_ret pe_bl))))))), ?_⟩
  have two : 2 ≤ sizeLine := by decide
  have h30 : n ≤ 10 ^ 30 := by omega
  have hd : ∀ m, m < n → due m (rows n) = [dp n m] := fun m hm => rows_is h30 m hm
  have hT : ∀ x ∈ rows n, x.1 < x.2.1 := rows_lt n
  refine ⟨_, rfl, two, fun t1 nt1 => ?_⟩
  have st1 := same_upd (o := .tup [.int 0, .int (n : Int)]) nt1
  refine ⟨0, n, _, rfl, ⟨t1, rfl, by rw [upd_same, Nat.zero_add]; rfl⟩, n1, by omega, by omega, fun H1 p1 xs s1 np1 hp1 hx1 => ⟨Nat.zero_le _, fun du ndu => ⟨_, _, rfl, ?_⟩⟩⟩
  have sH1 := st1.trans s1
  have sdu := same_upd (o := .lst []) ndu
  have hb1 := hb0.same sH1
  have bdu : ∀ {H' : Hp}, Same H1 H' → BagAt H' bg := fun s => hb1.same s
  have xl : xs.length = 2 * n - 1 := by rw [hx1.len]; exact nodesF_len 8 0 n n1 (by omega)
  have lenN : (nodesF 8 0 n).length = 2 * n - 1 := nodesF_len 8 0 n n1 (by omega)
  refine ⟨_, rfl, (n : Int), rfl, by omega, by omega, for_range (lo := 0) (n := n) (fun i σ H' => ∃ v4 v7 : Option V, σ = [some (.ref bg), some (.int n), some (.ref p1), some (.ref du), v4, none, none, v7, none, none, none] ∧ Same H1 H' ∧ H' du = some (.lst (vints ((List.range i).map (dp n)))))
    ⟨none, none, rfl, sdu, upd_same⟩ ?_ ?_⟩
  · rintro i σ H2 hi ⟨v4, v7, rfl, s2, hdu⟩
    have ej : (0 : Int) + (i : Int) = (i : Int) := by omega
    rw [ej]
    have hp1' := s2 _ _ hp1
    have hx2 := hx1.mono (fun v x (k : Nd H1 v x) => k.same s2)
    -- due.append
    refine ⟨_, rfl, .inl ⟨rfl, _, SqL.of hdu⟩, ?_⟩
    refine ⟨_, rfl, p1, rfl, ⟨_, SqL.of hp1'⟩, fun D nD => lc_list (xs := xs) (fun j H' => ∃ zs : List V, Same H2 H' ∧ H' D = some (.lst zs) ∧ zs.length = (((nodesF 8 0 n).take j).filter (hasE i)).length) ⟨[], same_upd nD, upd_same, rfl⟩ (fun j H' _ ⟨_, k, _⟩ => SqL.of (k _ _ hp1')) ?_ ?_⟩
    · rintro j x H3 hj ⟨zs, s3, hD, hz⟩
      obtain ⟨y, hyN, xp, rfl, hxp⟩ := hx2.nth hj
      have jl : j < (nodesF 8 0 n).length := (List.getElem?_eq_some_iff.mp hyN).1
      have zl : zs.length ≤ 141 := by
        rw [hz]
        refine Nat.le_trans (List.length_filter_le _ _) ?_
        rw [List.length_take]
        omega
      have em : (((nodesF 8 0 n).take (j + 1)).filter (hasE i)).length = (((nodesF 8 0 n).take j).filter (hasE i)).length + (if hasE i y = true then 1 else 0) := by
        rw [take_more hyN, List.filter_append, List.length_append, List.filter_cons]
        split <;> rfl
      refine ⟨xp, _, rfl, SqT.of (s3 _ _ hxp), rfl, _, _, rfl, _, _, rfl, rfl, rfl, ?_⟩
      refine ⟨_, rfl, _, rfl, _, _, rfl, rfl, _, rfl, ite2 (fun c => ?_) (fun c => ?_)⟩
      · have c1 : (y.1 : Int) ≤ (i : Int) := of_decide_eq_true c
        refine ⟨_, rfl, _, _, rfl, rfl, _, rfl, ite2 (fun c => ?_) (fun c => ?_)⟩
        · have c2 : (i : Int) < (y.2 : Int) := of_decide_eq_true c
          refine ⟨zs, hD, szlt (by omega), zs ++ [.int 1], ?_, upd_same, ?_⟩
          · exact fun a o k => by rw [upd_ne (ne_of_none k nD)]; exact s3 _ _ k
          · rw [em, if_pos (by unfold hasE; rw [Bool.and_eq_true]; exact ⟨decide_eq_true (by omega), decide_eq_true (by omega)⟩), List.length_append, hz]
            rfl
        · have c2 : ¬ (i : Int) < (y.2 : Int) := of_decide_eq_false (Bool.eq_false_iff.mpr c)
          refine ⟨zs, s3, hD, ?_⟩
          rw [em, if_neg (by unfold hasE; rw [Bool.and_eq_true]; intro z; exact c2 (by have := of_decide_eq_true z.2; omega))]
          exact hz
      · have c1 : ¬ (y.1 : Int) ≤ (i : Int) := of_decide_eq_false (Bool.eq_false_iff.mpr c)
        refine ⟨false, rfl, iteF ?_⟩
        refine ⟨zs, s3, hD, ?_⟩
        rw [em, if_neg (by unfold hasE; rw [Bool.and_eq_true]; intro z; exact c1 (by have := of_decide_eq_true z.1; omega))]
        exact hz
    rintro H3 ⟨zs, s3, hD, hz⟩
    have et : (nodesF 8 0 n).take xs.length = nodesF 8 0 n := List.take_of_length_le (by rw [hx1.len]; exact Nat.le_refl _)
    rw [et, cnt_in i 8 0 n n1 (by omega) (Nat.zero_le _) (by omega)] at hz
    have hdu3 := s3 _ _ hdu
    refine ⟨D, zs, rfl, .inl (SqL.of hD), _, _, rfl, rfl, du, _, _, rfl, rfl, hdu3, szlt (by unfold vints; rw [List.length_map, List.length_map, List.length_range]; omega), ?_⟩
    have ez : ((zs.length : Nat) : Int) - 1 = ((dp n i : Nat) : Int) := by
      rw [hz]
      unfold dp
      omega
    have el : vints ((List.range i).map (dp n)) ++ [.int (((zs.length : Nat) : Int) - 1)] = vints ((List.range (i + 1)).map (dp n)) := by
      rw [ez, List.range_succ, List.map_append]
      unfold vints
      rw [List.map_append]
      rfl
    have hdu4 : (upd H3 du (.lst (vints ((List.range i).map (dp n)) ++ [.int (((zs.length : Nat) : Int) - 1)]))) du = some (.lst (vints ((List.range (i + 1)).map (dp n)))) := by
      rw [upd_same, el]
    have s4 : Same H1 (upd H3 du (.lst (vints ((List.range i).map (dp n)) ++ [.int (((zs.length : Nat) : Int) - 1)]))) := fun a o k => by
      rw [upd_ne (ne_of_none k ndu)]
      exact s3 _ _ (s2 _ _ k)
    generalize hH4 : upd H3 du _ = H4
    have hdu4' : H4 du = some (.lst (vints ((List.range (i + 1)).map (dp n)))) := by
      rw [← hH4]
      exact hdu4
    have s4' : Same H1 H4 := by
      rw [← hH4]
      exact s4
    -- told
    refine ⟨_, rfl, _, rfl, n, i, rfl, hi, h30, fun H5 p5 ys s5 np5 hp5 hy5 => ?_⟩
    have sm : ∀ x ∈ (sib 0 n i).reverse, small x := fun x hx => by
      have := sib_bound n 0 i (Nat.zero_le _) (by omega) x (List.mem_reverse.mp hx)
      unfold small
      omega
    have slen : (sib 0 n i).reverse.length ≤ 7 := by rw [List.length_reverse]; exact dp_le hn hi
    have shows : ∀ {Hx : Hp} {a : Addr} {us : List V}, Hx a = some (.lst us) → All2 (Nd Hx) us (sib 0 n i).reverse → Dp K Hx (.ref a) (.list ((sib 0 n i).reverse.map nd)) := fun h k => .lst (SqL.of h) (nds_dp k)
    refine ⟨_, rfl, _, _, rfl, shows hp5 hy5, rfl, nds_shaped _, by simp only [PyData.showable]; exact nds_showable _ sm, nds_fits _ sm (by omega), ?_⟩
    refine ⟨_, rfl, _, rfl, n, i, rfl, hi, h30, fun H6 p6 us s6 hp6 hu6 => ?_⟩
    refine ⟨_, _, rfl, shows hp6 hu6, rfl, nds_shaped _, by simp only [PyData.showable]; exact nds_showable _ sm, nds_fits _ sm (by omega), rfl, false, ?_, ?_⟩
    · refine congrArg V.bl ?_
      rw [Bool.not_eq_false']
      exact decide_eq_true rfl
    have hp56 := s6 _ _ hp5
    have hdu6 := s6 _ _ (s5 _ _ hdu4')
    have di : ((List.range (i + 1)).map (dp n))[i]? = some (dp n i) := by rw [List.getElem?_map, List.getElem?_range (Nat.lt_succ_self i)]; rfl
    have yl : ys.length = dp n i := by rw [hy5.len, List.length_reverse]; rfl
    refine ⟨_, rfl, p5, _, rfl, .inl (SqL.of hp56), _, rfl, _, rfl, du, _, _, _, rfl, rfl, SqL.of hdu6, atI_nat (vints_get di), rfl, false, ?_, iteF ?_⟩
    · refine congrArg V.bl ?_
      rw [Bool.not_eq_false', yl]
      exact decide_eq_true rfl
    -- told.append(None)
    refine ⟨_, rfl, .inl ⟨rfl, _, SqL.of hp56⟩, p5, _, _, rfl, rfl, hp56, szlt (by rw [yl]; have := dp_le hn hi; omega), ?_⟩
    have np1' : H1 p5 = none := s4'.free np5
    have dup5 : du ≠ p5 := ne_of_none hdu4' np5
    have s7 : Same H1 (upd H6 p5 (.lst (ys ++ [.non]))) := fun a o k => by
      rw [upd_ne (ne_of_none k np1')]
      exact s6 _ _ (s5 _ _ (s4' _ _ k))
    have hdu7 : (upd H6 p5 (.lst (ys ++ [.non]))) du = some (.lst (vints ((List.range (i + 1)).map (dp n)))) := by
      rw [upd_ne dup5]
      exact hdu6
    generalize upd H6 p5 (.lst (ys ++ [.non])) = H7 at s7 hdu7
    refine ⟨_, rfl, _, rfl, n, i, rfl, hi, h30, fun H8 p8 ys8 s8 np8 hp8 hy8 => ?_⟩
    refine ⟨_, rfl, _, rfl, n, i, rfl, hi, h30, fun H9 p9 us9 s9 hp9 hu9 => ?_⟩
    refine ⟨_, _, shows (s9 _ _ hp8) (hy8.mono (fun v x (k : Nd H8 v x) => k.same s9)), shows hp9 hu9, nds_shaped _, nds_shaped _, false, ?_, iteF ?_⟩
    · refine congrArg V.bl ?_
      rw [Bool.not_eq_false']
      exact SeqAt.eqv_refl _ (SeqAt.canLay_of_shaped (nds_shaped _))
    exact ⟨_, _, rfl, s7.trans (s8.trans s9), s9 _ _ (s8 _ _ hdu7)⟩
  rintro σ H2 ⟨v4, v7, rfl, s2, hdu⟩
  have dl : ∀ x ∈ (List.range n).map (dp n), x ≤ 1000 := fun x hx => by
    obtain ⟨e, h1, h2⟩ := List.mem_map.mp hx
    have := dp_le hn (List.mem_range.mp h1)
    omega
  have dlen : ((List.range n).map (dp n)).length = n := by rw [List.length_map, List.length_range]
  have vdp : ∀ {Hx : Hp} {a : Addr}, Hx a = some (.lst (vints ((List.range n).map (dp n)))) → Dp K Hx (.ref a) (.list (nats ((List.range n).map (dp n)))) := fun h => .lst (SqL.of h) (nats_dp _)
  -- all depths
  refine ⟨_, rfl, (n : Int), rfl, by omega, by omega, fun D nD => lc_range (lo := 0) (n := n) (fun i H' => Same H2 H' ∧ H' D = some (.lst (vints ((List.range i).map (dp n))))) ⟨same_upd nD, upd_same⟩ ?_ ?_⟩
  · rintro i H3 hi ⟨s3, hD⟩
    have ej : (0 : Int) + (i : Int) = (i : Int) := by omega
    rw [ej]
    refine ⟨rfl, ?_⟩
    refine ⟨_, rfl, _, rfl, n, i, rfl, hi, h30, fun H4 s4 => ⟨_, s4 _ _ hD, szlt (by unfold vints; rw [List.length_map, List.length_map, List.length_range]; omega), ?_, ?_⟩⟩
    · exact fun a o k => by rw [upd_ne (ne_of_none k nD)]; exact s4 _ _ (s3 _ _ k)
    · rw [upd_same, List.range_succ, List.map_append]
      unfold vints
      rw [List.map_append]
      rfl
  rintro H3 ⟨s3, hD⟩
  refine ⟨_, _, rfl, vdp hD, rfl, nats_shaped _, by simp only [PyData.showable]; exact nats_showable _ dl, nats_fits _ dl (by omega), ?_⟩
  refine ⟨_, rfl, _, _, rfl, vdp (s3 _ _ hdu), rfl, nats_shaped _, by simp only [PyData.showable]; exact nats_showable _ dl, nats_fits _ dl (by omega), rfl, false, ?_, iteF ?_⟩
  · refine congrArg V.bl ?_
    rw [Bool.not_eq_false']
    exact decide_eq_true rfl
  have hdu3 := s3 _ _ hdu
  have hb3 := bdu (s2.trans s3)
  have dub : du ≠ bg := fun e => by obtain ⟨_, _, _, e2⟩ := hb1; rw [← e, ndu] at e2; cases e2
  have B3 : But bg H H3 := But.of (sH1.trans (s2.trans s3))
  -- spans
  refine ⟨8, rfl, by decide, by decide, for_range (lo := 0) (n := 8) (fun i σ H' => ∃ v4 v5 v6 v7 v8 v9 : Option V, σ = [some (.ref bg), some (.int n), some (.ref p1), some (.ref du), v4, v5, v6, v7, v8, v9, none] ∧ But bg H3 H' ∧ BagAt H' bg)
    ⟨v4, none, none, v7, none, none, rfl, But.refl _ _, hb3⟩ ?_ ?_⟩
  · rintro i σ H4 hi ⟨w4, w5, w6, w7, w8, w9, rfl, B4, hb4⟩
    refine ⟨_, rfl, _, rfl, bg, (n : Int), rfl, by omega, (show _ < 2 ^ 250 by omega), hb4, fun r H5 r0 r1 k5 hb5 => ?_⟩
    obtain ⟨b, rfl⟩ := Int.eq_ofNat_of_zero_le r0
    refine ⟨_, rfl, _, _, rfl, rfl, _, rfl, _, rfl, _, rfl, _, _, rfl, rfl, bg, (n : Int) - (b : Int), rfl, by omega, (show _ < 2 ^ 250 by omega), hb5, fun r H6 r60 r61 k6 hb6 => ⟨_, _, rfl, rfl, ?_⟩⟩
    obtain ⟨r6, rfl⟩ := Int.eq_ofNat_of_zero_le r60
    have ee : (b : Int) + 1 + (r6 : Int) = ((b + 1 + r6 : Nat) : Int) := by omega
    dsimp only
    rw [ee]
    have he1 : b < b + 1 + r6 := by omega
    have he2 : b + 1 + r6 ≤ n := by omega
    generalize b + 1 + r6 = e at he1 he2
    have B6 : But bg H3 H6 := fun a o h k => by rw [k6 a h, k5 a h]; exact B4 a o h k
    have hdu6 := B6 _ _ dub hdu3
    refine ⟨_, rfl, _, rfl, _, rfl, _, rfl, _, rfl, du, _, rfl, SqL.of hdu6, fun c nc => ?_⟩
    have ec : cutV (vints ((List.range n).map (dp n))) (some ((b : Nat) : Int)) (some ((e : Nat) : Int)) = vints ((ents n b e).map (dp n)) := by
      rw [cut_mid _ (by omega) (by unfold vints; rw [List.length_map, List.length_map, List.length_range]; exact he2)]
      unfold vints ents
      rw [← List.map_drop, ← List.map_take, ← List.map_drop, ← List.map_take]
    rw [ec]
    have sc := same_upd (o := .lst (vints ((ents n b e).map (dp n)))) nc
    have hc : (upd H6 c (.lst (vints ((ents n b e).map (dp n))))) c = some (.lst (vints ((ents n b e).map (dp n)))) := upd_same
    generalize upd H6 c (.lst (vints ((ents n b e).map (dp n)))) = H7 at sc hc
    have hne : db b e (rows n) ≠ [] := db_ne (hd b (by omega)) he1
    refine ⟨_, rfl, _, rfl, _, rfl, n, b, e, rfl, he1, he2, h30, fun H8 s8 => ?_⟩
    refine ⟨_, rfl, _, rfl, _, rfl, n, b, e, rfl, he1, he2, h30, hne, fun H9 q9 lo hi9 s9 hq9 hlo hhi => ⟨two, fun l10 nl10 => ?_⟩⟩
    obtain ⟨zl, hzl, elo⟩ := hlo.1
    obtain ⟨zh, hzh, ehi⟩ := hhi.1
    obtain ⟨xl1, xl2, xl3, xl4⟩ := (db_depths hT hd he2 zl.2).mp ⟨zl, hzl, rfl⟩
    obtain ⟨xh1, xh2, xh3, xh4⟩ := (db_depths hT hd he2 zh.2).mp ⟨zh, hzh, rfl⟩
    have lol : zl.2 ≤ 7 := by rw [← xl4]; exact dp_le hn (by omega)
    have hil : zh.2 ≤ 7 := by rw [← xh4]; exact dp_le hn (by omega)
    subst elo ehi
    have hs := sum_ents hT hd b e (by omega) he2
    have sl10 := same_upd (o := .lst [.int ((total b e (rows n) : Nat) : Int), .ref q9]) nl10
    have h10 : (upd H9 l10 (.lst [.int ((total b e (rows n) : Nat) : Int), .ref q9])) l10 = some (.lst [.int ((total b e (rows n) : Nat) : Int), .ref q9]) := upd_same
    have hq10 := sl10 _ _ hq9
    have hc10 := sl10 _ _ (s9 _ _ (s8 _ _ hc))
    have sB := sc.trans (s8.trans (s9.trans sl10))
    have tb : ((ents n b e).map (dp n)).sum ≤ 1000000 := by
      have gen : ∀ l : List Nat, (∀ x ∈ l, x ≤ 1000) → l.sum ≤ 1000 * l.length := by
        intro l
        induction l with
        | nil => intro _; exact Nat.le_refl _
        | cons y l ih =>
          intro h
          have h1 := h y List.mem_cons_self
          have h2 := ih fun x hx => h x (List.mem_cons_of_mem _ hx)
          rw [List.sum_cons, List.length_cons]
          omega
      have k := gen ((ents n b e).map (dp n)) (fun x hx => by
        obtain ⟨u, h1, h2⟩ := List.mem_map.mp hx
        have h3 := (ents_mem e u (by omega) he2).mp h1
        have := dp_le hn (show u < n by omega)
        omega)
      have kl : ((ents n b e).map (dp n)).length ≤ 71 := by
        unfold ents
        rw [List.length_map, List.length_take, List.length_drop, List.length_range]
        omega
      omega
    refine ⟨_, rfl, _, numPair (total b e (rows n)) zl.2 zh.2, rfl, .lst (SqL.of h10) (.cons (.int _) (.cons (.tup (SqT.of hq10) (.cons (.int _) (.cons (.int _) .nil))) .nil)), rfl, numPair_shaped _ _ _, numPair_showable (by omega) (by omega) (by omega), numPair_fits (by omega) (by omega) (by omega), ?_⟩
    have ev : vints ((ents n b e).map (dp n)) = (((ents n b e).map (dp n)).map fun a => ((a : Nat) : Int)).map V.int := by
      unfold vints
      simp only [List.map_map]
      rfl
    rw [ev] at hc10
    have cpos : 0 < (((ents n b e).map (dp n)).map fun a => ((a : Nat) : Int)).length := by
      rw [List.length_map, List.length_map]
      exact List.length_pos_iff.mpr (fun z => by have := (ents_mem e b (by omega) he2).mpr ⟨Nat.le_refl _, he1⟩; rw [z] at this; cases this)
    refine ⟨_, rfl, c, _, rfl, SqL.of hc10, ?_⟩
    refine ⟨_, rfl, c, _, rfl, SqL.of hc10, cpos, fun m1 hm1 hm1b => ⟨_, rfl, c, _, rfl, SqL.of hc10, cpos, fun m2 hm2 hm2b => ⟨two, fun u11 nu11 => ⟨two, fun l12 nl12 => ?_⟩⟩⟩⟩
    have inE : ∀ m : Int, m ∈ (((ents n b e).map (dp n)).map fun a => ((a : Nat) : Int)) ↔ ∃ x, b ≤ x ∧ x < e ∧ m = ((dp n x : Nat) : Int) := fun m => by
      constructor
      · intro h
        obtain ⟨y, h1, h2⟩ := List.mem_map.mp h
        obtain ⟨u, h3, h4⟩ := List.mem_map.mp h1
        have h5 := (ents_mem e u (by omega) he2).mp h3
        exact ⟨u, h5.1, h5.2, by rw [← h2, ← h4]⟩
      · rintro ⟨x, h1, h2, h3⟩
        exact List.mem_map.mpr ⟨dp n x, List.mem_map.mpr ⟨x, (ents_mem e x (by omega) he2).mpr ⟨h1, h2⟩, rfl⟩, h3.symm⟩
    have e1 : m1 = ((zl.2 : Nat) : Int) := by
      obtain ⟨x, h1, h2, h3⟩ := (inE m1).mp hm1
      have k1 := hm1b ((zl.2 : Nat) : Int) ((inE _).mpr ⟨xl1, xl2, xl3, by rw [xl4]⟩)
      obtain ⟨z, hz, ez⟩ := (db_depths hT hd he2 (dp n x)).mpr ⟨x, h1, h2, rfl⟩
      have k2 := hlo.2 z hz
      rw [ez] at k2
      omega
    have e2 : m2 = ((zh.2 : Nat) : Int) := by
      obtain ⟨x, h1, h2, h3⟩ := (inE m2).mp hm2
      have k1 := hm2b ((zh.2 : Nat) : Int) ((inE _).mpr ⟨xh1, xh2, xh3, by rw [xh4]⟩)
      obtain ⟨z, hz, ez⟩ := (db_depths hT hd he2 (dp n x)).mpr ⟨x, h1, h2, rfl⟩
      have k2 := hhi.2 z hz
      rw [ez] at k2
      omega
    subst e1 e2
    have s11 := same_upd (o := .tup [.int ((zl.2 : Nat) : Int), .int ((zh.2 : Nat) : Int)]) nu11
    have es : ((((ents n b e).map (dp n)).map fun a => ((a : Nat) : Int)).sum : Int) = ((total b e (rows n) : Nat) : Int) := by rw [sum_cast, hs]
    have s12 := same_upd (o := .lst [.int ((((ents n b e).map (dp n)).map fun a => ((a : Nat) : Int)).sum), .ref u11]) nl12
    refine ⟨_, numPair (total b e (rows n)) zl.2 zh.2, rfl, ?_, rfl, numPair_shaped _ _ _, numPair_showable (by omega) (by omega) (by omega), numPair_fits (by omega) (by omega) (by omega), rfl, false, ?_, iteF ?_⟩
    · have dpi : ∀ Hx : Hp, Dp K Hx (.int ((((ents n b e).map (dp n)).map fun a => ((a : Nat) : Int)).sum)) (.int ((total b e (rows n) : Nat) : Int)) := fun Hx => by
        rw [es]
        exact .int _
      exact .lst (SqL.of upd_same) (.cons (dpi _) (.cons (.tup (SqT.of (s12 _ _ upd_same)) (.cons (.int _) (.cons (.int _) .nil))) .nil))
    · refine congrArg V.bl ?_
      rw [Bool.not_eq_false']
      exact decide_eq_true rfl
    have sE := sB.trans (s11.trans s12)
    exact ⟨_, _, _, _, _, _, rfl, B6.trans (But.of sE), hb6.same sE⟩
  rintro σ H4 ⟨w4, w5, w6, w7, w8, w9, rfl, B4, hb4⟩
  have hdu4 := B4 _ _ dub hdu3
  -- the numbers
  refine ⟨9, rfl, RgOk.of_le (by decide) (by decide) (by decide) (by decide), fun q1 nq1 => ?_⟩
  have sq1 := same_upd (o := .lst (rgV 0 9)) nq1
  refine ⟨1, rfl, _, _, rfl, rfl, ⟨by decide, by decide, by decide⟩, two, fun q2 nq2 => ?_⟩
  generalize hH : upd (upd H4 q1 (.lst (rgV 0 9))) q2 _ = H5
  have hq2 : H5 q2 = some (.lst [.int (-1), .int (10 ^ (50 : Int).toNat)]) := by
    rw [← hH]
    exact upd_same
  have sq2 : Same (upd H4 q1 (.lst (rgV 0 9))) H5 := by
    rw [← hH]
    exact same_upd nq2
  have hq1 := sq2 _ _ (upd_same (H := H4) (a := q1) (o := .lst (rgV 0 9)))
  refine ⟨q1, q2, _, _, rfl, rfl, hq1, hq2, (by show (rgV 0 9).length + 2 ≤ sizeLine; rw [rgV_length]; decide), fun q3 nq3 => ?_⟩
  have sq3 := same_upd (o := .lst (rgV 0 9 ++ [.int (-1), .int (10 ^ (50 : Int).toNat)])) nq3
  have hall : ∀ v ∈ (rgV 0 9 ++ [.int (-1), .int (10 ^ (50 : Int).toNat)] : List V), ∃ k : Int, v = .int k ∧ askable k := fun v hv => by
    rcases List.mem_append.mp hv with h | h
    · unfold rgV at h
      obtain ⟨j, h1, h2⟩ := List.mem_map.mp h
      have h3 := List.mem_range.mp h1
      exact ⟨_, h2.symm, .inr (.inl ⟨j, by simp at h3; omega, by simp⟩)⟩
    · simp only [List.mem_cons, List.not_mem_nil, or_false] at h
      rcases h with h | h
      · exact ⟨_, h, .inl (by decide)⟩
      · exact ⟨_, h, .inr (.inr rfl)⟩
  have s45 := sq1.trans (sq2.trans sq3)
  have hdu5 := s45 _ _ hdu4
  have B5 : But bg H _ := B3.trans (B4.trans (But.of s45))
  have hb5 := hb4.same s45
  have hq3 : (upd H5 q3 (.lst (rgV 0 9 ++ [.int (-1), .int (10 ^ (50 : Int).toNat)]))) q3 = some (.lst (rgV 0 9 ++ [.int (-1), .int (10 ^ (50 : Int).toNat)])) := upd_same
  generalize upd H5 q3 (.lst (rgV 0 9 ++ [.int (-1), .int (10 ^ (50 : Int).toNat)])) = H6 at hdu5 B5 hb5 hq3
  generalize (rgV 0 9 ++ [.int (-1), .int (10 ^ (50 : Int).toNat)] : List V) = ks at hall hq3
  refine ⟨q3, rfl, ⟨_, SqL.of hq3⟩, for_list (K := K) (a := q3) (xs := ks) (fun i σ H' => ∃ v10 : Option V, σ = [some (.ref bg), some (.int n), some (.ref p1), some (.ref du), w4, w5, w6, w7, w8, w9, v10] ∧ Same H6 H')
    ⟨none, rfl, Same.refl _⟩ (fun i σ H' _ ⟨_, _, s5⟩ => SqL.of (s5 _ _ hq3)) ?_ ?_⟩
  · rintro i x σ H7 hi ⟨v10, rfl, s7⟩
    obtain ⟨k, rfl, hk⟩ := hall x (List.mem_of_getElem? hi)
    have hdu7 := s7 _ _ hdu5
    refine ⟨_, rfl, _, rfl, n, k, rfl, n1, h30, fun H8 s8 => ?_⟩
    have hdu8 := s8 _ _ hdu7
    have ksh : SeqAt.shaped (.int k) = true := by
      show (PyData.canLay0 _ && decide (PyData.depth _ ≤ 64)) = true
      simp [PyData.canLay0, PyData.depth]
    have anyk := any_ints ((List.range n).map (dp n)) k
    rcases first_of hn n1 k hk with ⟨f1, f2⟩ | ⟨j, j1, f1, f2, f3⟩
    · have f1' : firstOf k (lev (pk 101 n 0).length 0 (pk 101 n 0)) = .non := f1
      rw [f1']
      have no : ¬ ∃ x ∈ (List.range n).map (dp n), ((x : Nat) : Int) = k := by
        rintro ⟨x, hx, ex⟩
        obtain ⟨e, h1, h2⟩ := List.mem_map.mp hx
        exact f2 e (List.mem_range.mp h1) (by rw [h2]; exact ex)
      rw [decide_eq_false no] at anyk
      refine ⟨.non, rfl, trivial, _, rfl, _, rfl, .int k, nats ((List.range n).map (dp n)), .int k, vdp hdu8, ksh, nats_shaped _, false, congrArg V.bl anyk, ?_⟩
      refine iteF ?_
      refine ⟨.non, rfl, trivial, rfl, false, ?_, iteF ⟨_, rfl, s7.trans s8⟩⟩
      refine congrArg V.bl ?_
      rw [Bool.not_eq_false']
      exact decide_eq_true rfl
    · have f1' : firstOf k (lev (pk 101 n 0).length 0 (pk 101 n 0)) = .int ((j : Nat) : Int) := f1
      rw [f1']
      have yes : ∃ x ∈ (List.range n).map (dp n), ((x : Nat) : Int) = k := ⟨dp n j, List.mem_map.mpr ⟨j, List.mem_range.mpr j1, rfl⟩, f2⟩
      rw [decide_eq_true yes] at anyk
      have okj : reprOk (.int ((j : Nat) : Int)) := by
        show ((j : Nat) : Int).natAbs.log2 < 1920
        exact Nat.lt_of_le_of_lt (Nat.log2_le_self _) (by show j < 1920; omega)
      have getD : ∀ m, m < n → (nats ((List.range n).map (dp n)))[m]? = some (.int ((dp n m : Nat) : Int)) := fun m hm => by
        unfold nats
        rw [List.getElem?_map, List.getElem?_map, List.getElem?_range hm]
        rfl
      refine ⟨.int ((j : Nat) : Int), rfl, okj, _, rfl, _, rfl, .int k, nats ((List.range n).map (dp n)), .int k, vdp hdu8, ksh, nats_shaped _, true, congrArg V.bl anyk, ?_⟩
      refine iteT ?_
      refine ⟨_, rfl, .inl ⟨rfl, _, SqL.of hdu8⟩, _, rfl, du, _, .int k, nats ((List.range n).map (dp n)), j, .int ((dp n j : Nat) : Int), rfl, rfl, vdp hdu8, .int k, nats_shaped _, ksh, getD j j1, by rw [int_eqv]; exact decide_eq_true f2, fun m z' hm hz => ?_, ?_⟩
      · rw [getD m (by omega)] at hz
        rw [← Option.some.inj hz, int_eqv]
        exact decide_eq_false (f3 m hm)
      · refine ⟨.int ((j : Nat) : Int), rfl, okj, rfl, false, ?_, iteF ⟨_, rfl, s7.trans s8⟩⟩
        refine congrArg V.bl ?_
        rw [Bool.not_eq_false']
        exact decide_eq_true rfl
  · rintro σ H7 ⟨v10, rfl, s7⟩
    exact q _ (B5.trans (But.of s7)) (hb5.same s7)
end
end LT

namespace LT
open PySem PySem.Spec PyProof.Rows L2
theorem script_at {ns : List Int} {lo hi : Option Int} {i : Nat} {x : V} (h : (cutV (ns.map V.int) lo hi ++ [.int 0])[i]? = some x) : ∃ c : Int, x = .int c := by
  have m := List.mem_of_getElem? h
  rcases List.mem_append.mp m with m | m
  · unfold cutV at m
    have m2 := List.mem_of_mem_drop (List.mem_of_mem_take m)
    obtain ⟨c, _, e⟩ := List.mem_map.mp m2
    exact ⟨c, e.symm⟩
  · exact ⟨0, List.mem_singleton.mp m⟩
theorem sqSame {K : PySem.W.Frag} {H H' : Hp} {a : Addr} {xs : List V} (h : SqL K H a xs) (e : Same H H') : SqL K H' a xs :=
  h.elim (fun h => .inl (h.elim (fun h => .inl (e _ _ h)) fun ⟨o, h⟩ => .inr ⟨o, e _ _ h⟩)) fun h => .inr h
def spLaw (K : PySem.W.Frag) : Sp := fun vs H Q _ => ∃ (a : Addr) (ns : List Int), vs = [.ref a] ∧ SqL K H a (ns.map V.int) ∧ ns.length ≤ 63 ∧ ∀ H', Q (.bl true) H'
end LT

namespace LT
open PySem PySem.Spec PyProof.Rows L2
theorem sib75 : (sib 0 7 5).reverse = [(4, 5), (6, 7), (0, 4)] := by
  rw [sib_high (by decide) (by decide), sib_low (by decide) (by decide), sib_high (by decide) (by decide), sib_one (by decide)]
  decide
theorem sib76 : (sib 0 7 6).reverse = [(4, 6), (0, 4)] := by
  rw [sib_high (by decide) (by decide), sib_high (by decide) (by decide), sib_one (by decide)]
  decide
section
variable {P : Program} {w : World} {K : PySem.W.Frag} {mg : Str → Option Value} {base : Heap}
theorem ok_law {f g1 g2 g3 g4 g5 g6 g7 g8 : Addr} {fd d1 d2 d3 d4 d5 d6 d7 d8 : FuncData} (F : Fun K "law" "law" sLaw f fd)
    (GLawBag : FnOk P w K mg base CX0 1 g1 d1 ["cell"] spBag) (ALawBag : At K mg "_law_bag" g1 d1 ["cell"])
    (GLawPick : FnOk P w K mg base CX0 1 g2 d2 ["bag", "many"] spPick) (ALawPick : At K mg "_law_pick" g2 d2 ["bag", "many"])
    (GLawRight : GOk P w K mg base 10 g3 d3 ["bag", "size"] spRight) (ALawRight : At K mg "_law_right" g3 d3 ["bag", "size"])
    (GPath : FnOk P w K mg base CX0 6 g4 d4 ["size", "entry"] spPath) (APath : At K mg "path" g4 d4 ["size", "entry"])
    (GDepth : FnOk P w K mg base CX0 7 g5 d5 ["size", "entry"] spDepth) (ADepth : At K mg "depth" g5 d5 ["size", "entry"])
    (GDepthSum : FnOk P w K mg base CX0 7 g6 d6 ["size", "begin", "end"] spDepthSum) (ADepthSum : At K mg "depth_sum" g6 d6 ["size", "begin", "end"])
    (GDepthRange : FnOk P w K mg base CX0 7 g7 d7 ["size", "begin", "end"] spDepthRange) (ADepthRange : At K mg "depth_range" g7 d7 ["size", "begin", "end"])
    (GFirstOfDepth : FnOk P w K mg base CX0 6 g8 d8 ["size", "number"] spFirst) (AFirstOfDepth : At K mg "first_of_depth" g8 d8 ["size", "number"])
    (z_range : mg "range" = none) : GOk P w K mg base 11 f fd ["script"] (spLaw K) := by
  refine okG F scLaw (fun vs H Q E h => ?_) (fun cdv A outer s H vs Q hg hr h => ?_)
  · obtain ⟨_, _, rfl, _⟩ := h
    rfl
  obtain ⟨a, ns, rfl, hS, h63, q⟩ := h
  refine' ⟨_, (pss_cons (ps_for PassesOwn.never rfl (pi_list (pe_op op_cat (pe_slice sl_list (pv 0) po_none (po_some pe_int)) (pe_lst (pa_cons pe_int pa_nil)))) (pg_name (i := 1) scLaw.nd rfl (Or.inl rfl))
    (pss_cons (ps_set (i := 2) scLaw.nd rfl (Or.inl rfl) (pe_call GLawBag (hr.mono (by decide)) rfl ALawBag.m ALawBag.kp ALawBag.b .nil pass0 (pa_cons (pv 1) pa_nil)))
    (pss_one (ps_for PassesOwn.never rfl (pi_range1 (by rfl) z_range (pa_cons pe_int pa_nil)) (pg_name (i := 3) scLaw.nd rfl (Or.inl rfl))
    (pss_one (ps_if (pt_not (pt_val (pe_callG GLawRight hg (hr.mono (by decide)) rfl ALawRight.m ALawRight.kp ALawRight.b (pa_cons (pv 2) (pa_cons (pe_op op_add pe_int (pe_call GLawPick (hr.mono (by decide)) rfl ALawPick.m ALawPick.kp ALawPick.b .nil pass0 (pa_cons (pv 2) (pa_cons pe_int pa_nil)))) pa_nil)))))
    (pss_one (ps_ret pe_bl))
    pss_nil))))))
    (pss_cons (ps_set (i := 4) scLaw.nd rfl (Or.inl rfl) (pe_lst (pa_cons (pe_call GPath (hr.mono (by decide)) rfl APath.m APath.kp APath.b .nil pass0 (pa_cons pe_int (pa_cons pe_int pa_nil))) (pa_cons (pe_call GPath (hr.mono (by decide)) rfl APath.m APath.kp APath.b .nil pass0 (pa_cons pe_int (pa_cons pe_int pa_nil))) (pa_cons (pe_call GDepth (hr.mono (by decide)) rfl ADepth.m ADepth.kp ADepth.b .nil pass0 (pa_cons pe_int (pa_cons pe_int pa_nil))) (pa_cons (pe_call GDepthSum (hr.mono (by decide)) rfl ADepthSum.m ADepthSum.kp ADepthSum.b .nil pass0 (pa_cons pe_int (pa_cons pe_int (pa_cons pe_int pa_nil)))) (pa_cons (pe_call GDepthRange (hr.mono (by decide)) rfl ADepthRange.m ADepthRange.kp ADepthRange.b .nil pass0 (pa_cons pe_int (pa_cons pe_int (pa_cons pe_int pa_nil)))) (pa_cons (pe_call GFirstOfDepth (hr.mono (by decide)) rfl AFirstOfDepth.m AFirstOfDepth.kp AFirstOfDepth.b .nil pass0 (pa_cons pe_int (pa_cons pe_int pa_nil))) pa_nil))))))))
    (pss_one (ps_ret (pe_cmpR (op_eqD hr.units) (pv 4) (pe_lst (pa_cons (pe_lst (pa_cons (pe_tup (pa_cons pe_int (pa_cons pe_int pa_nil))) (pa_cons (pe_tup (pa_cons pe_int (pa_cons pe_int pa_nil))) (pa_cons (pe_tup (pa_cons pe_int (pa_cons pe_int pa_nil))) pa_nil)))) (pa_cons (pe_lst (pa_cons (pe_tup (pa_cons pe_int (pa_cons pe_int pa_nil))) (pa_cons (pe_tup (pa_cons pe_int (pa_cons pe_int pa_nil))) pa_nil))) (pa_cons pe_int (pa_cons pe_int (pa_cons (pe_tup (pa_cons pe_int (pa_cons pe_int pa_nil))) (pa_cons pe_non pa_nil))))))) (nomark _)))))), ?_⟩
  refine ⟨_, rfl, 6, rfl, a, _, rfl, hS, fun c nc => ⟨(by show 1 ≤ sizeLine; decide), fun z nz => ?_⟩⟩
  have s1 := same_upd (o := .lst (cutV (ns.map V.int) none (some 6))) nc
  have s2 := same_upd (o := .lst [.int 0]) nz
  have hcl := cutV_length (ns.map V.int) none (some 6)
  rw [List.length_map] at hcl
  refine ⟨c, z, _, _, rfl, rfl, s2 _ _ upd_same, upd_same, szle (by rw [List.length_singleton]; omega), fun r nr => ?_⟩
  have s3 := same_upd (o := .lst (cutV (ns.map V.int) none (some 6) ++ [.int 0])) nr
  have hr0 : (upd (upd (upd H c (.lst (cutV (ns.map V.int) none (some 6)))) z (.lst [.int 0])) r (.lst (cutV (ns.map V.int) none (some 6) ++ [.int 0]))) r = some (.lst (cutV (ns.map V.int) none (some 6) ++ [.int 0])) := upd_same
  generalize upd (upd (upd H c (.lst (cutV (ns.map V.int) none (some 6)))) z (.lst [.int 0])) r (.lst (cutV (ns.map V.int) none (some 6) ++ [.int 0])) = H0 at hr0
  refine ⟨r, rfl, ⟨_, SqL.of hr0⟩, for_list (K := K) (a := r) (xs := cutV (ns.map V.int) none (some 6) ++ [.int 0]) (fun i σ H' => ∃ v1 v2 v3 : Option V, σ = [some (.ref a), v1, v2, v3, none] ∧ Same H0 H')
    ⟨none, none, none, rfl, Same.refl _⟩ (fun i σ H' _ ⟨_, _, _, _, s5⟩ => SqL.of (s5 _ _ hr0)) ?_ ?_⟩
  · rintro i x σ H1 hi ⟨v1, v2, v3, rfl, sm1⟩
    obtain ⟨cell, rfl⟩ := script_at hi
    refine ⟨_, rfl, cell, rfl, fun H2 b sm2 nb hb => ?_⟩
    have nb0 : H0 b = none := sm1.free nb
    refine ⟨2, rfl, by decide, by decide, for_range (lo := 0) (n := 2) (fun i σ H' => ∃ v3 : Option V, σ = [some (.ref a), some (.int cell), some (.ref b), v3, none] ∧ Same H0 H' ∧ BagAt H' b)
      ⟨v3, rfl, sm1.trans sm2, hb⟩ ?_ ?_⟩
    · rintro j σ H3 hj ⟨v3, rfl, sm3, hb3⟩
      refine ⟨_, rfl, _, rfl, b, 70, rfl, by decide, by decide, hb3, fun r4 H4 r40 r41 k4 hb4 => ⟨_, _, rfl, rfl, ?_⟩⟩
      obtain ⟨n4, rfl⟩ := Int.eq_ofNat_of_zero_le r40
      have e : ([V.ref b, V.int (1 + (n4 : Int))] : List V) = [V.ref b, V.int ((1 + n4 : Nat) : Int)] := by
        rw [show ((1 + n4 : Nat) : Int) = 1 + (n4 : Int) by omega]
      refine ⟨b, 1 + n4, e, by omega, by omega, hb4, fun H6 B6 hb6 => ⟨true, rfl, ?_⟩⟩
      exact ⟨_, rfl, fun u o k => B6 u o (ne_of_none k nb0) (by rw [k4 u (ne_of_none k nb0)]; exact sm3 _ _ k), hb6⟩
    · rintro σ H3 ⟨v3, rfl, sm3, hb3⟩
      exact ⟨_, _, _, rfl, sm3⟩
  · rintro σ H1 ⟨v1, v2, v3, rfl, sm1⟩
    have t7 : lev (pk 101 7 0).length 0 (pk 101 7 0) = [(0, 4, 3), (4, 6, 3), (6, 7, 2)] := by decide +kernel
    refine ⟨7, 5, rfl, by decide, by decide, fun H2 p2 xs2 s2 np2 hp2 hx2 => ?_⟩
    refine ⟨7, 6, rfl, by decide, by decide, fun H3 p3 xs3 s3 np3 hp3 hx3 => ?_⟩
    rw [sib75] at hx2
    rw [sib76] at hx3
    refine ⟨7, 5, rfl, by decide, by decide, fun H4 s4 => ?_⟩
    refine ⟨7, 0, 7, rfl, by decide, by decide, by decide, fun H5 s5 => ?_⟩
    refine ⟨7, 4, 7, rfl, by decide, by decide, by decide, by rw [t7]; decide, fun H6 p6 lo hi s6 hp6 hlo hhi => ?_⟩
    refine ⟨7, 4, rfl, by decide, by decide, fun H7 s7 => ?_⟩
    have e3 : (((sib 0 7 5).length : Nat) : Int) = 3 := by
      have k := congrArg List.length sib75
      rw [List.length_reverse] at k
      rw [k]
      rfl
    rw [t7] at hlo hhi
    have e0 : ((total 0 7 (lev (pk 101 7 0).length 0 (pk 101 7 0)) : Nat) : Int) = 20 := by rw [t7]; decide
    have e2 : firstOf 4 (lev (pk 101 7 0).length 0 (pk 101 7 0)) = .non := by rw [t7]; rfl
    have d7 : db 4 7 [(0, 4, 3), (4, 6, 3), (6, 7, 2)] = [(2, 3), (1, 2)] := by decide
    rw [d7] at hlo hhi
    have el : lo = 2 := by
      have a1 := hlo.2 (1, 2) (by decide)
      obtain ⟨z, hz, ez⟩ := hlo.1
      simp only [List.mem_cons, List.not_mem_nil, or_false] at hz
      rcases hz with h | h <;> subst h <;> simp only [] at ez a1 <;> omega
    have eh : hi = 3 := by
      have a1 := hhi.2 (2, 3) (by decide)
      obtain ⟨z, hz, ez⟩ := hhi.1
      simp only [List.mem_cons, List.not_mem_nil, or_false] at hz
      rcases hz with h | h <;> subst h <;> simp only [] at ez a1 <;> omega
    subst el eh
    refine ⟨(by show 6 ≤ sizeLine; decide), fun l1 n1 => ?_⟩
    have two : 2 ≤ sizeLine := by decide
    have big : ∀ v1 v2 v3 : V, v1 = .int 3 → v2 = .int 20 → v3 = .non → ∀ H8 : Hp, Same H7 H8 → H8 l1 = some (.lst [.ref p2, .ref p3, v1, v2, .ref p6, v3]) → Dp K H8 (.ref l1) (.list [.list ([(4, 5), (6, 7), (0, 4)].map nd), .list ([(4, 6), (0, 4)].map nd), .int 3, .int 20, .tuple [.int 2, .int 3], .none]) := by
      rintro _ _ _ rfl rfl rfl H8 s8 h8
      have hp2' := s8 _ _ (s7 _ _ (s6 _ _ (s5 _ _ (s4 _ _ (s3 _ _ hp2)))))
      have hp3' := s8 _ _ (s7 _ _ (s6 _ _ (s5 _ _ (s4 _ _ hp3))))
      have s38 := s3.trans (s4.trans (s5.trans (s6.trans (s7.trans s8))))
      have s48 := s4.trans (s5.trans (s6.trans (s7.trans s8)))
      exact .lst (SqL.of h8) (.cons (.lst (SqL.of hp2') (nds_dp (hx2.mono (fun v x (k : Nd H2 v x) => k.same s38)))) (.cons (.lst (SqL.of hp3') (nds_dp (hx3.mono (fun v x (k : Nd H3 v x) => k.same s48)))) (.cons (.int _) (.cons (.int _) (.cons (.tup (SqT.of (s8 _ _ (s7 _ _ hp6))) (.cons (.int _) (.cons (.int _) .nil))) (.cons .non .nil))))))
    refine ⟨_, rfl, two, fun m1 k1 => ⟨two, fun m2 k2 => ⟨two, fun m3 k3 => ⟨(by show 3 ≤ sizeLine; decide), fun m4 k4 => ⟨two, fun m5 k5 => ⟨two, fun m6 k6 => ⟨two, fun m7 k7 => ⟨two, fun m8 k8 => ⟨(by show 6 ≤ sizeLine; decide), fun m9 k9 => ?_⟩⟩⟩⟩⟩⟩⟩⟩⟩
    have w1 := same_upd (o := .tup [.int 4, .int 5]) k1
    have w2 := same_upd (o := .tup [.int 6, .int 7]) k2
    have w3 := same_upd (o := .tup [.int 0, .int 4]) k3
    have w4 := same_upd (o := .lst [.ref m1, .ref m2, .ref m3]) k4
    have w5 := same_upd (o := .tup [.int 4, .int 6]) k5
    have w6 := same_upd (o := .tup [.int 0, .int 4]) k6
    have w7 := same_upd (o := .lst [.ref m5, .ref m6]) k7
    have w8 := same_upd (o := .tup [.int 2, .int 3]) k8
    have w9 := same_upd (o := .lst [.ref m4, .ref m7, .int 3, .int 20, .ref m8, .non]) k9
    have w49 := w4.trans (w5.trans (w6.trans (w7.trans (w8.trans w9))))
    have w19 := w1.trans (w2.trans (w3.trans w49))
    have sh : SeqAt.shaped (.list [.list ([(4, 5), (6, 7), (0, 4)].map nd), .list ([(4, 6), (0, 4)].map nd), .int 3, .int 20, .tuple [.int 2, .int 3], .none]) = true := by
      show (PyData.canLay0 _ && decide (PyData.depth _ ≤ 64)) = true
      simp [nd, PyData.canLay0, PyData.canLayAll0, PyData.depth, PyData.depthAll]
    refine ⟨_, _, big _ _ _ (congrArg V.int e3) (congrArg V.int e0) e2 _ ((same_upd n1).trans w19) (w19 _ _ upd_same), ?_, sh, sh, ?_⟩
    · refine .lst (SqL.of upd_same) (.cons (.lst (SqL.of (w9 _ _ (w8 _ _ (w7 _ _ (w6 _ _ (w5 _ _ upd_same)))))) (nds_dp (l := [(4, 5), (6, 7), (0, 4)]) (.cons ⟨m1, rfl, ?_⟩ (.cons ⟨m2, rfl, ?_⟩ (.cons ⟨m3, rfl, ?_⟩ .nil)))))
        (.cons (.lst (SqL.of (w9 _ _ (w8 _ _ upd_same))) (nds_dp (l := [(4, 6), (0, 4)]) (.cons ⟨m5, rfl, ?_⟩ (.cons ⟨m6, rfl, ?_⟩ .nil)))) (.cons (.int _) (.cons (.int _) (.cons (.tup (SqT.of (w9 _ _ upd_same)) (.cons (.int _) (.cons (.int _) .nil))) (.cons .non .nil))))))
      · exact w49 _ _ (w3 _ _ (w2 _ _ upd_same))
      · exact w49 _ _ (w3 _ _ upd_same)
      · exact w49 _ _ upd_same
      · exact w9 _ _ (w8 _ _ (w7 _ _ (w6 _ _ upd_same)))
      · exact w9 _ _ (w8 _ _ (w7 _ _ upd_same))
    rw [SeqAt.eqv_refl _ (SeqAt.canLay_of_shaped sh)]
    exact q _
end
end LT

namespace LT
open PySem PySem.Spec PyProof.Rows L2
theorem all_mk {l : PySem.W.OpenLaw} {w : World} {K : PySem.W.Frag} {h : Heap} {mg : Str → Option Value} {fa f0 f1 f2 f3 f4 f5 f6 f7 f8 f9 f10 f11 f12 f13 f14 f15 f16 f17 f18 f19 f20 f21 f22 f23 f24 : Addr} (X : K.In h) (G : h.Ns mainGlobals mg) (hfa : mg "law" = some (.ref fa))
    {od0 an0 od1 an1 od2 an2 od3 an3 od4 an4 od5 an5 od6 an6 od7 an7 od8 an8 od9 an9 od10 an10 od11 an11 od12 an12 od13 an13 od14 an14 od15 an15 od16 an16 od17 an17 od18 an18 od19 an19 od20 an20 od21 an21 od22 an22 od23 an23 od24 an24 : Option Addr} {sl0 sl1 sl2 sl3 sl4 sl5 sl6 sl7 sl8 sl9 sl10 sl11 sl12 sl13 sl14 sl15 sl16 sl17 sl18 sl19 sl20 sl21 sl22 sl23 sl24 : Array (Option Value)} {oc0 kV0 dc0 pm0 cd0 ct0 oc1 kV1 dc1 pm1 cd1 ct1 oc2 kV2 dc2 pm2 cd2 ct2 oc3 kV3 dc3 pm3 cd3 ct3 oc4 kV4 dc4 pm4 cd4 ct4 oc5 kV5 dc5 pm5 cd5 ct5 oc6 kV6 dc6 pm6 cd6 ct6 oc7 kV7 dc7 pm7 cd7 ct7 oc8 kV8 dc8 pm8 cd8 ct8 oc9 kV9 dc9 pm9 cd9 ct9 oc10 kV10 dc10 pm10 cd10 ct10 oc11 kV11 dc11 pm11 cd11 ct11 oc12 kV12 dc12 pm12 cd12 ct12 oc13 kV13 dc13 pm13 cd13 ct13 oc14 kV14 dc14 pm14 cd14 ct14 oc15 kV15 dc15 pm15 cd15 ct15 oc16 kV16 dc16 pm16 cd16 ct16 oc17 kV17 dc17 pm17 cd17 ct17 oc18 kV18 dc18 pm18 cd18 ct18 oc19 kV19 dc19 pm19 cd19 ct19 oc20 kV20 dc20 pm20 cd20 ct20 oc21 kV21 dc21 pm21 cd21 ct21 oc22 kV22 dc22 pm22 cd22 ct22 oc23 kV23 dc23 pm23 cd23 ct23 oc24 kV24 dc24 pm24 cd24 ct24 : Value}
    (a0 : PySem.W.nsIn K mainGlobals "is_whole" = some (some (.ref f0))) (l0 : K.lookup f0 = some ⟨oc0, od0, .func (PySem.W.fnOf "is_whole" "is_whole" (defArgs sIsWhole) (defBody sIsWhole) (defScope sIsWhole) .none kV0 dc0 pm0 an0 cd0 ct0), sl0⟩) (c0 : PySem.W.codeIn K cd0 "is_whole" = true) (k0 : PySem.W.keepIn K (.ref f0) = true)
    (a1 : PySem.W.nsIn K mainGlobals "is_between" = some (some (.ref f1))) (l1 : K.lookup f1 = some ⟨oc1, od1, .func (PySem.W.fnOf "is_between" "is_between" (defArgs sIsBetween) (defBody sIsBetween) (defScope sIsBetween) .none kV1 dc1 pm1 an1 cd1 ct1), sl1⟩) (c1 : PySem.W.codeIn K cd1 "is_between" = true) (k1 : PySem.W.keepIn K (.ref f1) = true)
    (a2 : PySem.W.nsIn K mainGlobals "is_tree_node" = some (some (.ref f2))) (l2 : K.lookup f2 = some ⟨oc2, od2, .func (PySem.W.fnOf "is_tree_node" "is_tree_node" (defArgs sIsTreeNode) (defBody sIsTreeNode) (defScope sIsTreeNode) .none kV2 dc2 pm2 an2 cd2 ct2), sl2⟩) (c2 : PySem.W.codeIn K cd2 "is_tree_node" = true) (k2 : PySem.W.keepIn K (.ref f2) = true)
    (a3 : PySem.W.nsIn K mainGlobals "check_size" = some (some (.ref f3))) (l3 : K.lookup f3 = some ⟨oc3, od3, .func (PySem.W.fnOf "check_size" "check_size" (defArgs sCheckSize) (defBody sCheckSize) (defScope sCheckSize) .none kV3 dc3 pm3 an3 cd3 ct3), sl3⟩) (c3 : PySem.W.codeIn K cd3 "check_size" = true) (k3 : PySem.W.keepIn K (.ref f3) = true)
    (a4 : PySem.W.nsIn K mainGlobals "check_entry" = some (some (.ref f4))) (l4 : K.lookup f4 = some ⟨oc4, od4, .func (PySem.W.fnOf "check_entry" "check_entry" (defArgs sCheckEntry) (defBody sCheckEntry) (defScope sCheckEntry) .none kV4 dc4 pm4 an4 cd4 ct4), sl4⟩) (c4 : PySem.W.codeIn K cd4 "check_entry" = true) (k4 : PySem.W.keepIn K (.ref f4) = true)
    (a5 : PySem.W.nsIn K mainGlobals "check_node" = some (some (.ref f5))) (l5 : K.lookup f5 = some ⟨oc5, od5, .func (PySem.W.fnOf "check_node" "check_node" (defArgs sCheckNode) (defBody sCheckNode) (defScope sCheckNode) .none kV5 dc5 pm5 an5 cd5 ct5), sl5⟩) (c5 : PySem.W.codeIn K cd5 "check_node" = true) (k5 : PySem.W.keepIn K (.ref f5) = true)
    (a6 : PySem.W.nsIn K mainGlobals "check_span" = some (some (.ref f6))) (l6 : K.lookup f6 = some ⟨oc6, od6, .func (PySem.W.fnOf "check_span" "check_span" (defArgs sCheckSpan) (defBody sCheckSpan) (defScope sCheckSpan) .none kV6 dc6 pm6 an6 cd6 ct6), sl6⟩) (c6 : PySem.W.codeIn K cd6 "check_span" = true) (k6 : PySem.W.keepIn K (.ref f6) = true)
    (a7 : PySem.W.nsIn K mainGlobals "check_number" = some (some (.ref f7))) (l7 : K.lookup f7 = some ⟨oc7, od7, .func (PySem.W.fnOf "check_number" "check_number" (defArgs sCheckNumber) (defBody sCheckNumber) (defScope sCheckNumber) .none kV7 dc7 pm7 an7 cd7 ct7), sl7⟩) (c7 : PySem.W.codeIn K cd7 "check_number" = true) (k7 : PySem.W.keepIn K (.ref f7) = true)
    (a8 : PySem.W.nsIn K mainGlobals "power_within" = some (some (.ref f8))) (l8 : K.lookup f8 = some ⟨oc8, od8, .func (PySem.W.fnOf "power_within" "power_within" (defArgs sPowerWithin) (defBody sPowerWithin) (defScope sPowerWithin) .none kV8 dc8 pm8 an8 cd8 ct8), sl8⟩) (c8 : PySem.W.codeIn K cd8 "power_within" = true) (k8 : PySem.W.keepIn K (.ref f8) = true)
    (a9 : PySem.W.nsIn K mainGlobals "peaks" = some (some (.ref f9))) (l9 : K.lookup f9 = some ⟨oc9, od9, .func (PySem.W.fnOf "peaks" "peaks" (defArgs sPeaks) (defBody sPeaks) (defScope sPeaks) .none kV9 dc9 pm9 an9 cd9 ct9), sl9⟩) (c9 : PySem.W.codeIn K cd9 "peaks" = true) (k9 : PySem.W.keepIn K (.ref f9) = true)
    (a10 : PySem.W.nsIn K mainGlobals "halves" = some (some (.ref f10))) (l10 : K.lookup f10 = some ⟨oc10, od10, .func (PySem.W.fnOf "halves" "halves" (defArgs sHalves) (defBody sHalves) (defScope sHalves) .none kV10 dc10 pm10 an10 cd10 ct10), sl10⟩) (c10 : PySem.W.codeIn K cd10 "halves" = true) (k10 : PySem.W.keepIn K (.ref f10) = true)
    (a11 : PySem.W.nsIn K mainGlobals "depth" = some (some (.ref f11))) (l11 : K.lookup f11 = some ⟨oc11, od11, .func (PySem.W.fnOf "depth" "depth" (defArgs sDepth) (defBody sDepth) (defScope sDepth) .none kV11 dc11 pm11 an11 cd11 ct11), sl11⟩) (c11 : PySem.W.codeIn K cd11 "depth" = true) (k11 : PySem.W.keepIn K (.ref f11) = true)
    (a12 : PySem.W.nsIn K mainGlobals "path" = some (some (.ref f12))) (l12 : K.lookup f12 = some ⟨oc12, od12, .func (PySem.W.fnOf "path" "path" (defArgs sPath) (defBody sPath) (defScope sPath) .none kV12 dc12 pm12 an12 cd12 ct12), sl12⟩) (c12 : PySem.W.codeIn K cd12 "path" = true) (k12 : PySem.W.keepIn K (.ref f12) = true)
    (a13 : PySem.W.nsIn K mainGlobals "_peak_depths" = some (some (.ref f13))) (l13 : K.lookup f13 = some ⟨oc13, od13, .func (PySem.W.fnOf "_peak_depths" "_peak_depths" (defArgs sPeakDepths) (defBody sPeakDepths) (defScope sPeakDepths) .none kV13 dc13 pm13 an13 cd13 ct13), sl13⟩) (c13 : PySem.W.codeIn K cd13 "_peak_depths" = true) (k13 : PySem.W.keepIn K (.ref f13) = true)
    (a14 : PySem.W.nsIn K mainGlobals "_depths_between" = some (some (.ref f14))) (l14 : K.lookup f14 = some ⟨oc14, od14, .func (PySem.W.fnOf "_depths_between" "_depths_between" (defArgs sDepthsBetween) (defBody sDepthsBetween) (defScope sDepthsBetween) .none kV14 dc14 pm14 an14 cd14 ct14), sl14⟩) (c14 : PySem.W.codeIn K cd14 "_depths_between" = true) (k14 : PySem.W.keepIn K (.ref f14) = true)
    (a15 : PySem.W.nsIn K mainGlobals "depth_sum" = some (some (.ref f15))) (l15 : K.lookup f15 = some ⟨oc15, od15, .func (PySem.W.fnOf "depth_sum" "depth_sum" (defArgs sDepthSum) (defBody sDepthSum) (defScope sDepthSum) .none kV15 dc15 pm15 an15 cd15 ct15), sl15⟩) (c15 : PySem.W.codeIn K cd15 "depth_sum" = true) (k15 : PySem.W.keepIn K (.ref f15) = true)
    (a16 : PySem.W.nsIn K mainGlobals "depth_range" = some (some (.ref f16))) (l16 : K.lookup f16 = some ⟨oc16, od16, .func (PySem.W.fnOf "depth_range" "depth_range" (defArgs sDepthRange) (defBody sDepthRange) (defScope sDepthRange) .none kV16 dc16 pm16 an16 cd16 ct16), sl16⟩) (c16 : PySem.W.codeIn K cd16 "depth_range" = true) (k16 : PySem.W.keepIn K (.ref f16) = true)
    (a17 : PySem.W.nsIn K mainGlobals "first_of_depth" = some (some (.ref f17))) (l17 : K.lookup f17 = some ⟨oc17, od17, .func (PySem.W.fnOf "first_of_depth" "first_of_depth" (defArgs sFirstOfDepth) (defBody sFirstOfDepth) (defScope sFirstOfDepth) .none kV17 dc17 pm17 an17 cd17 ct17), sl17⟩) (c17 : PySem.W.codeIn K cd17 "first_of_depth" = true) (k17 : PySem.W.keepIn K (.ref f17) = true)
    (a18 : PySem.W.nsIn K mainGlobals "_law_bag" = some (some (.ref f18))) (l18 : K.lookup f18 = some ⟨oc18, od18, .func (PySem.W.fnOf "_law_bag" "_law_bag" (defArgs sLawBag) (defBody sLawBag) (defScope sLawBag) .none kV18 dc18 pm18 an18 cd18 ct18), sl18⟩) (c18 : PySem.W.codeIn K cd18 "_law_bag" = true) (k18 : PySem.W.keepIn K (.ref f18) = true)
    (a19 : PySem.W.nsIn K mainGlobals "_law_pick" = some (some (.ref f19))) (l19 : K.lookup f19 = some ⟨oc19, od19, .func (PySem.W.fnOf "_law_pick" "_law_pick" (defArgs sLawPick) (defBody sLawPick) (defScope sLawPick) .none kV19 dc19 pm19 an19 cd19 ct19), sl19⟩) (c19 : PySem.W.codeIn K cd19 "_law_pick" = true) (k19 : PySem.W.keepIn K (.ref f19) = true)
    (a20 : PySem.W.nsIn K mainGlobals "_law_halved" = some (some (.ref f20))) (l20 : K.lookup f20 = some ⟨oc20, od20, .func (PySem.W.fnOf "_law_halved" "_law_halved" (defArgs sLawHalved) (defBody sLawHalved) (defScope sLawHalved) .none kV20 dc20 pm20 an20 cd20 ct20), sl20⟩) (c20 : PySem.W.codeIn K cd20 "_law_halved" = true) (k20 : PySem.W.keepIn K (.ref f20) = true)
    (a21 : PySem.W.nsIn K mainGlobals "_law_nodes" = some (some (.ref f21))) (l21 : K.lookup f21 = some ⟨oc21, od21, .func (PySem.W.fnOf "_law_nodes" "_law_nodes" (defArgs sLawNodes) (defBody sLawNodes) (defScope sLawNodes) .none kV21 dc21 pm21 an21 cd21 ct21), sl21⟩) (c21 : PySem.W.codeIn K cd21 "_law_nodes" = true) (k21 : PySem.W.keepIn K (.ref f21) = true)
    (a22 : PySem.W.nsIn K mainGlobals "_law_path" = some (some (.ref f22))) (l22 : K.lookup f22 = some ⟨oc22, od22, .func (PySem.W.fnOf "_law_path" "_law_path" (defArgs sLawPath) (defBody sLawPath) (defScope sLawPath) .none kV22 dc22 pm22 an22 cd22 ct22), sl22⟩) (c22 : PySem.W.codeIn K cd22 "_law_path" = true) (k22 : PySem.W.keepIn K (.ref f22) = true)
    (a23 : PySem.W.nsIn K mainGlobals "_law_right" = some (some (.ref f23))) (l23 : K.lookup f23 = some ⟨oc23, od23, .func (PySem.W.fnOf "_law_right" "_law_right" (defArgs sLawRight) (defBody sLawRight) (defScope sLawRight) .none kV23 dc23 pm23 an23 cd23 ct23), sl23⟩) (c23 : PySem.W.codeIn K cd23 "_law_right" = true) (k23 : PySem.W.keepIn K (.ref f23) = true)
    (a24 : PySem.W.nsIn K mainGlobals "law" = some (some (.ref f24))) (l24 : K.lookup f24 = some ⟨oc24, od24, .func (PySem.W.fnOf "law" "law" (defArgs sLaw) (defBody sLaw) (defScope sLaw) .none kV24 dc24 pm24 an24 cd24 ct24), sl24⟩) (c24 : PySem.W.codeIn K cd24 "law" = true) (k24 : PySem.W.keepIn K (.ref f24) = true)
    (z_bool : PySem.W.nsIn K mainGlobals "bool" = some none)
    (z_enumerate : PySem.W.nsIn K mainGlobals "enumerate" = some none)
    (z_int : PySem.W.nsIn K mainGlobals "int" = some none)
    (z_isinstance : PySem.W.nsIn K mainGlobals "isinstance" = some none)
    (z_len : PySem.W.nsIn K mainGlobals "len" = some none)
    (z_list : PySem.W.nsIn K mainGlobals "list" = some none)
    (z_max : PySem.W.nsIn K mainGlobals "max" = some none)
    (z_min : PySem.W.nsIn K mainGlobals "min" = some none)
    (z_range : PySem.W.nsIn K mainGlobals "range" = some none)
    (z_repr : PySem.W.nsIn K mainGlobals "repr" = some none)
    (z_sum : PySem.W.nsIn K mainGlobals "sum" = some none)
    (z_tuple : PySem.W.nsIn K mainGlobals "tuple" = some none)
    {t_MOST_ENTRIES : Tok} (g_MOST_ENTRIES : PySem.W.nsIn K mainGlobals "MOST_ENTRIES" = some (some (.int 1000000000000000000000000000000 t_MOST_ENTRIES)))
    : ∃ fd : FuncData, (∀ (s : Shared) (v : Value), BindsTo s fd ⟨[v], []⟩ [("script", v)]) ∧ ∀ base : Heap, K.In base → base.Ns mainGlobals mg → GOk l.prog w K mg base 11 fa fd ["script"] (spLaw K) := by
  have e := hfa.symm.trans (PySem.W.mg_of X G a24)
  cases e
  have FIsWhole := fun_mk (st := sIsWhole) l0 c0 k0
  have FIsBetween := fun_mk (st := sIsBetween) l1 c1 k1
  have FIsTreeNode := fun_mk (st := sIsTreeNode) l2 c2 k2
  have FCheckSize := fun_mk (st := sCheckSize) l3 c3 k3
  have FCheckEntry := fun_mk (st := sCheckEntry) l4 c4 k4
  have FCheckNode := fun_mk (st := sCheckNode) l5 c5 k5
  have FCheckSpan := fun_mk (st := sCheckSpan) l6 c6 k6
  have FCheckNumber := fun_mk (st := sCheckNumber) l7 c7 k7
  have FPowerWithin := fun_mk (st := sPowerWithin) l8 c8 k8
  have FPeaks := fun_mk (st := sPeaks) l9 c9 k9
  have FHalves := fun_mk (st := sHalves) l10 c10 k10
  have FDepth := fun_mk (st := sDepth) l11 c11 k11
  have FPath := fun_mk (st := sPath) l12 c12 k12
  have FPeakDepths := fun_mk (st := sPeakDepths) l13 c13 k13
  have FDepthsBetween := fun_mk (st := sDepthsBetween) l14 c14 k14
  have FDepthSum := fun_mk (st := sDepthSum) l15 c15 k15
  have FDepthRange := fun_mk (st := sDepthRange) l16 c16 k16
  have FFirstOfDepth := fun_mk (st := sFirstOfDepth) l17 c17 k17
  have FLawBag := fun_mk (st := sLawBag) l18 c18 k18
  have FLawPick := fun_mk (st := sLawPick) l19 c19 k19
  have FLawHalved := fun_mk (st := sLawHalved) l20 c20 k20
  have FLawNodes := fun_mk (st := sLawNodes) l21 c21 k21
  have FLawPath := fun_mk (st := sLawPath) l22 c22 k22
  have FLawRight := fun_mk (st := sLawRight) l23 c23 k23
  have FLaw := fun_mk (st := sLaw) l24 c24 k24
  have AIsWhole : At K mg "is_whole" f0 (PySem.W.fnOf "is_whole" "is_whole" (defArgs sIsWhole) (defBody sIsWhole) (defScope sIsWhole) .none kV0 dc0 pm0 an0 cd0 ct0) ["value"] := ⟨PySem.W.mg_of X G a0, k0, FIsWhole.binds (ps := ["value"]) fun _ _ _ _ _ _ us hl => match us, hl with | [_], _ => rfl⟩
  have AIsBetween : At K mg "is_between" f1 (PySem.W.fnOf "is_between" "is_between" (defArgs sIsBetween) (defBody sIsBetween) (defScope sIsBetween) .none kV1 dc1 pm1 an1 cd1 ct1) ["value", "low", "high"] := ⟨PySem.W.mg_of X G a1, k1, FIsBetween.binds (ps := ["value", "low", "high"]) fun _ _ _ _ _ _ us hl => match us, hl with | [_, _, _], _ => rfl⟩
  have AIsTreeNode : At K mg "is_tree_node" f2 (PySem.W.fnOf "is_tree_node" "is_tree_node" (defArgs sIsTreeNode) (defBody sIsTreeNode) (defScope sIsTreeNode) .none kV2 dc2 pm2 an2 cd2 ct2) ["size", "value"] := ⟨PySem.W.mg_of X G a2, k2, FIsTreeNode.binds (ps := ["size", "value"]) fun _ _ _ _ _ _ us hl => match us, hl with | [_, _], _ => rfl⟩
  have ACheckSize : At K mg "check_size" f3 (PySem.W.fnOf "check_size" "check_size" (defArgs sCheckSize) (defBody sCheckSize) (defScope sCheckSize) .none kV3 dc3 pm3 an3 cd3 ct3) ["size"] := ⟨PySem.W.mg_of X G a3, k3, FCheckSize.binds (ps := ["size"]) fun _ _ _ _ _ _ us hl => match us, hl with | [_], _ => rfl⟩
  have ACheckEntry : At K mg "check_entry" f4 (PySem.W.fnOf "check_entry" "check_entry" (defArgs sCheckEntry) (defBody sCheckEntry) (defScope sCheckEntry) .none kV4 dc4 pm4 an4 cd4 ct4) ["size", "entry"] := ⟨PySem.W.mg_of X G a4, k4, FCheckEntry.binds (ps := ["size", "entry"]) fun _ _ _ _ _ _ us hl => match us, hl with | [_, _], _ => rfl⟩
  have ACheckNode : At K mg "check_node" f5 (PySem.W.fnOf "check_node" "check_node" (defArgs sCheckNode) (defBody sCheckNode) (defScope sCheckNode) .none kV5 dc5 pm5 an5 cd5 ct5) ["size", "node"] := ⟨PySem.W.mg_of X G a5, k5, FCheckNode.binds (ps := ["size", "node"]) fun _ _ _ _ _ _ us hl => match us, hl with | [_, _], _ => rfl⟩
  have ACheckSpan : At K mg "check_span" f6 (PySem.W.fnOf "check_span" "check_span" (defArgs sCheckSpan) (defBody sCheckSpan) (defScope sCheckSpan) .none kV6 dc6 pm6 an6 cd6 ct6) ["size", "begin", "end"] := ⟨PySem.W.mg_of X G a6, k6, FCheckSpan.binds (ps := ["size", "begin", "end"]) fun _ _ _ _ _ _ us hl => match us, hl with | [_, _, _], _ => rfl⟩
  have ACheckNumber : At K mg "check_number" f7 (PySem.W.fnOf "check_number" "check_number" (defArgs sCheckNumber) (defBody sCheckNumber) (defScope sCheckNumber) .none kV7 dc7 pm7 an7 cd7 ct7) ["number"] := ⟨PySem.W.mg_of X G a7, k7, FCheckNumber.binds (ps := ["number"]) fun _ _ _ _ _ _ us hl => match us, hl with | [_], _ => rfl⟩
  have APowerWithin : At K mg "power_within" f8 (PySem.W.fnOf "power_within" "power_within" (defArgs sPowerWithin) (defBody sPowerWithin) (defScope sPowerWithin) .none kV8 dc8 pm8 an8 cd8 ct8) ["number"] := ⟨PySem.W.mg_of X G a8, k8, FPowerWithin.binds (ps := ["number"]) fun _ _ _ _ _ _ us hl => match us, hl with | [_], _ => rfl⟩
  have APeaks : At K mg "peaks" f9 (PySem.W.fnOf "peaks" "peaks" (defArgs sPeaks) (defBody sPeaks) (defScope sPeaks) .none kV9 dc9 pm9 an9 cd9 ct9) ["size"] := ⟨PySem.W.mg_of X G a9, k9, FPeaks.binds (ps := ["size"]) fun _ _ _ _ _ _ us hl => match us, hl with | [_], _ => rfl⟩
  have AHalves : At K mg "halves" f10 (PySem.W.fnOf "halves" "halves" (defArgs sHalves) (defBody sHalves) (defScope sHalves) .none kV10 dc10 pm10 an10 cd10 ct10) ["size", "node"] := ⟨PySem.W.mg_of X G a10, k10, FHalves.binds (ps := ["size", "node"]) fun _ _ _ _ _ _ us hl => match us, hl with | [_, _], _ => rfl⟩
  have ADepth : At K mg "depth" f11 (PySem.W.fnOf "depth" "depth" (defArgs sDepth) (defBody sDepth) (defScope sDepth) .none kV11 dc11 pm11 an11 cd11 ct11) ["size", "entry"] := ⟨PySem.W.mg_of X G a11, k11, FDepth.binds (ps := ["size", "entry"]) fun _ _ _ _ _ _ us hl => match us, hl with | [_, _], _ => rfl⟩
  have APath : At K mg "path" f12 (PySem.W.fnOf "path" "path" (defArgs sPath) (defBody sPath) (defScope sPath) .none kV12 dc12 pm12 an12 cd12 ct12) ["size", "entry"] := ⟨PySem.W.mg_of X G a12, k12, FPath.binds (ps := ["size", "entry"]) fun _ _ _ _ _ _ us hl => match us, hl with | [_, _], _ => rfl⟩
  have APeakDepths : At K mg "_peak_depths" f13 (PySem.W.fnOf "_peak_depths" "_peak_depths" (defArgs sPeakDepths) (defBody sPeakDepths) (defScope sPeakDepths) .none kV13 dc13 pm13 an13 cd13 ct13) ["size"] := ⟨PySem.W.mg_of X G a13, k13, FPeakDepths.binds (ps := ["size"]) fun _ _ _ _ _ _ us hl => match us, hl with | [_], _ => rfl⟩
  have ADepthsBetween : At K mg "_depths_between" f14 (PySem.W.fnOf "_depths_between" "_depths_between" (defArgs sDepthsBetween) (defBody sDepthsBetween) (defScope sDepthsBetween) .none kV14 dc14 pm14 an14 cd14 ct14) ["size", "begin", "end"] := ⟨PySem.W.mg_of X G a14, k14, FDepthsBetween.binds (ps := ["size", "begin", "end"]) fun _ _ _ _ _ _ us hl => match us, hl with | [_, _, _], _ => rfl⟩
  have ADepthSum : At K mg "depth_sum" f15 (PySem.W.fnOf "depth_sum" "depth_sum" (defArgs sDepthSum) (defBody sDepthSum) (defScope sDepthSum) .none kV15 dc15 pm15 an15 cd15 ct15) ["size", "begin", "end"] := ⟨PySem.W.mg_of X G a15, k15, FDepthSum.binds (ps := ["size", "begin", "end"]) fun _ _ _ _ _ _ us hl => match us, hl with | [_, _, _], _ => rfl⟩
  have ADepthRange : At K mg "depth_range" f16 (PySem.W.fnOf "depth_range" "depth_range" (defArgs sDepthRange) (defBody sDepthRange) (defScope sDepthRange) .none kV16 dc16 pm16 an16 cd16 ct16) ["size", "begin", "end"] := ⟨PySem.W.mg_of X G a16, k16, FDepthRange.binds (ps := ["size", "begin", "end"]) fun _ _ _ _ _ _ us hl => match us, hl with | [_, _, _], _ => rfl⟩
  have AFirstOfDepth : At K mg "first_of_depth" f17 (PySem.W.fnOf "first_of_depth" "first_of_depth" (defArgs sFirstOfDepth) (defBody sFirstOfDepth) (defScope sFirstOfDepth) .none kV17 dc17 pm17 an17 cd17 ct17) ["size", "number"] := ⟨PySem.W.mg_of X G a17, k17, FFirstOfDepth.binds (ps := ["size", "number"]) fun _ _ _ _ _ _ us hl => match us, hl with | [_, _], _ => rfl⟩
  have ALawBag : At K mg "_law_bag" f18 (PySem.W.fnOf "_law_bag" "_law_bag" (defArgs sLawBag) (defBody sLawBag) (defScope sLawBag) .none kV18 dc18 pm18 an18 cd18 ct18) ["cell"] := ⟨PySem.W.mg_of X G a18, k18, FLawBag.binds (ps := ["cell"]) fun _ _ _ _ _ _ us hl => match us, hl with | [_], _ => rfl⟩
  have ALawPick : At K mg "_law_pick" f19 (PySem.W.fnOf "_law_pick" "_law_pick" (defArgs sLawPick) (defBody sLawPick) (defScope sLawPick) .none kV19 dc19 pm19 an19 cd19 ct19) ["bag", "many"] := ⟨PySem.W.mg_of X G a19, k19, FLawPick.binds (ps := ["bag", "many"]) fun _ _ _ _ _ _ us hl => match us, hl with | [_, _], _ => rfl⟩
  have ALawHalved : At K mg "_law_halved" f20 (PySem.W.fnOf "_law_halved" "_law_halved" (defArgs sLawHalved) (defBody sLawHalved) (defScope sLawHalved) .none kV20 dc20 pm20 an20 cd20 ct20) ["node"] := ⟨PySem.W.mg_of X G a20, k20, FLawHalved.binds (ps := ["node"]) fun _ _ _ _ _ _ us hl => match us, hl with | [_], _ => rfl⟩
  have ALawNodes : At K mg "_law_nodes" f21 (PySem.W.fnOf "_law_nodes" "_law_nodes" (defArgs sLawNodes) (defBody sLawNodes) (defScope sLawNodes) .none kV21 dc21 pm21 an21 cd21 ct21) ["node"] := ⟨PySem.W.mg_of X G a21, k21, FLawNodes.binds (ps := ["node"]) fun _ _ _ _ _ _ us hl => match us, hl with | [_], _ => rfl⟩
  have ALawPath : At K mg "_law_path" f22 (PySem.W.fnOf "_law_path" "_law_path" (defArgs sLawPath) (defBody sLawPath) (defScope sLawPath) .none kV22 dc22 pm22 an22 cd22 ct22) ["size", "entry"] := ⟨PySem.W.mg_of X G a22, k22, FLawPath.binds (ps := ["size", "entry"]) fun _ _ _ _ _ _ us hl => match us, hl with | [_, _], _ => rfl⟩
  have ALawRight : At K mg "_law_right" f23 (PySem.W.fnOf "_law_right" "_law_right" (defArgs sLawRight) (defBody sLawRight) (defScope sLawRight) .none kV23 dc23 pm23 an23 cd23 ct23) ["bag", "size"] := ⟨PySem.W.mg_of X G a23, k23, FLawRight.binds (ps := ["bag", "size"]) fun _ _ _ _ _ _ us hl => match us, hl with | [_, _], _ => rfl⟩
  have z_bool := PySem.W.mg_none_of X G z_bool
  have z_enumerate := PySem.W.mg_none_of X G z_enumerate
  have z_int := PySem.W.mg_none_of X G z_int
  have z_isinstance := PySem.W.mg_none_of X G z_isinstance
  have z_len := PySem.W.mg_none_of X G z_len
  have z_list := PySem.W.mg_none_of X G z_list
  have z_max := PySem.W.mg_none_of X G z_max
  have z_min := PySem.W.mg_none_of X G z_min
  have z_range := PySem.W.mg_none_of X G z_range
  have z_repr := PySem.W.mg_none_of X G z_repr
  have z_sum := PySem.W.mg_none_of X G z_sum
  have z_tuple := PySem.W.mg_none_of X G z_tuple
  have g_MOST_ENTRIES := PySem.W.mg_of X G g_MOST_ENTRIES
  refine ⟨PySem.W.fnOf "law" "law" (defArgs sLaw) (defBody sLaw) (defScope sLaw) .none kV24 dc24 pm24 an24 cd24 ct24, fun s v => .of_eq rfl, fun base _ _ => ?_⟩
  have GIsWhole := ok_is_whole (P := l.prog) (w := w) (base := base) FIsWhole z_isinstance z_int z_bool
  have GIsBetween := ok_is_between FIsBetween GIsWhole AIsWhole
  have GCheckSize := ok_check_size FCheckSize GIsBetween AIsBetween g_MOST_ENTRIES
  have GCheckEntry := ok_check_entry FCheckEntry GIsBetween AIsBetween
  have GCheckSpan := ok_check_span FCheckSpan GIsBetween AIsBetween
  have GCheckNumber := ok_check_number FCheckNumber GIsWhole AIsWhole
  have GIsTreeNode := ok_is_tree_node FIsTreeNode GIsBetween AIsBetween z_isinstance z_tuple z_len
  have GCheckNode := ok_check_node FCheckNode GIsTreeNode AIsTreeNode
  have GPowerWithin := ok_power_within (P := l.prog) (w := w) (mg := mg) (base := base) FPowerWithin
  have GPeaks := ok_peaks FPeaks GCheckSize ACheckSize GPowerWithin APowerWithin
  have GPeakDepths := ok_peak_depths FPeakDepths GPeaks APeaks z_min z_enumerate z_len
  have GDepthsBetween := ok_depths_between FDepthsBetween GPeakDepths APeakDepths z_min z_max
  have GDepthSum := ok_depth_sum FDepthSum GCheckSize ACheckSize GCheckSpan ACheckSpan GDepthsBetween ADepthsBetween z_sum
  have GDepthRange := ok_depth_range FDepthRange GCheckSize ACheckSize GCheckSpan ACheckSpan GDepthsBetween ADepthsBetween z_min z_max
  have GFirstOfDepth := ok_first_of_depth FFirstOfDepth GCheckSize ACheckSize GCheckNumber ACheckNumber GPeakDepths APeakDepths
  have GHalves := ok_halves FHalves GCheckSize ACheckSize GCheckNode ACheckNode GPowerWithin APowerWithin
  have GPath := ok_path FPath GCheckSize ACheckSize GCheckEntry ACheckEntry GHalves AHalves
  have GDepth := ok_depth FDepth GPath APath z_len
  have GLawBag := ok_law_bag (P := l.prog) (w := w) (base := base) FLawBag z_max
  have GLawPick := ok_law_pick (P := l.prog) (w := w) (base := base) FLawPick z_int
  have GLawHalved := ok_law_halved (P := l.prog) (w := w) (mg := mg) (base := base) FLawHalved
  have GLawNodes := ok_law_nodes FLawNodes ALawNodes GLawHalved ALawHalved 8
  have GLawPath := ok_law_path FLawPath GLawHalved ALawHalved
  have GLawRight := ok_law_right FLawRight GLawNodes ALawNodes GPath APath GLawPath ALawPath GDepth ADepth GLawPick ALawPick GDepthSum ADepthSum GDepthRange ADepthRange GFirstOfDepth AFirstOfDepth z_len z_repr z_list z_range z_sum z_min z_max
  exact ok_law FLaw GLawBag ALawBag GLawPick ALawPick GLawRight ALawRight GPath APath GDepth ADepth GDepthSum ADepthSum GDepthRange ADepthRange GFirstOfDepth AFirstOfDepth z_range
end LT
open PySem PySem.W PyProof.Rows
set_option maxRecDepth 100000 in
set_option maxHeartbeats 0 in
theorem PySem.Challenge.cw_logtrees_k05_depths_and_paths_by_built_t_holds : PySem.Challenge.rw_logtrees_k05_depths_and_paths_by_built_t.Holds := by
  w_on; o_law; k_head; (case hw => w_witness2)
  k_fill
  refine LT.walkG (l := PySem.Challenge.rw_logtrees_k05_depths_and_paths_by_built_t) (n := 63) (k := 11) (x := "script") (sp := fun w => LT.spLaw _) rfl (by decide) rfl ⟨rfl, by decide, by decide⟩ (fun w h Y => PySem.W.kIn_of Y) ?F (fun _ _ a ns hl _ hS => ⟨a, ns, rfl, hS, hl, fun _ => rfl⟩)
  case F =>
    intro w mg fa h KX G hmg
    refine' LT.all_mk KX G hmg ?a0 ?l0 ?c0 ?k0 ?a1 ?l1 ?c1 ?k1 ?a2 ?l2 ?c2 ?k2 ?a3 ?l3 ?c3 ?k3 ?a4 ?l4 ?c4 ?k4 ?a5 ?l5 ?c5 ?k5 ?a6 ?l6 ?c6 ?k6 ?a7 ?l7 ?c7 ?k7 ?a8 ?l8 ?c8 ?k8 ?a9 ?l9 ?c9 ?k9 ?a10 ?l10 ?c10 ?k10 ?a11 ?l11 ?c11 ?k11 ?a12 ?l12 ?c12 ?k12 ?a13 ?l13 ?c13 ?k13 ?a14 ?l14 ?c14 ?k14 ?a15 ?l15 ?c15 ?k15 ?a16 ?l16 ?c16 ?k16 ?a17 ?l17 ?c17 ?k17 ?a18 ?l18 ?c18 ?k18 ?a19 ?l19 ?c19 ?k19 ?a20 ?l20 ?c20 ?k20 ?a21 ?l21 ?c21 ?k21 ?a22 ?l22 ?c22 ?k22 ?a23 ?l23 ?c23 ?k23 ?a24 ?l24 ?c24 ?k24 ?z_bool ?z_enumerate ?z_int ?z_isinstance ?z_len ?z_list ?z_max ?z_min ?z_range ?z_repr ?z_sum ?z_tuple ?g_MOST_ENTRIES
    (case a0 => k_is)
    (case l0 => k_is)
    (case c0 => k_is)
    (case k0 => k_is)
    (case a1 => k_is)
    (case l1 => k_is)
    (case c1 => k_is)
    (case k1 => k_is)
    (case a2 => k_is)
    (case l2 => k_is)
    (case c2 => k_is)
    (case k2 => k_is)
    (case a3 => k_is)
    (case l3 => k_is)
    (case c3 => k_is)
    (case k3 => k_is)
    (case a4 => k_is)
    (case l4 => k_is)
    (case c4 => k_is)
    (case k4 => k_is)
    (case a5 => k_is)
    (case l5 => k_is)
    (case c5 => k_is)
    (case k5 => k_is)
    (case a6 => k_is)
    (case l6 => k_is)
    (case c6 => k_is)
    (case k6 => k_is)
    (case a7 => k_is)
    (case l7 => k_is)
    (case c7 => k_is)
    (case k7 => k_is)
    (case a8 => k_is)
    (case l8 => k_is)
    (case c8 => k_is)
    (case k8 => k_is)
    (case a9 => k_is)
    (case l9 => k_is)
    (case c9 => k_is)
    (case k9 => k_is)
    (case a10 => k_is)
    (case l10 => k_is)
    (case c10 => k_is)
    (case k10 => k_is)
    (case a11 => k_is)
    (case l11 => k_is)
    (case c11 => k_is)
    (case k11 => k_is)
    (case a12 => k_is)
    (case l12 => k_is)
    (case c12 => k_is)
    (case k12 => k_is)
    (case a13 => k_is)
    (case l13 => k_is)
    (case c13 => k_is)
    (case k13 => k_is)
    (case a14 => k_is)
    (case l14 => k_is)
    (case c14 => k_is)
    (case k14 => k_is)
    (case a15 => k_is)
    (case l15 => k_is)
    (case c15 => k_is)
    (case k15 => k_is)
    (case a16 => k_is)
    (case l16 => k_is)
    (case c16 => k_is)
    (case k16 => k_is)
    (case a17 => k_is)
    (case l17 => k_is)
    (case c17 => k_is)
    (case k17 => k_is)
    (case a18 => k_is)
    (case l18 => k_is)
    (case c18 => k_is)
    (case k18 => k_is)
    (case a19 => k_is)
    (case l19 => k_is)
    (case c19 => k_is)
    (case k19 => k_is)
    (case a20 => k_is)
    (case l20 => k_is)
    (case c20 => k_is)
    (case k20 => k_is)
    (case a21 => k_is)
    (case l21 => k_is)
    (case c21 => k_is)
    (case k21 => k_is)
    (case a22 => k_is)
    (case l22 => k_is)
    (case c22 => k_is)
    (case k22 => k_is)
    (case a23 => k_is)
    (case l23 => k_is)
    (case c23 => k_is)
    (case k23 => k_is)
    (case a24 => k_is)
    (case l24 => k_is)
    (case c24 => k_is)
    (case k24 => k_is)
    (case z_bool => k_is)
    (case z_enumerate => k_is)
    (case z_int => k_is)
    (case z_isinstance => k_is)
    (case z_len => k_is)
    (case z_list => k_is)
    (case z_max => k_is)
    (case z_min => k_is)
    (case z_range => k_is)
    (case z_repr => k_is)
    (case z_sum => k_is)
    (case z_tuple => k_is)
    (case g_MOST_ENTRIES => k_is)
