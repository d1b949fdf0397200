import PyProof.Rows.All
import Wide.All
import OpenK.AllK
import Wide.FinOn
import HandS.ForMost
import HandS.Wide
import HandS.WideBits
import HandS.IsInst
import HandS.Style
import HandS.Deep
import HandS.RaiseMore
import HandS.Conv
import HandS.Flow
import HandS.SortRule
import PyProof.ReprRoads
import PyProof.Rows.NestShow
import PySem.Challenge.RW_logtrees_k07_sums_and_ranges_of_depths
set_option Elab.async false
set_option linter.all false
set_option maxRecDepth 100000
set_option maxHeartbeats 4000000
namespace LT
/-- the greatest power of two less than m (m from 2) -/
def gp (m : Nat) : Nat := 2 ^ Nat.log2 (m - 1)
theorem gp_pos (m : Nat) : 0 < gp m := Nat.pow_pos (by decide)
theorem gp_lt {m : Nat} (h : 2 ≤ m) : gp m < m := by
  have := Nat.log2_self_le (n := m - 1) (by omega)
  unfold gp; omega
theorem gp_ge {m : Nat} (h : 2 ≤ m) : m ≤ 2 * gp m := by
  have := Nat.lt_log2_self (n := m - 1)
  unfold gp; rw [Nat.pow_succ] at this; omega
theorem pow_eq_of {i j : Nat} {m : Nat} (h1 : 2 ^ i < m) (h2 : m ≤ 2 * 2 ^ i) (h3 : 2 ^ j < m) (h4 : m ≤ 2 * 2 ^ j) : i = j := by
  have a : 2 ^ i < 2 ^ (j + 1) := by rw [Nat.pow_succ]; omega
  have b : 2 ^ j < 2 ^ (i + 1) := by rw [Nat.pow_succ]; omega
  have a' := (Nat.pow_lt_pow_iff_right (by decide : 1 < 2)).mp a
  have b' := (Nat.pow_lt_pow_iff_right (by decide : 1 < 2)).mp b
  omega
theorem gp_eq {i m : Nat} (h1 : 2 ^ i < m) (h2 : m ≤ 2 * 2 ^ i) : gp m = 2 ^ i := by
  have h : 2 ≤ m := by have := Nat.pow_pos (a := 2) (n := i) (by decide); omega
  have := pow_eq_of (gp_lt h) (gp_ge h) h1 h2
  unfold gp; rw [this]
theorem gp_pow (i : Nat) : gp (2 ^ (i + 1)) = 2 ^ i := gp_eq (by rw [Nat.pow_succ]; have := Nat.pow_pos (a := 2) (n := i) (by decide); omega) (by rw [Nat.pow_succ]; omega)

/-- siblings from the root's half down to the leaf's: nodes as (begin, length-end) pairs -/
def sib (b m e : Nat) : List (Nat × Nat) :=
  if h : m ≤ 1 then [] else
    if e < b + gp m then (b + gp m, b + m) :: sib b (gp m) e
    else (b, b + gp m) :: sib (b + gp m) (m - gp m) e
termination_by m
decreasing_by
  · exact gp_lt (by omega)
  · have := gp_pos m; omega
theorem sib_one {b m e : Nat} (h : m ≤ 1) : sib b m e = [] := by rw [sib]; simp [h]
theorem sib_low {b m e : Nat} (h : 2 ≤ m) (k : e < b + gp m) : sib b m e = (b + gp m, b + m) :: sib b (gp m) e := by
  rw [sib]; rw [dif_neg (by omega), if_pos k]
theorem sib_high {b m e : Nat} (h : 2 ≤ m) (k : ¬ e < b + gp m) : sib b m e = (b, b + gp m) :: sib (b + gp m) (m - gp m) e := by
  rw [sib]; rw [dif_neg (by omega), if_neg k]

/-! ### joining up again -/
def join (x y : Nat × Nat) : Nat × Nat := (min x.1 y.1, max x.2 y.2)
/-- the halves of a node -/
def halv (x : Nat × Nat) : (Nat × Nat) × (Nat × Nat) := ((x.1, x.1 + gp (x.2 - x.1)), (x.1 + gp (x.2 - x.1), x.2))
def ok1 (x y : Nat × Nat) : Prop := (join x y).1 + 2 ≤ (join x y).2 ∧ (halv (join x y) = (x, y) ∨ halv (join x y) = (y, x))
def oks : Nat × Nat → List (Nat × Nat) → Prop
  | _, [] => True
  | x, y :: r => ok1 x y ∧ oks (join x y) r
def top : Nat × Nat → List (Nat × Nat) → Nat × Nat
  | x, [] => x
  | x, y :: r => top (join x y) r
theorem oks_append : ∀ (x : Nat × Nat) (l r : List (Nat × Nat)), oks x l → oks (top x l) r → oks x (l ++ r)
  | _, [], _, _, h => h
  | x, y :: l, r, h1, h2 => ⟨h1.1, oks_append (join x y) l r h1.2 h2⟩
theorem top_append : ∀ (x : Nat × Nat) (l r : List (Nat × Nat)), top x (l ++ r) = top (top x l) r
  | _, [], _ => rfl
  | x, y :: l, r => top_append (join x y) l r
theorem sib_up : ∀ (m b e : Nat), b ≤ e → e < b + m → oks (e, e + 1) (sib b m e).reverse ∧ top (e, e + 1) (sib b m e).reverse = (b, b + m) := by
  intro m
  induction m using Nat.strongRecOn with
  | ind m ih =>
    intro b e h1 h2
    by_cases hm : m ≤ 1
    · have : m = 1 := by omega
      subst this
      rw [sib_one (by omega)]
      have : e = b := by omega
      subst this
      exact ⟨True.intro, rfl⟩
    · have g1 := gp_lt (m := m) (by omega)
      have g2 := gp_pos m
      by_cases k : e < b + gp m
      · rw [sib_low (by omega) k, List.reverse_cons]
        obtain ⟨p, q⟩ := ih (gp m) g1 b e h1 k
        have j : join (b, b + gp m) (b + gp m, b + m) = (b, b + m) := by
          unfold join; simp only []; rw [Nat.min_eq_left (by omega), Nat.max_eq_right (by omega)]
        refine ⟨oks_append _ _ _ p ?_, ?_⟩
        · rw [q]
          refine ⟨⟨?_, .inl ?_⟩, True.intro⟩
          · rw [j]; simp only []; omega
          · rw [j]; unfold halv; simp only []; rw [Nat.add_sub_cancel_left]
        · rw [top_append, q]; exact j
      · rw [sib_high (by omega) k, List.reverse_cons]
        obtain ⟨p, q⟩ := ih (m - gp m) (by omega) (b + gp m) e (by omega) (by omega)
        have e2 : b + gp m + (m - gp m) = b + m := by omega
        rw [e2] at q
        have j : join (b + gp m, b + m) (b, b + gp m) = (b, b + m) := by
          unfold join; simp only []; rw [Nat.min_eq_right (by omega), Nat.max_eq_left (by omega)]
        refine ⟨oks_append _ _ _ p ?_, ?_⟩
        · rw [q]
          refine ⟨⟨?_, .inr ?_⟩, True.intro⟩
          · rw [j]; simp only []; omega
          · rw [j]; unfold halv; simp only []; rw [Nat.add_sub_cancel_left]
        · rw [top_append, q]; exact j
theorem sib_len_pow (i : Nat) : ∀ (b e : Nat), b ≤ e → e < b + 2 ^ i → (sib b (2 ^ i) e).length = i := by
  induction i with
  | zero => intro b e h1 h2; rw [sib_one (by simp)]; rfl
  | succ i ih =>
    intro b e h1 h2
    have h3 : 2 ≤ 2 ^ (i + 1) := by rw [Nat.pow_succ]; have := Nat.pow_pos (a := 2) (n := i) (by decide); omega
    have g := gp_pow i
    have e2 : 2 ^ (i + 1) - 2 ^ i = 2 ^ i := by rw [Nat.pow_succ]; omega
    by_cases k : e < b + gp (2 ^ (i + 1))
    · rw [sib_low h3 k, List.length_cons, g, ih b e h1 (by omega)]
    · rw [sib_high h3 k, List.length_cons, g, e2, ih (b + 2 ^ i) e (by omega) (by rw [Nat.pow_succ] at h2; omega)]
/-! ### the peaks by digits: (begin, height) -/
def pk : Nat → Nat → Nat → List (Nat × Nat)
  | 0, _, _ => []
  | i + 1, n, b => if n.testBit i then (b, i) :: pk i n (b + 2 ^ i) else pk i n b
theorem mod_succ (n i : Nat) : n % 2 ^ (i + 1) = (if n.testBit i then 2 ^ i else 0) + n % 2 ^ i := by
  rw [Nat.mod_pow_succ, Nat.testBit_eq_decide_div_mod_eq, Nat.add_comm]
  have h : n / 2 ^ i % 2 = 0 ∨ n / 2 ^ i % 2 = 1 := by omega
  rcases h with h | h <;> rw [h] <;> simp
theorem pk_nil : ∀ (i n b : Nat), n % 2 ^ i = 0 → pk i n b = []
  | 0, _, _, _ => rfl
  | i + 1, n, b, h => by
    rw [mod_succ] at h
    have p := Nat.pow_pos (a := 2) (n := i) (by decide)
    unfold pk
    cases t : n.testBit i with
    | true => rw [t] at h; simp at h
    | false => rw [t] at h; simp at h; simp; exact pk_nil i n b h
theorem pk_ne : ∀ (i n b : Nat), n % 2 ^ i ≠ 0 → pk i n b ≠ []
  | 0, _, _, h => by simp [Nat.mod_one] at h
  | i + 1, n, b, h => by
    rw [mod_succ] at h
    unfold pk
    cases t : n.testBit i with
    | true => simp
    | false => rw [t] at h; simp at h; simp; exact pk_ne i n b (by omega)
theorem pk_begin : ∀ (i n b : Nat) (x : Nat × Nat), x ∈ pk i n b → b ≤ x.1 ∧ x.2 < i
  | 0, _, _, _, h => by simp [pk] at h
  | i + 1, n, b, x, h => by
    unfold pk at h
    cases t : n.testBit i with
    | true =>
      rw [t] at h; simp at h
      rcases h with h | h
      · subst h; exact ⟨Nat.le_refl _, Nat.lt_succ_self _⟩
      · have := pk_begin i n _ x h; have p := Nat.pow_pos (a := 2) (n := i) (by decide); omega
    | false =>
      rw [t] at h; simp at h
      have := pk_begin i n _ x h; omega
/-- what the law says of the levels: s the place of the first row, of t rows in all -/
def lev (t : Nat) : Nat → List (Nat × Nat) → List (Nat × Nat × Nat)
  | _, [] => []
  | s, x :: r => (x.1, x.1 + 2 ^ x.2, x.2 + min (s + 1) (t - 1)) :: lev t (s + 1) r
def due (e : Nat) (l : List (Nat × Nat × Nat)) : List Nat := (l.filter fun x => decide (x.1 ≤ e) && decide (e < x.2.1)).map fun x => x.2.2
theorem due_none (t e : Nat) : ∀ (l : List (Nat × Nat)) (s : Nat), (∀ x ∈ l, e < x.1) → due e (lev t s l) = []
  | [], _, _ => rfl
  | x :: r, s, h => by
    have h1 := h x (List.mem_cons_self)
    have ih := due_none t e r (s + 1) fun y hy => h y (List.mem_cons_of_mem _ hy)
    show List.map _ (List.filter _ ((x.1, x.1 + 2 ^ x.2, x.2 + min (s + 1) (t - 1)) :: lev t (s + 1) r)) = []
    rw [List.filter_cons, if_neg (by simp; omega)]
    exact ih
theorem due_is (n e : Nat) : ∀ (i b s : Nat), b ≤ e → e < b + n % 2 ^ i → due e (lev (s + (pk i n b).length) s (pk i n b)) = [(sib b (n % 2 ^ i) e).length + min s (s + (pk i n b).length - 1)] := by
  intro i
  induction i with
  | zero => intro b s h1 h2; simp [Nat.mod_one] at h2; omega
  | succ i ih =>
    intro b s h1 h2
    have p := Nat.pow_pos (a := 2) (n := i) (by decide)
    have ml := Nat.mod_lt n p
    cases t : n.testBit i with
    | false =>
      have e1 : n % 2 ^ (i + 1) = n % 2 ^ i := by rw [mod_succ, t]; simp
      have e2 : pk (i + 1) n b = pk i n b := by show (if n.testBit i = true then _ else _) = _; rw [t]; simp
      rw [e1] at h2
      rw [e1, e2]; exact ih b s h1 h2
    | true =>
      have e1 : n % 2 ^ (i + 1) = 2 ^ i + n % 2 ^ i := by rw [mod_succ, t]; simp
      have e2 : pk (i + 1) n b = (b, i) :: pk i n (b + 2 ^ i) := by show (if n.testBit i = true then _ else _) = _; rw [t]; simp
      rw [e1] at h2
      rw [e1, e2, List.length_cons]
      by_cases r0 : n % 2 ^ i = 0
      · rw [pk_nil i n _ r0, r0]
        rw [r0] at h2
        rw [Nat.add_zero] at h2
        rw [Nat.add_zero (2 ^ i), sib_len_pow i b e h1 h2]
        show List.map _ (List.filter _ [(b, b + 2 ^ i, i + min (s + 1) (s + (0 + 1) - 1))]) = _
        rw [List.filter_cons, if_pos (by simp; omega)]
        simp
      · have hne : 1 ≤ (pk i n (b + 2 ^ i)).length := by
          have := pk_ne i n (b + 2 ^ i) r0
          cases hh : pk i n (b + 2 ^ i) with
          | nil => exact absurd hh this
          | cons _ _ => rw [List.length_cons]; omega
        have g : gp (2 ^ i + n % 2 ^ i) = 2 ^ i := gp_eq (by omega) (by omega)
        by_cases k : e < b + 2 ^ i
        · rw [sib_low (by omega) (by rw [g]; exact k), g, List.length_cons, sib_len_pow i b e h1 k]
          have d := due_none (s + ((pk i n (b + 2 ^ i)).length + 1)) e (pk i n (b + 2 ^ i)) (s + 1) fun x hx => by have := pk_begin _ _ _ x hx; omega
          show List.map _ (List.filter _ ((b, b + 2 ^ i, i + min (s + 1) (s + ((pk i n (b + 2 ^ i)).length + 1) - 1)) :: lev (s + ((pk i n (b + 2 ^ i)).length + 1)) (s + 1) (pk i n (b + 2 ^ i)))) = _
          rw [List.filter_cons, if_pos (by simp; omega), List.map_cons]
          have d' : List.map (fun x => x.2.2) (List.filter (fun x => decide (x.1 ≤ e) && decide (e < x.2.1)) (lev (s + ((pk i n (b + 2 ^ i)).length + 1)) (s + 1) (pk i n (b + 2 ^ i)))) = [] := d
          rw [d']
          simp
          omega
        · rw [sib_high (by omega) (by rw [g]; exact k), g, List.length_cons, Nat.add_sub_cancel_left]
          have q := ih (b + 2 ^ i) (s + 1) (by omega) (by omega)
          have e3 : s + 1 + (pk i n (b + 2 ^ i)).length = s + ((pk i n (b + 2 ^ i)).length + 1) := by omega
          rw [e3] at q
          show List.map _ (List.filter _ ((b, b + 2 ^ i, i + min (s + 1) (s + ((pk i n (b + 2 ^ i)).length + 1) - 1)) :: lev (s + ((pk i n (b + 2 ^ i)).length + 1)) (s + 1) (pk i n (b + 2 ^ i)))) = _
          rw [List.filter_cons, if_neg (by simp; omega)]
          refine Eq.trans q ?_
          congr 1
          omega
/-! ### which pairs are nodes -/
/-- the bits of m - 1 -/
def lb (m : Nat) : Nat := if m ≤ 1 then 0 else Nat.log2 (m - 1) + 1
theorem lb_le {x i : Nat} (h : x ≤ 2 ^ i) : lb x ≤ i := by
  unfold lb
  by_cases k : x ≤ 1
  · rw [if_pos k]; omega
  · rw [if_neg k]
    have h1 := Nat.log2_self_le (n := x - 1) (by omega)
    have h2 : 2 ^ Nat.log2 (x - 1) < 2 ^ i := by omega
    exact (Nat.pow_lt_pow_iff_right (by decide : 1 < 2)).mp h2
theorem lb_ge (x : Nat) : x ≤ 2 ^ lb x := by
  unfold lb
  by_cases k : x ≤ 1
  · rw [if_pos k]; omega
  · rw [if_neg k]
    have := Nat.lt_log2_self (n := x - 1)
    omega
theorem lb_pow (i : Nat) : lb (2 ^ i) = i := by
  have h1 := lb_le (Nat.le_refl (2 ^ i))
  have h2 := (Nat.pow_le_pow_iff_right (by decide : 1 < 2)).mp (lb_ge (2 ^ i))
  omega
theorem lb_gp {m : Nat} (h : 2 ≤ m) : 2 ^ lb m = 2 * gp m := by
  unfold lb gp; rw [if_neg (by omega), Nat.pow_succ]; omega
def tree (n b m : Nat) : Prop := 2 ^ lb m ∣ b ∧ (m = 2 ^ lb m ∨ b + m = n)
theorem tree_root (n : Nat) : tree n 0 n := ⟨Nat.dvd_zero _, .inr (Nat.zero_add _)⟩
theorem tree_low {n b m : Nat} (h : 2 ≤ m) (t : tree n b m) : tree n b (gp m) := by
  obtain ⟨d, _⟩ := t
  rw [lb_gp h] at d
  have e : 2 ^ lb (gp m) = gp m := by unfold gp; rw [lb_pow]
  exact ⟨by rw [e]; exact Nat.dvd_trans (Nat.dvd_mul_left _ _) d, .inl e.symm⟩
theorem tree_high {n b m : Nat} (h : 2 ≤ m) (t : tree n b m) : tree n (b + gp m) (m - gp m) := by
  obtain ⟨d, k⟩ := t
  rw [lb_gp h] at d k
  have g1 := gp_lt h
  have g2 := gp_ge h
  have dg : 2 ^ lb (m - gp m) ∣ gp m := by
    have : lb (m - gp m) ≤ Nat.log2 (m - 1) := lb_le (by unfold gp at g1 g2 ⊢; omega)
    exact Nat.pow_dvd_pow 2 this
  refine ⟨Nat.dvd_add (Nat.dvd_trans dg (Nat.dvd_trans (Nat.dvd_mul_left _ _) d)) dg, ?_⟩
  rcases k with k | k
  · left
    have e : m - gp m = gp m := by omega
    rw [e]
    unfold gp; rw [lb_pow]
  · right; omega
theorem sib_len_le : ∀ (m b e : Nat), b ≤ e → e < b + m → (sib b m e).length ≤ lb m := by
  intro m
  induction m using Nat.strongRecOn with
  | ind m ih =>
    intro b e h1 h2
    by_cases hm : m ≤ 1
    · rw [sib_one hm]; exact Nat.zero_le _
    · have g1 := gp_lt (m := m) (by omega)
      have g2 := gp_ge (m := m) (by omega)
      have g3 := gp_pos m
      have e1 : lb m = Nat.log2 (m - 1) + 1 := by unfold lb; rw [if_neg hm]
      by_cases k : e < b + gp m
      · rw [sib_low (by omega) k, List.length_cons]
        have := ih (gp m) g1 b e h1 k
        have e2 : lb (gp m) = Nat.log2 (m - 1) := by unfold gp; rw [lb_pow]
        omega
      · rw [sib_high (by omega) k, List.length_cons]
        have := ih (m - gp m) (by omega) (b + gp m) e (by omega) (by omega)
        have e2 : lb (m - gp m) ≤ Nat.log2 (m - 1) := lb_le (by unfold gp at g1 g2 ⊢; omega)
        omega
end LT
namespace LT
open PySem PySem.Spec PyProof.Rows L2
def topS (i : Nat) : Stmt := PySem.Challenge.pw_logtrees_k07_sums_and_ranges_of_depths.main.body.getD i (.Pass ⟨0, 0, 0, 0⟩)
abbrev sIsWhole : Stmt := topS 9
theorem scIsWhole : FnScope ["value"] ["value"] (defScope sIsWhole) := ⟨rfl, rfl, rfl, by decide +kernel, rfl, by decide +kernel, by decide +kernel⟩
abbrev sIsBetween : Stmt := topS 10
theorem scIsBetween : FnScope ["value", "low", "high"] ["value", "low", "high"] (defScope sIsBetween) := ⟨rfl, rfl, rfl, by decide +kernel, rfl, by decide +kernel, by decide +kernel⟩
abbrev sIsTreeNode : Stmt := topS 11
theorem scIsTreeNode : FnScope ["size", "value", "begin", "end", "room"] ["size", "value"] (defScope sIsTreeNode) := ⟨rfl, rfl, rfl, by decide +kernel, rfl, by decide +kernel, by decide +kernel⟩
abbrev sCheckSize : Stmt := topS 12
theorem scCheckSize : FnScope ["size"] ["size"] (defScope sCheckSize) := ⟨rfl, rfl, rfl, by decide +kernel, rfl, by decide +kernel, by decide +kernel⟩
abbrev sCheckEntry : Stmt := topS 13
theorem scCheckEntry : FnScope ["size", "entry"] ["size", "entry"] (defScope sCheckEntry) := ⟨rfl, rfl, rfl, by decide +kernel, rfl, by decide +kernel, by decide +kernel⟩
abbrev sCheckNode : Stmt := topS 14
theorem scCheckNode : FnScope ["size", "node"] ["size", "node"] (defScope sCheckNode) := ⟨rfl, rfl, rfl, by decide +kernel, rfl, by decide +kernel, by decide +kernel⟩
abbrev sCheckSpan : Stmt := topS 15
theorem scCheckSpan : FnScope ["size", "begin", "end"] ["size", "begin", "end"] (defScope sCheckSpan) := ⟨rfl, rfl, rfl, by decide +kernel, rfl, by decide +kernel, by decide +kernel⟩
abbrev sCheckNumber : Stmt := topS 16
theorem scCheckNumber : FnScope ["number"] ["number"] (defScope sCheckNumber) := ⟨rfl, rfl, rfl, by decide +kernel, rfl, by decide +kernel, by decide +kernel⟩
abbrev sPowerWithin : Stmt := topS 18
theorem scPowerWithin : FnScope ["number"] ["number"] (defScope sPowerWithin) := ⟨rfl, rfl, rfl, by decide +kernel, rfl, by decide +kernel, by decide +kernel⟩
abbrev sPeaks : Stmt := topS 19
theorem scPeaks : FnScope ["size", "found", "begin", "end"] ["size"] (defScope sPeaks) := ⟨rfl, rfl, rfl, by decide +kernel, rfl, by decide +kernel, by decide +kernel⟩
abbrev sHalves : Stmt := topS 20
theorem scHalves : FnScope ["size", "node", "begin", "end", "middle"] ["size", "node"] (defScope sHalves) := ⟨rfl, rfl, rfl, by decide +kernel, rfl, by decide +kernel, by decide +kernel⟩
abbrev sDepth : Stmt := topS 22
theorem scDepth : FnScope ["size", "entry"] ["size", "entry"] (defScope sDepth) := ⟨rfl, rfl, rfl, by decide +kernel, rfl, by decide +kernel, by decide +kernel⟩
abbrev sPath : Stmt := topS 23
theorem scPath : FnScope ["size", "entry", "siblings", "node", "low", "high"] ["size", "entry"] (defScope sPath) := ⟨rfl, rfl, rfl, by decide +kernel, rfl, by decide +kernel, by decide +kernel⟩
abbrev sPeakDepths : Stmt := topS 24
theorem scPeakDepths : FnScope ["size", "tops", "rows", "place", "begin", "end", "above"] ["size"] (defScope sPeakDepths) := ⟨rfl, rfl, rfl, by decide +kernel, rfl, by decide +kernel, by decide +kernel⟩
abbrev sDepthsBetween : Stmt := topS 25
theorem scDepthsBetween : FnScope ["size", "begin", "end", "rows", "first", "last", "deep", "count"] ["size", "begin", "end"] (defScope sDepthsBetween) := ⟨rfl, rfl, rfl, by decide +kernel, rfl, by decide +kernel, by decide +kernel⟩
abbrev sDepthSum : Stmt := topS 26
theorem scDepthSum : FnScope ["size", "begin", "end", "count", "deep"] ["size", "begin", "end"] (defScope sDepthSum) := ⟨rfl, rfl, rfl, by decide +kernel, rfl, by decide +kernel, by decide +kernel⟩
abbrev sDepthRange : Stmt := topS 27
theorem scDepthRange : FnScope ["size", "begin", "end", "found", "_", "deep"] ["size", "begin", "end"] (defScope sDepthRange) := ⟨rfl, rfl, rfl, by decide +kernel, rfl, by decide +kernel, by decide +kernel⟩
abbrev sFirstOfDepth : Stmt := topS 28
theorem scFirstOfDepth : FnScope ["size", "number", "first", "_", "deep"] ["size", "number"] (defScope sFirstOfDepth) := ⟨rfl, rfl, rfl, by decide +kernel, rfl, by decide +kernel, by decide +kernel⟩
abbrev sLawBag : Stmt := topS 30
theorem scLawBag : FnScope ["cell"] ["cell"] (defScope sLawBag) := ⟨rfl, rfl, rfl, by decide +kernel, rfl, by decide +kernel, by decide +kernel⟩
abbrev sLawPick : Stmt := topS 31
theorem scLawPick : FnScope ["bag", "many", "told", "seed", "turn", "first", "second", "drawn"] ["bag", "many"] (defScope sLawPick) := ⟨rfl, rfl, rfl, by decide +kernel, rfl, by decide +kernel, by decide +kernel⟩
abbrev sLawPeaks : Stmt := topS 32
theorem scLawPeaks : FnScope ["size", "found", "begin", "bit"] ["size"] (defScope sLawPeaks) := ⟨rfl, rfl, rfl, by decide +kernel, rfl, by decide +kernel, by decide +kernel⟩
abbrev sLawSize : Stmt := topS 33
theorem scLawSize : FnScope ["bag", "size"] ["bag"] (defScope sLawSize) := ⟨rfl, rfl, rfl, by decide +kernel, rfl, by decide +kernel, by decide +kernel⟩
abbrev sLawLevels : Stmt := topS 34
theorem scLawLevels : FnScope ["size", "told", "found", "spot", "begin", "end", "height", "bit"] ["size"] (defScope sLawLevels) := ⟨rfl, rfl, rfl, by decide +kernel, rfl, by decide +kernel, by decide +kernel⟩
abbrev sLawRight : Stmt := topS 35
theorem scLawRight : FnScope ["bag", "size", "levels", "turn", "begin", "end", "number", "parts", "due", "numbers", "middle", "ahead", "fit", "low", "high", "part", "there"] ["bag"] (defScope sLawRight) := ⟨rfl, rfl, rfl, by decide +kernel, rfl, by decide +kernel, by decide +kernel⟩
abbrev sLaw : Stmt := topS 36
theorem scLaw : FnScope ["script", "cell", "bag", "turn"] ["script"] (defScope sLaw) := ⟨rfl, rfl, rfl, by decide +kernel, rfl, by decide +kernel, by decide +kernel⟩
/-- a def as it stands behind the top -/
structure At (K : PySem.W.Frag) (mg : Str → Option Value) (x : Str) (f : Addr) (fd : FuncData) (ps : List Str) : Prop where
  m : mg x = some (.ref f)
  kp : PySem.W.keepIn K (.ref f) = true
  b : Binds K fd ps []
theorem units1 {k : Nat} {A : Around} (r : Room k A) : A.units + 65 < cLine := by have := r.un; omega
/-- all but b as it was -/
def But (b : Addr) (H H' : Hp) : Prop := ∀ a o, a ≠ b → H a = some o → H' a = some o
theorem But.refl (b : Addr) (H : Hp) : But b H H := fun _ _ _ h => h
theorem But.trans {b : Addr} {H H1 H2 : Hp} (x : But b H H1) (y : But b H1 H2) : But b H H2 := fun a o n h => y a o n (x a o n h)
theorem But.of {b : Addr} {H H1 : Hp} (x : Same H H1) : But b H H1 := fun a o _ h => x a o h
theorem same_upd {H : Hp} {p : Addr} {o : HO} (h : H p = none) : Same H (upd H p o) := fun b x e => by
  rw [upd_ne (ne_of_none e h)]
  exact e
def BagAt (H : Hp) (b : Addr) : Prop := ∃ x y z : Int, H b = some (.lst [.int x, .int y, .int z])
theorem BagAt.same {H H' : Hp} {b : Addr} (h : BagAt H b) (s : Same H H') : BagAt H' b := by
  obtain ⟨x, y, z, e⟩ := h
  exact ⟨x, y, z, s _ _ e⟩
/-- a pair of ints -/
def Nd (H : Hp) (v : V) (x : Nat × Nat) : Prop := ∃ p, v = .ref p ∧ H p = some (.tup [.int x.1, .int x.2])
theorem Nd.same {H H' : Hp} {v : V} {x : Nat × Nat} (h : Nd H v x) (s : Same H H') : Nd H' v x := by
  obtain ⟨p, e, q⟩ := h
  exact ⟨p, e, s _ _ q⟩
theorem Nd.dp {K : PySem.W.Frag} {H : Hp} {v : V} {x : Nat × Nat} (h : Nd H v x) : Dp K H v (.tuple [.int x.1, .int x.2]) := by
  obtain ⟨p, rfl, q⟩ := h
  exact .tup (SqT.of q) (.cons (.int _) (.cons (.int _) .nil))
theorem nd_shaped (a b : Int) : SeqAt.shaped (.tuple [.int a, .int b]) = true := by
  show (PyData.canLay0 _ && decide (PyData.depth _ ≤ 64)) = true
  simp [PyData.canLay0, PyData.canLayAll0, PyData.depth, PyData.depthAll]
theorem nd_eqv (a b c d : Int) : PyData.eqv (.tuple [.int a, .int b]) (.tuple [.int c, .int d]) = (decide (a = c) && decide (b = d)) := by
  have e : PyData.eqv (.tuple [.int a, .int b]) (.tuple [.int c, .int d]) = ((a == c) && ((b == d) && true)) := by simp only [PyData.eqv, PyData.eqvAll]
  rw [e, Bool.and_true]
  by_cases h1 : a = c <;> by_cases h2 : b = d <;> simp [h1, h2]
/-- lists of values and what they stand for -/
inductive All2 {α : Type} (R : V → α → Prop) : List V → List α → Prop
  | nil : All2 R [] []
  | cons {v : V} {x : α} {vs : List V} {xs : List α} : R v x → All2 R vs xs → All2 R (v :: vs) (x :: xs)
section
variable {α : Type} {R R' : V → α → Prop}
theorem All2.mono (f : ∀ v x, R v x → R' v x) : ∀ {vs : List V} {xs : List α}, All2 R vs xs → All2 R' vs xs
  | _, _, .nil => .nil
  | _, _, .cons h t => .cons (f _ _ h) (All2.mono f t)
theorem All2.len : ∀ {vs : List V} {xs : List α}, All2 R vs xs → vs.length = xs.length
  | _, _, .nil => rfl
  | _, _, .cons _ t => by rw [List.length_cons, List.length_cons, All2.len t]
theorem All2.app : ∀ {vs : List V} {xs : List α} {us : List V} {ys : List α}, All2 R vs xs → All2 R us ys → All2 R (vs ++ us) (xs ++ ys)
  | _, _, _, _, .nil, h => h
  | _, _, _, _, .cons h t, k => .cons h (All2.app t k)
theorem All2.rev : ∀ {vs : List V} {xs : List α}, All2 R vs xs → All2 R vs.reverse xs.reverse
  | _, _, .nil => .nil
  | _, _, .cons h t => by
    rw [List.reverse_cons, List.reverse_cons]
    exact All2.app (All2.rev t) (.cons h .nil)
theorem All2.nth : ∀ {vs : List V} {xs : List α} {i : Nat} {v : V}, All2 R vs xs → vs[i]? = some v → ∃ x, xs[i]? = some x ∧ R v x
  | _, _, _, _, .nil, h => by simp at h
  | _, _, 0, _, .cons h t, e => by
    have := Option.some.inj e
    subst this
    exact ⟨_, rfl, h⟩
  | _, _, i + 1, _, .cons h t, e => by
    rw [List.getElem?_cons_succ] at e ⊢
    exact All2.nth t e
theorem All2.nth2 : ∀ {vs : List V} {xs : List α} {i : Nat} {x : α}, All2 R vs xs → xs[i]? = some x → ∃ v, vs[i]? = some v ∧ R v x
  | _, _, _, _, .nil, h => by simp at h
  | _, _, 0, _, .cons h t, e => by
    have := Option.some.inj e
    subst this
    exact ⟨_, rfl, h⟩
  | _, _, i + 1, _, .cons h t, e => by
    rw [List.getElem?_cons_succ] at e ⊢
    exact All2.nth2 t e
end

/-! ### rules within a comprehension: what they say of the written part is said of the def's -/
section
open PySem L2
variable {X : Cx} {s : Shared} {H : Hp} {sc : Scope} {ce : Env} {fp : List Addr}
theorem pg_tupB {es : List Expr} {k : Nat} {pos : Pos} {t : TGs} {n : Nat} (hc : X.calm = true) (h : PGs (X.blk s H sc ce fp) es t)
    (hn : (assignEach es (X.blk s H sc ce fp).env).length = n := by rfl) (hst : (assignEach es (X.blk s H sc ce fp).env).findIdx? (·.1) = none := by rfl) : PG (X.blk s H sc ce fp) (.Tuple es k pos) (gTup X.K n t) := pg_tup hc h hn hst
theorem ix_listB : IxR (X.blk s H sc ce fp) (rIxL X.K) := ix_list
theorem ix_tupB : IxR (X.blk s H sc ce fp) (rIxT X.K) := ix_tup
theorem call_len_seqB : CallR (X.blk s H sc ce fp) (.builtin "len") (fun xs H Q => ∃ p ys, xs = [.ref p] ∧ (SqL X.K H p ys ∨ SqT X.K H p ys) ∧ Q (.int ys.length) H) := call_len_seq
theorem op_eqDB (hu : X.A.units + 64 < cLine) : OpR (X.blk s H sc ce fp) (compareOp .Eq) (rEqD X.K) := op_eqD (X := X.blk s H sc ce fp) hu
theorem op_neDB (hu : X.A.units + 64 < cLine) : OpR (X.blk s H sc ce fp) (compareOp .NotEq) (rNeD X.K) := op_neD (X := X.blk s H sc ce fp) hu
theorem op_inDB (hu : X.A.units + 65 < cLine) : OpR (X.blk s H sc ce fp) (compareOp .In) (rInD X.K) := op_inD (X := X.blk s H sc ce fp) hu
theorem op_notInDB (hu : X.A.units + 65 < cLine) : OpR (X.blk s H sc ce fp) (compareOp .NotIn) (rNotInD X.K) := op_notInD (X := X.blk s H sc ce fp) hu
end
theorem Nd.upd {H : Hp} {v : V} {x : Nat × Nat} {s : Addr} {xs : List V} {o : HO} (h : Nd H v x) (hs : H s = some (.lst xs)) : Nd (upd H s o) v x := by
  obtain ⟨p, e, q⟩ := h
  exact ⟨p, e, by rw [upd_ne (ne_of q hs (by intro z; cases z))]; exact q⟩
def full (x : Nat × Nat) : Nat × Nat := (x.1, x.1 + 2 ^ x.2)
theorem pk_len : ∀ (i n b : Nat), (pk i n b).length ≤ i
  | 0, _, _ => Nat.le_refl _
  | i + 1, n, b => by
    show (if n.testBit i = true then (b, i) :: pk i n (b + 2 ^ i) else pk i n b).length ≤ i + 1
    by_cases t : n.testBit i = true
    · rw [if_pos t, List.length_cons]
      exact Nat.succ_le_succ (pk_len i n _)
    · rw [if_neg t]
      exact Nat.le_succ_of_le (pk_len i n b)
theorem take_more {α : Type} : ∀ {l : List α} {i : Nat} {x : α}, l[i]? = some x → l.take (i + 1) = l.take i ++ [x]
  | [], i, x, h => by simp at h
  | a :: l, 0, x, h => by
    have e : a = x := Option.some.inj h
    subst e
    rfl
  | a :: l, i + 1, x, h => by
    have ih := take_more (l := l) (i := i) (x := x) h
    show a :: l.take (i + 1) = a :: l.take i ++ [x]
    rw [ih]
    rfl
theorem szle {n : Nat} (h : n ≤ 100000) : n ≤ sizeLine := Nat.le_trans h (by decide)
theorem szlt {n : Nat} (h : n < 100000) : n < sizeLine := Nat.lt_of_lt_of_le h (by decide)
end LT

namespace LT
open PySem PySem.Spec PyProof.Rows L2
section
variable {P : Program} {w : World} {K : PySem.W.Frag} {mg : Str → Option Value} {base : Heap}
def spWhole : Sp := fun vs H Q _ => ∃ i : Int, vs = [.int i] ∧ Q (.bl true) H
theorem ok_is_whole {f : Addr} {fd : FuncData} (F : Fun K "is_whole" "is_whole" sIsWhole f fd) (z_isinstance : mg "isinstance" = none) (z_int : mg "int" = none) (z_bool : mg "bool" = none) : FnOk P w K mg base CX0 1 f fd ["value"] spWhole := by
  refine F.ok scIsWhole (fun vs H Q E h => ?_) (fun cdv A outer s H vs Q E hr h => ?_)
  · obtain ⟨i, rfl, _⟩ := h
    rfl
  obtain ⟨i, rfl, q⟩ := h
  refine ⟨_, (pss_one (ps_ret (pe_and (pe_callB call_isi (by rfl) z_isinstance (by decide +kernel) (pa_cons (pv 0) (pa_cons (pe_bltn (v := .ty "int") (u := .type "int") (by rfl) z_int (by decide +kernel) rfl) pa_nil))) (pe_one (pe_not (pe_callB call_isi (by rfl) z_isinstance (by decide +kernel) (pa_cons (pv 0) (pa_cons (pe_bltn (v := .ty "bool") (u := .type "bool") (by rfl) z_bool (by decide +kernel) rfl) pa_nil)))))))), ?_⟩
  refine ⟨_, rfl, _, _, _, _, true, rfl, .ty "int", .base (.int i), kit_ty (by decide +kernel), true, rfl, ?_⟩
  refine ⟨_, rfl, _, _, _, _, false, rfl, .ty "bool", .base (.int i), kit_ty (by decide +kernel), false, rfl, ?_⟩
  exact q
def spBetween : Sp := fun vs H Q _ => ∃ v lo hi : Int, vs = [.int v, .int lo, .int hi] ∧ Q (.bl (decide (lo ≤ v) && decide (v ≤ hi))) H
theorem ok_is_between {f g : Addr} {fd gd : FuncData} (F : Fun K "is_between" "is_between" sIsBetween f fd) (GIsWhole : FnOk P w K mg base CX0 1 g gd ["value"] spWhole) (AIsWhole : At K mg "is_whole" g gd ["value"]) : FnOk P w K mg base CX0 2 f fd ["value", "low", "high"] spBetween := by
  refine F.ok scIsBetween (fun vs H Q E h => ?_) (fun cdv A outer s H vs Q E hr h => ?_)
  · obtain ⟨i, _, _, rfl, _⟩ := h
    rfl
  obtain ⟨v, lo, hi, rfl, q⟩ := h
  refine ⟨_, (pss_one (ps_ret (pe_and (pe_call GIsWhole (hr.mono (by decide)) rfl AIsWhole.m AIsWhole.kp AIsWhole.b .nil pass0 (pa_cons (pv 0) pa_nil)) (pe_one (pe_chain op_le op_le (pv 1) (pv 0) (pv 2)))))), ?_⟩
  refine ⟨_, rfl, v, rfl, true, rfl, ?_⟩
  refine ⟨_, rfl, _, rfl, _, _, rfl, rfl, _, rfl, ?_⟩
  by_cases h1 : lo ≤ v
  · rw [decide_eq_true h1] at q ⊢
    exact ⟨_, rfl, _, _, rfl, rfl, q⟩
  · rw [decide_eq_false h1] at q ⊢
    exact q
def spCheckSize : Sp := fun vs H Q _ => ∃ n : Int, vs = [.int n] ∧ 1 ≤ n ∧ n ≤ 10 ^ 30 ∧ Q .non H
theorem ok_check_size {f g : Addr} {fd gd : FuncData} {t : Tok} (F : Fun K "check_size" "check_size" sCheckSize f fd) (GIsBetween : FnOk P w K mg base CX0 2 g gd ["value", "low", "high"] spBetween) (AIsBetween : At K mg "is_between" g gd ["value", "low", "high"]) (g_MOST_ENTRIES : mg "MOST_ENTRIES" = some (.int 1000000000000000000000000000000 t)) : FnOk P w K mg base CX0 3 f fd ["size"] spCheckSize := by
  refine F.ok scCheckSize (fun vs H Q E h => ?_) (fun cdv A outer s H vs Q E hr h => ?_)
  · obtain ⟨i, rfl, _⟩ := h
    rfl
  obtain ⟨n, rfl, h1, h2, q⟩ := h
  refine ⟨_, (pss_one (ps_if (pt_not (pt_val (pe_call GIsBetween (hr.mono (by decide)) rfl AIsBetween.m AIsBetween.kp AIsBetween.b .nil pass0 (pa_cons (pv 0) (pa_cons pe_int (pa_cons (pe_glob (v := .int 1000000000000000000000000000000) rfl g_MOST_ENTRIES ⟨_, rfl⟩) pa_nil))))))
    (pss_one ps_never)
    pss_nil)), ?_⟩
  refine ⟨_, rfl, n, 1, 1000000000000000000000000000000, rfl, _, rfl, ?_⟩
  rw [decide_eq_true h1, decide_eq_true (show n ≤ 1000000000000000000000000000000 from h2)]
  exact q
end
end LT

namespace LT
open PySem PySem.Spec PyProof.Rows L2
section
variable {P : Program} {w : World} {K : PySem.W.Frag} {mg : Str → Option Value} {base : Heap}
def spCheckEntry : Sp := fun vs H Q _ => ∃ n e : Int, vs = [.int n, .int e] ∧ 0 ≤ e ∧ e < n ∧ Q .non H
theorem ok_check_entry {f g : Addr} {fd gd : FuncData} (F : Fun K "check_entry" "check_entry" sCheckEntry f fd) (GIsBetween : FnOk P w K mg base CX0 2 g gd ["value", "low", "high"] spBetween) (AIsBetween : At K mg "is_between" g gd ["value", "low", "high"]) : FnOk P w K mg base CX0 3 f fd ["size", "entry"] spCheckEntry := by
  refine F.ok scCheckEntry (fun vs H Q E h => ?_) (fun cdv A outer s H vs Q E hr h => ?_)
  · obtain ⟨i, _, rfl, _⟩ := h
    rfl
  obtain ⟨n, e, rfl, h1, h2, q⟩ := h
  refine ⟨_, (pss_one (ps_if (pt_not (pt_val (pe_call GIsBetween (hr.mono (by decide)) rfl AIsBetween.m AIsBetween.kp AIsBetween.b .nil pass0 (pa_cons (pv 1) (pa_cons pe_int (pa_cons (pe_op op_sub (pv 0) pe_int) pa_nil))))))
    (pss_one ps_never)
    pss_nil)), ?_⟩
  refine ⟨_, rfl, _, rfl, _, _, rfl, rfl, e, 0, n - 1, rfl, _, rfl, ?_⟩
  rw [decide_eq_true h1, decide_eq_true (show e ≤ n - 1 by omega)]
  exact q
end
end LT

namespace LT
open PySem PySem.Spec PyProof.Rows L2
theorem bits_nat (k : Nat) : Builtin.Int.intBits (k : Int) = if k = 0 then 0 else k.log2 + 1 := by
  unfold Builtin.Int.intBits
  by_cases h : k = 0
  · subst h; rfl
  · rw [if_neg h, if_neg (by simpa using h)]
    rfl
theorem bits_lb {m : Nat} (h : 1 ≤ m) : Builtin.Int.intBits ((m - 1 : Nat) : Int) = lb m := by
  rw [bits_nat]
  unfold lb
  by_cases k : m ≤ 1
  · rw [if_pos k, if_pos (by omega)]
  · rw [if_neg k, if_neg (by omega)]
theorem lb100 {m : Nat} (h : m ≤ 10 ^ 30) : lb m ≤ 100 := lb_le (Nat.le_trans h (by decide))
theorem fmod_of_dvd {a b : Nat} (h : a ∣ b) : Int.fmod (b : Int) (a : Int) = 0 := by
  rw [Int.fmod_eq_emod_of_nonneg _ (Int.natCast_nonneg _)]
  exact Int.emod_eq_zero_of_dvd (Int.natCast_dvd_natCast.mpr h)
end LT

namespace LT
open PySem PySem.Spec PyProof.Rows L2
section
variable {P : Program} {w : World} {K : PySem.W.Frag} {mg : Str → Option Value} {base : Heap}
def spTree : Sp := fun vs H Q _ => ∃ (n b m : Nat) (v : V), vs = [.int n, v] ∧ Nd H v (b, b + m) ∧ 1 ≤ m ∧ b + m ≤ n ∧ n ≤ 10 ^ 30 ∧ tree n b m ∧ Q (.bl true) H
theorem ok_is_tree_node {f g : Addr} {fd gd : FuncData} (F : Fun K "is_tree_node" "is_tree_node" sIsTreeNode f fd) (GIsBetween : FnOk P w K mg base CX0 2 g gd ["value", "low", "high"] spBetween) (AIsBetween : At K mg "is_between" g gd ["value", "low", "high"])
    (z_isinstance : mg "isinstance" = none) (z_tuple : mg "tuple" = none) (z_len : mg "len" = none) : FnOk P w K mg base CX0 3 f fd ["size", "value"] spTree := by
  refine F.ok scIsTreeNode (fun vs H Q E h => ?_) (fun cdv A outer s H vs Q E hr h => ?_)
  · obtain ⟨_, _, _, _, rfl, _⟩ := h
    rfl
  obtain ⟨n, b, m, v, rfl, ⟨p, rfl, hp⟩, hm, hn, h30, ht, q⟩ := h
  refine ⟨_, (pss_cons (ps_if (PW.pt (pw_or (pt_not (pt_val (pe_callB call_isi (by rfl) z_isinstance (by decide +kernel) (pa_cons (pv 1) (pa_cons (pe_bltn (v := .ty "tuple") (u := .type "tuple") (by rfl) z_tuple (by decide +kernel) rfl) pa_nil))))) (pw_or1 (pt_cmpR op_ne (pe_callB call_len_seq (by rfl) z_len PySem.boot_len (pa_cons (pv 1) pa_nil)) pe_int (nomark _)))))
    (pss_one (ps_ret pe_bl))
    pss_nil)
    (pss_cons (ps_asg (pv 1) (pg_tup (by rfl) (pgs_cons (pg_name (i := 2) scIsTreeNode.nd rfl (Or.inl rfl)) (pgs_cons (pg_name (i := 3) scIsTreeNode.nd rfl (Or.inl rfl)) pgs_nil))))
    (pss_cons (ps_if (PW.pt (pw_or (pt_not (pt_val (pe_call GIsBetween (hr.mono (by decide)) rfl AIsBetween.m AIsBetween.kp AIsBetween.b .nil pass0 (pa_cons (pv 2) (pa_cons pe_int (pa_cons (pe_op op_sub (pv 0) pe_int) pa_nil)))))) (pw_or1 (pt_not (pt_val (pe_call GIsBetween (hr.mono (by decide)) rfl AIsBetween.m AIsBetween.kp AIsBetween.b .nil pass0 (pa_cons (pv 3) (pa_cons (pe_op op_add (pv 2) pe_int) (pa_cons (pv 0) pa_nil)))))))))
    (pss_one (ps_ret pe_bl))
    pss_nil)
    (pss_cons (ps_set (i := 4) scIsTreeNode.nd rfl (Or.inl rfl) (pe_op op_shl pe_int (pe_bits (pe_op op_sub (pe_op op_sub (pv 3) (pv 2)) pe_int))))
    (pss_one (ps_ret (pe_and (pe_cmpR op_eq (pe_op op_modN (pv 2) (pv 4)) pe_int (nomark _)) (pe_one (pe_or (pe_cmpR op_eq (pe_op op_sub (pv 3) (pv 2)) (pv 4) (nomark _)) (pe_one (pe_cmpR op_eq (pv 3) (pv 0) (nomark _)))))))))))), ?_⟩
  refine ⟨_, rfl, _, _, _, _, true, rfl, .ty "tuple", .base (.tup hp), kit_ty (by decide +kernel), true, rfl, ?_⟩
  refine ⟨_, rfl, p, _, rfl, .inr (SqT.of hp), rfl, false, rfl, ?_⟩
  refine ⟨_, rfl, p, _, rfl, SqT.of hp, rfl, _, _, rfl, _, _, rfl, rfl, ?_⟩
  refine ⟨_, rfl, _, rfl, _, _, rfl, rfl, _, _, _, rfl, true, ?_, ?_⟩
  · exact congrArg V.bl (by rw [Bool.and_eq_true]; exact ⟨decide_eq_true (by omega), decide_eq_true (by show (b : Int) ≤ n - 1; omega)⟩)
  refine ⟨_, rfl, _, rfl, _, _, rfl, rfl, _, rfl, _, _, _, rfl, true, ?_, ?_⟩
  · exact congrArg V.bl (by rw [Bool.and_eq_true]; exact ⟨decide_eq_true (by show (b : Int) + 1 ≤ ((b + m : Nat) : Int); omega), decide_eq_true (by show ((b + m : Nat) : Int) ≤ n; omega)⟩)
  have e1 : ((b + m : Nat) : Int) - (b : Int) - 1 = ((m - 1 : Nat) : Int) := by omega
  refine ⟨_, rfl, _, rfl, _, _, rfl, rfl, _, _, rfl, rfl, _, rfl, ?_⟩
  dsimp only
  rw [e1, bits_lb hm]
  have l100 := lb100 (show m ≤ 10 ^ 30 by omega)
  refine ⟨_, _, rfl, rfl, ⟨Int.natCast_nonneg _, by omega, by decide⟩, ?_⟩
  have e2 : (1 : Int) * 2 ^ ((lb m : Nat) : Int).toNat = ((2 ^ lb m : Nat) : Int) := by rw [Int.one_mul, Int.toNat_natCast]; exact (Int.natCast_pow 2 (lb m)).symm
  dsimp only
  rw [e2]
  obtain ⟨d, k⟩ := ht
  have pz : 0 < 2 ^ lb m := Nat.pow_pos (by decide)
  generalize 2 ^ lb m = R at d k pz
  refine ⟨_, rfl, _, rfl, _, _, rfl, rfl, by omega, rfl, true, ?_, ?_⟩
  · show V.bl (decide (V.int (Int.fmod (b : Int) (R : Int)) = V.int 0)) = V.bl true
    rw [fmod_of_dvd d, decide_eq_true rfl]
  refine ⟨_, rfl, _, rfl, _, _, rfl, rfl, _, rfl, rfl, _, rfl, ite2 (fun c => q) (fun c => ?_)⟩
  have c1 : ¬ V.int (((b + m : Nat) : Int) - (b : Int)) = V.int (R : Int) := of_decide_eq_false (Bool.eq_false_iff.mpr c)
  refine ⟨_, rfl, _, rfl, rfl, ?_⟩
  have e4 : b + m = n := by
    rcases k with k | k
    · exact absurd (congrArg V.int (by omega)) c1
    · exact k
  show Q (V.bl (decide (V.int ((b + m : Nat) : Int) = V.int (n : Int)))) H
  rw [decide_eq_true (by rw [e4])]
  exact q
def spCheckNode : Sp := fun vs H Q _ => ∃ (n b m : Nat) (v : V), vs = [.int n, v] ∧ Nd H v (b, b + m) ∧ 1 ≤ m ∧ b + m ≤ n ∧ n ≤ 10 ^ 30 ∧ tree n b m ∧ Q .non H
theorem ok_check_node {f g : Addr} {fd gd : FuncData} (F : Fun K "check_node" "check_node" sCheckNode f fd) (GIsTreeNode : FnOk P w K mg base CX0 3 g gd ["size", "value"] spTree) (AIsTreeNode : At K mg "is_tree_node" g gd ["size", "value"]) : FnOk P w K mg base CX0 4 f fd ["size", "node"] spCheckNode := by
  refine F.ok scCheckNode (fun vs H Q E h => ?_) (fun cdv A outer s H vs Q E hr h => ?_)
  · obtain ⟨_, _, _, _, rfl, _⟩ := h
    rfl
  obtain ⟨n, b, m, v, rfl, hv, hm, hn, h30, ht, q⟩ := h
  refine ⟨_, (pss_one (ps_if (pt_not (pt_val (pe_call GIsTreeNode (hr.mono (by decide)) rfl AIsTreeNode.m AIsTreeNode.kp AIsTreeNode.b .nil pass0 (pa_cons (pv 0) (pa_cons (pv 1) pa_nil)))))
    (pss_one ps_never)
    pss_nil)), ?_⟩
  refine ⟨_, rfl, _, rfl, n, b, m, v, rfl, hv, hm, hn, h30, ht, true, rfl, q⟩
end
end LT

namespace LT
open PySem PySem.Spec PyProof.Rows L2
section
variable {P : Program} {w : World} {K : PySem.W.Frag} {mg : Str → Option Value} {base : Heap}
def spPower : Sp := fun vs H Q _ => ∃ (k : Nat), vs = [.int k] ∧ 1 ≤ k ∧ k ≤ 10 ^ 30 ∧ Q (.int ((2 ^ k.log2 : Nat) : Int)) H
theorem ok_power_within {f : Addr} {fd : FuncData} (F : Fun K "power_within" "power_within" sPowerWithin f fd) : FnOk P w K mg base CX0 1 f fd ["number"] spPower := by
  refine F.ok scPowerWithin (fun vs H Q E h => ?_) (fun cdv A outer s H vs Q E hr h => ?_)
  · obtain ⟨_, rfl, _⟩ := h
    rfl
  obtain ⟨k, rfl, h1, h30, q⟩ := h
  refine ⟨_, (pss_one (ps_ret (pe_op op_shl pe_int (pe_op op_sub (pe_bits (pv 0)) pe_int)))), ?_⟩
  refine ⟨_, rfl, _, rfl, _, _, rfl, rfl, ?_⟩
  dsimp only
  have e : ((Builtin.Int.intBits (k : Int) : Nat) : Int) - 1 = ((k.log2 : Nat) : Int) := by
    rw [bits_nat, if_neg (by omega)]
    omega
  rw [e]
  have l100 : k.log2 < 100 := (Nat.log2_lt (by omega)).mpr (Nat.lt_of_le_of_lt h30 (by decide))
  refine ⟨_, _, rfl, rfl, ⟨Int.natCast_nonneg _, by omega, by decide⟩, ?_⟩
  have e2 : (1 : Int) * 2 ^ ((k.log2 : Nat) : Int).toNat = ((2 ^ k.log2 : Nat) : Int) := by rw [Int.one_mul, Int.toNat_natCast]; exact (Int.natCast_pow 2 _).symm
  show Q (.int ((1 : Int) * 2 ^ ((k.log2 : Nat) : Int).toNat)) H
  rw [e2]
  exact q
end
end LT

namespace LT
open PySem PySem.Spec PyProof.Rows L2
section
variable {P : Program} {w : World} {K : PySem.W.Frag} {mg : Str → Option Value} {base : Heap}
def spHalves : Sp := fun vs H Q _ => ∃ (n b m : Nat) (v : V), vs = [.int n, v] ∧ Nd H v (b, b + m) ∧ 2 ≤ m ∧ b + m ≤ n ∧ n ≤ 10 ^ 30 ∧ tree n b m ∧
  ∀ (H' : Hp) (q : Addr) (l h : V), Same H H' → H q = none → H' q = some (.tup [l, h]) → Nd H' l (b, b + gp m) → Nd H' h (b + gp m, b + m) → Q (.ref q) H'
theorem ok_halves {f g1 g2 g3 : Addr} {fd d1 d2 d3 : FuncData} (F : Fun K "halves" "halves" sHalves f fd) (GCheckSize : FnOk P w K mg base CX0 3 g1 d1 ["size"] spCheckSize) (ACheckSize : At K mg "check_size" g1 d1 ["size"])
    (GCheckNode : FnOk P w K mg base CX0 4 g2 d2 ["size", "node"] spCheckNode) (ACheckNode : At K mg "check_node" g2 d2 ["size", "node"]) (GPowerWithin : FnOk P w K mg base CX0 1 g3 d3 ["number"] spPower) (APowerWithin : At K mg "power_within" g3 d3 ["number"]) :
    FnOk P w K mg base CX0 5 f fd ["size", "node"] spHalves := by
  refine F.ok scHalves (fun vs H Q E h => ?_) (fun cdv A outer s H vs Q E hr h => ?_)
  · obtain ⟨_, _, _, _, rfl, _⟩ := h
    rfl
  obtain ⟨n, b, m, v, rfl, hv, hm, hn, h30, ht, q⟩ := h
  refine ⟨_, (pss_cons (ps_expr (pe_call GCheckSize (hr.mono (by decide)) rfl ACheckSize.m ACheckSize.kp ACheckSize.b .nil pass0 (pa_cons (pv 0) pa_nil)))
    (pss_cons (ps_expr (pe_call GCheckNode (hr.mono (by decide)) rfl ACheckNode.m ACheckNode.kp ACheckNode.b .nil pass0 (pa_cons (pv 0) (pa_cons (pv 1) pa_nil))))
    (pss_cons (ps_asg (pv 1) (pg_tup (by rfl) (pgs_cons (pg_name (i := 2) scHalves.nd rfl (Or.inl rfl)) (pgs_cons (pg_name (i := 3) scHalves.nd rfl (Or.inl rfl)) pgs_nil))))
    (pss_cons (ps_if (pt_cmpR op_eq (pe_op op_sub (pv 3) (pv 2)) pe_int (nomark _))
    (pss_one (ps_ret pe_non))
    pss_nil)
    (pss_cons (ps_set (i := 4) scHalves.nd rfl (Or.inl rfl) (pe_op op_add (pv 2) (pe_call GPowerWithin (hr.mono (by decide)) rfl APowerWithin.m APowerWithin.kp APowerWithin.b .nil pass0 (pa_cons (pe_op op_sub (pe_op op_sub (pv 3) (pv 2)) pe_int) pa_nil))))
    (pss_one (ps_ret (pe_tup (pa_cons (pe_tup (pa_cons (pv 2) (pa_cons (pv 4) pa_nil))) (pa_cons (pe_tup (pa_cons (pv 4) (pa_cons (pv 3) pa_nil))) pa_nil)))))))))), ?_⟩
  refine ⟨_, rfl, n, rfl, by omega, by omega, ?_⟩
  refine ⟨_, rfl, _, rfl, n, b, m, v, rfl, hv, by omega, hn, h30, ht, ?_⟩
  obtain ⟨p, rfl, hp⟩ := id hv
  refine ⟨_, rfl, p, _, rfl, SqT.of hp, rfl, _, _, rfl, _, _, rfl, rfl, ?_⟩
  refine ⟨_, rfl, _, rfl, _, _, rfl, rfl, rfl, _, rfl, ite2 (fun c => ?_) (fun _ => ?_)⟩
  · have c1 : V.int (((b + m : Nat) : Int) - (b : Int)) = V.int 1 := of_decide_eq_true c
    have := V.int.inj c1
    omega
  have e1 : ((b + m : Nat) : Int) - (b : Int) - 1 = ((m - 1 : Nat) : Int) := by omega
  refine ⟨_, rfl, _, rfl, _, rfl, _, _, rfl, rfl, _, _, rfl, rfl, m - 1, congrArg (fun z => [V.int z]) e1, by omega, by omega, _, _, rfl, rfl, ?_⟩
  have e2 : (b : Int) + ((2 ^ (m - 1).log2 : Nat) : Int) = ((b + gp m : Nat) : Int) := by unfold gp; omega
  have two : 2 ≤ sizeLine := by decide
  refine ⟨_, rfl, _, rfl, two, fun t1 n1 => ⟨_, rfl, _, rfl, two, fun t2 n2 => ⟨two, fun t3 n3 => ?_⟩⟩⟩
  dsimp only
  have s1 := same_upd (o := .tup [.int (b : Int), .int ((b : Int) + ((2 ^ (m - 1).log2 : Nat) : Int))]) n1
  have s2 := same_upd (o := .tup [.int ((b : Int) + ((2 ^ (m - 1).log2 : Nat) : Int)), .int ((b + m : Nat) : Int)]) n2
  have s3 := same_upd (o := .tup [.ref t1, .ref t2]) n3
  refine q _ t3 (.ref t1) (.ref t2) (s1.trans (s2.trans s3)) ((s1.trans s2).free n3) upd_same ⟨t1, rfl, s3 _ _ (s2 _ _ ?_)⟩ ⟨t2, rfl, s3 _ _ ?_⟩
  · rw [upd_same]
    dsimp only
    rw [e2]
  · rw [upd_same]
    dsimp only
    rw [e2]
def spPath : Sp := fun vs H Q _ => ∃ (n e : Nat), vs = [.int n, .int e] ∧ e < n ∧ n ≤ 10 ^ 30 ∧
  ∀ (H' : Hp) (p : Addr) (xs : List V), Same H H' → H p = none → H' p = some (.lst xs) → All2 (Nd H') xs (sib 0 n e).reverse → Q (.ref p) H'
theorem ok_path {f g1 g2 g3 : Addr} {fd d1 d2 d3 : FuncData} (F : Fun K "path" "path" sPath f fd) (GCheckSize : FnOk P w K mg base CX0 3 g1 d1 ["size"] spCheckSize) (ACheckSize : At K mg "check_size" g1 d1 ["size"])
    (GCheckEntry : FnOk P w K mg base CX0 3 g2 d2 ["size", "entry"] spCheckEntry) (ACheckEntry : At K mg "check_entry" g2 d2 ["size", "entry"]) (GHalves : FnOk P w K mg base CX0 5 g3 d3 ["size", "node"] spHalves) (AHalves : At K mg "halves" g3 d3 ["size", "node"]) :
    FnOk P w K mg base CX0 6 f fd ["size", "entry"] spPath := by
  refine F.ok scPath (fun vs H Q E h => ?_) (fun cdv A outer s H vs Q E hr h => ?_)
  · obtain ⟨_, _, rfl, _⟩ := h
    rfl
  obtain ⟨n, e, rfl, he, h30, q⟩ := h
  refine ⟨_, (pss_cons (ps_expr (pe_call GCheckSize (hr.mono (by decide)) rfl ACheckSize.m ACheckSize.kp ACheckSize.b .nil pass0 (pa_cons (pv 0) pa_nil)))
    (pss_cons (ps_expr (pe_call GCheckEntry (hr.mono (by decide)) rfl ACheckEntry.m ACheckEntry.kp ACheckEntry.b .nil pass0 (pa_cons (pv 0) (pa_cons (pv 1) pa_nil))))
    (pss_cons (ps_set (i := 2) scPath.nd rfl (Or.inl rfl) (pe_lst pa_nil))
    (pss_cons (ps_set (i := 3) scPath.nd rfl (Or.inl rfl) (pe_tup (pa_cons pe_int (pa_cons (pv 0) pa_nil))))
    (pss_cons (ps_while PassesOwn.never (pt_cmpR (op_neD hr.units) (pv 3) (pe_tup (pa_cons (pv 1) (pa_cons (pe_op op_add (pv 1) pe_int) pa_nil))) (nomark _))
    (pss_cons (ps_asg (pe_call GHalves (hr.mono (by decide)) rfl AHalves.m AHalves.kp AHalves.b .nil pass0 (pa_cons (pv 0) (pa_cons (pv 3) pa_nil))) (pg_tup (by rfl) (pgs_cons (pg_name (i := 4) scPath.nd rfl (Or.inl rfl)) (pgs_cons (pg_name (i := 5) scPath.nd rfl (Or.inl rfl)) pgs_nil))))
    (pss_one (ps_if (pt_cmpR op_lt (pv 1) (pe_ix ix_tup (pv 4) pe_int (fun _ _ => rfl)) (nomark _))
    (pss_cons (ps_set (i := 3) scPath.nd rfl (Or.inl rfl) (pv 4))
    (pss_one (ps_expr (pe_bm PySem.F.plainAttrs_list PySem.F.slot_list_append PySem.F.type_list_append mt_append (pv 2) (pa_cons (pv 5) pa_nil)))))
    (pss_cons (ps_set (i := 3) scPath.nd rfl (Or.inl rfl) (pv 5))
    (pss_one (ps_expr (pe_bm PySem.F.plainAttrs_list PySem.F.slot_list_append PySem.F.type_list_append mt_append (pv 2) (pa_cons (pv 4) pa_nil)))))))))
    (pss_one (ps_ret (pe_revL (pv 2))))))))), ?_⟩
  refine ⟨_, rfl, n, rfl, by omega, by omega, ?_⟩
  refine ⟨_, rfl, _, rfl, n, e, rfl, by omega, by omega, ?_⟩
  have two : 2 ≤ sizeLine := by decide
  refine ⟨Nat.zero_le _, fun sb nsb => ?_⟩
  have z1 := same_upd (o := .lst []) nsb
  refine ⟨_, rfl, two, fun t0 n0 => ?_⟩
  have z2 := same_upd (o := .tup [.int 0, .int (n : Int)]) n0
  refine ⟨fun mu σ H' => ∃ (b : Nat) (nv : V) (v4 v5 : Option V) (xs : List V) (done : List (Nat × Nat)), σ = [some (.int n), some (.int e), some (.ref sb), some nv, v4, v5] ∧ Same H H' ∧ H' sb = some (.lst xs) ∧ All2 (Nd H') xs done ∧
      Nd H' nv (b, b + mu) ∧ 1 ≤ mu ∧ b ≤ e ∧ e < b + mu ∧ b + mu ≤ n ∧ tree n b mu ∧ done ++ sib b mu e = sib 0 n e,
    ⟨n, 0, .ref t0, none, none, [], [], rfl, z1.trans z2, z2 _ _ upd_same, .nil, ⟨t0, rfl, by rw [upd_same]; simp⟩, by omega, by omega, by omega, by omega, tree_root n, rfl⟩, ?_⟩
  rintro m σ H1 ⟨b, nv, v4, v5, xs, done, rfl, sm, hs, hx, hv, hm, hb, hb2, hn, ht, hd⟩
  refine ⟨_, rfl, _, rfl, _, rfl, _, _, rfl, rfl, two, fun t nt => ?_⟩
  have s1 := same_upd (o := .tup [.int (e : Int), .int ((e : Int) + 1)]) nt
  refine ⟨_, _, (hv.same s1).dp, .tup (SqT.of upd_same) (.cons (.int _) (.cons (.int _) .nil)), nd_shaped _ _, nd_shaped _ _, ?_⟩
  rw [nd_eqv]
  have hlen : done.length ≤ 100 := by
    have k1 := sib_len_le n 0 e (Nat.zero_le _) (by omega)
    have k2 := lb100 h30
    have k3 := congrArg List.length hd
    rw [List.length_append] at k3
    omega
  have hs1 : (upd H1 t (.tup [.int (e : Int), .int ((e : Int) + 1)])) sb = some (.lst xs) := s1 _ _ hs
  have hx1 := hx.mono (fun v x (k : Nd H1 v x) => k.same s1)
  have hv1 := hv.same s1
  have sm1 := sm.trans s1
  generalize upd H1 t (.tup [.int (e : Int), .int ((e : Int) + 1)]) = H2 at hs1 hx1 hv1 sm1
  by_cases h1 : m = 1
  · refine ⟨false, ?_, iteF ?_⟩
    · subst h1
      have : b = e := by omega
      subst this
      simp
    · subst h1
      rw [sib_one (by omega), List.append_nil] at hd
      refine ⟨_, rfl, sb, xs, rfl, SqL.of hs1, fun p np => ?_⟩
      have s3 := same_upd (o := .lst xs.reverse) np
      refine q _ p xs.reverse (sm1.trans s3) (sm1.free np) upd_same ?_
      rw [← hd]
      exact (hx1.mono (fun v x (k : Nd H2 v x) => k.same s3)).rev
  · refine ⟨true, ?_, iteT ⟨fun σ' H' => ∃ mu, mu < m ∧ ∃ (b : Nat) (nv : V) (v4 v5 : Option V) (xs : List V) (done : List (Nat × Nat)), σ' = [some (.int n), some (.int e), some (.ref sb), some nv, v4, v5] ∧ Same H H' ∧ H' sb = some (.lst xs) ∧ All2 (Nd H') xs done ∧
      Nd H' nv (b, b + mu) ∧ 1 ≤ mu ∧ b ≤ e ∧ e < b + mu ∧ b + mu ≤ n ∧ tree n b mu ∧ done ++ sib b mu e = sib 0 n e, fun σ' H' h => h, ?_⟩⟩
    · refine congrArg V.bl ?_
      rw [Bool.not_eq_true', Bool.and_eq_false_iff]
      by_cases c : b = e
      · right
        exact decide_eq_false (by show ¬ ((b + m : Nat) : Int) = (e : Int) + 1; omega)
      · left
        exact decide_eq_false (by show ¬ (b : Int) = (e : Int); omega)
    have hm2 : 2 ≤ m := by omega
    have gl := gp_lt hm2
    have gg := gp_pos m
    refine ⟨_, rfl, _, rfl, n, b, m, nv, rfl, hv1, hm2, hn, h30, ht, fun H3 qa l h s3 nqa hqa hl hh => ?_⟩
    refine ⟨qa, _, rfl, SqT.of hqa, rfl, _, _, rfl, _, _, rfl, rfl, ?_⟩
    obtain ⟨lp, rfl, hlp⟩ := id hl
    refine ⟨_, rfl, _, rfl, lp, _, _, _, rfl, rfl, SqT.of hlp, (atI_nat (j := 1) rfl), _, _, rfl, rfl, _, rfl, ite2 (fun c => ?_) (fun c => ?_)⟩
    · have c1 : (e : Int) < ((b + gp m : Nat) : Int) := of_decide_eq_true c
      have hs3 := s3 _ _ hs1
      refine ⟨_, rfl, ?_⟩
      refine ⟨_, rfl, .inl ⟨rfl, _, SqL.of hs3⟩, _, rfl, sb, _, _, rfl, rfl, hs3, szlt (by rw [hx.len]; omega), ?_⟩
      refine ⟨gp m, gl, b, _, _, _, xs ++ [h], done ++ [(b + gp m, b + m)], rfl, ?_, upd_same, ?_, hl.upd hs3, by omega, hb, by omega, by omega, tree_low hm2 ht, ?_⟩
      · exact fun a o k => by rw [upd_ne (ne_of_none k nsb)]; exact s3 _ _ (sm1 _ _ k)
      · exact (hx1.mono (fun v x (k : Nd H2 v x) => (k.same s3).upd hs3)).app (.cons (hh.upd hs3) .nil)
      · rw [sib_low hm2 (by omega)] at hd
        rw [← hd, List.append_assoc]
        rfl
    · have c1 : ¬ (e : Int) < ((b + gp m : Nat) : Int) := of_decide_eq_false (Bool.eq_false_iff.mpr c)
      have hs3 := s3 _ _ hs1
      refine ⟨_, rfl, ?_⟩
      refine ⟨_, rfl, .inl ⟨rfl, _, SqL.of hs3⟩, _, rfl, sb, _, _, rfl, rfl, hs3, szlt (by rw [hx.len]; omega), ?_⟩
      have e5 : b + gp m + (m - gp m) = b + m := by omega
      refine ⟨m - gp m, by omega, b + gp m, _, _, _, xs ++ [.ref lp], done ++ [(b, b + gp m)], rfl, ?_, upd_same, ?_, by rw [e5]; exact hh.upd hs3, by omega, by omega, by omega, by omega, tree_high hm2 ht, ?_⟩
      · exact fun a o k => by rw [upd_ne (ne_of_none k nsb)]; exact s3 _ _ (sm1 _ _ k)
      · exact (hx1.mono (fun v x (k : Nd H2 v x) => (k.same s3).upd hs3)).app (.cons (hl.upd hs3) .nil)
      · rw [sib_high hm2 (by omega)] at hd
        rw [← hd, List.append_assoc]
        rfl
def spDepth : Sp := fun vs H Q _ => ∃ (n e : Nat), vs = [.int n, .int e] ∧ e < n ∧ n ≤ 10 ^ 30 ∧ ∀ (H' : Hp), Same H H' → Q (.int (((sib 0 n e).length : Nat) : Int)) H'
theorem ok_depth {f g1 : Addr} {fd d1 : FuncData} (F : Fun K "depth" "depth" sDepth f fd) (GPath : FnOk P w K mg base CX0 6 g1 d1 ["size", "entry"] spPath) (APath : At K mg "path" g1 d1 ["size", "entry"]) (z_len : mg "len" = none) :
    FnOk P w K mg base CX0 7 f fd ["size", "entry"] spDepth := by
  refine F.ok scDepth (fun vs H Q E h => ?_) (fun cdv A outer s H vs Q E hr h => ?_)
  · obtain ⟨_, _, rfl, _⟩ := h
    rfl
  obtain ⟨n, e, rfl, he, h30, q⟩ := h
  refine ⟨_, (pss_one (ps_ret (pe_callB call_len_seq (by rfl) z_len PySem.boot_len (pa_cons (pe_call GPath (hr.mono (by decide)) rfl APath.m APath.kp APath.b .nil pass0 (pa_cons (pv 0) (pa_cons (pv 1) pa_nil))) pa_nil)))), ?_⟩
  refine ⟨_, rfl, _, rfl, n, e, rfl, he, h30, fun H' p xs sm np hp hx => ⟨p, xs, rfl, .inl (SqL.of hp), ?_⟩⟩
  have k := hx.len
  rw [List.length_reverse] at k
  rw [k]
  exact q H' sm
end
end LT

namespace LT
open PySem PySem.Spec PyProof.Rows L2
section
variable {P : Program} {w : World} {K : PySem.W.Frag} {mg : Str → Option Value} {base : Heap}
def spBag : Sp := fun vs H Q _ => ∃ c : Int, vs = [.int c] ∧ ∀ (H' : Hp) (p : Addr), Same H H' → H p = none → BagAt H' p → Q (.ref p) H'
theorem ok_law_bag {f : Addr} {fd : FuncData} (F : Fun K "_law_bag" "_law_bag" sLawBag f fd) (z_max : mg "max" = none) : FnOk P w K mg base CX0 1 f fd ["cell"] spBag := by
  refine F.ok scLawBag (fun vs H Q E h => ?_) (fun cdv A outer s H vs Q E hr h => ?_)
  · obtain ⟨_, rfl, _⟩ := h
    rfl
  obtain ⟨c, rfl, q⟩ := h
  refine ⟨_, (pss_one (ps_ret (pe_lst (pa_cons (pe_callB (call_max2 rfl) (by rfl) z_max (by decide +kernel) (pa_cons pe_int (pa_cons (pe_op op_sub (pv 0) (pe_op op_pow pe_int pe_int)) pa_nil))) (pa_cons (pv 0) (pa_cons pe_int pa_nil)))))), ?_⟩
  refine ⟨_, rfl, _, _, rfl, rfl, ⟨by decide, by decide, by decide⟩, _, _, rfl, rfl, _, _, rfl, _, rfl, (by show 3 ≤ sizeLine; decide), fun p np => ?_⟩
  exact q _ p (same_upd np) np ⟨_, _, _, upd_same⟩
theorem fm0 (x : Int) {m : Int} (h : 0 < m) : 0 ≤ x.fmod m := by
  rw [Int.fmod_eq_emod_of_nonneg _ (by omega)]
  exact Int.emod_nonneg _ (by omega)
theorem fm1 (x : Int) {m : Int} (h : 0 < m) : x.fmod m < m := by
  rw [Int.fmod_eq_emod_of_nonneg _ (by omega)]
  exact Int.emod_lt_of_pos _ h
def spPick : Sp := fun vs H Q _ => ∃ (b : Addr) (many : Int), vs = [.ref b, .int many] ∧ 0 < many ∧ many.natAbs < 2 ^ 250 ∧ BagAt H b ∧
  ∀ (r : Int) (H' : Hp), 0 ≤ r → r < many → (∀ a, a ≠ b → H' a = H a) → BagAt H' b → Q (.int r) H'
theorem ok_law_pick {f : Addr} {fd : FuncData} (F : Fun K "_law_pick" "_law_pick" sLawPick f fd) (z_int : mg "int" = none) : FnOk P w K mg base CX0 1 f fd ["bag", "many"] spPick := by
  refine F.ok scLawPick (fun vs H Q E h => ?_) (fun cdv A outer s H vs Q E hr h => ?_)
  · obtain ⟨_, _, rfl, _⟩ := h
    rfl
  obtain ⟨b, many, rfl, hm, hm2, ⟨x, y, z, h0⟩, q⟩ := h
  refine ⟨_, (pss_cons (ps_asg (pe_op op_add (pe_ix ix_list (pv 0) pe_int (fun _ _ => rfl)) pe_int) (pg_sub (pv 0) pe_int set_list))
    (pss_cons (ps_if (pt_cmpR op_gt (pe_ix ix_list (pv 0) pe_int (fun _ _ => rfl)) pe_int (nomark _))
    (pss_cons (ps_set (i := 2) scLawPick.nd rfl (Or.inl rfl) (pe_op op_modN (pe_callTy call_int1 (by rfl) z_int (by decide +kernel) (pa_cons (pe_ix ix_list (pv 0) pe_int (fun _ _ => rfl)) pa_nil)) (pv 1)))
    (pss_cons (ps_asg (pe_op op_fdivW (pe_callTy call_int1 (by rfl) z_int (by decide +kernel) (pa_cons (pe_ix ix_list (pv 0) pe_int (fun _ _ => rfl)) pa_nil)) (pv 1)) (pg_sub (pv 0) pe_int set_list))
    (pss_one (ps_ret (pv 2)))))
    pss_nil)
    (pss_cons (ps_par (i := 3) (j := 4) (by rfl) scLawPick.nd rfl rfl (by decide) rfl rfl (pa_cons (pe_callTy call_int1 (by rfl) z_int (by decide +kernel) (pa_cons (pe_ix ix_list (pv 0) pe_int (fun _ _ => rfl)) pa_nil)) (pa_cons (pe_callTy call_int1 (by rfl) z_int (by decide +kernel) (pa_cons (pe_ix ix_list (pv 0) pe_int (fun _ _ => rfl)) pa_nil)) pa_nil)) (by rfl))
    (pss_cons (ps_set (i := 5) scLawPick.nd rfl (Or.inl rfl) (pe_op op_modN (pe_callTy call_int1 (by rfl) z_int (by decide +kernel) (pa_cons (pe_op op_add (pe_op op_add (pe_op op_mul (pe_op op_modN (pv 3) pe_int) pe_int) (pe_op op_mul (pv 4) pe_int)) pe_int) pa_nil)) pe_int))
    (pss_cons (ps_set (i := 6) scLawPick.nd rfl (Or.inl rfl) (pe_op op_modN (pe_callTy call_int1 (by rfl) z_int (by decide +kernel) (pa_cons (pe_op op_add (pe_op op_mul (pv 5) (pv 5)) (pe_op op_mul (pv 4) pe_int)) pa_nil)) pe_int))
    (pss_cons (ps_set (i := 7) scLawPick.nd rfl (Or.inl rfl) (pe_op op_fdivW (pe_callTy call_int1 (by rfl) z_int (by decide +kernel) (pa_cons (pe_op op_add (pe_op op_mul (pv 5) pe_int) (pv 6)) pa_nil)) pe_int))
    (pss_cons (ps_if (pt_cmpR op_gt (pv 1) (pe_op op_pow pe_int pe_int) (nomark _))
    (pss_one (ps_set (i := 7) scLawPick.nd rfl (Or.inl rfl) (pe_op op_add (pe_op op_pow (pv 7) pe_int) (pv 6))))
    pss_nil)
    (pss_one (ps_ret (pe_op op_modN (pe_callTy call_int1 (by rfl) z_int (by decide +kernel) (pa_cons (pv 7) pa_nil)) (pv 1))))))))))), ?_⟩
  refine ⟨_, rfl, b, _, _, _, rfl, rfl, SqL.of h0, atI_nat (j := 2) rfl, _, _, rfl, rfl, _, rfl, b, _, _, 2, rfl, rfl, h0, rfl, ?_⟩
  dsimp only
  have h1 : (upd H b (.lst ([.int x, .int y, .int z].set 2 (.int (z + 1))))) b = some (.lst [.int x, .int y, .int (z + 1)]) := upd_same
  have k1 : ∀ a, a ≠ b → (upd H b (.lst ([.int x, .int y, .int z].set 2 (.int (z + 1))))) a = H a := fun a ha => upd_ne ha
  generalize upd H b (.lst ([.int x, .int y, .int z].set 2 (.int (z + 1)))) = H1 at h1 k1
  refine ⟨_, rfl, b, _, _, _, rfl, rfl, SqL.of h1, atI_nat (j := 0) rfl, _, _, rfl, rfl, _, rfl, ite2 (fun c => ?_) (fun c => ?_)⟩
  · refine ⟨_, rfl, b, _, _, _, rfl, rfl, SqL.of h1, atI_nat (j := 0) rfl, .inl ⟨_, rfl, _, rfl, _, _, rfl, rfl, by omega, ?_⟩⟩
    refine ⟨_, rfl, b, _, _, _, rfl, rfl, SqL.of h1, atI_nat (j := 0) rfl, .inl ⟨_, rfl, _, rfl, _, _, rfl, rfl, wide_div hm hm2 (by decide) (by decide), _, rfl, b, _, _, 0, rfl, rfl, h1, rfl, ?_⟩⟩
    refine ⟨_, rfl, ?_⟩
    exact q _ _ (fm0 x hm) (fm1 x hm) (fun a ha => by rw [upd_ne ha]; exact k1 a ha) ⟨_, _, _, upd_same⟩
  · refine ⟨_, rfl, b, _, _, _, rfl, rfl, SqL.of h1, atI_nat (j := 1) rfl, .inl ⟨_, rfl, _, rfl, b, _, _, _, rfl, rfl, SqL.of h1, atI_nat (j := 2) rfl, .inl ⟨_, rfl, _, _, rfl, ?_⟩⟩⟩
    refine ⟨_, rfl, _, _, rfl, rfl, (by show (2147483629 : Int) ≠ 0; decide), _, _, rfl, rfl, .inr ⟨by decide, by decide⟩, _, rfl, _, _, rfl, rfl, .inr ⟨by decide, by decide⟩, _, _, rfl, rfl, _, _, rfl, rfl, .inl ⟨_, rfl, _, _, rfl, rfl, (by show (2147483647 : Int) ≠ 0; decide), ?_⟩⟩
    dsimp only
    have a0 := fm0 (y.fmod 2147483629 * 48271 + (z + 1) * 69621 + 12345) (m := 2147483647) (by decide)
    have a1 := fm1 (y.fmod 2147483629 * 48271 + (z + 1) * 69621 + 12345) (m := 2147483647) (by decide)
    generalize (y.fmod 2147483629 * 48271 + (z + 1) * 69621 + 12345).fmod 2147483647 = fi at a0 a1
    refine ⟨_, rfl, _, rfl, _, _, rfl, rfl, .inl ⟨by omega, by omega⟩, _, rfl, _, _, rfl, rfl, .inr ⟨by decide, by decide⟩, _, _, rfl, rfl, .inl ⟨_, rfl, _, _, rfl, rfl, (by show (2147483587 : Int) ≠ 0; decide), ?_⟩⟩
    dsimp only
    have b0 := fm0 (fi * fi + (z + 1) * 40692) (m := 2147483587) (by decide)
    have b1 := fm1 (fi * fi + (z + 1) * 40692) (m := 2147483587) (by decide)
    generalize (fi * fi + (z + 1) * 40692).fmod 2147483587 = se at b0 b1
    refine ⟨_, rfl, _, _, rfl, rfl, .inl ⟨by omega, by omega⟩, _, rfl, _, _, rfl, rfl, .inl ⟨_, rfl, _, _, rfl, rfl, wide_div (b := 6) (by decide) (by decide) (by decide) (by decide), ?_⟩⟩
    dsimp only
    have c0 : 0 ≤ (fi * 2147483587 + se) / 32 := by omega
    have c1 : (fi * 2147483587 + se) / 32 < 2 ^ 62 := by omega
    generalize (fi * 2147483587 + se) / 32 = dr at c0 c1
    refine ⟨_, rfl, _, _, rfl, rfl, ⟨by decide, by decide, by decide⟩, _, _, rfl, rfl, _, rfl, ite2 (fun c => ?_) (fun c => ?_)⟩
    · refine ⟨_, rfl, _, _, rfl, rfl, ⟨by decide, by decide, by omega⟩, _, rfl, _, _, rfl, rfl, ?_⟩
      refine ⟨_, rfl, .inl ⟨_, rfl, _, rfl, _, _, rfl, rfl, by omega, ?_⟩⟩
      exact q _ _ (fm0 _ hm) (fm1 _ hm) k1 ⟨_, _, _, h1⟩
    · refine ⟨_, rfl, .inl ⟨_, rfl, _, rfl, _, _, rfl, rfl, by omega, ?_⟩⟩
      exact q _ _ (fm0 _ hm) (fm1 _ hm) k1 ⟨_, _, _, h1⟩
end
end LT

namespace LT
open PySem PySem.Spec PyProof.Rows L2
section
variable {P : Program} {w : World} {K : PySem.W.Frag} {mg : Str → Option Value} {base : Heap}
/-! ### walking an enumerate -/
theorem for_enum {a : Addr} {xs : List V} {g : TG} {tb : TS} {D : Ends} {σ : L2.St} {H : Hp} (Pv : Nat → L2.St → Hp → Prop) (h0 : Pv 0 σ H) (hl : ∀ i σ H, i ≤ xs.length → Pv i σ H → SqL K H a xs)
    (hs : ∀ i x σ H T, xs[i]? = some x → Pv i σ H → H T = none → g (.ref T) σ (upd H T (.tup [.int (i : Nat), x])) fun σ2 H2 => tb { D with nx := Pv (i + 1), ct := Pv (i + 1), bk := D.nx } σ2 H2) (hd : ∀ σ H, Pv xs.length σ H → D.nx σ H) :
    ∃ W : Nat → Nat → L2.St → Hp → Prop, (∃ m, W 0 m σ H) ∧ ∀ i m σ H, W i m σ H →
      ((Ite K a).stop i H ∧ D.nx σ H) ∨ ((Ite K a).go i H ∧ ∃ N : L2.St → Hp → Prop, (∀ σ' H', N σ' H' → ∃ m', m' < m ∧ W (i + 1) m' σ' H') ∧ ∀ x H', (Ite K a).yld i H x H' → g x σ H' fun σ2 H2 => tb { D with nx := N, ct := N, bk := D.nx } σ2 H2) := by
  refine ⟨fun i m σ H => m = xs.length - i ∧ i ≤ xs.length ∧ Pv i σ H, ⟨xs.length, by simp, Nat.zero_le _, h0⟩, ?_⟩
  rintro i m σ H ⟨rfl, hi, p⟩
  have q := hl i σ H hi p
  by_cases hlt : i < xs.length
  · refine .inr ⟨⟨xs, xs[i], q, by simp [hlt]⟩, Pv (i + 1), fun σ' H' p' => ⟨xs.length - (i + 1), by omega, rfl, hlt, p'⟩, fun x H' y => ?_⟩
    obtain ⟨T, x1, rfl, nT, rfl, f⟩ := y
    exact hs i x1 σ H T (f xs q) p nT
  · have e : i = xs.length := by omega
    subst e
    exact .inl ⟨⟨xs, q, Nat.le_refl _⟩, hd σ H p⟩
end
end LT

namespace LT
open PySem PySem.Spec PyProof.Rows L2
section
variable {P : Program} {w : World} {K : PySem.W.Frag} {mg : Str → Option Value} {base : Heap}
def spPeaks : Sp := fun vs H Q _ => ∃ (n : Nat), vs = [.int n] ∧ ∀ (H' : Hp) (p : Addr) (xs : List V), Same H H' → H p = none → H' p = some (.lst xs) → All2 (Nd H') xs ((pk 101 n 0).map full) → Q (.ref p) H'
theorem shr_bit (n j : Nat) : Builtin.bitAnd ((n : Int) / 2 ^ j) 1 = if n.testBit j then 1 else 0 := by
  have e : (n : Int) / 2 ^ j = ((n / 2 ^ j : Nat) : Int) := by
    rw [← PySem.W.kbt_cast]
    exact (Int.natCast_ediv n (2 ^ j)).symm
  rw [e, bitAnd_m1, Nat.testBit_eq_decide_div_mod_eq]
  have h : n / 2 ^ j % 2 = 0 ∨ n / 2 ^ j % 2 = 1 := by omega
  rcases h with h | h
  · rw [h, if_neg (by decide)]; omega
  · rw [h, if_pos (by decide)]; omega
theorem ok_law_peaks {f : Addr} {fd : FuncData} (F : Fun K "_law_peaks" "_law_peaks" sLawPeaks f fd) (z_range : mg "range" = none) : FnOk P w K mg base CX0 1 f fd ["size"] spPeaks := by
  refine F.ok scLawPeaks (fun vs H Q E h => ?_) (fun cdv A outer s H vs Q E hr h => ?_)
  · obtain ⟨_, rfl, _⟩ := h
    rfl
  obtain ⟨n, rfl, q⟩ := h
  refine ⟨_, (pss_cons (ps_par (i := 1) (j := 2) (by rfl) scLawPeaks.nd rfl rfl (by decide) rfl rfl (pa_cons (pe_lst pa_nil) (pa_cons pe_int pa_nil)) (by rfl))
    (pss_cons (ps_for PassesOwn.never rfl (pi_range3 (by rfl) z_range (pa_cons pe_int (pa_cons (pe_un un_neg pe_int) (pa_cons (pe_un un_neg pe_int) pa_nil)))) (pg_name (i := 3) scLawPeaks.nd rfl (Or.inl rfl))
    (pss_one (ps_if (pt_cmpR op_eq (pe_op op_and (pe_op op_shr (pv 0) (pv 3)) pe_int) pe_int (nomark _))
    (pss_cons (ps_expr (pe_bm PySem.F.plainAttrs_list PySem.F.slot_list_append PySem.F.type_list_append mt_append (pv 1) (pa_cons (pe_tup (pa_cons (pv 2) (pa_cons (pe_op op_add (pv 2) (pe_op op_shl pe_int (pv 3))) pa_nil))) pa_nil)))
    (pss_one (ps_set (i := 2) scLawPeaks.nd rfl (Or.inl rfl) (pe_op op_add (pv 2) (pe_op op_shl pe_int (pv 3))))))
    pss_nil)))
    (pss_one (ps_ret (pv 1))))), ?_⟩
  refine ⟨Nat.zero_le _, fun fa nf => ?_⟩
  refine ⟨_, _, rfl, ?_⟩
  refine ⟨_, rfl, _, rfl, 100, -1, -1, 101, rfl, (show RgC 100 (-1) (-1) 101 from RgC.neg (by decide) (by decide) (by decide) (by decide)), ?_⟩
  refine for_rangeC (lo := 100) (c := -1) (n := 101) (fun i σ H' => ∃ (b : Nat) (v3 : Option V) (xs : List V) (done : List (Nat × Nat)), σ = [some (.int n), some (.ref fa), some (.int b), v3] ∧ Same H H' ∧ H' fa = some (.lst xs) ∧ All2 (Nd H') xs (done.map full) ∧ done ++ pk (101 - i) n b = pk 101 n 0)
    ⟨0, none, [], [], rfl, same_upd nf, upd_same, .nil, rfl⟩ ?_ ?_
  · rintro i σ H1 hi ⟨b, v3, xs, done, rfl, sm, hf, hx, hd⟩
    have ej : (100 : Int) + (i : Int) * (-1) = ((100 - i : Nat) : Int) := by omega
    have ei : 101 - i = (100 - i) + 1 := by omega
    rw [ej]
    rw [ei] at hd
    have ei2 : 101 - (i + 1) = 100 - i := by omega
    have hj : 100 - i ≤ 100 := by omega
    generalize 100 - i = j at hd ei2 hj
    refine ⟨_, rfl, _, rfl, _, _, rfl, rfl, Int.natCast_nonneg _, _, _, rfl, rfl, rfl, _, rfl, ite2 (fun c => ?_) (fun c => ?_)⟩
    · have c1 : V.int (Builtin.bitAnd ((n : Int) / 2 ^ ((j : Nat) : Int).toNat) 1) = V.int 1 := of_decide_eq_true c
      have c2 := V.int.inj c1
      rw [Int.toNat_natCast, shr_bit] at c2
      have tb : n.testBit j = true := by
        by_cases t : n.testBit j = true
        · exact t
        · rw [if_neg t] at c2; exact absurd c2 (by decide)
      have two : 2 ≤ sizeLine := by decide
      have dl : done.length ≤ 101 := by
        have k1 := congrArg List.length hd
        rw [List.length_append] at k1
        have k2 := pk_len 101 n 0
        omega
      have ep : (1 : Int) * 2 ^ ((j : Nat) : Int).toNat = ((2 ^ j : Nat) : Int) := by rw [Int.one_mul, Int.toNat_natCast]; exact (Int.natCast_pow 2 j).symm
      refine ⟨_, rfl, .inl ⟨rfl, _, SqL.of hf⟩, _, rfl, _, rfl, _, rfl, _, _, rfl, rfl, ⟨Int.natCast_nonneg _, by omega, by decide⟩, _, _, rfl, rfl, two, fun t nt => ?_⟩
      dsimp only
      rw [ep]
      have s1 := same_upd (o := .tup [.int (b : Int), .int ((b : Int) + ((2 ^ j : Nat) : Int))]) nt
      have hf1 := s1 _ _ hf
      refine ⟨fa, _, _, rfl, rfl, hf1, szlt (by rw [hx.len, List.length_map]; omega), ?_⟩
      refine ⟨_, rfl, _, rfl, _, _, rfl, rfl, ⟨Int.natCast_nonneg _, by omega, by decide⟩, _, _, rfl, rfl, ?_⟩
      dsimp only
      rw [ep]
      refine ⟨b + 2 ^ j, _, xs ++ [.ref t], done ++ [(b, j)], rfl, ?_, upd_same, ?_, ?_⟩
      · exact fun a o k => by rw [upd_ne (ne_of_none k nf)]; exact s1 _ _ (sm _ _ k)
      · rw [List.map_append]
        refine (hx.mono (fun v x (k : Nd H1 v x) => (k.same s1).upd hf1)).app (.cons ?_ .nil)
        exact Nd.upd (x := full (b, j)) ⟨t, rfl, upd_same⟩ hf1
      · rw [ei2, ← hd, List.append_assoc]
        show _ = done ++ (if n.testBit j = true then (b, j) :: pk j n (b + 2 ^ j) else pk j n b)
        rw [if_pos tb]
        rfl
    · have c1 : ¬ V.int (Builtin.bitAnd ((n : Int) / 2 ^ ((j : Nat) : Int).toNat) 1) = V.int 1 := of_decide_eq_false (Bool.eq_false_iff.mpr c)
      rw [Int.toNat_natCast, shr_bit] at c1
      have t : ¬ n.testBit j = true := fun t => c1 (by rw [if_pos t])
      refine ⟨b, _, xs, done, rfl, sm, hf, hx, ?_⟩
      rw [ei2, ← hd]
      show _ = done ++ (if n.testBit j = true then (b, j) :: pk j n (b + 2 ^ j) else pk j n b)
      rw [if_neg t]
  · rintro σ H1 ⟨b, v3, xs, done, rfl, sm, hf, hx, hd⟩
    have e : pk (101 - 101) n b = [] := rfl
    rw [e, List.append_nil] at hd
    rw [hd] at hx
    exact ⟨_, rfl, q H1 fa xs sm nf hf hx⟩
def spSize : Sp := fun vs H Q _ => ∃ (b : Addr), vs = [.ref b] ∧ BagAt H b ∧ ∀ (n : Nat) (H' : Hp), 1 ≤ n → n ≤ 10 ^ 30 → But b H H' → BagAt H' b → Q (.int n) H'
theorem ok_law_size {f g1 : Addr} {fd d1 : FuncData} (F : Fun K "_law_size" "_law_size" sLawSize f fd) (GLawPick : FnOk P w K mg base CX0 1 g1 d1 ["bag", "many"] spPick) (ALawPick : At K mg "_law_pick" g1 d1 ["bag", "many"]) (z_max : mg "max" = none) (z_min : mg "min" = none) :
    FnOk P w K mg base CX0 2 f fd ["bag"] spSize := by
  refine F.ok scLawSize (fun vs H Q E h => ?_) (fun cdv A outer s H vs Q E hr h => ?_)
  · obtain ⟨_, rfl, _⟩ := h
    rfl
  obtain ⟨b, rfl, hb, q⟩ := h
  refine ⟨_, (pss_cons (ps_set (i := 1) scLawSize.nd rfl (Or.inl rfl) (pe_op op_add pe_int (pe_call GLawPick (hr.mono (by decide)) rfl ALawPick.m ALawPick.kp ALawPick.b .nil pass0 (pa_cons (pv 0) (pa_cons (pe_ix ix_list (pe_lst (pa_cons pe_int (pa_cons (pe_op op_pow pe_int pe_int) (pa_cons (pe_op op_pow pe_int pe_int) pa_nil)))) (pe_call GLawPick (hr.mono (by decide)) rfl ALawPick.m ALawPick.kp ALawPick.b .nil pass0 (pa_cons (pv 0) (pa_cons pe_int pa_nil))) (fun _ _ => rfl)) pa_nil)))))
    (pss_cons (ps_if (pt_cmpR op_eq (pe_call GLawPick (hr.mono (by decide)) rfl ALawPick.m ALawPick.kp ALawPick.b .nil pass0 (pa_cons (pv 0) (pa_cons pe_int pa_nil))) pe_int (nomark _))
    (pss_one (ps_set (i := 1) scLawSize.nd rfl (Or.inl rfl) (pe_op op_sub (pe_op op_add (pe_op op_shl pe_int (pe_call GLawPick (hr.mono (by decide)) rfl ALawPick.m ALawPick.kp ALawPick.b .nil pass0 (pa_cons (pv 0) (pa_cons pe_int pa_nil)))) (pe_call GLawPick (hr.mono (by decide)) rfl ALawPick.m ALawPick.kp ALawPick.b .nil pass0 (pa_cons (pv 0) (pa_cons pe_int pa_nil)))) pe_int)))
    pss_nil)
    (pss_one (ps_ret (pe_callB (call_min2 rfl) (by rfl) z_min (by decide +kernel) (pa_cons (pe_op op_pow pe_int pe_int) (pa_cons (pe_callB (call_max2 rfl) (by rfl) z_max (by decide +kernel) (pa_cons pe_int (pa_cons (pv 1) pa_nil))) pa_nil))))))), ?_⟩
  have hbN : ∃ o, H b = some o := by obtain ⟨x, y, z, e⟩ := hb; exact ⟨_, e⟩
  -- the first line
  refine ⟨_, rfl, _, _, rfl, rfl, ⟨by decide, by decide, by decide⟩, _, _, rfl, rfl, ⟨by decide, by decide, by decide⟩, (by show 3 ≤ sizeLine; decide), fun l nl => ?_⟩
  have s1 := same_upd (o := .lst [.int 40, .int (10 ^ (9 : Int).toNat), .int (10 ^ (30 : Int).toNat)]) nl
  have hlb : l ≠ b := fun e => by obtain ⟨o, e2⟩ := hbN; rw [← e, nl] at e2; cases e2
  refine ⟨_, rfl, b, 3, rfl, by decide, by decide, hb.same s1, fun r H2 r0 r1 k2 b2 => ?_⟩
  have h2l : H2 l = some (.lst [.int 40, .int (10 ^ (9 : Int).toNat), .int (10 ^ (30 : Int).toNat)]) := by rw [k2 l hlb]; exact upd_same
  have B2 : But b H H2 := fun a o n h => by rw [k2 a n]; exact s1 _ _ h
  obtain ⟨rn, rfl⟩ := Int.eq_ofNat_of_zero_le r0
  have hv : ∃ m : Int, atI [V.int 40, V.int (10 ^ (9 : Int).toNat), V.int (10 ^ (30 : Int).toNat)] (rn : Int) = some (.int m) ∧ 0 < m ∧ m ≤ 10 ^ 30 := by
    have : rn = 0 ∨ rn = 1 ∨ rn = 2 := by omega
    rcases this with h | h | h
    · subst h; exact ⟨40, atI_nat (j := 0) rfl, by decide, by decide⟩
    · subst h; exact ⟨_, atI_nat (j := 1) rfl, by decide, by decide⟩
    · subst h; exact ⟨_, atI_nat (j := 2) rfl, by decide, by decide⟩
  obtain ⟨m, hm, m0, m1⟩ := hv
  refine ⟨l, _, _, _, rfl, rfl, SqL.of h2l, hm, b, m, rfl, m0, (show m.natAbs < 2 ^ 250 by omega), b2, fun r3 H3 r30 r31 k3 b3 => ?_⟩
  have B3 : But b H H3 := fun a o n h => by rw [k3 a n]; exact B2 a o n h
  refine ⟨_, _, rfl, rfl, ?_⟩
  -- if _law_pick(bag, 3) == 0
  refine ⟨_, rfl, b, 3, rfl, by decide, by decide, b3, fun r4 H4 r40 r41 k4 b4 => ⟨rfl, _, rfl, ?_⟩⟩
  have B4 : But b H H4 := fun a o n h => by rw [k4 a n]; exact B3 a o n h
  have fin : ∀ (z : Int) (H5 : Hp), But b H H5 → BagAt H5 b → Q (.int (if (if z > 1 then z else 1) < 10 ^ (30 : Int).toNat then (if z > 1 then z else 1) else 10 ^ (30 : Int).toNat)) H5 := fun z H5 B5 b5 => by
    have e : (10 : Int) ^ (30 : Int).toNat = 10 ^ 30 := rfl
    rw [e]
    have z1 : 1 ≤ (if z > 1 then z else 1) := by split <;> omega
    generalize (if z > 1 then z else 1) = y at z1
    have y1 : 1 ≤ (if y < 10 ^ 30 then y else 10 ^ 30) ∧ (if y < 10 ^ 30 then y else 10 ^ 30) ≤ 10 ^ 30 := by split <;> omega
    generalize (if y < 10 ^ 30 then y else 10 ^ 30) = u at y1
    obtain ⟨un, rfl⟩ := Int.eq_ofNat_of_zero_le (show 0 ≤ u by omega)
    exact q un H5 (by omega) (by omega) B5 b5
  refine ite2 (fun c => ?_) (fun c => ?_)
  · refine ⟨_, rfl, b, 100, rfl, by decide, by decide, b4, fun r5 H5 r50 r51 k5 b5 => ⟨_, _, rfl, rfl, ⟨r50, by omega, by decide⟩, _, rfl, b, 3, rfl, by decide, by decide, b5, fun r6 H6 r60 r61 k6 b6 => ⟨_, _, rfl, rfl, _, _, rfl, rfl, ?_⟩⟩⟩
    have B6 : But b H H6 := fun a o n h => by rw [k6 a n, k5 a n]; exact B4 a o n h
    exact ⟨_, _, rfl, rfl, ⟨by decide, by decide, by decide⟩, _, rfl, _, _, rfl, _, _, rfl, fin _ H6 B6 b6⟩
  · exact ⟨_, _, rfl, rfl, ⟨by decide, by decide, by decide⟩, _, rfl, _, _, rfl, _, _, rfl, fin _ H4 B4 b4⟩
end
end LT

namespace LT
open PySem PySem.Spec PyProof.Rows L2
/-- three ints -/
def Tr (H : Hp) (v : V) (x : Nat × Nat × Nat) : Prop := ∃ p, v = .ref p ∧ H p = some (.tup [.int x.1, .int x.2.1, .int x.2.2])
theorem Tr.same {H H' : Hp} {v : V} {x : Nat × Nat × Nat} (h : Tr H v x) (s : Same H H') : Tr H' v x := by
  obtain ⟨p, e, q⟩ := h
  exact ⟨p, e, s _ _ q⟩
theorem Tr.upd {H : Hp} {v : V} {x : Nat × Nat × Nat} {s : Addr} {xs : List V} {o : HO} (h : Tr H v x) (hs : H s = some (.lst xs)) : Tr (upd H s o) v x := by
  obtain ⟨p, e, q⟩ := h
  exact ⟨p, e, by rw [upd_ne (ne_of q hs (by intro z; cases z))]; exact q⟩
theorem lev_len (t : Nat) : ∀ (l : List (Nat × Nat)) (s : Nat), (lev t s l).length = l.length
  | [], _ => rfl
  | x :: r, s => by
    show (lev t (s + 1) r).length + 1 = r.length + 1
    rw [lev_len t r (s + 1)]
theorem lev_app (t : Nat) : ∀ (l r : List (Nat × Nat)) (s : Nat), lev t s (l ++ r) = lev t s l ++ lev t (s + l.length) r
  | [], r, s => rfl
  | x :: l, r, s => by
    show _ :: lev t (s + 1) (l ++ r) = _ :: (lev t (s + 1) l ++ lev t (s + (l.length + 1)) r)
    rw [lev_app t l r (s + 1), show s + 1 + l.length = s + (l.length + 1) by omega]
end LT

namespace LT
open PySem PySem.Spec PyProof.Rows L2
section
variable {P : Program} {w : World} {K : PySem.W.Frag} {mg : Str → Option Value} {base : Heap}
/-- range(h + 1) as far as i turns have come -/
def upto (h i : Nat) : List Int := (List.range (min i (h + 1))).map fun j => ((j : Nat) : Int)
theorem upto_more {h i : Nat} (k : i ≤ h) : upto h (i + 1) = upto h i ++ [(i : Int)] := by
  unfold upto
  rw [Nat.min_eq_left (by omega), Nat.min_eq_left (by omega), List.range_succ, List.map_append]
  rfl
theorem upto_same {h i : Nat} (k : ¬ i ≤ h) : upto h (i + 1) = upto h i := by
  unfold upto
  rw [Nat.min_eq_right (by omega), Nat.min_eq_right (by omega)]
theorem upto_len (h i : Nat) : (upto h i).length ≤ i := by
  unfold upto
  rw [List.length_map, List.length_range]
  exact Nat.min_le_left _ _
theorem shr_pow {h j : Nat} (b : Nat) : decide ((((b + 2 ^ h : Nat) : Int) - (b : Int)) / 2 ^ ((j : Nat) : Int).toNat > 0) = decide (j ≤ h) := by
  have e : ((b + 2 ^ h : Nat) : Int) - (b : Int) = ((2 ^ h : Nat) : Int) := by omega
  rw [e, Int.toNat_natCast, ← PySem.W.kbt_cast j]
  have e2 : ((2 ^ h : Nat) : Int) / ((2 ^ j : Nat) : Int) = ((2 ^ h / 2 ^ j : Nat) : Int) := (Int.natCast_ediv _ _).symm
  rw [e2]
  by_cases k : j ≤ h
  · rw [decide_eq_true k]
    have := Nat.div_pos (Nat.pow_le_pow_right (by decide : 0 < 2) k) (Nat.pow_pos (a := 2) (n := j) (by decide))
    exact decide_eq_true (by omega)
  · rw [decide_eq_false k]
    have : 2 ^ h / 2 ^ j = 0 := Nat.div_eq_of_lt (Nat.pow_lt_pow_right (by decide) (by omega))
    exact decide_eq_false (by omega)
def spLevels : Sp := fun vs H Q _ => ∃ (n : Nat), vs = [.int n] ∧ ∀ (H' : Hp) (p : Addr) (xs : List V), Same H H' → H p = none → H' p = some (.lst xs) → All2 (Tr H') xs (lev (pk 101 n 0).length 0 (pk 101 n 0)) → Q (.ref p) H'
theorem ok_law_levels {f g1 : Addr} {fd d1 : FuncData} (F : Fun K "_law_levels" "_law_levels" sLawLevels f fd) (GLawPeaks : FnOk P w K mg base CX0 1 g1 d1 ["size"] spPeaks) (ALawPeaks : At K mg "_law_peaks" g1 d1 ["size"])
    (z_max : mg "max" = none) (z_min : mg "min" = none) (z_range : mg "range" = none) (z_enumerate : mg "enumerate" = none) (z_len : mg "len" = none) :
    FnOk P w K mg base CX0 2 f fd ["size"] spLevels := by
  refine F.ok scLawLevels (fun vs H Q E h => ?_) (fun cdv A outer s H vs Q E hr h => ?_)
  · obtain ⟨_, rfl, _⟩ := h
    rfl
  obtain ⟨n, rfl, q⟩ := h
  refine ⟨_, (pss_cons (ps_set (i := 1) scLawLevels.nd rfl (Or.inl rfl) (pe_call GLawPeaks (hr.mono (by decide)) rfl ALawPeaks.m ALawPeaks.kp ALawPeaks.b .nil pass0 (pa_cons (pv 0) pa_nil)))
    (pss_cons (ps_set (i := 2) scLawLevels.nd rfl (Or.inl rfl) (pe_lst pa_nil))
    (pss_cons (ps_for PassesOwn.never rfl (pi_enum (by rfl) z_enumerate (pa_cons (pv 1) pa_nil)) (pg_tup (by rfl) (pgs_cons (pg_name (i := 3) scLawLevels.nd rfl (Or.inl rfl)) (pgs_cons (pg_tup (by rfl) (pgs_cons (pg_name (i := 4) scLawLevels.nd rfl (Or.inr rfl)) (pgs_cons (pg_name (i := 5) scLawLevels.nd rfl (Or.inr rfl)) pgs_nil))) pgs_nil)))
    (pss_cons (ps_set (i := 6) scLawLevels.nd rfl (Or.inl rfl) (pe_callB (cr_max rfl) (by rfl) z_max (by decide +kernel) (pa_cons (pe_lc (own := [("bit", 7)]) rfl scLawLevels.nd (pi_range1 (by rfl) z_range (pa_cons pe_int pa_nil)) (blkOk_by (N := ["size", "told", "found", "spot", "begin", "end", "height", "bit"]) (sc := defScope sLawLevels) (by decide +kernel)) (fun _ _ _ _ _ => (pg_name (i := 7) scLawLevels.nd rfl (Or.inl rfl))) (fun _ _ _ _ _ => pts_one (pt_cmpR op_gt (pe_op op_shr (pe_op op_sub (pv 5) (pv 4)) (pv 7)) pe_int (nomark _))) (fun _ _ _ _ _ => (pv 7))) pa_nil)))
    (pss_one (ps_expr (pe_bm PySem.F.plainAttrs_list PySem.F.slot_list_append PySem.F.type_list_append mt_append (pv 2) (pa_cons (pe_tup (pa_cons (pv 4) (pa_cons (pv 5) (pa_cons (pe_op op_add (pv 6) (pe_callB (call_min2 rfl) (by rfl) z_min (by decide +kernel) (pa_cons (pe_op op_add (pv 3) pe_int) (pa_cons (pe_op op_sub (pe_callB call_len_seq (by rfl) z_len PySem.boot_len (pa_cons (pv 1) pa_nil)) pe_int) pa_nil)))) pa_nil)))) pa_nil))))))
    (pss_one (ps_ret (pv 2)))))), ?_⟩
  refine ⟨_, rfl, n, rfl, fun H1 pa xs sm0 npa hpa hxs => ?_⟩
  refine ⟨Nat.zero_le _, fun fa nf => ?_⟩
  have nf0 : H fa = none := sm0.free nf
  have sf := same_upd (o := .lst []) nf
  have hfp : pa ≠ fa := ne_of_none hpa nf
  refine ⟨_, rfl, pa, xs, rfl, sf.seq (SqL.of hpa), ?_⟩
  have L101 := pk_len 101 n 0
  have pkb : ∀ x ∈ pk 101 n 0, x.2 ≤ 100 := fun x hx => by have := (pk_begin 101 n 0 x hx).2; omega
  generalize pk 101 n 0 = L at q hxs L101 pkb
  refine for_enum (a := pa) (xs := xs) (fun i σ H' => ∃ (v3 v4 v5 v6 : Option V) (ys : List V), σ = [some (.int n), some (.ref pa), some (.ref fa), v3, v4, v5, v6, none] ∧ Same H1 H' ∧ H' fa = some (.lst ys) ∧ All2 (Tr H') ys (lev L.length 0 (L.take i)))
    ⟨none, none, none, none, [], rfl, sf, upd_same, .nil⟩ (fun i σ H' _ ⟨_, _, _, _, _, _, sm, _⟩ => SqL.of (sm _ _ hpa)) ?_ ?_
  · rintro i x σ H2 T hi ⟨v3, v4, v5, v6, ys, rfl, sm, hf, hy⟩ nT
    obtain ⟨⟨b, h⟩, hbh, hnd⟩ : ∃ y : Nat × Nat, L[i]? = some y ∧ Nd H1 x (full y) := by
      obtain ⟨y, e1, e2⟩ := hxs.nth hi
      rw [List.getElem?_map] at e1
      cases e3 : L[i]? with
      | none => rw [e3] at e1; cases e1
      | some z => rw [e3] at e1; exact ⟨z, rfl, by rw [show full z = y from Option.some.inj e1]; exact e2⟩
    have hh : h ≤ 100 := pkb _ (List.mem_of_getElem? hbh)
    obtain ⟨p, rfl, hp⟩ := hnd
    have sT := same_upd (o := .tup [.int ((i : Nat) : Int), .ref p]) nT
    refine ⟨T, _, rfl, SqT.of upd_same, rfl, _, _, rfl, _, _, rfl, p, _, rfl, SqT.of (sT _ _ (sm _ _ hp)), rfl, _, _, rfl, _, _, rfl, rfl, rfl, ?_⟩
    have hpa3 := sT _ _ (sm _ _ hpa)
    have hf3 := sT _ _ hf
    have hy3 := hy.mono (fun v x (k : Tr H2 v x) => k.same sT)
    have sm3 := sm.trans sT
    generalize upd H2 T (.tup [.int ((i : Nat) : Int), .ref p]) = H3 at hpa3 hf3 hy3 sm3
    -- height
    refine ⟨101, rfl, by decide, by decide, fun D nD => lc_range (lo := 0) (n := 101) (fun i H' => Same H3 H' ∧ H' D = some (.lst ((upto h i).map V.int))) ⟨same_upd nD, upd_same⟩ ?_ ?_⟩
    · rintro j H4 hj ⟨sm4, hD⟩
      have ej : (0 : Int) + (j : Int) = (j : Int) := by omega
      rw [ej]
      refine ⟨rfl, ?_⟩
      refine ⟨_, rfl, _, rfl, _, _, rfl, rfl, _, rfl, _, _, rfl, rfl, Int.natCast_nonneg _, _, _, rfl, rfl, decide (j ≤ h), congrArg V.bl (shr_pow b), ite2 (fun c => ?_) (fun c => ?_)⟩
      · have c1 : j ≤ h := of_decide_eq_true c
        refine ⟨_, rfl, _, hD, szlt (by rw [List.length_map]; have := upto_len h j; omega), ?_, ?_⟩
        · exact fun a o k => by rw [upd_ne (ne_of_none k nD)]; exact sm4 _ _ k
        · rw [upto_more c1, List.map_append]
          exact upd_same
      · have c1 : ¬ j ≤ h := of_decide_eq_false (Bool.eq_false_iff.mpr c)
        refine ⟨sm4, ?_⟩
        rw [upto_same c1]
        exact hD
    rintro H4 ⟨sm4, hD⟩
    refine ⟨D, upto h 101, rfl, SqL.of hD, ?_, fun m hm hmax => ?_⟩
    · unfold upto
      rw [List.length_map, List.length_range]
      omega
    have em : m = (h : Int) := by
      unfold upto at hm hmax
      rw [Nat.min_eq_right (by omega)] at hm hmax
      obtain ⟨k, k1, k2⟩ := List.mem_map.mp hm
      have k3 := List.mem_range.mp k1
      have k4 := hmax (h : Int) (List.mem_map.mpr ⟨h, List.mem_range.mpr (by omega), rfl⟩)
      omega
    subst em
    have hpa4 := sm4 _ _ hpa3
    have hf4 := sm4 _ _ hf3
    have xl : xs.length = L.length := by rw [hxs.len, List.length_map]
    have il : i < L.length := (List.getElem?_eq_some_iff.mp hbh).1
    refine ⟨_, rfl, .inl ⟨rfl, _, SqL.of hf4⟩, _, rfl, _, rfl, _, rfl, _, rfl, _, _, rfl, rfl, _, rfl, pa, _, rfl, .inl (SqL.of hpa4), _, _, rfl, rfl, _, _, rfl, _, _, rfl, rfl, (by show 3 ≤ sizeLine; decide), fun t nt => ?_⟩
    have e8 : (h : Int) + (if ((xs.length : Nat) : Int) - 1 < (i : Int) + 1 then ((xs.length : Nat) : Int) - 1 else (i : Int) + 1) = ((h + min (i + 1) (L.length - 1) : Nat) : Int) := by
      rw [xl]
      split <;> omega
    dsimp only
    rw [e8]
    have st := same_upd (o := .tup [.int (b : Int), .int ((b + 2 ^ h : Nat) : Int), .int ((h + min (i + 1) (L.length - 1) : Nat) : Int)]) nt
    have hf5 := st _ _ hf4
    have hlen : (lev L.length 0 (L.take i)).length ≤ 101 := by rw [lev_len, List.length_take]; omega
    refine ⟨fa, _, _, rfl, rfl, hf5, szlt (by rw [hy.len]; omega), ?_⟩
    refine ⟨_, _, _, _, ys ++ [.ref t], rfl, ?_, upd_same, ?_⟩
    · exact fun a o k => by rw [upd_ne (ne_of_none k nf)]; exact st _ _ (sm4 _ _ (sm3 _ _ k))
    · rw [take_more hbh, lev_app]
      refine (hy3.mono (fun v x (k : Tr H3 v x) => ((k.same sm4).same st).upd hf5)).app (.cons ?_ .nil)
      have e9 : 0 + (L.take i).length = i := by rw [List.length_take]; omega
      rw [e9]
      exact Tr.upd (x := (b, b + 2 ^ h, h + min (i + 1) (L.length - 1))) ⟨t, rfl, upd_same⟩ hf5
  · rintro σ H2 ⟨v3, v4, v5, v6, ys, rfl, sm, hf, hy⟩
    have e : L.take xs.length = L := List.take_of_length_le (by rw [hxs.len, List.length_map]; exact Nat.le_refl _)
    rw [e] at hy
    exact ⟨_, rfl, q H2 fa ys (sm0.trans sm) nf0 hf hy⟩
end
end LT

namespace LT
open PySem PySem.Spec PyProof.Rows L2
section
variable {P : Program} {w : World} {K : PySem.W.Frag} {mg : Str → Option Value} {base : Heap}
def spCheckNumber : Sp := fun vs H Q _ => ∃ n : Int, vs = [.int n] ∧ Q .non H
theorem ok_check_number {f g : Addr} {fd gd : FuncData} (F : Fun K "check_number" "check_number" sCheckNumber f fd) (GIsWhole : FnOk P w K mg base CX0 1 g gd ["value"] spWhole) (AIsWhole : At K mg "is_whole" g gd ["value"]) : FnOk P w K mg base CX0 2 f fd ["number"] spCheckNumber := by
  refine F.ok scCheckNumber (fun vs H Q E h => ?_) (fun cdv A outer s H vs Q E hr h => ?_)
  · obtain ⟨_, rfl, _⟩ := h
    rfl
  obtain ⟨n, rfl, q⟩ := h
  refine ⟨_, (pss_one (ps_if (pt_not (pt_val (pe_call GIsWhole (hr.mono (by decide)) rfl AIsWhole.m AIsWhole.kp AIsWhole.b .nil pass0 (pa_cons (pv 0) pa_nil))))
    (pss_one ps_never)
    pss_nil)), ?_⟩
  exact ⟨_, rfl, n, rfl, true, rfl, q⟩
end
end LT

namespace LT
open PySem PySem.Spec PyProof.Rows L2
theorem log2_is {r h : Nat} (h1 : 2 ^ h ≤ r) (h2 : r < 2 ^ (h + 1)) : r.log2 = h := (Nat.log2_eq_iff (by have := Nat.pow_pos (a := 2) (n := h) (by decide); omega)).mpr ⟨h1, h2⟩
theorem pk_step : ∀ (i n b : Nat), n % 2 ^ i ≠ 0 → ∃ h, h < i ∧ pk i n b = (b, h) :: pk h n (b + 2 ^ h) ∧ n % 2 ^ i = 2 ^ h + n % 2 ^ h
  | 0, n, b, hr => by simp [Nat.mod_one] at hr
  | i + 1, n, b, hr => by
    rw [mod_succ] at hr
    by_cases t : n.testBit i = true
    · refine ⟨i, Nat.lt_succ_self i, ?_, by rw [mod_succ, if_pos t]⟩
      show (if n.testBit i = true then _ else _) = _
      rw [if_pos t]
    · rw [if_neg t, Nat.zero_add] at hr
      obtain ⟨h, h1, h2, h3⟩ := pk_step i n b hr
      refine ⟨h, by omega, ?_, by rw [mod_succ, if_neg t, Nat.zero_add]; exact h3⟩
      show (if n.testBit i = true then _ else _) = _
      rw [if_neg t]
      exact h2
section
variable {P : Program} {w : World} {K : PySem.W.Frag} {mg : Str → Option Value} {base : Heap}
def spTops : Sp := fun vs H Q _ => ∃ (n : Nat), vs = [.int n] ∧ 1 ≤ n ∧ n ≤ 10 ^ 30 ∧ ∀ (H' : Hp) (p : Addr) (xs : List V), Same H H' → H p = none → H' p = some (.lst xs) → All2 (Nd H') xs ((pk 101 n 0).map full) → Q (.ref p) H'
theorem ok_peaks {f g1 g2 : Addr} {fd d1 d2 : FuncData} (F : Fun K "peaks" "peaks" sPeaks f fd) (GCheckSize : FnOk P w K mg base CX0 3 g1 d1 ["size"] spCheckSize) (ACheckSize : At K mg "check_size" g1 d1 ["size"])
    (GPowerWithin : FnOk P w K mg base CX0 1 g2 d2 ["number"] spPower) (APowerWithin : At K mg "power_within" g2 d2 ["number"]) : FnOk P w K mg base CX0 4 f fd ["size"] spTops := by
  refine F.ok scPeaks (fun vs H Q E h => ?_) (fun cdv A outer s H vs Q E hr h => ?_)
  · obtain ⟨_, rfl, _⟩ := h
    rfl
  obtain ⟨n, rfl, h1, h30, q⟩ := h
  refine ⟨_, (pss_cons (ps_expr (pe_call GCheckSize (hr.mono (by decide)) rfl ACheckSize.m ACheckSize.kp ACheckSize.b .nil pass0 (pa_cons (pv 0) pa_nil)))
    (pss_cons (ps_set (i := 1) scPeaks.nd rfl (Or.inl rfl) (pe_lst pa_nil))
    (pss_cons (ps_set (i := 2) scPeaks.nd rfl (Or.inl rfl) pe_int)
    (pss_cons (ps_while PassesOwn.never (pt_cmpR op_lt (pv 2) (pv 0) (nomark _))
    (pss_cons (ps_set (i := 3) scPeaks.nd rfl (Or.inl rfl) (pe_op op_add (pv 2) (pe_call GPowerWithin (hr.mono (by decide)) rfl APowerWithin.m APowerWithin.kp APowerWithin.b .nil pass0 (pa_cons (pe_op op_sub (pv 0) (pv 2)) pa_nil))))
    (pss_cons (ps_expr (pe_bm PySem.F.plainAttrs_list PySem.F.slot_list_append PySem.F.type_list_append mt_append (pv 1) (pa_cons (pe_tup (pa_cons (pv 2) (pa_cons (pv 3) pa_nil))) pa_nil)))
    (pss_one (ps_set (i := 2) scPeaks.nd rfl (Or.inl rfl) (pv 3))))))
    (pss_one (ps_ret (pv 1))))))), ?_⟩
  refine ⟨_, rfl, n, rfl, by omega, by omega, ?_⟩
  refine ⟨Nat.zero_le _, fun fa nf => ?_⟩
  have nm : n % 2 ^ 101 = n := Nat.mod_eq_of_lt (Nat.lt_of_le_of_lt h30 (by decide))
  refine ⟨fun mu σ H' => ∃ (i b : Nat) (v3 : Option V) (xs : List V) (done : List (Nat × Nat)), σ = [some (.int n), some (.ref fa), some (.int b), v3] ∧ Same H H' ∧ H' fa = some (.lst xs) ∧ All2 (Nd H') xs (done.map full) ∧ done ++ pk i n b = pk 101 n 0 ∧ b + n % 2 ^ i = n ∧ mu = n - b,
    ⟨n, 101, 0, none, [], [], rfl, same_upd nf, upd_same, .nil, rfl, by omega, by omega⟩, ?_⟩
  rintro m σ H1 ⟨i, b, v3, xs, done, rfl, sm, hf, hx, hd, hb, rfl⟩
  refine ⟨_, rfl, _, rfl, _, _, rfl, rfl, _, rfl, ite2 (fun c => ?_) (fun c => ?_)⟩
  · have c1 : (b : Int) < (n : Int) := of_decide_eq_true c
    obtain ⟨h, hi, hp, hm⟩ := pk_step i n b (by omega)
    have ph := Nat.pow_pos (a := 2) (n := h) (by decide)
    have lh : (n - b).log2 = h := log2_is (by omega) (by have := Nat.mod_lt n ph; rw [Nat.pow_succ]; omega)
    have dl : done.length ≤ 101 := by
      have k1 := congrArg List.length hd
      rw [List.length_append] at k1
      have k2 := pk_len 101 n 0
      omega
    refine ⟨fun σ' H' => ∃ mu, mu < n - b ∧ ∃ (i b : Nat) (v3 : Option V) (xs : List V) (done : List (Nat × Nat)), σ' = [some (.int n), some (.ref fa), some (.int b), v3] ∧ Same H H' ∧ H' fa = some (.lst xs) ∧ All2 (Nd H') xs (done.map full) ∧ done ++ pk i n b = pk 101 n 0 ∧ b + n % 2 ^ i = n ∧ mu = n - b, fun σ' H' h => h, ?_⟩
    have e1 : (n : Int) - (b : Int) = ((n - b : Nat) : Int) := by omega
    refine ⟨_, rfl, _, rfl, _, rfl, _, _, rfl, rfl, n - b, congrArg (fun z => [V.int z]) e1, by omega, by omega, _, _, rfl, rfl, ?_⟩
    have e2 : (b : Int) + ((2 ^ (n - b).log2 : Nat) : Int) = ((b + 2 ^ h : Nat) : Int) := by rw [lh]; omega
    dsimp only
    rw [e2]
    refine ⟨_, rfl, .inl ⟨rfl, _, SqL.of hf⟩, _, rfl, _, rfl, (by show 2 ≤ sizeLine; decide), fun t nt => ?_⟩
    have s1 := same_upd (o := .tup [.int (b : Int), .int ((b + 2 ^ h : Nat) : Int)]) nt
    have hf1 := s1 _ _ hf
    refine ⟨fa, _, _, rfl, rfl, hf1, szlt (by rw [hx.len, List.length_map]; omega), ?_⟩
    refine ⟨_, rfl, ?_⟩
    refine ⟨n - (b + 2 ^ h), by omega, h, b + 2 ^ h, _, xs ++ [.ref t], done ++ [(b, h)], rfl, ?_, upd_same, ?_, ?_, by omega, rfl⟩
    · exact fun a o k => by rw [upd_ne (ne_of_none k nf)]; exact s1 _ _ (sm _ _ k)
    · rw [List.map_append]
      refine (hx.mono (fun v x (k : Nd H1 v x) => (k.same s1).upd hf1)).app (.cons ?_ .nil)
      exact Nd.upd (x := full (b, h)) ⟨t, rfl, upd_same⟩ hf1
    · rw [← hd, hp, List.append_assoc]
      rfl
  · have c1 : ¬ (b : Int) < (n : Int) := of_decide_eq_false (Bool.eq_false_iff.mpr c)
    rw [pk_nil i n b (by omega), List.append_nil] at hd
    rw [hd] at hx
    exact ⟨_, rfl, q H1 fa xs sm nf hf hx⟩
end
end LT

namespace LT
open PySem PySem.Spec PyProof.Rows L2
/-- the parts of a stretch within the rows -/
def db (b e : Nat) (T : List (Nat × Nat × Nat)) : List (Nat × Nat) := (T.filter fun x => decide (max b x.1 < min e x.2.1)).map fun x => (min e x.2.1 - max b x.1, x.2.2)
def total (b e : Nat) (T : List (Nat × Nat × Nat)) : Nat := ((db b e T).map fun p => p.1 * p.2).sum
theorem db_len (b e : Nat) (T : List (Nat × Nat × Nat)) : (db b e T).length ≤ T.length := by
  unfold db
  rw [List.length_map]
  exact List.length_filter_le _ _
theorem db_more {b e i : Nat} {T : List (Nat × Nat × Nat)} {y : Nat × Nat × Nat} (h : T[i]? = some y) : db b e (T.take (i + 1)) = db b e (T.take i) ++ (if max b y.1 < min e y.2.1 then [(min e y.2.1 - max b y.1, y.2.2)] else []) := by
  rw [take_more h]
  unfold db
  rw [List.filter_append, List.map_append, List.filter_cons, List.filter_nil]
  by_cases c : max b y.1 < min e y.2.1
  · rw [if_pos (decide_eq_true c), if_pos c]; rfl
  · rw [if_neg (by simpa using c), if_neg c]; rfl
theorem sum_cast : ∀ l : List Nat, (l.map fun x => ((x : Nat) : Int)).sum = ((l.sum : Nat) : Int)
  | [] => rfl
  | x :: l => by
    rw [List.map_cons, List.sum_cons, List.sum_cons, sum_cast l]
    omega
theorem lev_deep (t : Nat) : ∀ (l : List (Nat × Nat)) (s : Nat) (x : Nat × Nat × Nat), x ∈ lev t s l → (∀ y ∈ l, y.2 ≤ 100) → t ≤ 101 → x.2.2 ≤ 201
  | [], _, _, h, _, _ => by simp [lev] at h
  | y :: r, s, x, h, hl, ht => by
    have h' : x ∈ (y.1, y.1 + 2 ^ y.2, y.2 + min (s + 1) (t - 1)) :: lev t (s + 1) r := h
    rcases List.mem_cons.mp h' with h | h
    · subst h
      have := hl y List.mem_cons_self
      simp only []
      omega
    · exact lev_deep t r (s + 1) x h (fun z hz => hl z (List.mem_cons_of_mem _ hz)) ht
theorem rows_deep (n : Nat) (x : Nat × Nat × Nat) (h : x ∈ lev (pk 101 n 0).length 0 (pk 101 n 0)) : x.2.2 ≤ 201 :=
  lev_deep _ _ _ x h (fun y hy => by have := (pk_begin 101 n 0 y hy).2; omega) (pk_len 101 n 0)
theorem db_deep {b e n : Nat} (p : Nat × Nat) (h : p ∈ db b e (lev (pk 101 n 0).length 0 (pk 101 n 0))) : p.2 ≤ 201 := by
  unfold db at h
  obtain ⟨x, h1, h2⟩ := List.mem_map.mp h
  have := rows_deep n x (List.mem_filter.mp h1).1
  rw [← h2]
  exact this
theorem rows_len (n : Nat) : (lev (pk 101 n 0).length 0 (pk 101 n 0)).length ≤ 101 := by
  rw [lev_len]
  exact pk_len 101 n 0
theorem min_castA (a c : Nat) : (if ((c : Nat) : Int) < (a : Int) then (c : Int) else (a : Int)) = ((min a c : Nat) : Int) := by split <;> omega
theorem max_castA (a c : Nat) : (if ((c : Nat) : Int) > (a : Int) then (c : Int) else (a : Int)) = ((max a c : Nat) : Int) := by split <;> omega
section
variable {P : Program} {w : World} {K : PySem.W.Frag} {mg : Str → Option Value} {base : Heap}
def spCheckSpan : Sp := fun vs H Q _ => ∃ n b e : Nat, vs = [.int n, .int b, .int e] ∧ b < e ∧ e ≤ n ∧ Q .non H
theorem ok_check_span {f g : Addr} {fd gd : FuncData} (F : Fun K "check_span" "check_span" sCheckSpan f fd) (GIsBetween : FnOk P w K mg base CX0 2 g gd ["value", "low", "high"] spBetween) (AIsBetween : At K mg "is_between" g gd ["value", "low", "high"]) : FnOk P w K mg base CX0 3 f fd ["size", "begin", "end"] spCheckSpan := by
  refine F.ok scCheckSpan (fun vs H Q E h => ?_) (fun cdv A outer s H vs Q E hr h => ?_)
  · obtain ⟨_, _, _, rfl, _⟩ := h
    rfl
  obtain ⟨n, b, e, rfl, h1, h2, q⟩ := h
  refine ⟨_, (pss_cons (ps_if (pt_not (pt_val (pe_call GIsBetween (hr.mono (by decide)) rfl AIsBetween.m AIsBetween.kp AIsBetween.b .nil pass0 (pa_cons (pv 1) (pa_cons pe_int (pa_cons (pe_op op_sub (pv 0) pe_int) pa_nil))))))
    (pss_one ps_never)
    pss_nil)
    (pss_one (ps_if (pt_not (pt_val (pe_call GIsBetween (hr.mono (by decide)) rfl AIsBetween.m AIsBetween.kp AIsBetween.b .nil pass0 (pa_cons (pv 2) (pa_cons (pe_op op_add (pv 1) pe_int) (pa_cons (pv 0) pa_nil))))))
    (pss_one ps_never)
    pss_nil))), ?_⟩
  refine ⟨_, rfl, _, rfl, _, _, rfl, rfl, _, _, _, rfl, true, ?_, ?_⟩
  · exact congrArg V.bl (by rw [Bool.and_eq_true]; exact ⟨decide_eq_true (by omega), decide_eq_true (by show (b : Int) ≤ n - 1; omega)⟩)
  refine ⟨_, rfl, _, rfl, _, _, rfl, rfl, _, rfl, _, _, _, rfl, true, ?_, ?_⟩
  · exact congrArg V.bl (by rw [Bool.and_eq_true]; exact ⟨decide_eq_true (by show (b : Int) + 1 ≤ (e : Int); omega), decide_eq_true (by show (e : Int) ≤ n; omega)⟩)
  exact q
def spRows : Sp := fun vs H Q _ => ∃ (n : Nat), vs = [.int n] ∧ 1 ≤ n ∧ n ≤ 10 ^ 30 ∧ ∀ (H' : Hp) (p : Addr) (xs : List V), Same H H' → H p = none → H' p = some (.lst xs) → All2 (Tr H') xs (lev (pk 101 n 0).length 0 (pk 101 n 0)) → Q (.ref p) H'
theorem ok_peak_depths {f g1 : Addr} {fd d1 : FuncData} (F : Fun K "_peak_depths" "_peak_depths" sPeakDepths f fd) (GPeaks : FnOk P w K mg base CX0 4 g1 d1 ["size"] spTops) (APeaks : At K mg "peaks" g1 d1 ["size"])
    (z_min : mg "min" = none) (z_enumerate : mg "enumerate" = none) (z_len : mg "len" = none) : FnOk P w K mg base CX0 5 f fd ["size"] spRows := by
  refine F.ok scPeakDepths (fun vs H Q E h => ?_) (fun cdv A outer s H vs Q E hr h => ?_)
  · obtain ⟨_, rfl, _⟩ := h
    rfl
  obtain ⟨n, rfl, h1, h30, q⟩ := h
  refine ⟨_, (pss_cons (ps_set (i := 1) scPeakDepths.nd rfl (Or.inl rfl) (pe_call GPeaks (hr.mono (by decide)) rfl APeaks.m APeaks.kp APeaks.b .nil pass0 (pa_cons (pv 0) pa_nil)))
    (pss_cons (ps_set (i := 2) scPeakDepths.nd rfl (Or.inl rfl) (pe_lst pa_nil))
    (pss_cons (ps_for PassesOwn.never rfl (pi_enum (by rfl) z_enumerate (pa_cons (pv 1) pa_nil)) (pg_tup (by rfl) (pgs_cons (pg_name (i := 3) scPeakDepths.nd rfl (Or.inl rfl)) (pgs_cons (pg_tup (by rfl) (pgs_cons (pg_name (i := 4) scPeakDepths.nd rfl (Or.inl rfl)) (pgs_cons (pg_name (i := 5) scPeakDepths.nd rfl (Or.inl rfl)) pgs_nil))) pgs_nil)))
    (pss_cons (ps_set (i := 6) scPeakDepths.nd rfl (Or.inl rfl) (pe_callB (call_min2 rfl) (by rfl) z_min (by decide +kernel) (pa_cons (pe_op op_add (pv 3) pe_int) (pa_cons (pe_op op_sub (pe_callB call_len_seq (by rfl) z_len PySem.boot_len (pa_cons (pv 1) pa_nil)) pe_int) pa_nil))))
    (pss_one (ps_expr (pe_bm PySem.F.plainAttrs_list PySem.F.slot_list_append PySem.F.type_list_append mt_append (pv 2) (pa_cons (pe_tup (pa_cons (pv 4) (pa_cons (pv 5) (pa_cons (pe_op op_sub (pe_op op_add (pv 6) (pe_bits (pe_op op_sub (pv 5) (pv 4)))) pe_int) pa_nil)))) pa_nil))))))
    (pss_one (ps_ret (pv 2)))))), ?_⟩
  refine ⟨_, rfl, n, rfl, h1, h30, fun H1 pa xs sm0 npa hpa hxs => ?_⟩
  refine ⟨Nat.zero_le _, fun fa nf => ?_⟩
  have nf0 : H fa = none := sm0.free nf
  have sf := same_upd (o := .lst []) nf
  refine ⟨_, rfl, pa, xs, rfl, sf.seq (SqL.of hpa), ?_⟩
  have L101 := pk_len 101 n 0
  have pkb : ∀ x ∈ pk 101 n 0, x.2 ≤ 100 := fun x hx => by have := (pk_begin 101 n 0 x hx).2; omega
  generalize pk 101 n 0 = L at q hxs L101 pkb
  refine for_enum (a := pa) (xs := xs) (fun i σ H' => ∃ (v3 v4 v5 v6 : Option V) (ys : List V), σ = [some (.int n), some (.ref pa), some (.ref fa), v3, v4, v5, v6] ∧ Same H1 H' ∧ H' fa = some (.lst ys) ∧ All2 (Tr H') ys (lev L.length 0 (L.take i)))
    ⟨none, none, none, none, [], rfl, sf, upd_same, .nil⟩ (fun i σ H' _ ⟨_, _, _, _, _, _, sm, _⟩ => SqL.of (sm _ _ hpa)) ?_ ?_
  · rintro i x σ H2 T hi ⟨v3, v4, v5, v6, ys, rfl, sm, hf, hy⟩ nT
    obtain ⟨⟨b, h⟩, hbh, hnd⟩ : ∃ y : Nat × Nat, L[i]? = some y ∧ Nd H1 x (full y) := by
      obtain ⟨y, e1, e2⟩ := hxs.nth hi
      rw [List.getElem?_map] at e1
      cases e3 : L[i]? with
      | none => rw [e3] at e1; cases e1
      | some z => rw [e3] at e1; exact ⟨z, rfl, by rw [show full z = y from Option.some.inj e1]; exact e2⟩
    have hh : h ≤ 100 := pkb _ (List.mem_of_getElem? hbh)
    obtain ⟨p, rfl, hp⟩ := hnd
    have sT := same_upd (o := .tup [.int ((i : Nat) : Int), .ref p]) nT
    refine ⟨T, _, rfl, SqT.of upd_same, rfl, _, _, rfl, _, _, rfl, p, _, rfl, SqT.of (sT _ _ (sm _ _ hp)), rfl, _, _, rfl, _, _, rfl, rfl, rfl, ?_⟩
    have hpa3 := sT _ _ (sm _ _ hpa)
    have hf3 := sT _ _ hf
    have hy3 := hy.mono (fun v x (k : Tr H2 v x) => k.same sT)
    have sm3 := sm.trans sT
    generalize upd H2 T (.tup [.int ((i : Nat) : Int), .ref p]) = H3 at hpa3 hf3 hy3 sm3
    have xl : xs.length = L.length := by rw [hxs.len, List.length_map]
    have il : i < L.length := (List.getElem?_eq_some_iff.mp hbh).1
    refine ⟨_, rfl, _, _, rfl, rfl, _, rfl, pa, _, rfl, .inl (SqL.of hpa3), _, _, rfl, rfl, _, _, rfl, ?_⟩
    have e6 : (if ((xs.length : Nat) : Int) - 1 < (i : Int) + 1 then ((xs.length : Nat) : Int) - 1 else (i : Int) + 1) = ((min (i + 1) (L.length - 1) : Nat) : Int) := by
      rw [xl]
      split <;> omega
    dsimp only
    rw [e6]
    refine ⟨_, rfl, .inl ⟨rfl, _, SqL.of hf3⟩, _, rfl, _, rfl, _, rfl, _, rfl, _, rfl, _, _, rfl, rfl, _, rfl, _, _, rfl, rfl, _, _, rfl, rfl, (by show 3 ≤ sizeLine; decide), fun t nt => ?_⟩
    have e7 : ((b + 2 ^ h : Nat) : Int) - (b : Int) = ((2 ^ h : Nat) : Int) := by omega
    have e8 : ((min (i + 1) (L.length - 1) : Nat) : Int) + ((Builtin.Int.intBits (((b + 2 ^ h : Nat) : Int) - (b : Int)) : Nat) : Int) - 1 = ((h + min (i + 1) (L.length - 1) : Nat) : Int) := by
      have ph := Nat.pow_pos (a := 2) (n := h) (by decide)
      rw [e7, bits_nat, if_neg (by omega), log2_is (Nat.le_refl _) (by rw [Nat.pow_succ]; omega)]
      omega
    dsimp only
    have e8' : ((min (i + 1) (L.length - 1) : Nat) : Int) + ((Builtin.Int.intBits (((full (b, h)).2 : Int) - ((full (b, h)).1 : Int)) : Nat) : Int) - 1 = ((h + min (i + 1) (L.length - 1) : Nat) : Int) := e8
    rw [e8']
    have st := same_upd (o := .tup [.int ((full (b, h)).1 : Int), .int ((full (b, h)).2 : Int), .int ((h + min (i + 1) (L.length - 1) : Nat) : Int)]) nt
    have hf5 := st _ _ hf3
    have hlen : (lev L.length 0 (L.take i)).length ≤ 101 := by rw [lev_len, List.length_take]; omega
    refine ⟨fa, _, _, rfl, rfl, hf5, szlt (by rw [hy.len]; omega), ?_⟩
    refine ⟨_, _, _, _, ys ++ [.ref t], rfl, ?_, upd_same, ?_⟩
    · exact fun a o k => by rw [upd_ne (ne_of_none k nf)]; exact st _ _ (sm3 _ _ k)
    · rw [take_more hbh, lev_app]
      refine (hy3.mono (fun v x (k : Tr H3 v x) => (k.same st).upd hf5)).app (.cons ?_ .nil)
      have e9 : 0 + (L.take i).length = i := by rw [List.length_take]; omega
      rw [e9]
      exact Tr.upd (x := (b, b + 2 ^ h, h + min (i + 1) (L.length - 1))) ⟨t, rfl, upd_same⟩ hf5
  · rintro σ H2 ⟨v3, v4, v5, v6, ys, rfl, sm, hf, hy⟩
    have e : L.take xs.length = L := List.take_of_length_le (by rw [hxs.len, List.length_map]; exact Nat.le_refl _)
    rw [e] at hy
    exact ⟨_, rfl, q H2 fa ys (sm0.trans sm) nf0 hf hy⟩
def spBetweenRows : Sp := fun vs H Q _ => ∃ (n b e : Nat), vs = [.int n, .int b, .int e] ∧ 1 ≤ n ∧ n ≤ 10 ^ 30 ∧ ∀ (H' : Hp) (p : Addr) (xs : List V), Same H H' → H p = none → H' p = some (.lst xs) → All2 (Nd H') xs (db b e (lev (pk 101 n 0).length 0 (pk 101 n 0))) → Q (.ref p) H'
theorem ok_depths_between {f g1 : Addr} {fd d1 : FuncData} (F : Fun K "_depths_between" "_depths_between" sDepthsBetween f fd) (GPeakDepths : FnOk P w K mg base CX0 5 g1 d1 ["size"] spRows) (APeakDepths : At K mg "_peak_depths" g1 d1 ["size"])
    (z_min : mg "min" = none) (z_max : mg "max" = none) : FnOk P w K mg base CX0 6 f fd ["size", "begin", "end"] spBetweenRows := by
  refine F.ok scDepthsBetween (fun vs H Q E h => ?_) (fun cdv A outer s H vs Q E hr h => ?_)
  · obtain ⟨_, _, _, rfl, _⟩ := h
    rfl
  obtain ⟨n, b, e, rfl, h1, h30, q⟩ := h
  refine ⟨_, (pss_cons (ps_set (i := 3) scDepthsBetween.nd rfl (Or.inl rfl) (pe_lst pa_nil))
    (pss_cons (ps_for PassesOwn.never rfl (pi_list (pe_call GPeakDepths (hr.mono (by decide)) rfl APeakDepths.m APeakDepths.kp APeakDepths.b .nil pass0 (pa_cons (pv 0) pa_nil))) (pg_tup (by rfl) (pgs_cons (pg_name (i := 4) scDepthsBetween.nd rfl (Or.inl rfl)) (pgs_cons (pg_name (i := 5) scDepthsBetween.nd rfl (Or.inl rfl)) (pgs_cons (pg_name (i := 6) scDepthsBetween.nd rfl (Or.inl rfl)) pgs_nil))))
    (pss_cons (ps_set (i := 7) scDepthsBetween.nd rfl (Or.inl rfl) (pe_op op_sub (pe_callB (call_min2 rfl) (by rfl) z_min (by decide +kernel) (pa_cons (pv 2) (pa_cons (pv 5) pa_nil))) (pe_callB (call_max2 rfl) (by rfl) z_max (by decide +kernel) (pa_cons (pv 1) (pa_cons (pv 4) pa_nil)))))
    (pss_one (ps_if (pt_cmpR op_gt (pv 7) pe_int (nomark _))
    (pss_one (ps_expr (pe_bm PySem.F.plainAttrs_list PySem.F.slot_list_append PySem.F.type_list_append mt_append (pv 3) (pa_cons (pe_tup (pa_cons (pv 7) (pa_cons (pv 6) pa_nil))) pa_nil))))
    pss_nil))))
    (pss_one (ps_ret (pv 3))))), ?_⟩
  refine ⟨Nat.zero_le _, fun fa nf => ?_⟩
  have sf := same_upd (o := .lst []) nf
  refine ⟨_, rfl, n, rfl, h1, h30, fun H1 pa xs sm0 npa hpa hxs => ?_⟩
  have T101 := rows_len n
  generalize lev (pk 101 n 0).length 0 (pk 101 n 0) = T at q hxs T101
  refine ⟨pa, rfl, ⟨_, SqL.of hpa⟩, for_list (K := K) (a := pa) (xs := xs) (fun i σ H' => ∃ (v4 v5 v6 v7 : Option V) (ys : List V), σ = [some (.int n), some (.int b), some (.int e), some (.ref fa), v4, v5, v6, v7] ∧ (∀ a o, a ≠ fa → H1 a = some o → H' a = some o) ∧ H' fa = some (.lst ys) ∧ All2 (Nd H') ys (db b e (T.take i)))
    ⟨none, none, none, none, [], rfl, fun a o _ k => k, sm0 _ _ upd_same, .nil⟩ (fun i σ H' _ ⟨_, _, _, _, _, _, sm, _⟩ => SqL.of (sm _ _ (fun z => by rw [z, upd_same] at npa; cases npa) hpa)) ?_ ?_⟩
  · rintro i x σ H2 hi ⟨v4, v5, v6, v7, ys, rfl, sm, hf, hy⟩
    obtain ⟨y, hyT, p, rfl, hp⟩ := hxs.nth hi
    have pf : p ≠ fa := fun z => by
      have k := sm0 _ _ (upd_same (H := H) (a := fa) (o := .lst []))
      rw [← z, hp] at k
      cases k
    have hp2 := sm _ _ pf hp
    have hdl : (db b e (T.take i)).length ≤ 101 := Nat.le_trans (db_len _ _ _) (by rw [List.length_take]; omega)
    refine ⟨p, _, rfl, SqT.of hp2, rfl, _, _, rfl, _, _, rfl, _, _, rfl, rfl, ?_⟩
    refine ⟨_, rfl, _, rfl, _, _, rfl, _, rfl, _, rfl, _, _, rfl, _, _, rfl, rfl, ?_⟩
    dsimp only
    rw [min_castA, max_castA]
    refine ⟨_, rfl, _, _, rfl, rfl, _, rfl, ite2 (fun c => ?_) (fun c => ?_)⟩
    · have c1 : ((min e y.2.1 : Nat) : Int) - ((max b y.1 : Nat) : Int) > 0 := of_decide_eq_true c
      have e1 : ((min e y.2.1 : Nat) : Int) - ((max b y.1 : Nat) : Int) = ((min e y.2.1 - max b y.1 : Nat) : Int) := by omega
      rw [e1]
      refine ⟨_, rfl, .inl ⟨rfl, _, SqL.of hf⟩, _, rfl, _, rfl, (by show 2 ≤ sizeLine; decide), fun t nt => ?_⟩
      have st := same_upd (o := .tup [.int ((min e y.2.1 - max b y.1 : Nat) : Int), .int (y.2.2 : Int)]) nt
      have hf5 := st _ _ hf
      refine ⟨fa, _, _, rfl, rfl, hf5, szlt (by rw [hy.len]; omega), ?_⟩
      refine ⟨_, _, _, _, ys ++ [.ref t], rfl, ?_, upd_same, ?_⟩
      · exact fun a o n k => by rw [upd_ne n]; exact st _ _ (sm _ _ n k)
      · rw [db_more hyT, if_pos (by omega)]
        refine (hy.mono (fun v x (k : Nd H2 v x) => (k.same st).upd hf5)).app (.cons ?_ .nil)
        exact Nd.upd (x := (min e y.2.1 - max b y.1, y.2.2)) ⟨t, rfl, upd_same⟩ hf5
    · have c1 : ¬ ((min e y.2.1 : Nat) : Int) - ((max b y.1 : Nat) : Int) > 0 := of_decide_eq_false (Bool.eq_false_iff.mpr c)
      refine ⟨_, _, _, _, ys, rfl, sm, hf, ?_⟩
      rw [db_more hyT, if_neg (by omega), List.append_nil]
      exact hy
  · rintro σ H2 ⟨v4, v5, v6, v7, ys, rfl, sm, hf, hy⟩
    have e : T.take xs.length = T := List.take_of_length_le (by rw [hxs.len]; exact Nat.le_refl _)
    rw [e] at hy
    exact ⟨_, rfl, q H2 fa ys (fun a o k => sm _ _ (ne_of_none k nf) (sm0 _ _ (sf _ _ k))) nf hf hy⟩
def spDepthSum : Sp := fun vs H Q _ => ∃ (n b e : Nat), vs = [.int n, .int b, .int e] ∧ b < e ∧ e ≤ n ∧ n ≤ 10 ^ 30 ∧ ∀ (H' : Hp), Same H H' → Q (.int ((total b e (lev (pk 101 n 0).length 0 (pk 101 n 0)) : Nat) : Int)) H'
theorem ok_depth_sum {f g1 g2 g3 : Addr} {fd d1 d2 d3 : FuncData} (F : Fun K "depth_sum" "depth_sum" sDepthSum f fd) (GCheckSize : FnOk P w K mg base CX0 3 g1 d1 ["size"] spCheckSize) (ACheckSize : At K mg "check_size" g1 d1 ["size"])
    (GCheckSpan : FnOk P w K mg base CX0 3 g2 d2 ["size", "begin", "end"] spCheckSpan) (ACheckSpan : At K mg "check_span" g2 d2 ["size", "begin", "end"])
    (GDepthsBetween : FnOk P w K mg base CX0 6 g3 d3 ["size", "begin", "end"] spBetweenRows) (ADepthsBetween : At K mg "_depths_between" g3 d3 ["size", "begin", "end"]) (z_sum : mg "sum" = none) : FnOk P w K mg base CX0 7 f fd ["size", "begin", "end"] spDepthSum := by
  refine F.ok scDepthSum (fun vs H Q E h => ?_) (fun cdv A outer s H vs Q E hr h => ?_)
  · obtain ⟨_, _, _, rfl, _⟩ := h
    rfl
  obtain ⟨n, b, e, rfl, h1, h2, h30, q⟩ := h
  refine ⟨_, (pss_cons (ps_expr (pe_call GCheckSize (hr.mono (by decide)) rfl ACheckSize.m ACheckSize.kp ACheckSize.b .nil pass0 (pa_cons (pv 0) pa_nil)))
    (pss_cons (ps_expr (pe_call GCheckSpan (hr.mono (by decide)) rfl ACheckSpan.m ACheckSpan.kp ACheckSpan.b .nil pass0 (pa_cons (pv 0) (pa_cons (pv 1) (pa_cons (pv 2) pa_nil)))))
    (pss_one (ps_ret (pe_callB (cr_sum rfl) (by rfl) z_sum (by decide +kernel) (pa_cons (pe_lc (own := [("count", 3), ("deep", 4)]) rfl scDepthSum.nd (pi_list (pe_call GDepthsBetween (hr.mono (by decide)) rfl ADepthsBetween.m ADepthsBetween.kp ADepthsBetween.b .nil pass0 (pa_cons (pv 0) (pa_cons (pv 1) (pa_cons (pv 2) pa_nil))))) (blkOk_by (N := ["size", "begin", "end", "count", "deep"]) (sc := defScope sDepthSum) (by decide +kernel)) (fun _ _ _ _ _ => (pg_tupB (n := 2) rfl (pgs_cons (pg_name (i := 3) scDepthSum.nd rfl (Or.inl rfl)) (pgs_cons (pg_name (i := 4) scDepthSum.nd rfl (Or.inl rfl)) pgs_nil)))) (fun _ _ _ _ _ => pts_nil) (fun _ _ _ _ _ => (pe_op op_mul (pv 3) (pv 4)))) pa_nil)))))), ?_⟩
  refine ⟨_, rfl, n, rfl, by omega, by omega, ?_⟩
  refine ⟨_, rfl, _, rfl, _, rfl, n, b, e, rfl, h1, h2, ?_⟩
  refine ⟨_, rfl, _, rfl, _, rfl, n, b, e, rfl, by omega, h30, fun H1 p xs sm np hp hx => ?_⟩
  have hd : ∀ z ∈ db b e (lev (pk 101 n 0).length 0 (pk 101 n 0)), z.2 ≤ 201 := fun z hz => db_deep z hz
  have hl : (db b e (lev (pk 101 n 0).length 0 (pk 101 n 0))).length ≤ 101 := Nat.le_trans (db_len _ _ _) (rows_len n)
  have q' : ∀ H', Same H H' → Q (.int ((((db b e (lev (pk 101 n 0).length 0 (pk 101 n 0))).map fun p => p.1 * p.2).sum : Nat) : Int)) H' := q
  generalize db b e (lev (pk 101 n 0).length 0 (pk 101 n 0)) = T at q' hx hd hl
  refine ⟨p, rfl, ⟨_, SqL.of hp⟩, fun D nD => lc_list (xs := xs) (fun i H' => Same H1 H' ∧ H' D = some (.lst (((T.take i).map fun z => ((z.1 * z.2 : Nat) : Int)).map V.int))) ⟨same_upd nD, upd_same⟩ (fun i H' _ k => SqL.of (k.1 _ _ hp)) ?_ ?_⟩
  · rintro i x H2 hi ⟨s2, hD⟩
    obtain ⟨y, hy, xp, rfl, hxp⟩ := hx.nth hi
    have il : i < T.length := (List.getElem?_eq_some_iff.mp hy).1
    have y2 := hd y (List.mem_of_getElem? hy)
    refine ⟨xp, _, rfl, SqT.of (s2 _ _ hxp), rfl, _, _, rfl, _, _, rfl, rfl, rfl, ?_⟩
    refine ⟨_, rfl, _, rfl, _, _, rfl, rfl, .inr ⟨by omega, by omega⟩, _, hD, szlt (by rw [List.length_map, List.length_map, List.length_take]; omega), ?_, ?_⟩
    · exact fun a o k => by rw [upd_ne (ne_of_none k nD)]; exact s2 _ _ k
    · rw [take_more hy, List.map_append, List.map_append]
      have em : ((y.1 : Nat) : Int) * ((y.2 : Nat) : Int) = ((y.1 * y.2 : Nat) : Int) := (Int.natCast_mul _ _).symm
      dsimp only
      rw [em]
      exact upd_same
  rintro H2 ⟨s2, hD⟩
  have et : T.take xs.length = T := List.take_of_length_le (by rw [hx.len]; exact Nat.le_refl _)
  rw [et] at hD
  refine ⟨D, _, rfl, SqL.of hD, ?_⟩
  have es : (T.map fun z => ((z.1 * z.2 : Nat) : Int)).sum = (((T.map fun p => p.1 * p.2).sum : Nat) : Int) := by
    rw [← sum_cast, List.map_map]
    rfl
  rw [es]
  exact q' _ (sm.trans s2)
def least (m : Int) (l : List (Nat × Nat)) : Prop := (∃ z ∈ l, m = (z.2 : Int)) ∧ ∀ z ∈ l, m ≤ (z.2 : Int)
def most (m : Int) (l : List (Nat × Nat)) : Prop := (∃ z ∈ l, m = (z.2 : Int)) ∧ ∀ z ∈ l, (z.2 : Int) ≤ m
def spDepthRange : Sp := fun vs H Q _ => ∃ (n b e : Nat), vs = [.int n, .int b, .int e] ∧ b < e ∧ e ≤ n ∧ n ≤ 10 ^ 30 ∧ db b e (lev (pk 101 n 0).length 0 (pk 101 n 0)) ≠ [] ∧
  ∀ (H' : Hp) (p : Addr) (lo hi : Int), Same H H' → H' p = some (.tup [.int lo, .int hi]) → least lo (db b e (lev (pk 101 n 0).length 0 (pk 101 n 0))) → most hi (db b e (lev (pk 101 n 0).length 0 (pk 101 n 0))) → Q (.ref p) H'
theorem ok_depth_range {f g1 g2 g3 : Addr} {fd d1 d2 d3 : FuncData} (F : Fun K "depth_range" "depth_range" sDepthRange f fd) (GCheckSize : FnOk P w K mg base CX0 3 g1 d1 ["size"] spCheckSize) (ACheckSize : At K mg "check_size" g1 d1 ["size"])
    (GCheckSpan : FnOk P w K mg base CX0 3 g2 d2 ["size", "begin", "end"] spCheckSpan) (ACheckSpan : At K mg "check_span" g2 d2 ["size", "begin", "end"])
    (GDepthsBetween : FnOk P w K mg base CX0 6 g3 d3 ["size", "begin", "end"] spBetweenRows) (ADepthsBetween : At K mg "_depths_between" g3 d3 ["size", "begin", "end"]) (z_min : mg "min" = none) (z_max : mg "max" = none) : FnOk P w K mg base CX0 7 f fd ["size", "begin", "end"] spDepthRange := by
  refine F.ok scDepthRange (fun vs H Q E h => ?_) (fun cdv A outer s H vs Q E hr h => ?_)
  · obtain ⟨_, _, _, rfl, _⟩ := h
    rfl
  obtain ⟨n, b, e, rfl, h1, h2, h30, hne, q⟩ := h
  refine' ⟨_, (pss_cons (ps_expr (pe_call GCheckSize (hr.mono (by decide)) rfl ACheckSize.m ACheckSize.kp ACheckSize.b .nil pass0 (pa_cons (pv 0) pa_nil)))
    (pss_cons (ps_expr (pe_call GCheckSpan (hr.mono (by decide)) rfl ACheckSpan.m ACheckSpan.kp ACheckSpan.b .nil pass0 (pa_cons (pv 0) (pa_cons (pv 1) (pa_cons (pv 2) pa_nil)))))
    (pss_cons ?cc1
    (pss_one (ps_ret (pe_tup (pa_cons (pe_callB (cr_min rfl) (by rfl) z_min (by decide +kernel) (pa_cons (pv 3) pa_nil)) (pa_cons (pe_callB (cr_max rfl) (by rfl) z_max (by decide +kernel) (pa_cons (pv 3) pa_nil)) pa_nil)))))))), ?_⟩
  case cc1 => exact (ps_setLc (i := 3) (own := [("_", 4), ("deep", 5)]) rfl scDepthRange.nd rfl rfl (sw_true rfl rfl rfl (by decide +kernel)) (pi_list (pe_call GDepthsBetween (hr.mono (by decide)) rfl ADepthsBetween.m ADepthsBetween.kp ADepthsBetween.b .nil pass0 (pa_cons (pv 0) (pa_cons (pv 1) (pa_cons (pv 2) pa_nil))))) (blkOk_by (N := ["size", "begin", "end", "found", "_", "deep"]) (sc := defScope sDepthRange) (by decide +kernel)) (fun _ _ _ _ _ => (pg_tupB (n := 2) rfl (pgs_cons (pg_name (i := 4) scDepthRange.nd rfl (Or.inl rfl)) (pgs_cons (pg_name (i := 5) scDepthRange.nd rfl (Or.inl rfl)) pgs_nil)))) (fun _ _ _ _ _ => pts_nil) (fun _ _ _ _ _ => (pv 5)))
  refine ⟨_, rfl, n, rfl, by omega, by omega, ?_⟩
  refine ⟨_, rfl, _, rfl, _, rfl, n, b, e, rfl, h1, h2, ?_⟩
  refine ⟨_, rfl, _, rfl, _, rfl, n, b, e, rfl, by omega, h30, fun H1 p xs sm np hp hx => ?_⟩
  have hl : (db b e (lev (pk 101 n 0).length 0 (pk 101 n 0))).length ≤ 101 := Nat.le_trans (db_len _ _ _) (rows_len n)
  generalize db b e (lev (pk 101 n 0).length 0 (pk 101 n 0)) = T at q hx hne hl
  refine ⟨p, rfl, ⟨_, SqL.of hp⟩, fun D nD => lc_list (xs := xs) (fun i H' => Same H1 H' ∧ H' D = some (.lst (((T.take i).map fun z => ((z.2 : Nat) : Int)).map V.int))) ⟨same_upd nD, upd_same⟩ (fun i H' _ k => SqL.of (k.1 _ _ hp)) ?_ ?_⟩
  · rintro i x H2 hi ⟨s2, hD⟩
    obtain ⟨y, hy, xp, rfl, hxp⟩ := hx.nth hi
    have il : i < T.length := (List.getElem?_eq_some_iff.mp hy).1
    refine ⟨xp, _, rfl, SqT.of (s2 _ _ hxp), rfl, _, _, rfl, _, _, rfl, rfl, rfl, ?_⟩
    refine ⟨_, rfl, _, hD, szlt (by rw [List.length_map, List.length_map, List.length_take]; omega), ?_, ?_⟩
    · exact fun a o k => by rw [upd_ne (ne_of_none k nD)]; exact s2 _ _ k
    · rw [take_more hy, List.map_append, List.map_append]
      exact upd_same
  rintro H2 ⟨s2, hD⟩
  have et : T.take xs.length = T := List.take_of_length_le (by rw [hx.len]; exact Nat.le_refl _)
  rw [et] at hD
  have hlen : 0 < (T.map fun z => ((z.2 : Nat) : Int)).length := by
    rw [List.length_map]
    exact List.length_pos_iff.mpr hne
  refine ⟨_, rfl, D, _, rfl, SqL.of hD, hlen, fun lo hlo hlo2 => ?_⟩
  refine ⟨_, rfl, D, _, rfl, SqL.of hD, hlen, fun hi hhi hhi2 => ?_⟩
  refine ⟨(by show 2 ≤ sizeLine; decide), fun u nu => ?_⟩
  refine q _ u lo hi (sm.trans (s2.trans (same_upd nu))) upd_same ⟨?_, ?_⟩ ⟨?_, ?_⟩
  · obtain ⟨z, h1, h2⟩ := List.mem_map.mp hlo
    exact ⟨z, h1, h2.symm⟩
  · exact fun z hz => hlo2 _ (List.mem_map.mpr ⟨z, hz, rfl⟩)
  · obtain ⟨z, h1, h2⟩ := List.mem_map.mp hhi
    exact ⟨z, h1, h2.symm⟩
  · exact fun z hz => hhi2 _ (List.mem_map.mpr ⟨z, hz, rfl⟩)
def firstOf (k : Int) : List (Nat × Nat × Nat) → V
  | [] => .non
  | x :: r => if (x.2.2 : Int) = k then .int (x.1 : Int) else firstOf k r
def spFirst : Sp := fun vs H Q _ => ∃ (n : Nat) (k : Int), vs = [.int n, .int k] ∧ 1 ≤ n ∧ n ≤ 10 ^ 30 ∧ ∀ (H' : Hp), Same H H' → Q (firstOf k (lev (pk 101 n 0).length 0 (pk 101 n 0))) H'
theorem ok_first_of_depth {f g1 g2 g3 : Addr} {fd d1 d2 d3 : FuncData} (F : Fun K "first_of_depth" "first_of_depth" sFirstOfDepth f fd) (GCheckSize : FnOk P w K mg base CX0 3 g1 d1 ["size"] spCheckSize) (ACheckSize : At K mg "check_size" g1 d1 ["size"])
    (GCheckNumber : FnOk P w K mg base CX0 2 g2 d2 ["number"] spCheckNumber) (ACheckNumber : At K mg "check_number" g2 d2 ["number"])
    (GPeakDepths : FnOk P w K mg base CX0 5 g3 d3 ["size"] spRows) (APeakDepths : At K mg "_peak_depths" g3 d3 ["size"]) : FnOk P w K mg base CX0 6 f fd ["size", "number"] spFirst := by
  refine F.ok scFirstOfDepth (fun vs H Q E h => ?_) (fun cdv A outer s H vs Q E hr h => ?_)
  · obtain ⟨_, _, rfl, _⟩ := h
    rfl
  obtain ⟨n, k, rfl, h1, h30, q⟩ := h
  refine ⟨_, (pss_cons (ps_expr (pe_call GCheckSize (hr.mono (by decide)) rfl ACheckSize.m ACheckSize.kp ACheckSize.b .nil pass0 (pa_cons (pv 0) pa_nil)))
    (pss_cons (ps_expr (pe_call GCheckNumber (hr.mono (by decide)) rfl ACheckNumber.m ACheckNumber.kp ACheckNumber.b .nil pass0 (pa_cons (pv 1) pa_nil)))
    (pss_cons (ps_for PassesOwn.never rfl (pi_list (pe_call GPeakDepths (hr.mono (by decide)) rfl APeakDepths.m APeakDepths.kp APeakDepths.b .nil pass0 (pa_cons (pv 0) pa_nil))) (pg_tup (by rfl) (pgs_cons (pg_name (i := 2) scFirstOfDepth.nd rfl (Or.inl rfl)) (pgs_cons (pg_name (i := 3) scFirstOfDepth.nd rfl (Or.inl rfl)) (pgs_cons (pg_name (i := 4) scFirstOfDepth.nd rfl (Or.inl rfl)) pgs_nil))))
    (pss_one (ps_if (pt_cmpR op_eq (pv 4) (pv 1) (nomark _))
    (pss_one (ps_ret (pv 2)))
    pss_nil)))
    (pss_one (ps_ret pe_non))))), ?_⟩
  refine ⟨_, rfl, n, rfl, by omega, by omega, ?_⟩
  refine ⟨_, rfl, k, rfl, ?_⟩
  refine ⟨_, rfl, n, rfl, h1, h30, fun H1 p xs sm np hp hx => ?_⟩
  generalize lev (pk 101 n 0).length 0 (pk 101 n 0) = T at q hx
  refine ⟨p, rfl, ⟨_, SqL.of hp⟩, for_list (K := K) (a := p) (xs := xs) (fun i σ H' => ∃ (v2 v3 v4 : Option V), σ = [some (.int n), some (.int k), v2, v3, v4] ∧ H' = H1 ∧ firstOf k (T.drop i) = firstOf k T)
    ⟨none, none, none, rfl, rfl, rfl⟩ (fun i σ H' _ ⟨_, _, _, _, s5, _⟩ => by rw [s5]; exact SqL.of hp) ?_ ?_⟩
  · rintro i x σ H2 hi ⟨v2, v3, v4, rfl, rfl, hk⟩
    obtain ⟨y, hy, xp, rfl, hxp⟩ := hx.nth hi
    have ed : T.drop i = y :: T.drop (i + 1) := List.drop_eq_getElem_cons (List.getElem?_eq_some_iff.mp hy).1 ▸ (by rw [(List.getElem?_eq_some_iff.mp hy).2])
    have ef : firstOf k (T.drop i) = if (y.2.2 : Int) = k then .int (y.1 : Int) else firstOf k (T.drop (i + 1)) := by rw [ed]; rfl
    refine ⟨xp, _, rfl, SqT.of hxp, rfl, _, _, rfl, _, _, rfl, _, _, rfl, rfl, ?_⟩
    refine ⟨_, rfl, _, rfl, rfl, _, rfl, ite2 (fun c => ?_) (fun c => ?_)⟩
    · have c1 : V.int (y.2.2 : Int) = V.int k := of_decide_eq_true c
      rw [ef, if_pos (V.int.inj c1)] at hk
      refine ⟨_, rfl, ?_⟩
      show Q (.int (y.1 : Int)) _
      rw [hk]
      exact q _ sm
    · have c1 : ¬ V.int (y.2.2 : Int) = V.int k := of_decide_eq_false (Bool.eq_false_iff.mpr c)
      rw [ef, if_neg (fun z => c1 (by rw [z]))] at hk
      exact ⟨_, _, _, rfl, rfl, hk⟩
  · rintro σ H2 ⟨v2, v3, v4, rfl, rfl, hk⟩
    have ed : T.drop xs.length = [] := List.drop_eq_nil_of_le (by rw [hx.len]; exact Nat.le_refl _)
    rw [ed] at hk
    show Q .non _
    have k2 : V.non = firstOf k T := hk
    rw [k2]
    exact q _ sm
end
end LT

namespace LT
open PySem PySem.Spec PyProof.Rows L2
/-! ### lists of ints as data -/
theorem ints_lay : ∀ ns : List Int, PyData.canLayAll0 (ns.map PyData.int) = true
  | [] => by simp [PyData.canLayAll0]
  | n :: ns => by simp [PyData.canLayAll0, PyData.canLay0, ints_lay ns]
theorem ints_depth : ∀ ns : List Int, PyData.depthAll (ns.map PyData.int) ≤ 1
  | [] => by simp [PyData.depthAll]
  | n :: ns => by
    have := ints_depth ns
    simp only [List.map_cons, PyData.depthAll, PyData.depth]
    omega
theorem ints_shaped (ns : List Int) : SeqAt.shaped (.list (ns.map PyData.int)) = true := by
  have h := ints_depth ns
  have h2 : PyData.depth (.list (ns.map PyData.int)) ≤ 64 := by
    simp only [PyData.depth]
    omega
  show (PyData.canLay0 (.list (ns.map PyData.int)) && decide (PyData.depth (.list (ns.map PyData.int)) ≤ 64)) = true
  rw [Bool.and_eq_true]
  exact ⟨by simp only [PyData.canLay0]; exact ints_lay ns, decide_eq_true h2⟩
theorem ints_dp {K : PySem.W.Frag} {H : Hp} : ∀ ns : List Int, DpAll K H (ns.map V.int) (ns.map PyData.int)
  | [] => .nil
  | n :: ns => .cons (.int n) (ints_dp ns)
theorem ints_nil : ∀ ns : List Int, PyData.eqv (.list (ns.map PyData.int)) (.list []) = ns.isEmpty
  | [] => by simp only [List.map_nil, PyData.eqv, PyData.eqvAll, List.isEmpty_nil]
  | n :: ns => by simp only [List.map_cons, PyData.eqv, PyData.eqvAll, List.isEmpty_cons]
theorem nil_shaped : SeqAt.shaped (.list []) = true := ints_shaped []
end LT

namespace LT
open PySem PySem.Spec PyProof.Rows L2
/-! ### the sums over the rows -/
def cut (b e : Nat) (x : Nat × Nat × Nat) : Nat × Nat × Nat := (max b x.1, min e x.2.1, x.2.2)
def parts (b e : Nat) (T : List (Nat × Nat × Nat)) : List (Nat × Nat × Nat) := (T.map (cut b e)).filter fun x => decide (x.1 < x.2.1)
theorem db_parts (b e : Nat) (T : List (Nat × Nat × Nat)) : db b e T = (parts b e T).map fun x => (x.2.1 - x.1, x.2.2) := by
  unfold db parts
  rw [List.filter_map, List.map_map]
  rfl
theorem due_total (b e : Nat) (T : List (Nat × Nat × Nat)) : (((parts b e T).map fun x => (((x.2.1 : Nat) : Int) - ((x.1 : Nat) : Int)) * ((x.2.2 : Nat) : Int)).sum : Int) = ((total b e T : Nat) : Int) := by
  unfold total
  rw [db_parts, ← sum_cast, List.map_map, List.map_map]
  congr 1
  apply List.map_congr_left
  intro x hx
  unfold parts at hx
  have c := of_decide_eq_true (List.mem_filter.mp hx).2
  have e1 : ((x.2.1 : Nat) : Int) - ((x.1 : Nat) : Int) = ((x.2.1 - x.1 : Nat) : Int) := by omega
  show _ = (((x.2.1 - x.1) * x.2.2 : Nat) : Int)
  rw [e1, Int.natCast_mul]
theorem total_cons (b e : Nat) (x : Nat × Nat × Nat) (T : List (Nat × Nat × Nat)) : total b e (x :: T) = (min e x.2.1 - max b x.1) * x.2.2 + total b e T := by
  unfold total db
  rw [List.filter_cons]
  by_cases c : max b x.1 < min e x.2.1
  · rw [if_pos (decide_eq_true c)]; rfl
  · rw [if_neg (by simpa using c), show min e x.2.1 - max b x.1 = 0 by omega, Nat.zero_mul, Nat.zero_add]
theorem total_split {b m e : Nat} : ∀ {T : List (Nat × Nat × Nat)}, (∀ x ∈ T, x.1 < x.2.1) → b ≤ m → m ≤ e → total b m T + total m e T = total b e T
  | [], _, _, _ => rfl
  | x :: T, h, h1, h2 => by
    have ih := total_split (T := T) (fun y hy => h y (List.mem_cons_of_mem _ hy)) h1 h2
    have hx := h x List.mem_cons_self
    rw [total_cons, total_cons, total_cons]
    have k : (min m x.2.1 - max b x.1) + (min e x.2.1 - max m x.1) = min e x.2.1 - max b x.1 := by omega
    rw [← k, Nat.add_mul]
    omega
theorem total_one {m : Nat} : ∀ {T : List (Nat × Nat × Nat)}, (∀ x ∈ T, x.1 < x.2.1) → total m (m + 1) T = (due m T).sum
  | [], _ => rfl
  | x :: T, h => by
    have ih := total_one (m := m) (T := T) (fun y hy => h y (List.mem_cons_of_mem _ hy))
    have hx := h x List.mem_cons_self
    rw [total_cons]
    unfold due at *
    rw [List.filter_cons]
    by_cases c : x.1 ≤ m ∧ m < x.2.1
    · rw [if_pos (by rw [Bool.and_eq_true]; exact ⟨decide_eq_true c.1, decide_eq_true c.2⟩), List.map_cons, List.sum_cons, ← ih, show min (m + 1) x.2.1 - max m x.1 = 1 by omega, Nat.one_mul]
    · rw [if_neg (by rw [Bool.and_eq_true]; intro z; exact c ⟨of_decide_eq_true z.1, of_decide_eq_true z.2⟩), ← ih, show min (m + 1) x.2.1 - max m x.1 = 0 by omega, Nat.zero_mul, Nat.zero_add]
theorem db_ne {b e k : Nat} {T : List (Nat × Nat × Nat)} (h : due b T = [k]) (hbe : b < e) : db b e T ≠ [] := by
  have m : k ∈ due b T := by rw [h]; exact List.mem_singleton.mpr rfl
  unfold due at m
  obtain ⟨x, hx, _⟩ := List.mem_map.mp m
  obtain ⟨hx1, hx2⟩ := List.mem_filter.mp hx
  rw [Bool.and_eq_true] at hx2
  have h1 := of_decide_eq_true hx2.1
  have h2 := of_decide_eq_true hx2.2
  intro z
  have : (min e x.2.1 - max b x.1, x.2.2) ∈ db b e T := List.mem_map.mpr ⟨x, List.mem_filter.mpr ⟨hx1, decide_eq_true (by omega)⟩, rfl⟩
  rw [z] at this
  exact absurd this List.not_mem_nil
theorem rows_lt (n : Nat) (x : Nat × Nat × Nat) (h : x ∈ lev (pk 101 n 0).length 0 (pk 101 n 0)) : x.1 < x.2.1 := by
  have gen : ∀ (l : List (Nat × Nat)) (t s : Nat) (x : Nat × Nat × Nat), x ∈ lev t s l → x.1 < x.2.1 := by
    intro l
    induction l with
    | nil => intro t s x h; simp [lev] at h
    | cons y r ih =>
      intro t s x h
      have h' : x ∈ (y.1, y.1 + 2 ^ y.2, y.2 + min (s + 1) (t - 1)) :: lev t (s + 1) r := h
      rcases List.mem_cons.mp h' with h | h
      · subst h
        have := Nat.pow_pos (a := 2) (n := y.2) (by decide)
        simp only []
        omega
      · exact ih t (s + 1) x h
  exact gen _ _ _ x h
theorem rows_due {n : Nat} (h30 : n ≤ 10 ^ 30) (m : Nat) (hm : m < n) : due m (lev (pk 101 n 0).length 0 (pk 101 n 0)) = [(sib 0 n m).length] := by
  have q := due_is n m 101 0 0 (Nat.zero_le _) (by rw [Nat.mod_eq_of_lt (Nat.lt_of_le_of_lt h30 (by decide))]; omega)
  rw [Nat.mod_eq_of_lt (Nat.lt_of_le_of_lt h30 (by decide)), Nat.zero_add, Nat.zero_min, Nat.add_zero] at q
  exact q
theorem least_one {m k : Int} {l : List (Nat × Nat)} (h1 : least m l) (h2 : least k l) : m = k := by
  obtain ⟨⟨x, hx, ex⟩, lx⟩ := h1
  obtain ⟨⟨y, hy, ey⟩, ly⟩ := h2
  have a := lx y hy
  have b := ly x hx
  omega
theorem most_one {m k : Int} {l : List (Nat × Nat)} (h1 : most m l) (h2 : most k l) : m = k := by
  obtain ⟨⟨x, hx, ex⟩, lx⟩ := h1
  obtain ⟨⟨y, hy, ey⟩, ly⟩ := h2
  have a := lx y hy
  have b := ly x hx
  omega
def fits (k : Int) (T : List (Nat × Nat × Nat)) : List Int := (T.filter fun x => decide ((x.2.2 : Int) = k)).map fun x => (x.1 : Int)
theorem first_fits (k : Int) : ∀ T : List (Nat × Nat × Nat), firstOf k T = match fits k T with | [] => V.non | z :: _ => V.int z
  | [] => rfl
  | x :: T => by
    show (if (x.2.2 : Int) = k then V.int (x.1 : Int) else firstOf k T) = _
    unfold fits
    rw [List.filter_cons]
    by_cases c : (x.2.2 : Int) = k
    · rw [if_pos c, if_pos (decide_eq_true c)]; rfl
    · rw [if_neg c, if_neg (by simpa using c)]
      exact first_fits k T
end LT

namespace LT
open PySem PySem.Spec PyProof.Rows L2
section
variable {P : Program} {w : World} {K : PySem.W.Frag} {mg : Str → Option Value} {base : Heap}
def spRight : Sp := fun vs H Q _ => ∃ (b : Addr), vs = [.ref b] ∧ BagAt H b ∧ ∀ (H' : Hp), But b H H' → BagAt H' b → Q (.bl true) H'
theorem ok_law_right {f g1 g2 g3 g4 g5 g6 g7 : Addr} {fd d1 d2 d3 d4 d5 d6 d7 : FuncData} (F : Fun K "_law_right" "_law_right" sLawRight f fd)
    (GLawSize : FnOk P w K mg base CX0 2 g1 d1 ["bag"] spSize) (ALawSize : At K mg "_law_size" g1 d1 ["bag"])
    (GLawLevels : FnOk P w K mg base CX0 2 g2 d2 ["size"] spLevels) (ALawLevels : At K mg "_law_levels" g2 d2 ["size"])
    (GLawPick : FnOk P w K mg base CX0 1 g3 d3 ["bag", "many"] spPick) (ALawPick : At K mg "_law_pick" g3 d3 ["bag", "many"])
    (GDepthSum : FnOk P w K mg base CX0 7 g4 d4 ["size", "begin", "end"] spDepthSum) (ADepthSum : At K mg "depth_sum" g4 d4 ["size", "begin", "end"])
    (GDepthRange : FnOk P w K mg base CX0 7 g5 d5 ["size", "begin", "end"] spDepthRange) (ADepthRange : At K mg "depth_range" g5 d5 ["size", "begin", "end"])
    (GDepth : FnOk P w K mg base CX0 7 g6 d6 ["size", "entry"] spDepth) (ADepth : At K mg "depth" g6 d6 ["size", "entry"])
    (GFirstOfDepth : FnOk P w K mg base CX0 6 g7 d7 ["size", "number"] spFirst) (AFirstOfDepth : At K mg "first_of_depth" g7 d7 ["size", "number"])
    (z_max : mg "max" = none) (z_min : mg "min" = none) (z_len : mg "len" = none) (z_sum : mg "sum" = none) (z_range : mg "range" = none) :
    FnOk P w K mg base CX0 8 f fd ["bag"] spRight := by
  refine F.ok scLawRight (fun vs H Q E h => ?_) (fun cdv A outer s H vs Q E hr h => ?_)
  · obtain ⟨_, rfl, _⟩ := h
    rfl
  obtain ⟨bg, rfl, hb, q⟩ := h
  refine' ⟨_, (pss_cons (ps_set (i := 1) scLawRight.nd rfl (Or.inl rfl) (pe_call GLawSize (hr.mono (by decide)) rfl ALawSize.m ALawSize.kp ALawSize.b .nil pass0 (pa_cons (pv 0) pa_nil)))
    (pss_cons (ps_set (i := 2) scLawRight.nd rfl (Or.inl rfl) (pe_call GLawLevels (hr.mono (by decide)) rfl ALawLevels.m ALawLevels.kp ALawLevels.b .nil pass0 (pa_cons (pv 1) pa_nil)))
    (pss_cons (ps_for PassesOwn.never rfl (pi_range1 (by rfl) z_range (pa_cons pe_int pa_nil)) (pg_name (i := 3) scLawRight.nd rfl (Or.inl rfl))
    (pss_cons (ps_set (i := 4) scLawRight.nd rfl (Or.inr rfl) (pe_ix ix_list (pe_lst (pa_cons pe_int (pa_cons (pe_call GLawPick (hr.mono (by decide)) rfl ALawPick.m ALawPick.kp ALawPick.b .nil pass0 (pa_cons (pv 0) (pa_cons (pv 1) pa_nil))) pa_nil))) (pe_call GLawPick (hr.mono (by decide)) rfl ALawPick.m ALawPick.kp ALawPick.b .nil pass0 (pa_cons (pv 0) (pa_cons pe_int pa_nil))) (fun _ _ => rfl)))
    (pss_cons (ps_set (i := 5) scLawRight.nd rfl (Or.inr rfl) (pe_ix ix_list (pe_lst (pa_cons (pv 1) (pa_cons (pe_op op_add (pe_op op_add (pv 4) pe_int) (pe_call GLawPick (hr.mono (by decide)) rfl ALawPick.m ALawPick.kp ALawPick.b .nil pass0 (pa_cons (pv 0) (pa_cons (pe_op op_sub (pv 1) (pv 4)) pa_nil)))) pa_nil))) (pe_call GLawPick (hr.mono (by decide)) rfl ALawPick.m ALawPick.kp ALawPick.b .nil pass0 (pa_cons (pv 0) (pa_cons pe_int pa_nil))) (fun _ _ => rfl)))
    (pss_cons ?cc1
    (pss_cons ?cc2
    (pss_cons (ps_set (i := 8) scLawRight.nd rfl (Or.inl rfl) (pe_callB (cr_sum rfl) (by rfl) z_sum (by decide +kernel) (pa_cons (pe_lc (own := [("low", 13), ("high", 14), ("number", 6)]) rfl scLawRight.nd (pi_list (pv 7)) (blkOk_by (N := ["bag", "size", "levels", "turn", "begin", "end", "number", "parts", "due", "numbers", "middle", "ahead", "fit", "low", "high", "part", "there"]) (sc := defScope sLawRight) (by decide +kernel)) (fun _ _ _ _ _ => (pg_tupB (n := 3) rfl (pgs_cons (pg_name (i := 13) scLawRight.nd rfl (Or.inl rfl)) (pgs_cons (pg_name (i := 14) scLawRight.nd rfl (Or.inl rfl)) (pgs_cons (pg_name (i := 6) scLawRight.nd rfl (Or.inl rfl)) pgs_nil))))) (fun _ _ _ _ _ => pts_nil) (fun _ _ _ _ _ => (pe_op op_mul (pe_op op_sub (pv 14) (pv 13)) (pv 6)))) pa_nil)))
    (pss_cons ?cc3
    (pss_cons (ps_if (PW.pt (pw_or (pt_cmpR op_ne (pe_call GDepthSum (hr.mono (by decide)) rfl ADepthSum.m ADepthSum.kp ADepthSum.b .nil pass0 (pa_cons (pv 1) (pa_cons (pv 4) (pa_cons (pv 5) pa_nil)))) (pv 8) (nomark _)) (pw_or1 (pt_cmpR (op_neD hr.units) (pe_call GDepthRange (hr.mono (by decide)) rfl ADepthRange.m ADepthRange.kp ADepthRange.b .nil pass0 (pa_cons (pv 1) (pa_cons (pv 4) (pa_cons (pv 5) pa_nil)))) (pe_tup (pa_cons (pe_callB (cr_min rfl) (by rfl) z_min (by decide +kernel) (pa_cons (pv 9) pa_nil)) (pa_cons (pe_callB (cr_max rfl) (by rfl) z_max (by decide +kernel) (pa_cons (pv 9) pa_nil)) pa_nil))) (nomark _)))))
    (pss_one (ps_ret pe_bl))
    pss_nil)
    (pss_cons (ps_set (i := 10) scLawRight.nd rfl (Or.inl rfl) (pe_op op_add (pv 4) (pe_call GLawPick (hr.mono (by decide)) rfl ALawPick.m ALawPick.kp ALawPick.b .nil pass0 (pa_cons (pv 0) (pa_cons (pe_op op_sub (pv 5) (pv 4)) pa_nil)))))
    (pss_cons (ps_set (i := 11) scLawRight.nd rfl (Or.inl rfl) (pe_ifExp (pt_cmpR op_gt (pv 10) (pv 4) (nomark _)) (pe_call GDepthSum (hr.mono (by decide)) rfl ADepthSum.m ADepthSum.kp ADepthSum.b .nil pass0 (pa_cons (pv 1) (pa_cons (pv 4) (pa_cons (pv 10) pa_nil)))) pe_int))
    (pss_cons (ps_if (pt_cmpR op_ne (pe_op op_add (pv 11) (pe_call GDepthSum (hr.mono (by decide)) rfl ADepthSum.m ADepthSum.kp ADepthSum.b .nil pass0 (pa_cons (pv 1) (pa_cons (pv 10) (pa_cons (pv 5) pa_nil))))) (pv 8) (nomark _))
    (pss_one (ps_ret pe_bl))
    pss_nil)
    (pss_one (ps_if (pt_cmpR op_ne (pe_call GDepthSum (hr.mono (by decide)) rfl ADepthSum.m ADepthSum.kp ADepthSum.b .nil pass0 (pa_cons (pv 1) (pa_cons (pv 10) (pa_cons (pe_op op_add (pv 10) pe_int) pa_nil)))) (pe_call GDepth (hr.mono (by decide)) rfl ADepth.m ADepth.kp ADepth.b .nil pass0 (pa_cons (pv 1) (pa_cons (pv 10) pa_nil))) (nomark _))
    (pss_one (ps_ret pe_bl))
    pss_nil)))))))))))))
    (pss_cons (ps_for PassesOwn.never rfl (pi_list (pe_lst (pa_cons (pe_ix ix_tup (pe_ix ix_list (pv 2) (pe_call GLawPick (hr.mono (by decide)) rfl ALawPick.m ALawPick.kp ALawPick.b .nil pass0 (pa_cons (pv 0) (pa_cons (pe_callB call_len_seq (by rfl) z_len PySem.boot_len (pa_cons (pv 2) pa_nil)) pa_nil))) (fun _ _ => rfl)) pe_int (fun _ _ => rfl)) (pa_cons (pe_call GLawPick (hr.mono (by decide)) rfl ALawPick.m ALawPick.kp ALawPick.b .nil pass0 (pa_cons (pv 0) (pa_cons pe_int pa_nil))) (pa_cons (pe_un un_neg pe_int) (pa_cons (pe_op op_pow pe_int pe_int) pa_nil)))))) (pg_name (i := 6) scLawRight.nd rfl (Or.inr rfl))
    (pss_cons ?cc4
    (pss_one (ps_if (pt_cmpR op_ne (pe_call GFirstOfDepth (hr.mono (by decide)) rfl AFirstOfDepth.m AFirstOfDepth.kp AFirstOfDepth.b .nil pass0 (pa_cons (pv 1) (pa_cons (pv 6) pa_nil))) (pe_ifExp (pt_cmpR (op_neD hr.units) (pv 12) (pe_lst pa_nil) (nomark _)) (pe_ix ix_list (pv 12) pe_int (fun _ _ => rfl)) pe_non) (nomark _))
    (pss_one (ps_ret pe_bl))
    pss_nil))))
    (pss_one (ps_ret pe_bl)))))), ?_⟩
  case cc1 => exact (ps_setLc (i := 7) (own := [("low", 13), ("high", 14), ("number", 6)]) rfl scLawRight.nd rfl rfl (sw_true rfl rfl rfl (by decide +kernel)) (pi_list (pv 2)) (blkOk_by (N := ["bag", "size", "levels", "turn", "begin", "end", "number", "parts", "due", "numbers", "middle", "ahead", "fit", "low", "high", "part", "there"]) (sc := defScope sLawRight) (by decide +kernel)) (fun _ _ _ _ _ => (pg_tupB (n := 3) rfl (pgs_cons (pg_name (i := 13) scLawRight.nd rfl (Or.inl rfl)) (pgs_cons (pg_name (i := 14) scLawRight.nd rfl (Or.inl rfl)) (pgs_cons (pg_name (i := 6) scLawRight.nd rfl (Or.inl rfl)) pgs_nil))))) (fun _ _ _ _ _ => pts_nil) (fun _ _ _ _ _ => (pe_tup (pa_cons (pe_callB (call_max2 rfl) (by rfl) z_max (by decide +kernel) (pa_cons (pv 4) (pa_cons (pv 13) pa_nil))) (pa_cons (pe_callB (call_min2 rfl) (by rfl) z_min (by decide +kernel) (pa_cons (pv 5) (pa_cons (pv 14) pa_nil))) (pa_cons (pv 6) pa_nil))))))
  case cc2 => exact (ps_setLc (i := 7) (own := [("part", 15)]) rfl scLawRight.nd rfl rfl (sw_true rfl rfl rfl (by decide +kernel)) (pi_list (pv 7)) (blkOk_by (N := ["bag", "size", "levels", "turn", "begin", "end", "number", "parts", "due", "numbers", "middle", "ahead", "fit", "low", "high", "part", "there"]) (sc := defScope sLawRight) (by decide +kernel)) (fun _ _ _ _ _ => (pg_name (i := 15) scLawRight.nd rfl (Or.inl rfl))) (fun _ _ _ _ _ => pts_one (pt_cmpR op_lt (pe_ix ix_tupB (pv 15) pe_int (fun _ _ => rfl)) (pe_ix ix_tupB (pv 15) pe_int (fun _ _ => rfl)) (nomark _))) (fun _ _ _ _ _ => (pv 15)))
  case cc3 => exact (ps_setLc (i := 9) (own := [("low", 13), ("high", 14), ("number", 6)]) rfl scLawRight.nd rfl rfl (sw_true rfl rfl rfl (by decide +kernel)) (pi_list (pv 7)) (blkOk_by (N := ["bag", "size", "levels", "turn", "begin", "end", "number", "parts", "due", "numbers", "middle", "ahead", "fit", "low", "high", "part", "there"]) (sc := defScope sLawRight) (by decide +kernel)) (fun _ _ _ _ _ => (pg_tupB (n := 3) rfl (pgs_cons (pg_name (i := 13) scLawRight.nd rfl (Or.inl rfl)) (pgs_cons (pg_name (i := 14) scLawRight.nd rfl (Or.inl rfl)) (pgs_cons (pg_name (i := 6) scLawRight.nd rfl (Or.inl rfl)) pgs_nil))))) (fun _ _ _ _ _ => pts_nil) (fun _ _ _ _ _ => (pv 6)))
  case cc4 => exact (ps_setLc (i := 12) (own := [("low", 13), ("high", 14), ("there", 16)]) rfl scLawRight.nd rfl rfl (sw_true rfl rfl rfl (by decide +kernel)) (pi_list (pv 2)) (blkOk_by (N := ["bag", "size", "levels", "turn", "begin", "end", "number", "parts", "due", "numbers", "middle", "ahead", "fit", "low", "high", "part", "there"]) (sc := defScope sLawRight) (by decide +kernel)) (fun _ _ _ _ _ => (pg_tupB (n := 3) rfl (pgs_cons (pg_name (i := 13) scLawRight.nd rfl (Or.inl rfl)) (pgs_cons (pg_name (i := 14) scLawRight.nd rfl (Or.inl rfl)) (pgs_cons (pg_name (i := 16) scLawRight.nd rfl (Or.inl rfl)) pgs_nil))))) (fun _ _ _ _ _ => pts_one (pt_cmpR op_eq (pv 16) (pv 6) (nomark _))) (fun _ _ _ _ _ => (pv 13)))
  refine ⟨_, rfl, bg, rfl, hb, fun n H1 n1 n30 B1 hb1 => ?_⟩
  refine ⟨_, rfl, n, rfl, fun H2 p xs sm2 np hp hx => ?_⟩
  have hb2 := hb1.same sm2
  have hpb : p ≠ bg := fun e => by obtain ⟨_, _, _, e2⟩ := hb1; rw [← e, np] at e2; cases e2
  have T101 := rows_len n
  have hT := rows_lt n
  have hdue := rows_due n30
  have hdeep := rows_deep n
  have hTne : 1 ≤ (lev (pk 101 n 0).length 0 (pk 101 n 0)).length := by
    rw [lev_len]
    have k := pk_ne 101 n 0 (by rw [Nat.mod_eq_of_lt (Nat.lt_of_le_of_lt n30 (by decide))]; omega)
    cases hh : pk 101 n 0 with
    | nil => exact absurd hh k
    | cons _ _ => rw [List.length_cons]; omega
  have tup_ne : ∀ {Ha : Hp} {u : Addr} {o : List V}, BagAt Ha bg → Ha u = some (.tup o) → u ≠ bg := fun hbx hu e => by
    obtain ⟨_, _, _, e3⟩ := hbx
    rw [e, e3] at hu
    cases hu
  have hxB : ∀ {H' : Hp}, But bg H2 H' → All2 (Tr H') xs (lev (pk 101 n 0).length 0 (pk 101 n 0)) := fun B => hx.mono (fun v x (k : Tr H2 v x) => by
    obtain ⟨u, e1, e2⟩ := k
    exact ⟨u, e1, B _ _ (tup_ne hb2 e2) e2⟩)
  have xl : xs.length = (lev (pk 101 n 0).length 0 (pk 101 n 0)).length := hx.len
  have B02 := B1.trans (But.of sm2)
  refine ⟨4, rfl, by decide, by decide, for_range (lo := 0) (n := 4) (fun i σ H' => ∃ v3 v4 v5 v6 v7 v8 v9 v10 v11 v12 : Option V, σ = [some (.ref bg), some (.int n), some (.ref p), v3, v4, v5, v6, v7, v8, v9, v10, v11, v12, none, none, none, none] ∧ But bg H2 H' ∧ BagAt H' bg)
    ⟨none, none, none, none, none, none, none, none, none, none, rfl, But.refl _ _, hb2⟩ ?_ ?_⟩
  · rintro i σ H3 hi ⟨v3, v4, v5, v6, v7, v8, v9, v10, v11, v12, rfl, B3, hb3⟩
    -- begin
    refine ⟨_, rfl, _, rfl, bg, (n : Int), rfl, by omega, (show _ < 2 ^ 250 by omega), hb3, fun r H4 r0 r1 k4 hb4 => ?_⟩
    refine ⟨(by show 2 ≤ sizeLine; decide), fun l nl => ?_⟩
    obtain ⟨rn, rfl⟩ := Int.eq_ofNat_of_zero_le r0
    have lb : l ≠ bg := fun e => by obtain ⟨_, _, _, e2⟩ := hb4; rw [← e, nl] at e2; cases e2
    have sl := same_upd (o := .lst [.int 0, .int (rn : Int)]) nl
    refine ⟨_, rfl, bg, 2, rfl, by decide, by decide, hb4.same sl, fun r2 H5 r20 r21 k5 hb5 => ?_⟩
    have hl5 : H5 l = some (.lst [.int 0, .int (rn : Int)]) := by rw [k5 l lb]; exact upd_same
    obtain ⟨r2n, rfl⟩ := Int.eq_ofNat_of_zero_le r20
    obtain ⟨b, hbat, hbn⟩ : ∃ b : Nat, atI [V.int 0, V.int (rn : Int)] (r2n : Int) = some (.int (b : Int)) ∧ b < n := by
      have : r2n = 0 ∨ r2n = 1 := by omega
      rcases this with h | h
      · subst h; exact ⟨0, atI_nat (j := 0) rfl, by omega⟩
      · subst h; exact ⟨rn, atI_nat (j := 1) rfl, by omega⟩
    have B5 : But bg H2 H5 := fun a o h k => by rw [k5 a h]; exact sl _ _ (by rw [k4 a h]; exact B3 a o h k)
    refine ⟨l, _, _, _, rfl, rfl, SqL.of hl5, hbat, ?_⟩
    -- end
    refine ⟨_, rfl, _, rfl, _, _, rfl, rfl, _, rfl, _, rfl, _, rfl, _, _, rfl, rfl, bg, (n : Int) - (b : Int), rfl, by omega, (show _ < 2 ^ 250 by omega), hb5, fun r6 H6 r60 r61 k6 hb6 => ⟨_, _, rfl, rfl, (by show 2 ≤ sizeLine; decide), fun l7 nl7 => ?_⟩⟩
    obtain ⟨r6n, rfl⟩ := Int.eq_ofNat_of_zero_le r60
    have lb7 : l7 ≠ bg := fun e => by obtain ⟨_, _, _, e2⟩ := hb6; rw [← e, nl7] at e2; cases e2
    have sl7 := same_upd (o := .lst [.int (n : Int), .int ((b : Int) + 1 + (r6n : Int))]) nl7
    refine ⟨_, rfl, bg, 2, rfl, by decide, by decide, hb6.same sl7, fun r8 H8 r80 r81 k8 hb8 => ?_⟩
    have hl8 : H8 l7 = some (.lst [.int (n : Int), .int ((b : Int) + 1 + (r6n : Int))]) := by rw [k8 l7 lb7]; exact upd_same
    obtain ⟨r8n, rfl⟩ := Int.eq_ofNat_of_zero_le r80
    obtain ⟨e, heat, he1, he2⟩ : ∃ e : Nat, atI [V.int (n : Int), V.int ((b : Int) + 1 + (r6n : Int))] (r8n : Int) = some (.int (e : Int)) ∧ b < e ∧ e ≤ n := by
      have : r8n = 0 ∨ r8n = 1 := by omega
      rcases this with h | h
      · subst h; exact ⟨n, atI_nat (j := 0) rfl, hbn, Nat.le_refl _⟩
      · subst h; exact ⟨b + 1 + r6n, by rw [show ((b + 1 + r6n : Nat) : Int) = (b : Int) + 1 + (r6n : Int) by omega]; exact atI_nat (j := 1) rfl, by omega, by omega⟩
    have B8 : But bg H2 H8 := fun a o h k => by rw [k8 a h]; exact sl7 _ _ (by rw [k6 a h]; exact B5 a o h k)
    refine ⟨l7, _, _, _, rfl, rfl, SqL.of hl8, heat, ?_⟩
    have hp8 := B8 _ _ hpb hp
    have hx8 := hxB B8
    have hdb : db b e (lev (pk 101 n 0).length 0 (pk 101 n 0)) ≠ [] := db_ne (hdue b hbn) he1
    -- parts
    generalize hTT : lev (pk 101 n 0).length 0 (pk 101 n 0) = T at hx8 T101 hT hdue hdeep hdb xl
    refine ⟨_, rfl, p, rfl, ⟨_, SqL.of hp8⟩, fun D1 nD1 => lc_list (xs := xs) (fun i H' => ∃ ys : List V, Same H8 H' ∧ H' D1 = some (.lst ys) ∧ All2 (Tr H') ys ((T.take i).map (cut b e))) ⟨[], same_upd nD1, upd_same, .nil⟩ (fun i H' _ ⟨_, k, _⟩ => SqL.of (k _ _ hp8)) ?_ ?_⟩
    · rintro i x H9 hi ⟨ys, s9, hD, hy9⟩
      obtain ⟨y, hy, xp, rfl, hxp⟩ := hx8.nth hi
      have il : i < T.length := (List.getElem?_eq_some_iff.mp hy).1
      refine ⟨xp, _, rfl, SqT.of (s9 _ _ hxp), rfl, _, _, rfl, _, _, rfl, _, _, rfl, rfl, rfl, ?_⟩
      refine ⟨_, rfl, _, rfl, _, _, rfl, _, rfl, _, rfl, _, _, rfl, _, rfl, (by show 3 ≤ sizeLine; decide), fun t nt => ?_⟩
      dsimp only
      rw [min_castA, max_castA]
      have st := same_upd (o := .tup [.int ((max b y.1 : Nat) : Int), .int ((min e y.2.1 : Nat) : Int), .int (y.2.2 : Int)]) nt
      refine ⟨ys, st _ _ hD, szlt (by rw [hy9.len, List.length_map, List.length_take]; omega), ys ++ [.ref t], ?_, upd_same, ?_⟩
      · exact fun a o k => by rw [upd_ne (ne_of_none k nD1)]; exact st _ _ (s9 _ _ k)
      · rw [take_more hy, List.map_append]
        exact (hy9.mono (fun v x (k : Tr H9 v x) => (k.same st).upd (st _ _ hD))).app (.cons (Tr.upd (x := cut b e y) ⟨t, rfl, upd_same⟩ (st _ _ hD)) .nil)
    rintro H9 ⟨ys, s9, hD1, hy9⟩
    have et : T.take xs.length = T := List.take_of_length_le (by rw [xl]; exact Nat.le_refl _)
    rw [et] at hy9
    have yl : ys.length ≤ 101 := by rw [hy9.len, List.length_map]; exact T101
    -- parts, those with entries
    refine ⟨_, rfl, D1, rfl, ⟨_, SqL.of hD1⟩, fun D2 nD2 => lc_list (xs := ys) (fun i H' => ∃ zs : List V, Same H9 H' ∧ H' D2 = some (.lst zs) ∧ All2 (Tr H') zs (((T.map (cut b e)).take i).filter fun x => decide (x.1 < x.2.1))) ⟨[], same_upd nD2, upd_same, .nil⟩ (fun i H' _ ⟨_, k, _⟩ => SqL.of (k _ _ hD1)) ?_ ?_⟩
    · rintro i x H10 hi ⟨zs, s10, hD, hz⟩
      obtain ⟨y, hy, xp, rfl, hxp⟩ := hy9.nth hi
      have il : i < (T.map (cut b e)).length := (List.getElem?_eq_some_iff.mp hy).1
      rw [List.length_map] at il
      have hxp10 := s10 _ _ hxp
      have zl : zs.length ≤ 101 := by
        rw [hz.len]
        refine Nat.le_trans (List.length_filter_le _ _) ?_
        rw [List.length_take, List.length_map]
        omega
      refine ⟨rfl, ?_⟩
      refine ⟨_, rfl, xp, _, _, _, rfl, rfl, SqT.of hxp10, atI_nat (j := 0) rfl, _, rfl, xp, _, _, _, rfl, rfl, SqT.of hxp10, atI_nat (j := 1) rfl, _, _, rfl, rfl, _, rfl, ite2 (fun c => ?_) (fun c => ?_)⟩
      · have c1 : (y.1 : Int) < (y.2.1 : Int) := of_decide_eq_true c
        refine ⟨_, rfl, zs, hD, szlt (by omega), zs ++ [.ref xp], ?_, upd_same, ?_⟩
        · exact fun a o k => by rw [upd_ne (ne_of_none k nD2)]; exact s10 _ _ k
        · rw [take_more hy, List.filter_append, List.filter_cons, if_pos (decide_eq_true (by omega)), List.filter_nil]
          exact (hz.mono (fun v x (k : Tr H10 v x) => k.upd hD)).app (.cons (Tr.upd ⟨xp, rfl, hxp10⟩ hD) .nil)
      · have c1 : ¬ (y.1 : Int) < (y.2.1 : Int) := of_decide_eq_false (Bool.eq_false_iff.mpr c)
        refine ⟨zs, s10, hD, ?_⟩
        rw [take_more hy, List.filter_append, List.filter_cons, if_neg (by simp; omega), List.filter_nil, List.append_nil]
        exact hz
    rintro H10 ⟨zs, s10, hD2, hz⟩
    have et2 : (T.map (cut b e)).take ys.length = T.map (cut b e) := List.take_of_length_le (by rw [hy9.len]; exact Nat.le_refl _)
    rw [et2] at hz
    have hz' : All2 (Tr H10) zs (parts b e T) := hz
    have pl : (parts b e T).length ≤ 101 := by
      unfold parts
      refine Nat.le_trans (List.length_filter_le _ _) ?_
      rw [List.length_map]
      exact T101
    have hdeep2 : ∀ x ∈ parts b e T, x.2.2 ≤ 201 := fun x hx => by
      unfold parts at hx
      obtain ⟨y, h1, h2⟩ := List.mem_map.mp (List.mem_filter.mp hx).1
      rw [← h2]
      exact hdeep y h1
    have hdbp := db_parts b e T
    have dt := due_total b e T
    -- due
    refine ⟨_, rfl, D2, rfl, ⟨_, SqL.of hD2⟩, fun D3 nD3 => lc_list (xs := zs) (fun i H' => Same H10 H' ∧ H' D3 = some (.lst ((((parts b e T).take i).map fun x => (((x.2.1 : Nat) : Int) - ((x.1 : Nat) : Int)) * ((x.2.2 : Nat) : Int)).map V.int))) ⟨same_upd nD3, upd_same⟩ (fun i H' _ k => SqL.of (k.1 _ _ hD2)) ?_ ?_⟩
    · rintro i x H11 hi ⟨s11, hD⟩
      obtain ⟨y, hy, xp, rfl, hxp⟩ := hz'.nth hi
      have il : i < (parts b e T).length := (List.getElem?_eq_some_iff.mp hy).1
      have y2 := hdeep2 y (List.mem_of_getElem? hy)
      refine ⟨xp, _, rfl, SqT.of (s11 _ _ hxp), rfl, _, _, rfl, _, _, rfl, _, _, rfl, rfl, rfl, ?_⟩
      refine ⟨_, rfl, _, rfl, _, _, rfl, rfl, _, rfl, _, _, rfl, rfl, .inr ⟨by omega, by omega⟩, _, hD, szlt (by rw [List.length_map, List.length_map, List.length_take]; omega), ?_, ?_⟩
      · exact fun a o k => by rw [upd_ne (ne_of_none k nD3)]; exact s11 _ _ k
      · rw [take_more hy, List.map_append, List.map_append]
        exact upd_same
    rintro H11 ⟨s11, hD3⟩
    have et3 : (parts b e T).take zs.length = parts b e T := List.take_of_length_le (by rw [hz'.len]; exact Nat.le_refl _)
    rw [et3] at hD3
    refine ⟨D3, _, rfl, SqL.of hD3, ?_⟩
    dsimp only
    rw [dt]
    have hD2b := s11 _ _ hD2
    have hzb := hz'.mono (fun v x (k : Tr H10 v x) => k.same s11)
    -- numbers
    refine ⟨_, rfl, D2, rfl, ⟨_, SqL.of hD2b⟩, fun D4 nD4 => lc_list (xs := zs) (fun i H' => Same H11 H' ∧ H' D4 = some (.lst ((((parts b e T).take i).map fun x => ((x.2.2 : Nat) : Int)).map V.int))) ⟨same_upd nD4, upd_same⟩ (fun i H' _ k => SqL.of (k.1 _ _ hD2b)) ?_ ?_⟩
    · rintro i x H12 hi ⟨s12, hD⟩
      obtain ⟨y, hy, xp, rfl, hxp⟩ := hzb.nth hi
      have il : i < (parts b e T).length := (List.getElem?_eq_some_iff.mp hy).1
      refine ⟨xp, _, rfl, SqT.of (s12 _ _ hxp), rfl, _, _, rfl, _, _, rfl, _, _, rfl, rfl, rfl, ?_⟩
      refine ⟨_, rfl, _, hD, szlt (by rw [List.length_map, List.length_map, List.length_take]; omega), ?_, ?_⟩
      · exact fun a o k => by rw [upd_ne (ne_of_none k nD4)]; exact s12 _ _ k
      · rw [take_more hy, List.map_append, List.map_append]
        exact upd_same
    rintro H12 ⟨s12, hD4⟩
    rw [et3] at hD4
    -- the first test
    rw [← hTT] at hdb
    refine ⟨_, rfl, _, rfl, _, rfl, n, b, e, rfl, he1, he2, n30, fun H13 s13 => ⟨_, rfl, rfl, false, ?_, ?_⟩⟩
    · refine congrArg V.bl ?_
      rw [Bool.not_eq_false', hTT]
      exact decide_eq_true rfl
    refine ⟨_, rfl, _, rfl, _, rfl, n, b, e, rfl, he1, he2, n30, hdb, fun H14 q14 lo hi s14 hq14 hlo hhi => ?_⟩
    rw [hTT, hdbp] at hlo hhi hdb
    have hD14 := s14 _ _ (s13 _ _ hD4)
    have nlen : 0 < ((parts b e T).map fun x => ((x.2.2 : Nat) : Int)).length := by
      rw [List.length_map]
      refine List.length_pos_iff.mpr (fun z => hdb ?_)
      rw [z]
      rfl
    refine ⟨_, rfl, D4, _, rfl, SqL.of hD14, nlen, fun m1 hm1 hm1b => ⟨_, rfl, D4, _, rfl, SqL.of hD14, nlen, fun m2 hm2 hm2b => ⟨(by show 2 ≤ sizeLine; decide), fun u nu => ?_⟩⟩⟩
    have su := same_upd (o := .tup [.int m1, .int m2]) nu
    have e1 : lo = m1 := by
      refine least_one hlo ⟨?_, ?_⟩
      · obtain ⟨z, h1, h2⟩ := List.mem_map.mp hm1
        exact ⟨_, List.mem_map.mpr ⟨z, h1, rfl⟩, h2.symm⟩
      · intro z hz
        obtain ⟨y, h1, h2⟩ := List.mem_map.mp hz
        have := hm1b _ (List.mem_map.mpr ⟨y, h1, rfl⟩)
        rw [← h2]
        exact this
    have e2 : hi = m2 := by
      refine most_one hhi ⟨?_, ?_⟩
      · obtain ⟨z, h1, h2⟩ := List.mem_map.mp hm2
        exact ⟨_, List.mem_map.mpr ⟨z, h1, rfl⟩, h2.symm⟩
      · intro z hz
        obtain ⟨y, h1, h2⟩ := List.mem_map.mp hz
        have := hm2b _ (List.mem_map.mpr ⟨y, h1, rfl⟩)
        rw [← h2]
        exact this
    subst e1 e2
    refine ⟨_, _, .tup (SqT.of (su _ _ hq14)) (.cons (.int lo) (.cons (.int hi) .nil)), .tup (SqT.of upd_same) (.cons (.int lo) (.cons (.int hi) .nil)), nd_shaped _ _, nd_shaped _ _, false, ?_, ?_⟩
    · refine congrArg V.bl ?_
      rw [nd_eqv]
      simp
    have sAll := (((s9.trans s10).trans s11).trans s12).trans ((s13.trans s14).trans su)
    have hbA := hb8.same sAll
    have BA : But bg H2 _ := B8.trans (But.of sAll)
    generalize upd H14 u (.tup [.int lo, .int hi]) = H15 at hbA BA
    -- middle
    refine ⟨_, rfl, _, rfl, _, rfl, _, rfl, _, _, rfl, rfl, bg, (e : Int) - (b : Int), rfl, by omega, (show _ < 2 ^ 250 by omega), hbA, fun r HM rm0 rm1 kM hbB => ⟨_, _, rfl, rfl, ?_⟩⟩
    have hb5 : But bg H2 HM := fun a o h k => by rw [kM a h]; exact BA a o h k
    obtain ⟨rmn, rfl⟩ := Int.eq_ofNat_of_zero_le rm0
    have em : (b : Int) + (rmn : Int) = ((b + rmn : Nat) : Int) := by omega
    dsimp only
    rw [em]
    have hm1 : b ≤ b + rmn := by omega
    have hm2 : b + rmn < e := by omega
    generalize b + rmn = m at hm1 hm2
    subst hTT
    refine ⟨_, rfl, _, rfl, _, _, rfl, rfl, _, rfl, ite2 (fun c => ?_) (fun c => ?_)⟩
    · have c1 : (m : Int) > (b : Int) := of_decide_eq_true c
      refine ⟨_, rfl, _, rfl, _, rfl, n, b, m, rfl, by omega, by omega, n30, fun HA sA0 => ?_⟩
      have sA := sA0
      -- if ahead + depth_sum(size, middle, end) != due
      refine ⟨_, rfl, _, rfl, _, rfl, _, rfl, n, m, e, rfl, by omega, he2, n30, fun HB sB => ⟨_, _, rfl, rfl, _, rfl, rfl, false, ?_, ?_⟩⟩
      · refine congrArg V.bl ?_
        rw [Bool.not_eq_false']
        refine decide_eq_true (congrArg V.int ?_)
        have k := total_split (T := lev (pk 101 n 0).length 0 (pk 101 n 0)) hT (show b ≤ m by omega) (show m ≤ e by omega)
        have k2 := due_total b e (lev (pk 101 n 0).length 0 (pk 101 n 0))
        omega
      -- if depth_sum(size, middle, middle + 1) != depth(size, middle)
      refine ⟨_, rfl, _, rfl, _, rfl, _, _, rfl, rfl, n, m, m + 1, rfl, by omega, by omega, n30, fun HC sC => ⟨_, rfl, _, rfl, n, m, rfl, by omega, n30, fun HD sD => ⟨rfl, false, ?_, ?_⟩⟩⟩
      · refine congrArg V.bl ?_
        rw [Bool.not_eq_false']
        refine decide_eq_true (congrArg V.int ?_)
        rw [total_one (T := lev (pk 101 n 0).length 0 (pk 101 n 0)) hT, hdue m (by omega)]
        simp
      exact ⟨_, _, _, _, _, _, _, _, _, _, rfl, hb5.trans (But.of (sA.trans (sB.trans (sC.trans sD)))), hbB.same (sA.trans (sB.trans (sC.trans sD)))⟩
    · have c1 : ¬ (m : Int) > (b : Int) := of_decide_eq_false (Bool.eq_false_iff.mpr c)
      have sA := Same.refl HM
      -- if ahead + depth_sum(size, middle, end) != due
      refine ⟨_, rfl, _, rfl, _, rfl, _, rfl, n, m, e, rfl, by omega, he2, n30, fun HB sB => ⟨_, _, rfl, rfl, _, rfl, rfl, false, ?_, ?_⟩⟩
      · refine congrArg V.bl ?_
        rw [Bool.not_eq_false']
        refine decide_eq_true (congrArg V.int ?_)
        have k := total_split (T := lev (pk 101 n 0).length 0 (pk 101 n 0)) hT (show b ≤ m by omega) (show m ≤ e by omega)
        have k2 := due_total b e (lev (pk 101 n 0).length 0 (pk 101 n 0))
        have k3 : m = b := by omega
        subst k3
        have k4 := total_split (T := lev (pk 101 n 0).length 0 (pk 101 n 0)) hT (Nat.le_refl m) (Nat.le_refl m)
        omega
      -- if depth_sum(size, middle, middle + 1) != depth(size, middle)
      refine ⟨_, rfl, _, rfl, _, rfl, _, _, rfl, rfl, n, m, m + 1, rfl, by omega, by omega, n30, fun HC sC => ⟨_, rfl, _, rfl, n, m, rfl, by omega, n30, fun HD sD => ⟨rfl, false, ?_, ?_⟩⟩⟩
      · refine congrArg V.bl ?_
        rw [Bool.not_eq_false']
        refine decide_eq_true (congrArg V.int ?_)
        rw [total_one (T := lev (pk 101 n 0).length 0 (pk 101 n 0)) hT, hdue m (by omega)]
        simp
      exact ⟨_, _, _, _, _, _, _, _, _, _, rfl, hb5.trans (But.of (sA.trans (sB.trans (sC.trans sD)))), hbB.same (sA.trans (sB.trans (sC.trans sD)))⟩
  · rintro σ H3 ⟨v3, v4, v5, v6, v7, v8, v9, v10, v11, v12, rfl, B3, hb3⟩
    -- the numbers
    have hp3 := B3 _ _ hpb hp
    refine ⟨_, rfl, _, rfl, _, rfl, p, xs, rfl, .inl (SqL.of hp3), bg, ((xs.length : Nat) : Int), rfl, by omega, (show _ < 2 ^ 250 by omega), hb3, fun r H4 r0 r1 k4 hb4 => ?_⟩
    obtain ⟨rn, rfl⟩ := Int.eq_ofNat_of_zero_le r0
    have B4 : But bg H2 H4 := fun a o h k => by rw [k4 a h]; exact B3 a o h k
    have hp4 := B4 _ _ hpb hp
    have hx4 := hxB B4
    have hrn : rn < xs.length := by omega
    obtain ⟨y, hy, u, eu, hu⟩ := hx4.nth (List.getElem?_eq_getElem hrn)
    refine ⟨p, xs, _, _, rfl, rfl, SqL.of hp4, atI_nat (List.getElem?_eq_getElem hrn), ?_⟩
    refine ⟨u, _, _, _, eu, rfl, SqT.of hu, atI_nat (j := 2) rfl, ?_⟩
    refine ⟨_, rfl, bg, 110, rfl, by decide, by decide, hb4, fun r5 H5 r50 r51 k5 hb5 => ?_⟩
    refine ⟨_, rfl, _, _, rfl, rfl, ⟨by decide, by decide, by decide⟩, (by show 4 ≤ sizeLine; decide), fun l nl => ?_⟩
    generalize hH : upd H5 l _ = H6
    have hl : H6 l = some (.lst [.int (y.2.2 : Int), .int r5, .int (-1), .int (10 ^ (40 : Int).toNat)]) := by
      rw [← hH]
      exact upd_same
    have sl : Same H5 H6 := by
      rw [← hH]
      exact same_upd nl
    have hall : ∀ v ∈ ([.int (y.2.2 : Int), .int r5, .int (-1), .int (10 ^ (40 : Int).toNat)] : List V), ∃ k : Int, v = .int k := fun v hv => by
      simp only [List.mem_cons, List.not_mem_nil, or_false] at hv
      rcases hv with h | h | h | h <;> exact ⟨_, h⟩
    have B6 : But bg H2 H6 := fun a o h k => sl _ _ (by rw [k5 a h]; exact B4 a o h k)
    have hb6 := hb5.same sl
    generalize ([.int (y.2.2 : Int), .int r5, .int (-1), .int (10 ^ (40 : Int).toNat)] : List V) = ks at hall hl
    refine ⟨l, rfl, ⟨_, SqL.of hl⟩, for_list (K := K) (a := l) (xs := ks) (fun i σ H' => ∃ v3 v4 v5 v6 v7 v8 v9 v10 v11 v12 : Option V, σ = [some (.ref bg), some (.int n), some (.ref p), v3, v4, v5, v6, v7, v8, v9, v10, v11, v12, none, none, none, none] ∧ Same H6 H')
      ⟨v3, v4, v5, v6, v7, v8, v9, v10, v11, v12, rfl, Same.refl _⟩ (fun i σ H' _ ⟨_, _, _, _, _, _, _, _, _, _, _, s5⟩ => SqL.of (s5 _ _ hl)) ?_ ?_⟩
    · rintro i x σ H7 hi ⟨w3, w4, w5, w6, w7, w8, w9, w10, w11, w12, rfl, s7⟩
      obtain ⟨k, rfl⟩ := hall x (List.mem_of_getElem? hi)
      have B7 := B6.trans (But.of s7)
      have hp7 := B7 _ _ hpb hp
      have hx7 := hxB B7
      -- fit
      generalize hTT : lev (pk 101 n 0).length 0 (pk 101 n 0) = T at hx7 T101 xl
      refine ⟨_, rfl, p, rfl, ⟨_, SqL.of hp7⟩, fun D nD => lc_list (xs := xs) (fun i H' => Same H7 H' ∧ H' D = some (.lst ((fits k (T.take i)).map V.int))) ⟨same_upd nD, upd_same⟩ (fun i H' _ k => SqL.of (k.1 _ _ hp7)) ?_ ?_⟩
      · rintro j x H8 hj ⟨s8, hD⟩
        obtain ⟨z, hz, xp, rfl, hxp⟩ := hx7.nth hj
        have jl : j < T.length := (List.getElem?_eq_some_iff.mp hz).1
        have fl : (fits k (T.take j)).length ≤ 101 := by
          unfold fits
          rw [List.length_map]
          refine Nat.le_trans (List.length_filter_le _ _) ?_
          rw [List.length_take]
          omega
        have fm : fits k (T.take (j + 1)) = fits k (T.take j) ++ (if (z.2.2 : Int) = k then [(z.1 : Int)] else []) := by
          rw [take_more hz]
          unfold fits
          rw [List.filter_append, List.map_append, List.filter_cons, List.filter_nil]
          by_cases c : (z.2.2 : Int) = k
          · rw [if_pos (decide_eq_true c), if_pos c]; rfl
          · rw [if_neg (by simpa using c), if_neg c]; rfl
        refine ⟨xp, _, rfl, SqT.of (s8 _ _ hxp), rfl, _, _, rfl, _, _, rfl, _, _, rfl, rfl, rfl, ?_⟩
        refine ⟨_, rfl, _, rfl, rfl, _, rfl, ite2 (fun c => ?_) (fun c => ?_)⟩
        · have c1 : V.int (z.2.2 : Int) = V.int k := of_decide_eq_true c
          refine ⟨_, rfl, _, hD, szlt (by rw [List.length_map]; omega), ?_, ?_⟩
          · exact fun a o k => by rw [upd_ne (ne_of_none k nD)]; exact s8 _ _ k
          · rw [fm, if_pos (V.int.inj c1), List.map_append]
            exact upd_same
        · have c1 : ¬ V.int (z.2.2 : Int) = V.int k := of_decide_eq_false (Bool.eq_false_iff.mpr c)
          refine ⟨s8, ?_⟩
          rw [fm, if_neg (fun z => c1 (by rw [z])), List.append_nil]
          exact hD
      rintro H8 ⟨s8, hD⟩
      have et : T.take xs.length = T := List.take_of_length_le (by rw [xl]; exact Nat.le_refl _)
      rw [et] at hD
      refine ⟨_, rfl, _, rfl, n, k, rfl, n1, n30, fun H9 s9 => ?_⟩
      rw [hTT, first_fits k T]
      have hD9 := s9 _ _ hD
      refine ⟨_, rfl, Nat.zero_le _, fun l0 nl0 => ?_⟩
      have s0 := same_upd (o := .lst []) nl0
      refine ⟨.list ((fits k T).map PyData.int), .list [], .lst (SqL.of (s0 _ _ hD9)) (ints_dp _), .lst (SqL.of upd_same) .nil, ints_shaped _, nil_shaped, _, rfl, ?_⟩
      rw [ints_nil]
      have fin : ∃ v3 v4 v5 v6 v7 v8 v9 v10 v11 v12 : Option V, ([some (.ref bg), some (.int n), some (.ref p), w3, w4, w5, some (.int k), w7, w8, w9, w10, w11, some (.ref D), none, none, none, none] : L2.St) = [some (.ref bg), some (.int n), some (.ref p), v3, v4, v5, v6, v7, v8, v9, v10, v11, v12, none, none, none, none] ∧ Same H6 (upd H9 l0 (.lst [])) :=
        ⟨_, _, _, _, _, _, _, _, _, _, rfl, s7.trans (s8.trans (s9.trans s0))⟩
      cases hf : fits k T with
      | nil =>
        refine iteF ?_
        exact ⟨rfl, false, rfl, fin⟩
      | cons z r =>
        rw [hf] at hD9
        refine iteT ?_
        refine ⟨_, rfl, D, _, _, _, rfl, rfl, SqL.of (s0 _ _ hD9), atI_nat (j := 0) rfl, rfl, false, ?_, fin⟩
        refine congrArg V.bl ?_
        rw [Bool.not_eq_false']
        exact decide_eq_true rfl
    · rintro σ H7 ⟨w3, w4, w5, w6, w7, w8, w9, w10, w11, w12, rfl, s7⟩
      exact q _ (B02.trans (B6.trans (But.of s7))) (hb6.same s7)
end
end LT

namespace LT
open PySem PySem.Spec PyProof.Rows L2
theorem script_at {ns : List Int} {lo hi : Option Int} {i : Nat} {x : V} (h : (cutV (ns.map V.int) lo hi ++ [.int 0])[i]? = some x) : ∃ c : Int, x = .int c := by
  have m := List.mem_of_getElem? h
  rcases List.mem_append.mp m with m | m
  · unfold cutV at m
    have m2 := List.mem_of_mem_drop (List.mem_of_mem_take m)
    obtain ⟨c, _, e⟩ := List.mem_map.mp m2
    exact ⟨c, e.symm⟩
  · exact ⟨0, List.mem_singleton.mp m⟩
theorem sqSame {K : PySem.W.Frag} {H H' : Hp} {a : Addr} {xs : List V} (h : SqL K H a xs) (e : Same H H') : SqL K H' a xs :=
  h.elim (fun h => .inl (h.elim (fun h => .inl (e _ _ h)) fun ⟨o, h⟩ => .inr ⟨o, e _ _ h⟩)) fun h => .inr h
def spLaw (K : PySem.W.Frag) : Sp := fun vs H Q _ => ∃ (a : Addr) (ns : List Int), vs = [.ref a] ∧ SqL K H a (ns.map V.int) ∧ ns.length ≤ 63 ∧ ∀ H', Q (.bl true) H'
end LT

namespace LT
open PySem PySem.Spec PyProof.Rows L2
section
variable {P : Program} {w : World} {K : PySem.W.Frag} {mg : Str → Option Value} {base : Heap}
theorem ok_law {f g1 g2 g3 g4 g5 : Addr} {fd d1 d2 d3 d4 d5 : FuncData} (F : Fun K "law" "law" sLaw f fd)
    (GLawBag : FnOk P w K mg base CX0 1 g1 d1 ["cell"] spBag) (ALawBag : At K mg "_law_bag" g1 d1 ["cell"])
    (GLawRight : FnOk P w K mg base CX0 8 g2 d2 ["bag"] spRight) (ALawRight : At K mg "_law_right" g2 d2 ["bag"])
    (GDepthSum : FnOk P w K mg base CX0 7 g3 d3 ["size", "begin", "end"] spDepthSum) (ADepthSum : At K mg "depth_sum" g3 d3 ["size", "begin", "end"])
    (GDepthRange : FnOk P w K mg base CX0 7 g4 d4 ["size", "begin", "end"] spDepthRange) (ADepthRange : At K mg "depth_range" g4 d4 ["size", "begin", "end"])
    (GFirstOfDepth : FnOk P w K mg base CX0 6 g5 d5 ["size", "number"] spFirst) (AFirstOfDepth : At K mg "first_of_depth" g5 d5 ["size", "number"])
    (z_range : mg "range" = none) : FnOk P w K mg base CX0 9 f fd ["script"] (spLaw K) := by
  refine F.ok scLaw (fun vs H Q E h => ?_) (fun cdv A outer s H vs Q E hr h => ?_)
  · obtain ⟨_, _, rfl, _⟩ := h
    rfl
  obtain ⟨a, ns, rfl, hS, h63, q⟩ := h
  refine' ⟨_, (pss_cons (ps_for PassesOwn.never rfl (pi_list (pe_op op_cat (pe_slice sl_list (pv 0) po_none (po_some pe_int)) (pe_lst (pa_cons pe_int pa_nil)))) (pg_name (i := 1) scLaw.nd rfl (Or.inl rfl))
    (pss_cons (ps_set (i := 2) scLaw.nd rfl (Or.inl rfl) (pe_call GLawBag (hr.mono (by decide)) rfl ALawBag.m ALawBag.kp ALawBag.b .nil pass0 (pa_cons (pv 1) pa_nil)))
    (pss_one (ps_for PassesOwn.never rfl (pi_range1 (by rfl) z_range (pa_cons pe_int pa_nil)) (pg_name (i := 3) scLaw.nd rfl (Or.inl rfl))
    (pss_one (ps_if (pt_not (pt_val (pe_call GLawRight (hr.mono (by decide)) rfl ALawRight.m ALawRight.kp ALawRight.b .nil pass0 (pa_cons (pv 2) pa_nil))))
    (pss_one (ps_ret pe_bl))
    pss_nil))))))
    (pss_one (ps_ret (pe_cmpR (op_eqD hr.units) (pe_lst (pa_cons (pe_call GDepthSum (hr.mono (by decide)) rfl ADepthSum.m ADepthSum.kp ADepthSum.b .nil pass0 (pa_cons pe_int (pa_cons pe_int (pa_cons pe_int pa_nil)))) (pa_cons (pe_call GDepthRange (hr.mono (by decide)) rfl ADepthRange.m ADepthRange.kp ADepthRange.b .nil pass0 (pa_cons pe_int (pa_cons pe_int (pa_cons pe_int pa_nil)))) (pa_cons (pe_call GFirstOfDepth (hr.mono (by decide)) rfl AFirstOfDepth.m AFirstOfDepth.kp AFirstOfDepth.b .nil pass0 (pa_cons pe_int (pa_cons pe_int pa_nil))) pa_nil)))) (pe_lst (pa_cons pe_int (pa_cons (pe_tup (pa_cons pe_int (pa_cons pe_int pa_nil))) (pa_cons pe_int pa_nil)))) (nomark _))))), ?_⟩
  refine ⟨_, rfl, 6, rfl, a, _, rfl, hS, fun c nc => ⟨(by show 1 ≤ sizeLine; decide), fun z nz => ?_⟩⟩
  have s1 := same_upd (o := .lst (cutV (ns.map V.int) none (some 6))) nc
  have s2 := same_upd (o := .lst [.int 0]) nz
  have hcl := cutV_length (ns.map V.int) none (some 6)
  rw [List.length_map] at hcl
  refine ⟨c, z, _, _, rfl, rfl, s2 _ _ upd_same, upd_same, szle (by rw [List.length_singleton]; omega), fun r nr => ?_⟩
  have s3 := same_upd (o := .lst (cutV (ns.map V.int) none (some 6) ++ [.int 0])) nr
  have hr0 : (upd (upd (upd H c (.lst (cutV (ns.map V.int) none (some 6)))) z (.lst [.int 0])) r (.lst (cutV (ns.map V.int) none (some 6) ++ [.int 0]))) r = some (.lst (cutV (ns.map V.int) none (some 6) ++ [.int 0])) := upd_same
  generalize upd (upd (upd H c (.lst (cutV (ns.map V.int) none (some 6)))) z (.lst [.int 0])) r (.lst (cutV (ns.map V.int) none (some 6) ++ [.int 0])) = H0 at hr0
  refine ⟨r, rfl, ⟨_, SqL.of hr0⟩, for_list (K := K) (a := r) (xs := cutV (ns.map V.int) none (some 6) ++ [.int 0]) (fun i σ H' => ∃ v1 v2 v3 : Option V, σ = [some (.ref a), v1, v2, v3] ∧ Same H0 H')
    ⟨none, none, none, rfl, Same.refl _⟩ (fun i σ H' _ ⟨_, _, _, _, s5⟩ => SqL.of (s5 _ _ hr0)) ?_ ?_⟩
  · rintro i x σ H1 hi ⟨v1, v2, v3, rfl, sm1⟩
    obtain ⟨cell, rfl⟩ := script_at hi
    refine ⟨_, rfl, cell, rfl, fun H2 b sm2 nb hb => ?_⟩
    have nb0 : H0 b = none := sm1.free nb
    refine ⟨3, rfl, by decide, by decide, for_range (lo := 0) (n := 3) (fun i σ H' => ∃ v3 : Option V, σ = [some (.ref a), some (.int cell), some (.ref b), v3] ∧ Same H0 H' ∧ BagAt H' b)
      ⟨v3, rfl, sm1.trans sm2, hb⟩ ?_ ?_⟩
    · rintro j σ H3 hj ⟨v3, rfl, sm3, hb3⟩
      refine ⟨_, rfl, b, rfl, hb3, fun H4 B4 hb4 => ⟨true, rfl, ?_⟩⟩
      exact ⟨_, rfl, fun u o k => B4 u o (ne_of_none k nb0) (sm3 _ _ k), hb4⟩
    · rintro σ H3 ⟨v3, rfl, sm3, hb3⟩
      exact ⟨_, _, _, rfl, sm3⟩
  · rintro σ H1 ⟨v1, v2, v3, rfl, sm1⟩
    have t7 : lev (pk 101 7 0).length 0 (pk 101 7 0) = [(0, 4, 3), (4, 6, 3), (6, 7, 2)] := by decide +kernel
    refine ⟨7, 0, 7, rfl, by decide, by decide, by decide, fun H2 s2 => ?_⟩
    refine ⟨7, 4, 7, rfl, by decide, by decide, by decide, by rw [t7]; decide, fun H3 p lo hi s3 hp hlo hhi => ?_⟩
    refine ⟨7, 2, rfl, by decide, by decide, fun H4 s4 => ?_⟩
    refine ⟨(by show 3 ≤ sizeLine; decide), fun l1 n1 => ?_⟩
    have s5 := same_upd (o := .lst [.int ((total 0 7 (lev (pk 101 7 0).length 0 (pk 101 7 0)) : Nat) : Int), .ref p, firstOf 2 (lev (pk 101 7 0).length 0 (pk 101 7 0))]) n1
    have h1 : (upd H4 l1 (.lst [.int ((total 0 7 (lev (pk 101 7 0).length 0 (pk 101 7 0)) : Nat) : Int), .ref p, firstOf 2 (lev (pk 101 7 0).length 0 (pk 101 7 0))])) l1 = some (.lst [.int ((total 0 7 (lev (pk 101 7 0).length 0 (pk 101 7 0)) : Nat) : Int), .ref p, firstOf 2 (lev (pk 101 7 0).length 0 (pk 101 7 0))]) := upd_same
    have hp5 := s5 _ _ (s4 _ _ hp)
    rw [t7] at hlo hhi
    have e0 : total 0 7 (lev (pk 101 7 0).length 0 (pk 101 7 0)) = 20 := by rw [t7]; decide
    have e2 : firstOf 2 (lev (pk 101 7 0).length 0 (pk 101 7 0)) = .int 6 := by rw [t7]; rfl
    have d7 : db 4 7 [(0, 4, 3), (4, 6, 3), (6, 7, 2)] = [(2, 3), (1, 2)] := by decide
    rw [d7] at hlo hhi
    have el : lo = 2 := by
      have a1 := hlo.2 (1, 2) (by decide)
      obtain ⟨z, hz, ez⟩ := hlo.1
      simp only [List.mem_cons, List.not_mem_nil, or_false] at hz
      rcases hz with h | h <;> subst h <;> simp only [] at ez a1 <;> omega
    have eh : hi = 3 := by
      have a1 := hhi.2 (2, 3) (by decide)
      obtain ⟨z, hz, ez⟩ := hhi.1
      simp only [List.mem_cons, List.not_mem_nil, or_false] at hz
      rcases hz with h | h <;> subst h <;> simp only [] at ez a1 <;> omega
    subst el eh
    rw [e0, e2] at h1
    refine ⟨(by show 2 ≤ sizeLine; decide), fun l2 n2 => ⟨(by show 3 ≤ sizeLine; decide), fun l3 n3 => ?_⟩⟩
    have s6 := same_upd (o := .tup [.int 2, .int 3]) n2
    have s7 := same_upd (o := .lst [.int 20, .ref l2, .int 6]) n3
    have sh : SeqAt.shaped (.list [.int 20, .tuple [.int 2, .int 3], .int 6]) = true := by
      show (PyData.canLay0 _ && decide (PyData.depth _ ≤ 64)) = true
      simp [PyData.canLay0, PyData.canLayAll0, PyData.depth, PyData.depthAll]
    refine ⟨.list [.int 20, .tuple [.int 2, .int 3], .int 6], .list [.int 20, .tuple [.int 2, .int 3], .int 6], ?_, ?_, sh, sh, ?_⟩
    · have k := s7 _ _ (s6 _ _ h1)
      rw [← e0, ← e2] at k
      refine .lst (SqL.of k) ?_
      rw [e0, e2]
      exact .cons (.int _) (.cons (.tup (SqT.of (s7 _ _ (s6 _ _ hp5))) (.cons (.int _) (.cons (.int _) .nil))) (.cons (.int _) .nil))
    · exact .lst (SqL.of upd_same) (.cons (.int _) (.cons (.tup (SqT.of (s7 _ _ upd_same)) (.cons (.int _) (.cons (.int _) .nil))) (.cons (.int _) .nil)))
    rw [SeqAt.eqv_refl _ (SeqAt.canLay_of_shaped sh)]
    exact q _
end
end LT

namespace LT
open PySem PySem.Spec PyProof.Rows L2
theorem all_mk {l : PySem.W.OpenLaw} {w : World} {K : PySem.W.Frag} {h : Heap} {mg : Str → Option Value} {fa f0 f1 f2 f3 f4 f5 f6 f7 f8 f9 f10 f11 f12 f13 f14 f15 f16 f17 f18 f19 f20 f21 f22 f23 f24 : Addr} (X : K.In h) (G : h.Ns mainGlobals mg) (hfa : mg "law" = some (.ref fa))
    {od0 an0 od1 an1 od2 an2 od3 an3 od4 an4 od5 an5 od6 an6 od7 an7 od8 an8 od9 an9 od10 an10 od11 an11 od12 an12 od13 an13 od14 an14 od15 an15 od16 an16 od17 an17 od18 an18 od19 an19 od20 an20 od21 an21 od22 an22 od23 an23 od24 an24 : Option Addr} {sl0 sl1 sl2 sl3 sl4 sl5 sl6 sl7 sl8 sl9 sl10 sl11 sl12 sl13 sl14 sl15 sl16 sl17 sl18 sl19 sl20 sl21 sl22 sl23 sl24 : Array (Option Value)} {oc0 kV0 dc0 pm0 cd0 ct0 oc1 kV1 dc1 pm1 cd1 ct1 oc2 kV2 dc2 pm2 cd2 ct2 oc3 kV3 dc3 pm3 cd3 ct3 oc4 kV4 dc4 pm4 cd4 ct4 oc5 kV5 dc5 pm5 cd5 ct5 oc6 kV6 dc6 pm6 cd6 ct6 oc7 kV7 dc7 pm7 cd7 ct7 oc8 kV8 dc8 pm8 cd8 ct8 oc9 kV9 dc9 pm9 cd9 ct9 oc10 kV10 dc10 pm10 cd10 ct10 oc11 kV11 dc11 pm11 cd11 ct11 oc12 kV12 dc12 pm12 cd12 ct12 oc13 kV13 dc13 pm13 cd13 ct13 oc14 kV14 dc14 pm14 cd14 ct14 oc15 kV15 dc15 pm15 cd15 ct15 oc16 kV16 dc16 pm16 cd16 ct16 oc17 kV17 dc17 pm17 cd17 ct17 oc18 kV18 dc18 pm18 cd18 ct18 oc19 kV19 dc19 pm19 cd19 ct19 oc20 kV20 dc20 pm20 cd20 ct20 oc21 kV21 dc21 pm21 cd21 ct21 oc22 kV22 dc22 pm22 cd22 ct22 oc23 kV23 dc23 pm23 cd23 ct23 oc24 kV24 dc24 pm24 cd24 ct24 : Value}
    (a0 : PySem.W.nsIn K mainGlobals "is_whole" = some (some (.ref f0))) (l0 : K.lookup f0 = some ⟨oc0, od0, .func (PySem.W.fnOf "is_whole" "is_whole" (defArgs sIsWhole) (defBody sIsWhole) (defScope sIsWhole) .none kV0 dc0 pm0 an0 cd0 ct0), sl0⟩) (c0 : PySem.W.codeIn K cd0 "is_whole" = true) (k0 : PySem.W.keepIn K (.ref f0) = true)
    (a1 : PySem.W.nsIn K mainGlobals "is_between" = some (some (.ref f1))) (l1 : K.lookup f1 = some ⟨oc1, od1, .func (PySem.W.fnOf "is_between" "is_between" (defArgs sIsBetween) (defBody sIsBetween) (defScope sIsBetween) .none kV1 dc1 pm1 an1 cd1 ct1), sl1⟩) (c1 : PySem.W.codeIn K cd1 "is_between" = true) (k1 : PySem.W.keepIn K (.ref f1) = true)
    (a2 : PySem.W.nsIn K mainGlobals "is_tree_node" = some (some (.ref f2))) (l2 : K.lookup f2 = some ⟨oc2, od2, .func (PySem.W.fnOf "is_tree_node" "is_tree_node" (defArgs sIsTreeNode) (defBody sIsTreeNode) (defScope sIsTreeNode) .none kV2 dc2 pm2 an2 cd2 ct2), sl2⟩) (c2 : PySem.W.codeIn K cd2 "is_tree_node" = true) (k2 : PySem.W.keepIn K (.ref f2) = true)
    (a3 : PySem.W.nsIn K mainGlobals "check_size" = some (some (.ref f3))) (l3 : K.lookup f3 = some ⟨oc3, od3, .func (PySem.W.fnOf "check_size" "check_size" (defArgs sCheckSize) (defBody sCheckSize) (defScope sCheckSize) .none kV3 dc3 pm3 an3 cd3 ct3), sl3⟩) (c3 : PySem.W.codeIn K cd3 "check_size" = true) (k3 : PySem.W.keepIn K (.ref f3) = true)
    (a4 : PySem.W.nsIn K mainGlobals "check_entry" = some (some (.ref f4))) (l4 : K.lookup f4 = some ⟨oc4, od4, .func (PySem.W.fnOf "check_entry" "check_entry" (defArgs sCheckEntry) (defBody sCheckEntry) (defScope sCheckEntry) .none kV4 dc4 pm4 an4 cd4 ct4), sl4⟩) (c4 : PySem.W.codeIn K cd4 "check_entry" = true) (k4 : PySem.W.keepIn K (.ref f4) = true)
    (a5 : PySem.W.nsIn K mainGlobals "check_node" = some (some (.ref f5))) (l5 : K.lookup f5 = some ⟨oc5, od5, .func (PySem.W.fnOf "check_node" "check_node" (defArgs sCheckNode) (defBody sCheckNode) (defScope sCheckNode) .none kV5 dc5 pm5 an5 cd5 ct5), sl5⟩) (c5 : PySem.W.codeIn K cd5 "check_node" = true) (k5 : PySem.W.keepIn K (.ref f5) = true)
    (a6 : PySem.W.nsIn K mainGlobals "check_span" = some (some (.ref f6))) (l6 : K.lookup f6 = some ⟨oc6, od6, .func (PySem.W.fnOf "check_span" "check_span" (defArgs sCheckSpan) (defBody sCheckSpan) (defScope sCheckSpan) .none kV6 dc6 pm6 an6 cd6 ct6), sl6⟩) (c6 : PySem.W.codeIn K cd6 "check_span" = true) (k6 : PySem.W.keepIn K (.ref f6) = true)
    (a7 : PySem.W.nsIn K mainGlobals "check_number" = some (some (.ref f7))) (l7 : K.lookup f7 = some ⟨oc7, od7, .func (PySem.W.fnOf "check_number" "check_number" (defArgs sCheckNumber) (defBody sCheckNumber) (defScope sCheckNumber) .none kV7 dc7 pm7 an7 cd7 ct7), sl7⟩) (c7 : PySem.W.codeIn K cd7 "check_number" = true) (k7 : PySem.W.keepIn K (.ref f7) = true)
    (a8 : PySem.W.nsIn K mainGlobals "power_within" = some (some (.ref f8))) (l8 : K.lookup f8 = some ⟨oc8, od8, .func (PySem.W.fnOf "power_within" "power_within" (defArgs sPowerWithin) (defBody sPowerWithin) (defScope sPowerWithin) .none kV8 dc8 pm8 an8 cd8 ct8), sl8⟩) (c8 : PySem.W.codeIn K cd8 "power_within" = true) (k8 : PySem.W.keepIn K (.ref f8) = true)
    (a9 : PySem.W.nsIn K mainGlobals "peaks" = some (some (.ref f9))) (l9 : K.lookup f9 = some ⟨oc9, od9, .func (PySem.W.fnOf "peaks" "peaks" (defArgs sPeaks) (defBody sPeaks) (defScope sPeaks) .none kV9 dc9 pm9 an9 cd9 ct9), sl9⟩) (c9 : PySem.W.codeIn K cd9 "peaks" = true) (k9 : PySem.W.keepIn K (.ref f9) = true)
    (a10 : PySem.W.nsIn K mainGlobals "halves" = some (some (.ref f10))) (l10 : K.lookup f10 = some ⟨oc10, od10, .func (PySem.W.fnOf "halves" "halves" (defArgs sHalves) (defBody sHalves) (defScope sHalves) .none kV10 dc10 pm10 an10 cd10 ct10), sl10⟩) (c10 : PySem.W.codeIn K cd10 "halves" = true) (k10 : PySem.W.keepIn K (.ref f10) = true)
    (a11 : PySem.W.nsIn K mainGlobals "depth" = some (some (.ref f11))) (l11 : K.lookup f11 = some ⟨oc11, od11, .func (PySem.W.fnOf "depth" "depth" (defArgs sDepth) (defBody sDepth) (defScope sDepth) .none kV11 dc11 pm11 an11 cd11 ct11), sl11⟩) (c11 : PySem.W.codeIn K cd11 "depth" = true) (k11 : PySem.W.keepIn K (.ref f11) = true)
    (a12 : PySem.W.nsIn K mainGlobals "path" = some (some (.ref f12))) (l12 : K.lookup f12 = some ⟨oc12, od12, .func (PySem.W.fnOf "path" "path" (defArgs sPath) (defBody sPath) (defScope sPath) .none kV12 dc12 pm12 an12 cd12 ct12), sl12⟩) (c12 : PySem.W.codeIn K cd12 "path" = true) (k12 : PySem.W.keepIn K (.ref f12) = true)
    (a13 : PySem.W.nsIn K mainGlobals "_peak_depths" = some (some (.ref f13))) (l13 : K.lookup f13 = some ⟨oc13, od13, .func (PySem.W.fnOf "_peak_depths" "_peak_depths" (defArgs sPeakDepths) (defBody sPeakDepths) (defScope sPeakDepths) .none kV13 dc13 pm13 an13 cd13 ct13), sl13⟩) (c13 : PySem.W.codeIn K cd13 "_peak_depths" = true) (k13 : PySem.W.keepIn K (.ref f13) = true)
    (a14 : PySem.W.nsIn K mainGlobals "_depths_between" = some (some (.ref f14))) (l14 : K.lookup f14 = some ⟨oc14, od14, .func (PySem.W.fnOf "_depths_between" "_depths_between" (defArgs sDepthsBetween) (defBody sDepthsBetween) (defScope sDepthsBetween) .none kV14 dc14 pm14 an14 cd14 ct14), sl14⟩) (c14 : PySem.W.codeIn K cd14 "_depths_between" = true) (k14 : PySem.W.keepIn K (.ref f14) = true)
    (a15 : PySem.W.nsIn K mainGlobals "depth_sum" = some (some (.ref f15))) (l15 : K.lookup f15 = some ⟨oc15, od15, .func (PySem.W.fnOf "depth_sum" "depth_sum" (defArgs sDepthSum) (defBody sDepthSum) (defScope sDepthSum) .none kV15 dc15 pm15 an15 cd15 ct15), sl15⟩) (c15 : PySem.W.codeIn K cd15 "depth_sum" = true) (k15 : PySem.W.keepIn K (.ref f15) = true)
    (a16 : PySem.W.nsIn K mainGlobals "depth_range" = some (some (.ref f16))) (l16 : K.lookup f16 = some ⟨oc16, od16, .func (PySem.W.fnOf "depth_range" "depth_range" (defArgs sDepthRange) (defBody sDepthRange) (defScope sDepthRange) .none kV16 dc16 pm16 an16 cd16 ct16), sl16⟩) (c16 : PySem.W.codeIn K cd16 "depth_range" = true) (k16 : PySem.W.keepIn K (.ref f16) = true)
    (a17 : PySem.W.nsIn K mainGlobals "first_of_depth" = some (some (.ref f17))) (l17 : K.lookup f17 = some ⟨oc17, od17, .func (PySem.W.fnOf "first_of_depth" "first_of_depth" (defArgs sFirstOfDepth) (defBody sFirstOfDepth) (defScope sFirstOfDepth) .none kV17 dc17 pm17 an17 cd17 ct17), sl17⟩) (c17 : PySem.W.codeIn K cd17 "first_of_depth" = true) (k17 : PySem.W.keepIn K (.ref f17) = true)
    (a18 : PySem.W.nsIn K mainGlobals "_law_bag" = some (some (.ref f18))) (l18 : K.lookup f18 = some ⟨oc18, od18, .func (PySem.W.fnOf "_law_bag" "_law_bag" (defArgs sLawBag) (defBody sLawBag) (defScope sLawBag) .none kV18 dc18 pm18 an18 cd18 ct18), sl18⟩) (c18 : PySem.W.codeIn K cd18 "_law_bag" = true) (k18 : PySem.W.keepIn K (.ref f18) = true)
    (a19 : PySem.W.nsIn K mainGlobals "_law_pick" = some (some (.ref f19))) (l19 : K.lookup f19 = some ⟨oc19, od19, .func (PySem.W.fnOf "_law_pick" "_law_pick" (defArgs sLawPick) (defBody sLawPick) (defScope sLawPick) .none kV19 dc19 pm19 an19 cd19 ct19), sl19⟩) (c19 : PySem.W.codeIn K cd19 "_law_pick" = true) (k19 : PySem.W.keepIn K (.ref f19) = true)
    (a20 : PySem.W.nsIn K mainGlobals "_law_peaks" = some (some (.ref f20))) (l20 : K.lookup f20 = some ⟨oc20, od20, .func (PySem.W.fnOf "_law_peaks" "_law_peaks" (defArgs sLawPeaks) (defBody sLawPeaks) (defScope sLawPeaks) .none kV20 dc20 pm20 an20 cd20 ct20), sl20⟩) (c20 : PySem.W.codeIn K cd20 "_law_peaks" = true) (k20 : PySem.W.keepIn K (.ref f20) = true)
    (a21 : PySem.W.nsIn K mainGlobals "_law_size" = some (some (.ref f21))) (l21 : K.lookup f21 = some ⟨oc21, od21, .func (PySem.W.fnOf "_law_size" "_law_size" (defArgs sLawSize) (defBody sLawSize) (defScope sLawSize) .none kV21 dc21 pm21 an21 cd21 ct21), sl21⟩) (c21 : PySem.W.codeIn K cd21 "_law_size" = true) (k21 : PySem.W.keepIn K (.ref f21) = true)
    (a22 : PySem.W.nsIn K mainGlobals "_law_levels" = some (some (.ref f22))) (l22 : K.lookup f22 = some ⟨oc22, od22, .func (PySem.W.fnOf "_law_levels" "_law_levels" (defArgs sLawLevels) (defBody sLawLevels) (defScope sLawLevels) .none kV22 dc22 pm22 an22 cd22 ct22), sl22⟩) (c22 : PySem.W.codeIn K cd22 "_law_levels" = true) (k22 : PySem.W.keepIn K (.ref f22) = true)
    (a23 : PySem.W.nsIn K mainGlobals "_law_right" = some (some (.ref f23))) (l23 : K.lookup f23 = some ⟨oc23, od23, .func (PySem.W.fnOf "_law_right" "_law_right" (defArgs sLawRight) (defBody sLawRight) (defScope sLawRight) .none kV23 dc23 pm23 an23 cd23 ct23), sl23⟩) (c23 : PySem.W.codeIn K cd23 "_law_right" = true) (k23 : PySem.W.keepIn K (.ref f23) = true)
    (a24 : PySem.W.nsIn K mainGlobals "law" = some (some (.ref f24))) (l24 : K.lookup f24 = some ⟨oc24, od24, .func (PySem.W.fnOf "law" "law" (defArgs sLaw) (defBody sLaw) (defScope sLaw) .none kV24 dc24 pm24 an24 cd24 ct24), sl24⟩) (c24 : PySem.W.codeIn K cd24 "law" = true) (k24 : PySem.W.keepIn K (.ref f24) = true)
    (z_bool : PySem.W.nsIn K mainGlobals "bool" = some none)
    (z_enumerate : PySem.W.nsIn K mainGlobals "enumerate" = some none)
    (z_int : PySem.W.nsIn K mainGlobals "int" = some none)
    (z_isinstance : PySem.W.nsIn K mainGlobals "isinstance" = some none)
    (z_len : PySem.W.nsIn K mainGlobals "len" = some none)
    (z_max : PySem.W.nsIn K mainGlobals "max" = some none)
    (z_min : PySem.W.nsIn K mainGlobals "min" = some none)
    (z_range : PySem.W.nsIn K mainGlobals "range" = some none)
    (z_sum : PySem.W.nsIn K mainGlobals "sum" = some none)
    (z_tuple : PySem.W.nsIn K mainGlobals "tuple" = some none)
    {t_MOST_ENTRIES : Tok} (g_MOST_ENTRIES : PySem.W.nsIn K mainGlobals "MOST_ENTRIES" = some (some (.int 1000000000000000000000000000000 t_MOST_ENTRIES)))
    : ∃ fd : FuncData, (∀ (s : Shared) (v : Value), BindsTo s fd ⟨[v], []⟩ [("script", v)]) ∧ ∀ base : Heap, K.In base → base.Ns mainGlobals mg → FnOk l.prog w K mg base CX0 9 fa fd ["script"] (spLaw K) := by
  have e := hfa.symm.trans (PySem.W.mg_of X G a24)
  cases e
  have FIsWhole := fun_mk (st := sIsWhole) l0 c0 k0
  have FIsBetween := fun_mk (st := sIsBetween) l1 c1 k1
  have FIsTreeNode := fun_mk (st := sIsTreeNode) l2 c2 k2
  have FCheckSize := fun_mk (st := sCheckSize) l3 c3 k3
  have FCheckEntry := fun_mk (st := sCheckEntry) l4 c4 k4
  have FCheckNode := fun_mk (st := sCheckNode) l5 c5 k5
  have FCheckSpan := fun_mk (st := sCheckSpan) l6 c6 k6
  have FCheckNumber := fun_mk (st := sCheckNumber) l7 c7 k7
  have FPowerWithin := fun_mk (st := sPowerWithin) l8 c8 k8
  have FPeaks := fun_mk (st := sPeaks) l9 c9 k9
  have FHalves := fun_mk (st := sHalves) l10 c10 k10
  have FDepth := fun_mk (st := sDepth) l11 c11 k11
  have FPath := fun_mk (st := sPath) l12 c12 k12
  have FPeakDepths := fun_mk (st := sPeakDepths) l13 c13 k13
  have FDepthsBetween := fun_mk (st := sDepthsBetween) l14 c14 k14
  have FDepthSum := fun_mk (st := sDepthSum) l15 c15 k15
  have FDepthRange := fun_mk (st := sDepthRange) l16 c16 k16
  have FFirstOfDepth := fun_mk (st := sFirstOfDepth) l17 c17 k17
  have FLawBag := fun_mk (st := sLawBag) l18 c18 k18
  have FLawPick := fun_mk (st := sLawPick) l19 c19 k19
  have FLawPeaks := fun_mk (st := sLawPeaks) l20 c20 k20
  have FLawSize := fun_mk (st := sLawSize) l21 c21 k21
  have FLawLevels := fun_mk (st := sLawLevels) l22 c22 k22
  have FLawRight := fun_mk (st := sLawRight) l23 c23 k23
  have FLaw := fun_mk (st := sLaw) l24 c24 k24
  have AIsWhole : At K mg "is_whole" f0 (PySem.W.fnOf "is_whole" "is_whole" (defArgs sIsWhole) (defBody sIsWhole) (defScope sIsWhole) .none kV0 dc0 pm0 an0 cd0 ct0) ["value"] := ⟨PySem.W.mg_of X G a0, k0, FIsWhole.binds (ps := ["value"]) fun _ _ _ _ _ _ us hl => match us, hl with | [_], _ => rfl⟩
  have AIsBetween : At K mg "is_between" f1 (PySem.W.fnOf "is_between" "is_between" (defArgs sIsBetween) (defBody sIsBetween) (defScope sIsBetween) .none kV1 dc1 pm1 an1 cd1 ct1) ["value", "low", "high"] := ⟨PySem.W.mg_of X G a1, k1, FIsBetween.binds (ps := ["value", "low", "high"]) fun _ _ _ _ _ _ us hl => match us, hl with | [_, _, _], _ => rfl⟩
  have AIsTreeNode : At K mg "is_tree_node" f2 (PySem.W.fnOf "is_tree_node" "is_tree_node" (defArgs sIsTreeNode) (defBody sIsTreeNode) (defScope sIsTreeNode) .none kV2 dc2 pm2 an2 cd2 ct2) ["size", "value"] := ⟨PySem.W.mg_of X G a2, k2, FIsTreeNode.binds (ps := ["size", "value"]) fun _ _ _ _ _ _ us hl => match us, hl with | [_, _], _ => rfl⟩
  have ACheckSize : At K mg "check_size" f3 (PySem.W.fnOf "check_size" "check_size" (defArgs sCheckSize) (defBody sCheckSize) (defScope sCheckSize) .none kV3 dc3 pm3 an3 cd3 ct3) ["size"] := ⟨PySem.W.mg_of X G a3, k3, FCheckSize.binds (ps := ["size"]) fun _ _ _ _ _ _ us hl => match us, hl with | [_], _ => rfl⟩
  have ACheckEntry : At K mg "check_entry" f4 (PySem.W.fnOf "check_entry" "check_entry" (defArgs sCheckEntry) (defBody sCheckEntry) (defScope sCheckEntry) .none kV4 dc4 pm4 an4 cd4 ct4) ["size", "entry"] := ⟨PySem.W.mg_of X G a4, k4, FCheckEntry.binds (ps := ["size", "entry"]) fun _ _ _ _ _ _ us hl => match us, hl with | [_, _], _ => rfl⟩
  have ACheckNode : At K mg "check_node" f5 (PySem.W.fnOf "check_node" "check_node" (defArgs sCheckNode) (defBody sCheckNode) (defScope sCheckNode) .none kV5 dc5 pm5 an5 cd5 ct5) ["size", "node"] := ⟨PySem.W.mg_of X G a5, k5, FCheckNode.binds (ps := ["size", "node"]) fun _ _ _ _ _ _ us hl => match us, hl with | [_, _], _ => rfl⟩
  have ACheckSpan : At K mg "check_span" f6 (PySem.W.fnOf "check_span" "check_span" (defArgs sCheckSpan) (defBody sCheckSpan) (defScope sCheckSpan) .none kV6 dc6 pm6 an6 cd6 ct6) ["size", "begin", "end"] := ⟨PySem.W.mg_of X G a6, k6, FCheckSpan.binds (ps := ["size", "begin", "end"]) fun _ _ _ _ _ _ us hl => match us, hl with | [_, _, _], _ => rfl⟩
  have ACheckNumber : At K mg "check_number" f7 (PySem.W.fnOf "check_number" "check_number" (defArgs sCheckNumber) (defBody sCheckNumber) (defScope sCheckNumber) .none kV7 dc7 pm7 an7 cd7 ct7) ["number"] := ⟨PySem.W.mg_of X G a7, k7, FCheckNumber.binds (ps := ["number"]) fun _ _ _ _ _ _ us hl => match us, hl with | [_], _ => rfl⟩
  have APowerWithin : At K mg "power_within" f8 (PySem.W.fnOf "power_within" "power_within" (defArgs sPowerWithin) (defBody sPowerWithin) (defScope sPowerWithin) .none kV8 dc8 pm8 an8 cd8 ct8) ["number"] := ⟨PySem.W.mg_of X G a8, k8, FPowerWithin.binds (ps := ["number"]) fun _ _ _ _ _ _ us hl => match us, hl with | [_], _ => rfl⟩
  have APeaks : At K mg "peaks" f9 (PySem.W.fnOf "peaks" "peaks" (defArgs sPeaks) (defBody sPeaks) (defScope sPeaks) .none kV9 dc9 pm9 an9 cd9 ct9) ["size"] := ⟨PySem.W.mg_of X G a9, k9, FPeaks.binds (ps := ["size"]) fun _ _ _ _ _ _ us hl => match us, hl with | [_], _ => rfl⟩
  have AHalves : At K mg "halves" f10 (PySem.W.fnOf "halves" "halves" (defArgs sHalves) (defBody sHalves) (defScope sHalves) .none kV10 dc10 pm10 an10 cd10 ct10) ["size", "node"] := ⟨PySem.W.mg_of X G a10, k10, FHalves.binds (ps := ["size", "node"]) fun _ _ _ _ _ _ us hl => match us, hl with | [_, _], _ => rfl⟩
  have ADepth : At K mg "depth" f11 (PySem.W.fnOf "depth" "depth" (defArgs sDepth) (defBody sDepth) (defScope sDepth) .none kV11 dc11 pm11 an11 cd11 ct11) ["size", "entry"] := ⟨PySem.W.mg_of X G a11, k11, FDepth.binds (ps := ["size", "entry"]) fun _ _ _ _ _ _ us hl => match us, hl with | [_, _], _ => rfl⟩
  have APath : At K mg "path" f12 (PySem.W.fnOf "path" "path" (defArgs sPath) (defBody sPath) (defScope sPath) .none kV12 dc12 pm12 an12 cd12 ct12) ["size", "entry"] := ⟨PySem.W.mg_of X G a12, k12, FPath.binds (ps := ["size", "entry"]) fun _ _ _ _ _ _ us hl => match us, hl with | [_, _], _ => rfl⟩
  have APeakDepths : At K mg "_peak_depths" f13 (PySem.W.fnOf "_peak_depths" "_peak_depths" (defArgs sPeakDepths) (defBody sPeakDepths) (defScope sPeakDepths) .none kV13 dc13 pm13 an13 cd13 ct13) ["size"] := ⟨PySem.W.mg_of X G a13, k13, FPeakDepths.binds (ps := ["size"]) fun _ _ _ _ _ _ us hl => match us, hl with | [_], _ => rfl⟩
  have ADepthsBetween : At K mg "_depths_between" f14 (PySem.W.fnOf "_depths_between" "_depths_between" (defArgs sDepthsBetween) (defBody sDepthsBetween) (defScope sDepthsBetween) .none kV14 dc14 pm14 an14 cd14 ct14) ["size", "begin", "end"] := ⟨PySem.W.mg_of X G a14, k14, FDepthsBetween.binds (ps := ["size", "begin", "end"]) fun _ _ _ _ _ _ us hl => match us, hl with | [_, _, _], _ => rfl⟩
  have ADepthSum : At K mg "depth_sum" f15 (PySem.W.fnOf "depth_sum" "depth_sum" (defArgs sDepthSum) (defBody sDepthSum) (defScope sDepthSum) .none kV15 dc15 pm15 an15 cd15 ct15) ["size", "begin", "end"] := ⟨PySem.W.mg_of X G a15, k15, FDepthSum.binds (ps := ["size", "begin", "end"]) fun _ _ _ _ _ _ us hl => match us, hl with | [_, _, _], _ => rfl⟩
  have ADepthRange : At K mg "depth_range" f16 (PySem.W.fnOf "depth_range" "depth_range" (defArgs sDepthRange) (defBody sDepthRange) (defScope sDepthRange) .none kV16 dc16 pm16 an16 cd16 ct16) ["size", "begin", "end"] := ⟨PySem.W.mg_of X G a16, k16, FDepthRange.binds (ps := ["size", "begin", "end"]) fun _ _ _ _ _ _ us hl => match us, hl with | [_, _, _], _ => rfl⟩
  have AFirstOfDepth : At K mg "first_of_depth" f17 (PySem.W.fnOf "first_of_depth" "first_of_depth" (defArgs sFirstOfDepth) (defBody sFirstOfDepth) (defScope sFirstOfDepth) .none kV17 dc17 pm17 an17 cd17 ct17) ["size", "number"] := ⟨PySem.W.mg_of X G a17, k17, FFirstOfDepth.binds (ps := ["size", "number"]) fun _ _ _ _ _ _ us hl => match us, hl with | [_, _], _ => rfl⟩
  have ALawBag : At K mg "_law_bag" f18 (PySem.W.fnOf "_law_bag" "_law_bag" (defArgs sLawBag) (defBody sLawBag) (defScope sLawBag) .none kV18 dc18 pm18 an18 cd18 ct18) ["cell"] := ⟨PySem.W.mg_of X G a18, k18, FLawBag.binds (ps := ["cell"]) fun _ _ _ _ _ _ us hl => match us, hl with | [_], _ => rfl⟩
  have ALawPick : At K mg "_law_pick" f19 (PySem.W.fnOf "_law_pick" "_law_pick" (defArgs sLawPick) (defBody sLawPick) (defScope sLawPick) .none kV19 dc19 pm19 an19 cd19 ct19) ["bag", "many"] := ⟨PySem.W.mg_of X G a19, k19, FLawPick.binds (ps := ["bag", "many"]) fun _ _ _ _ _ _ us hl => match us, hl with | [_, _], _ => rfl⟩
  have ALawPeaks : At K mg "_law_peaks" f20 (PySem.W.fnOf "_law_peaks" "_law_peaks" (defArgs sLawPeaks) (defBody sLawPeaks) (defScope sLawPeaks) .none kV20 dc20 pm20 an20 cd20 ct20) ["size"] := ⟨PySem.W.mg_of X G a20, k20, FLawPeaks.binds (ps := ["size"]) fun _ _ _ _ _ _ us hl => match us, hl with | [_], _ => rfl⟩
  have ALawSize : At K mg "_law_size" f21 (PySem.W.fnOf "_law_size" "_law_size" (defArgs sLawSize) (defBody sLawSize) (defScope sLawSize) .none kV21 dc21 pm21 an21 cd21 ct21) ["bag"] := ⟨PySem.W.mg_of X G a21, k21, FLawSize.binds (ps := ["bag"]) fun _ _ _ _ _ _ us hl => match us, hl with | [_], _ => rfl⟩
  have ALawLevels : At K mg "_law_levels" f22 (PySem.W.fnOf "_law_levels" "_law_levels" (defArgs sLawLevels) (defBody sLawLevels) (defScope sLawLevels) .none kV22 dc22 pm22 an22 cd22 ct22) ["size"] := ⟨PySem.W.mg_of X G a22, k22, FLawLevels.binds (ps := ["size"]) fun _ _ _ _ _ _ us hl => match us, hl with | [_], _ => rfl⟩
  have ALawRight : At K mg "_law_right" f23 (PySem.W.fnOf "_law_right" "_law_right" (defArgs sLawRight) (defBody sLawRight) (defScope sLawRight) .none kV23 dc23 pm23 an23 cd23 ct23) ["bag"] := ⟨PySem.W.mg_of X G a23, k23, FLawRight.binds (ps := ["bag"]) fun _ _ _ _ _ _ us hl => match us, hl with | [_], _ => rfl⟩
  have z_bool := PySem.W.mg_none_of X G z_bool
  have z_enumerate := PySem.W.mg_none_of X G z_enumerate
  have z_int := PySem.W.mg_none_of X G z_int
  have z_isinstance := PySem.W.mg_none_of X G z_isinstance
  have z_len := PySem.W.mg_none_of X G z_len
  have z_max := PySem.W.mg_none_of X G z_max
  have z_min := PySem.W.mg_none_of X G z_min
  have z_range := PySem.W.mg_none_of X G z_range
  have z_sum := PySem.W.mg_none_of X G z_sum
  have z_tuple := PySem.W.mg_none_of X G z_tuple
  have g_MOST_ENTRIES := PySem.W.mg_of X G g_MOST_ENTRIES
  refine ⟨PySem.W.fnOf "law" "law" (defArgs sLaw) (defBody sLaw) (defScope sLaw) .none kV24 dc24 pm24 an24 cd24 ct24, fun s v => .of_eq rfl, fun base _ _ => ?_⟩
  have GIsWhole := ok_is_whole (P := l.prog) (w := w) (base := base) FIsWhole z_isinstance z_int z_bool
  have GIsBetween := ok_is_between FIsBetween GIsWhole AIsWhole
  have GCheckSize := ok_check_size FCheckSize GIsBetween AIsBetween g_MOST_ENTRIES
  have GCheckEntry := ok_check_entry FCheckEntry GIsBetween AIsBetween
  have GCheckSpan := ok_check_span FCheckSpan GIsBetween AIsBetween
  have GCheckNumber := ok_check_number FCheckNumber GIsWhole AIsWhole
  have GIsTreeNode := ok_is_tree_node FIsTreeNode GIsBetween AIsBetween z_isinstance z_tuple z_len
  have GCheckNode := ok_check_node FCheckNode GIsTreeNode AIsTreeNode
  have GPowerWithin := ok_power_within (P := l.prog) (w := w) (mg := mg) (base := base) FPowerWithin
  have GPeaks := ok_peaks FPeaks GCheckSize ACheckSize GPowerWithin APowerWithin
  have GPeakDepths := ok_peak_depths FPeakDepths GPeaks APeaks z_min z_enumerate z_len
  have GDepthsBetween := ok_depths_between FDepthsBetween GPeakDepths APeakDepths z_min z_max
  have GDepthSum := ok_depth_sum FDepthSum GCheckSize ACheckSize GCheckSpan ACheckSpan GDepthsBetween ADepthsBetween z_sum
  have GDepthRange := ok_depth_range FDepthRange GCheckSize ACheckSize GCheckSpan ACheckSpan GDepthsBetween ADepthsBetween z_min z_max
  have GFirstOfDepth := ok_first_of_depth FFirstOfDepth GCheckSize ACheckSize GCheckNumber ACheckNumber GPeakDepths APeakDepths
  have GHalves := ok_halves FHalves GCheckSize ACheckSize GCheckNode ACheckNode GPowerWithin APowerWithin
  have GPath := ok_path FPath GCheckSize ACheckSize GCheckEntry ACheckEntry GHalves AHalves
  have GDepth := ok_depth FDepth GPath APath z_len
  have GLawBag := ok_law_bag (P := l.prog) (w := w) (base := base) FLawBag z_max
  have GLawPick := ok_law_pick (P := l.prog) (w := w) (base := base) FLawPick z_int
  have GLawPeaks := ok_law_peaks (P := l.prog) (w := w) (base := base) FLawPeaks z_range
  have GLawSize := ok_law_size FLawSize GLawPick ALawPick z_max z_min
  have GLawLevels := ok_law_levels FLawLevels GLawPeaks ALawPeaks z_max z_min z_range z_enumerate z_len
  have GLawRight := ok_law_right FLawRight GLawSize ALawSize GLawLevels ALawLevels GLawPick ALawPick GDepthSum ADepthSum GDepthRange ADepthRange GDepth ADepth GFirstOfDepth AFirstOfDepth z_max z_min z_len z_sum z_range
  exact ok_law FLaw GLawBag ALawBag GLawRight ALawRight GDepthSum ADepthSum GDepthRange ADepthRange GFirstOfDepth AFirstOfDepth z_range
end LT
open PySem PySem.W PyProof.Rows
set_option maxRecDepth 100000 in
set_option maxHeartbeats 0 in
theorem PySem.Challenge.cw_logtrees_k07_sums_and_ranges_of_depths_holds : PySem.Challenge.rw_logtrees_k07_sums_and_ranges_of_depths.Holds := by
  w_on; o_law; k_head; (case hw => w_witness2)
  k_fill
  refine L2.walk_of (l := PySem.Challenge.rw_logtrees_k07_sums_and_ranges_of_depths) (n := 63) (k := 9) (x := "script") (CX := fun _ => L2.CX0) (sp := fun w => LT.spLaw _) rfl (by decide) rfl ⟨rfl, by decide, by decide⟩ (fun w h Y => PySem.W.kIn_of Y) ?F (fun _ _ a ns hl _ hS => ⟨a, ns, rfl, hS, hl, fun _ => rfl⟩) (fun _ _ _ _ _ h => h)
  case F =>
    intro w mg fa h KX G hmg
    refine' LT.all_mk KX G hmg ?a0 ?l0 ?c0 ?k0 ?a1 ?l1 ?c1 ?k1 ?a2 ?l2 ?c2 ?k2 ?a3 ?l3 ?c3 ?k3 ?a4 ?l4 ?c4 ?k4 ?a5 ?l5 ?c5 ?k5 ?a6 ?l6 ?c6 ?k6 ?a7 ?l7 ?c7 ?k7 ?a8 ?l8 ?c8 ?k8 ?a9 ?l9 ?c9 ?k9 ?a10 ?l10 ?c10 ?k10 ?a11 ?l11 ?c11 ?k11 ?a12 ?l12 ?c12 ?k12 ?a13 ?l13 ?c13 ?k13 ?a14 ?l14 ?c14 ?k14 ?a15 ?l15 ?c15 ?k15 ?a16 ?l16 ?c16 ?k16 ?a17 ?l17 ?c17 ?k17 ?a18 ?l18 ?c18 ?k18 ?a19 ?l19 ?c19 ?k19 ?a20 ?l20 ?c20 ?k20 ?a21 ?l21 ?c21 ?k21 ?a22 ?l22 ?c22 ?k22 ?a23 ?l23 ?c23 ?k23 ?a24 ?l24 ?c24 ?k24 ?z_bool ?z_enumerate ?z_int ?z_isinstance ?z_len ?z_max ?z_min ?z_range ?z_sum ?z_tuple ?g_MOST_ENTRIES
    (case a0 => k_is)
    (case l0 => k_is)
    (case c0 => k_is)
    (case k0 => k_is)
    (case a1 => k_is)
    (case l1 => k_is)
    (case c1 => k_is)
    (case k1 => k_is)
    (case a2 => k_is)
    (case l2 => k_is)
    (case c2 => k_is)
    (case k2 => k_is)
    (case a3 => k_is)
    (case l3 => k_is)
    (case c3 => k_is)
    (case k3 => k_is)
    (case a4 => k_is)
    (case l4 => k_is)
    (case c4 => k_is)
    (case k4 => k_is)
    (case a5 => k_is)
    (case l5 => k_is)
    (case c5 => k_is)
    (case k5 => k_is)
    (case a6 => k_is)
    (case l6 => k_is)
    (case c6 => k_is)
    (case k6 => k_is)
    (case a7 => k_is)
    (case l7 => k_is)
    (case c7 => k_is)
    (case k7 => k_is)
    (case a8 => k_is)
    (case l8 => k_is)
    (case c8 => k_is)
    (case k8 => k_is)
    (case a9 => k_is)
    (case l9 => k_is)
    (case c9 => k_is)
    (case k9 => k_is)
    (case a10 => k_is)
    (case l10 => k_is)
    (case c10 => k_is)
    (case k10 => k_is)
    (case a11 => k_is)
    (case l11 => k_is)
    (case c11 => k_is)
    (case k11 => k_is)
    (case a12 => k_is)
    (case l12 => k_is)
    (case c12 => k_is)
    (case k12 => k_is)
    (case a13 => k_is)
    (case l13 => k_is)
    (case c13 => k_is)
    (case k13 => k_is)
    (case a14 => k_is)
    (case l14 => k_is)
    (case c14 => k_is)
    (case k14 => k_is)
    (case a15 => k_is)
    (case l15 => k_is)
    (case c15 => k_is)
    (case k15 => k_is)
    (case a16 => k_is)
    (case l16 => k_is)
    (case c16 => k_is)
    (case k16 => k_is)
    (case a17 => k_is)
    (case l17 => k_is)
    (case c17 => k_is)
    (case k17 => k_is)
    (case a18 => k_is)
    (case l18 => k_is)
    (case c18 => k_is)
    (case k18 => k_is)
    (case a19 => k_is)
    (case l19 => k_is)
    (case c19 => k_is)
    (case k19 => k_is)
    (case a20 => k_is)
    (case l20 => k_is)
    (case c20 => k_is)
    (case k20 => k_is)
    (case a21 => k_is)
    (case l21 => k_is)
    (case c21 => k_is)
    (case k21 => k_is)
    (case a22 => k_is)
    (case l22 => k_is)
    (case c22 => k_is)
    (case k22 => k_is)
    (case a23 => k_is)
    (case l23 => k_is)
    (case c23 => k_is)
    (case k23 => k_is)
    (case a24 => k_is)
    (case l24 => k_is)
    (case c24 => k_is)
    (case k24 => k_is)
    (case z_bool => k_is)
    (case z_enumerate => k_is)
    (case z_int => k_is)
    (case z_isinstance => k_is)
    (case z_len => k_is)
    (case z_max => k_is)
    (case z_min => k_is)
    (case z_range => k_is)
    (case z_sum => k_is)
    (case z_tuple => k_is)
    (case g_MOST_ENTRIES => k_is)
