import PyProof.Rows.All
import Wide.All
import OpenK.AllK
import Wide.FinOn
import HandS.ForMost
import HandS.Wide
import HandS.WideBits
import HandS.IsInst
import HandS.Style
import HandS.Deep
import HandS.RaiseMore
import HandS.Conv
import HandS.Flow
import HandS.SortRule
import HandS.NoneIn
import PyProof.ReprRoads
import PyProof.Rows.NestShow
import KE.DataMinMax
import KE.SortData
import PySem.Challenge.RW_logtrees_k24_totals_by_steps
set_option Elab.async false
set_option linter.all false
set_option maxRecDepth 100000
set_option maxHeartbeats 4000000
namespace LT
/-- the greatest power of two less than m (m from 2) -/
def gp (m : Nat) : Nat := 2 ^ Nat.log2 (m - 1)
theorem gp_pos (m : Nat) : 0 < gp m := Nat.pow_pos (by decide)
theorem gp_lt {m : Nat} (h : 2 ≤ m) : gp m < m := by
  have := Nat.log2_self_le (n := m - 1) (by omega)
  unfold gp; omega
theorem gp_ge {m : Nat} (h : 2 ≤ m) : m ≤ 2 * gp m := by
  have := Nat.lt_log2_self (n := m - 1)
  unfold gp; rw [Nat.pow_succ] at this; omega
theorem pow_eq_of {i j : Nat} {m : Nat} (h1 : 2 ^ i < m) (h2 : m ≤ 2 * 2 ^ i) (h3 : 2 ^ j < m) (h4 : m ≤ 2 * 2 ^ j) : i = j := by
  have a : 2 ^ i < 2 ^ (j + 1) := by rw [Nat.pow_succ]; omega
  have b : 2 ^ j < 2 ^ (i + 1) := by rw [Nat.pow_succ]; omega
  have a' := (Nat.pow_lt_pow_iff_right (by decide : 1 < 2)).mp a
  have b' := (Nat.pow_lt_pow_iff_right (by decide : 1 < 2)).mp b
  omega
theorem gp_eq {i m : Nat} (h1 : 2 ^ i < m) (h2 : m ≤ 2 * 2 ^ i) : gp m = 2 ^ i := by
  have h : 2 ≤ m := by have := Nat.pow_pos (a := 2) (n := i) (by decide); omega
  have := pow_eq_of (gp_lt h) (gp_ge h) h1 h2
  unfold gp; rw [this]
theorem gp_pow (i : Nat) : gp (2 ^ (i + 1)) = 2 ^ i := gp_eq (by rw [Nat.pow_succ]; have := Nat.pow_pos (a := 2) (n := i) (by decide); omega) (by rw [Nat.pow_succ]; omega)

/-- siblings from the root's half down to the leaf's: nodes as (begin, length-end) pairs -/
def sib (b m e : Nat) : List (Nat × Nat) :=
  if h : m ≤ 1 then [] else
    if e < b + gp m then (b + gp m, b + m) :: sib b (gp m) e
    else (b, b + gp m) :: sib (b + gp m) (m - gp m) e
termination_by m
decreasing_by
  · exact gp_lt (by omega)
  · have := gp_pos m; omega
theorem sib_one {b m e : Nat} (h : m ≤ 1) : sib b m e = [] := by rw [sib]; simp [h]
theorem sib_low {b m e : Nat} (h : 2 ≤ m) (k : e < b + gp m) : sib b m e = (b + gp m, b + m) :: sib b (gp m) e := by
  rw [sib]; rw [dif_neg (by omega), if_pos k]
theorem sib_high {b m e : Nat} (h : 2 ≤ m) (k : ¬ e < b + gp m) : sib b m e = (b, b + gp m) :: sib (b + gp m) (m - gp m) e := by
  rw [sib]; rw [dif_neg (by omega), if_neg k]

/-! ### joining up again -/
def join (x y : Nat × Nat) : Nat × Nat := (min x.1 y.1, max x.2 y.2)
/-- the halves of a node -/
def halv (x : Nat × Nat) : (Nat × Nat) × (Nat × Nat) := ((x.1, x.1 + gp (x.2 - x.1)), (x.1 + gp (x.2 - x.1), x.2))
def ok1 (x y : Nat × Nat) : Prop := (join x y).1 + 2 ≤ (join x y).2 ∧ (halv (join x y) = (x, y) ∨ halv (join x y) = (y, x))
def oks : Nat × Nat → List (Nat × Nat) → Prop
  | _, [] => True
  | x, y :: r => ok1 x y ∧ oks (join x y) r
def top : Nat × Nat → List (Nat × Nat) → Nat × Nat
  | x, [] => x
  | x, y :: r => top (join x y) r
theorem oks_append : ∀ (x : Nat × Nat) (l r : List (Nat × Nat)), oks x l → oks (top x l) r → oks x (l ++ r)
  | _, [], _, _, h => h
  | x, y :: l, r, h1, h2 => ⟨h1.1, oks_append (join x y) l r h1.2 h2⟩
theorem top_append : ∀ (x : Nat × Nat) (l r : List (Nat × Nat)), top x (l ++ r) = top (top x l) r
  | _, [], _ => rfl
  | x, y :: l, r => top_append (join x y) l r
theorem sib_up : ∀ (m b e : Nat), b ≤ e → e < b + m → oks (e, e + 1) (sib b m e).reverse ∧ top (e, e + 1) (sib b m e).reverse = (b, b + m) := by
  intro m
  induction m using Nat.strongRecOn with
  | ind m ih =>
    intro b e h1 h2
    by_cases hm : m ≤ 1
    · have : m = 1 := by omega
      subst this
      rw [sib_one (by omega)]
      have : e = b := by omega
      subst this
      exact ⟨True.intro, rfl⟩
    · have g1 := gp_lt (m := m) (by omega)
      have g2 := gp_pos m
      by_cases k : e < b + gp m
      · rw [sib_low (by omega) k, List.reverse_cons]
        obtain ⟨p, q⟩ := ih (gp m) g1 b e h1 k
        have j : join (b, b + gp m) (b + gp m, b + m) = (b, b + m) := by
          unfold join; simp only []; rw [Nat.min_eq_left (by omega), Nat.max_eq_right (by omega)]
        refine ⟨oks_append _ _ _ p ?_, ?_⟩
        · rw [q]
          refine ⟨⟨?_, .inl ?_⟩, True.intro⟩
          · rw [j]; simp only []; omega
          · rw [j]; unfold halv; simp only []; rw [Nat.add_sub_cancel_left]
        · rw [top_append, q]; exact j
      · rw [sib_high (by omega) k, List.reverse_cons]
        obtain ⟨p, q⟩ := ih (m - gp m) (by omega) (b + gp m) e (by omega) (by omega)
        have e2 : b + gp m + (m - gp m) = b + m := by omega
        rw [e2] at q
        have j : join (b + gp m, b + m) (b, b + gp m) = (b, b + m) := by
          unfold join; simp only []; rw [Nat.min_eq_right (by omega), Nat.max_eq_left (by omega)]
        refine ⟨oks_append _ _ _ p ?_, ?_⟩
        · rw [q]
          refine ⟨⟨?_, .inr ?_⟩, True.intro⟩
          · rw [j]; simp only []; omega
          · rw [j]; unfold halv; simp only []; rw [Nat.add_sub_cancel_left]
        · rw [top_append, q]; exact j
theorem sib_len_pow (i : Nat) : ∀ (b e : Nat), b ≤ e → e < b + 2 ^ i → (sib b (2 ^ i) e).length = i := by
  induction i with
  | zero => intro b e h1 h2; rw [sib_one (by simp)]; rfl
  | succ i ih =>
    intro b e h1 h2
    have h3 : 2 ≤ 2 ^ (i + 1) := by rw [Nat.pow_succ]; have := Nat.pow_pos (a := 2) (n := i) (by decide); omega
    have g := gp_pow i
    have e2 : 2 ^ (i + 1) - 2 ^ i = 2 ^ i := by rw [Nat.pow_succ]; omega
    by_cases k : e < b + gp (2 ^ (i + 1))
    · rw [sib_low h3 k, List.length_cons, g, ih b e h1 (by omega)]
    · rw [sib_high h3 k, List.length_cons, g, e2, ih (b + 2 ^ i) e (by omega) (by rw [Nat.pow_succ] at h2; omega)]
/-! ### the peaks by digits: (begin, height) -/
def pk : Nat → Nat → Nat → List (Nat × Nat)
  | 0, _, _ => []
  | i + 1, n, b => if n.testBit i then (b, i) :: pk i n (b + 2 ^ i) else pk i n b
theorem mod_succ (n i : Nat) : n % 2 ^ (i + 1) = (if n.testBit i then 2 ^ i else 0) + n % 2 ^ i := by
  rw [Nat.mod_pow_succ, Nat.testBit_eq_decide_div_mod_eq, Nat.add_comm]
  have h : n / 2 ^ i % 2 = 0 ∨ n / 2 ^ i % 2 = 1 := by omega
  rcases h with h | h <;> rw [h] <;> simp
theorem pk_nil : ∀ (i n b : Nat), n % 2 ^ i = 0 → pk i n b = []
  | 0, _, _, _ => rfl
  | i + 1, n, b, h => by
    rw [mod_succ] at h
    have p := Nat.pow_pos (a := 2) (n := i) (by decide)
    unfold pk
    cases t : n.testBit i with
    | true => rw [t] at h; simp at h
    | false => rw [t] at h; simp at h; simp; exact pk_nil i n b h
theorem pk_ne : ∀ (i n b : Nat), n % 2 ^ i ≠ 0 → pk i n b ≠ []
  | 0, _, _, h => by simp [Nat.mod_one] at h
  | i + 1, n, b, h => by
    rw [mod_succ] at h
    unfold pk
    cases t : n.testBit i with
    | true => simp
    | false => rw [t] at h; simp at h; simp; exact pk_ne i n b (by omega)
theorem pk_begin : ∀ (i n b : Nat) (x : Nat × Nat), x ∈ pk i n b → b ≤ x.1 ∧ x.2 < i
  | 0, _, _, _, h => by simp [pk] at h
  | i + 1, n, b, x, h => by
    unfold pk at h
    cases t : n.testBit i with
    | true =>
      rw [t] at h; simp at h
      rcases h with h | h
      · subst h; exact ⟨Nat.le_refl _, Nat.lt_succ_self _⟩
      · have := pk_begin i n _ x h; have p := Nat.pow_pos (a := 2) (n := i) (by decide); omega
    | false =>
      rw [t] at h; simp at h
      have := pk_begin i n _ x h; omega
/-- what the law says of the levels: s the place of the first row, of t rows in all -/
def lev (t : Nat) : Nat → List (Nat × Nat) → List (Nat × Nat × Nat)
  | _, [] => []
  | s, x :: r => (x.1, x.1 + 2 ^ x.2, x.2 + min (s + 1) (t - 1)) :: lev t (s + 1) r
def due (e : Nat) (l : List (Nat × Nat × Nat)) : List Nat := (l.filter fun x => decide (x.1 ≤ e) && decide (e < x.2.1)).map fun x => x.2.2
theorem due_none (t e : Nat) : ∀ (l : List (Nat × Nat)) (s : Nat), (∀ x ∈ l, e < x.1) → due e (lev t s l) = []
  | [], _, _ => rfl
  | x :: r, s, h => by
    have h1 := h x (List.mem_cons_self)
    have ih := due_none t e r (s + 1) fun y hy => h y (List.mem_cons_of_mem _ hy)
    show List.map _ (List.filter _ ((x.1, x.1 + 2 ^ x.2, x.2 + min (s + 1) (t - 1)) :: lev t (s + 1) r)) = []
    rw [List.filter_cons, if_neg (by simp; omega)]
    exact ih
theorem due_is (n e : Nat) : ∀ (i b s : Nat), b ≤ e → e < b + n % 2 ^ i → due e (lev (s + (pk i n b).length) s (pk i n b)) = [(sib b (n % 2 ^ i) e).length + min s (s + (pk i n b).length - 1)] := by
  intro i
  induction i with
  | zero => intro b s h1 h2; simp [Nat.mod_one] at h2; omega
  | succ i ih =>
    intro b s h1 h2
    have p := Nat.pow_pos (a := 2) (n := i) (by decide)
    have ml := Nat.mod_lt n p
    cases t : n.testBit i with
    | false =>
      have e1 : n % 2 ^ (i + 1) = n % 2 ^ i := by rw [mod_succ, t]; simp
      have e2 : pk (i + 1) n b = pk i n b := by show (if n.testBit i = true then _ else _) = _; rw [t]; simp
      rw [e1] at h2
      rw [e1, e2]; exact ih b s h1 h2
    | true =>
      have e1 : n % 2 ^ (i + 1) = 2 ^ i + n % 2 ^ i := by rw [mod_succ, t]; simp
      have e2 : pk (i + 1) n b = (b, i) :: pk i n (b + 2 ^ i) := by show (if n.testBit i = true then _ else _) = _; rw [t]; simp
      rw [e1] at h2
      rw [e1, e2, List.length_cons]
      by_cases r0 : n % 2 ^ i = 0
      · rw [pk_nil i n _ r0, r0]
        rw [r0] at h2
        rw [Nat.add_zero] at h2
        rw [Nat.add_zero (2 ^ i), sib_len_pow i b e h1 h2]
        show List.map _ (List.filter _ [(b, b + 2 ^ i, i + min (s + 1) (s + (0 + 1) - 1))]) = _
        rw [List.filter_cons, if_pos (by simp; omega)]
        simp
      · have hne : 1 ≤ (pk i n (b + 2 ^ i)).length := by
          have := pk_ne i n (b + 2 ^ i) r0
          cases hh : pk i n (b + 2 ^ i) with
          | nil => exact absurd hh this
          | cons _ _ => rw [List.length_cons]; omega
        have g : gp (2 ^ i + n % 2 ^ i) = 2 ^ i := gp_eq (by omega) (by omega)
        by_cases k : e < b + 2 ^ i
        · rw [sib_low (by omega) (by rw [g]; exact k), g, List.length_cons, sib_len_pow i b e h1 k]
          have d := due_none (s + ((pk i n (b + 2 ^ i)).length + 1)) e (pk i n (b + 2 ^ i)) (s + 1) fun x hx => by have := pk_begin _ _ _ x hx; omega
          show List.map _ (List.filter _ ((b, b + 2 ^ i, i + min (s + 1) (s + ((pk i n (b + 2 ^ i)).length + 1) - 1)) :: lev (s + ((pk i n (b + 2 ^ i)).length + 1)) (s + 1) (pk i n (b + 2 ^ i)))) = _
          rw [List.filter_cons, if_pos (by simp; omega), List.map_cons]
          have d' : List.map (fun x => x.2.2) (List.filter (fun x => decide (x.1 ≤ e) && decide (e < x.2.1)) (lev (s + ((pk i n (b + 2 ^ i)).length + 1)) (s + 1) (pk i n (b + 2 ^ i)))) = [] := d
          rw [d']
          simp
          omega
        · rw [sib_high (by omega) (by rw [g]; exact k), g, List.length_cons, Nat.add_sub_cancel_left]
          have q := ih (b + 2 ^ i) (s + 1) (by omega) (by omega)
          have e3 : s + 1 + (pk i n (b + 2 ^ i)).length = s + ((pk i n (b + 2 ^ i)).length + 1) := by omega
          rw [e3] at q
          show List.map _ (List.filter _ ((b, b + 2 ^ i, i + min (s + 1) (s + ((pk i n (b + 2 ^ i)).length + 1) - 1)) :: lev (s + ((pk i n (b + 2 ^ i)).length + 1)) (s + 1) (pk i n (b + 2 ^ i)))) = _
          rw [List.filter_cons, if_neg (by simp; omega)]
          refine Eq.trans q ?_
          congr 1
          omega
/-! ### which pairs are nodes -/
/-- the bits of m - 1 -/
def lb (m : Nat) : Nat := if m ≤ 1 then 0 else Nat.log2 (m - 1) + 1
theorem lb_le {x i : Nat} (h : x ≤ 2 ^ i) : lb x ≤ i := by
  unfold lb
  by_cases k : x ≤ 1
  · rw [if_pos k]; omega
  · rw [if_neg k]
    have h1 := Nat.log2_self_le (n := x - 1) (by omega)
    have h2 : 2 ^ Nat.log2 (x - 1) < 2 ^ i := by omega
    exact (Nat.pow_lt_pow_iff_right (by decide : 1 < 2)).mp h2
theorem lb_ge (x : Nat) : x ≤ 2 ^ lb x := by
  unfold lb
  by_cases k : x ≤ 1
  · rw [if_pos k]; omega
  · rw [if_neg k]
    have := Nat.lt_log2_self (n := x - 1)
    omega
theorem lb_pow (i : Nat) : lb (2 ^ i) = i := by
  have h1 := lb_le (Nat.le_refl (2 ^ i))
  have h2 := (Nat.pow_le_pow_iff_right (by decide : 1 < 2)).mp (lb_ge (2 ^ i))
  omega
theorem lb_gp {m : Nat} (h : 2 ≤ m) : 2 ^ lb m = 2 * gp m := by
  unfold lb gp; rw [if_neg (by omega), Nat.pow_succ]; omega
def tree (n b m : Nat) : Prop := 2 ^ lb m ∣ b ∧ (m = 2 ^ lb m ∨ b + m = n)
theorem tree_root (n : Nat) : tree n 0 n := ⟨Nat.dvd_zero _, .inr (Nat.zero_add _)⟩
theorem tree_low {n b m : Nat} (h : 2 ≤ m) (t : tree n b m) : tree n b (gp m) := by
  obtain ⟨d, _⟩ := t
  rw [lb_gp h] at d
  have e : 2 ^ lb (gp m) = gp m := by unfold gp; rw [lb_pow]
  exact ⟨by rw [e]; exact Nat.dvd_trans (Nat.dvd_mul_left _ _) d, .inl e.symm⟩
theorem tree_high {n b m : Nat} (h : 2 ≤ m) (t : tree n b m) : tree n (b + gp m) (m - gp m) := by
  obtain ⟨d, k⟩ := t
  rw [lb_gp h] at d k
  have g1 := gp_lt h
  have g2 := gp_ge h
  have dg : 2 ^ lb (m - gp m) ∣ gp m := by
    have : lb (m - gp m) ≤ Nat.log2 (m - 1) := lb_le (by unfold gp at g1 g2 ⊢; omega)
    exact Nat.pow_dvd_pow 2 this
  refine ⟨Nat.dvd_add (Nat.dvd_trans dg (Nat.dvd_trans (Nat.dvd_mul_left _ _) d)) dg, ?_⟩
  rcases k with k | k
  · left
    have e : m - gp m = gp m := by omega
    rw [e]
    unfold gp; rw [lb_pow]
  · right; omega
theorem sib_len_le : ∀ (m b e : Nat), b ≤ e → e < b + m → (sib b m e).length ≤ lb m := by
  intro m
  induction m using Nat.strongRecOn with
  | ind m ih =>
    intro b e h1 h2
    by_cases hm : m ≤ 1
    · rw [sib_one hm]; exact Nat.zero_le _
    · have g1 := gp_lt (m := m) (by omega)
      have g2 := gp_ge (m := m) (by omega)
      have g3 := gp_pos m
      have e1 : lb m = Nat.log2 (m - 1) + 1 := by unfold lb; rw [if_neg hm]
      by_cases k : e < b + gp m
      · rw [sib_low (by omega) k, List.length_cons]
        have := ih (gp m) g1 b e h1 k
        have e2 : lb (gp m) = Nat.log2 (m - 1) := by unfold gp; rw [lb_pow]
        omega
      · rw [sib_high (by omega) k, List.length_cons]
        have := ih (m - gp m) (by omega) (b + gp m) e (by omega) (by omega)
        have e2 : lb (m - gp m) ≤ Nat.log2 (m - 1) := lb_le (by unfold gp at g1 g2 ⊢; omega)
        omega
end LT
namespace LT
open PySem PySem.Spec PyProof.Rows L2
def topS (i : Nat) : Stmt := PySem.Challenge.pw_logtrees_k24_totals_by_steps.main.body.getD i (.Pass ⟨0, 0, 0, 0⟩)
abbrev sIsWhole : Stmt := topS 6
theorem scIsWhole : FnScope ["value"] ["value"] (defScope sIsWhole) := ⟨rfl, rfl, rfl, by decide +kernel, rfl, by decide +kernel, by decide +kernel⟩
abbrev sIsBetween : Stmt := topS 7
theorem scIsBetween : FnScope ["value", "low", "high"] ["value", "low", "high"] (defScope sIsBetween) := ⟨rfl, rfl, rfl, by decide +kernel, rfl, by decide +kernel, by decide +kernel⟩
abbrev sCheckSize : Stmt := topS 8
theorem scCheckSize : FnScope ["size"] ["size"] (defScope sCheckSize) := ⟨rfl, rfl, rfl, by decide +kernel, rfl, by decide +kernel, by decide +kernel⟩
abbrev sCheckNumberFrom : Stmt := topS 9
theorem scCheckNumberFrom : FnScope ["number", "least"] ["number", "least"] (defScope sCheckNumberFrom) := ⟨rfl, rfl, rfl, by decide +kernel, rfl, by decide +kernel, by decide +kernel⟩
abbrev sCheckNumberBetween : Stmt := topS 10
theorem scCheckNumberBetween : FnScope ["number", "least", "most"] ["number", "least", "most"] (defScope sCheckNumberBetween) := ⟨rfl, rfl, rfl, by decide +kernel, rfl, by decide +kernel, by decide +kernel⟩
abbrev sPowerWithin : Stmt := topS 12
theorem scPowerWithin : FnScope ["number"] ["number"] (defScope sPowerWithin) := ⟨rfl, rfl, rfl, by decide +kernel, rfl, by decide +kernel, by decide +kernel⟩
abbrev sPeaks : Stmt := topS 13
theorem scPeaks : FnScope ["size", "found", "begin", "end"] ["size"] (defScope sPeaks) := ⟨rfl, rfl, rfl, by decide +kernel, rfl, by decide +kernel, by decide +kernel⟩
abbrev sEdges : Stmt := topS 14
theorem scEdges : FnScope ["size", "begin", "_"] ["size"] (defScope sEdges) := ⟨rfl, rfl, rfl, by decide +kernel, rfl, by decide +kernel, by decide +kernel⟩
abbrev sRootSums : Stmt := topS 16
theorem scRootSums : FnScope ["size"] ["size"] (defScope sRootSums) := ⟨rfl, rfl, rfl, by decide +kernel, rfl, by decide +kernel, by decide +kernel⟩
abbrev sQuotientsSum : Stmt := topS 17
theorem scQuotientsSum : FnScope ["first", "step", "number", "divisor", "total"] ["first", "step", "number", "divisor"] (defScope sQuotientsSum) := ⟨rfl, rfl, rfl, by decide +kernel, rfl, by decide +kernel, by decide +kernel⟩
abbrev sRootsAlong : Stmt := topS 18
theorem scRootsAlong : FnScope ["first", "step", "number", "total", "divisor"] ["first", "step", "number"] (defScope sRootsAlong) := ⟨rfl, rfl, rfl, by decide +kernel, rfl, by decide +kernel, by decide +kernel⟩
abbrev sCheckStretch : Stmt := topS 19
theorem scCheckStretch : FnScope ["low", "high"] ["low", "high"] (defScope sCheckStretch) := ⟨rfl, rfl, rfl, by decide +kernel, rfl, by decide +kernel, by decide +kernel⟩
abbrev sRootsTotal : Stmt := topS 20
theorem scRootsTotal : FnScope ["low", "high"] ["low", "high"] (defScope sRootsTotal) := ⟨rfl, rfl, rfl, by decide +kernel, rfl, by decide +kernel, by decide +kernel⟩
abbrev sRootsBySteps : Stmt := topS 21
theorem scRootsBySteps : FnScope ["size", "step", "number"] ["size", "step", "number"] (defScope sRootsBySteps) := ⟨rfl, rfl, rfl, by decide +kernel, rfl, by decide +kernel, by decide +kernel⟩
abbrev sLawWound : Stmt := topS 23
theorem scLawWound : FnScope ["script", "k", "cell"] ["script", "k"] (defScope sLawWound) := ⟨rfl, rfl, rfl, by decide +kernel, rfl, by decide +kernel, by decide +kernel⟩
abbrev sLawSpin : Stmt := topS 24
theorem scLawSpin : FnScope ["reel", "many", "drawn", "mixed"] ["reel", "many"] (defScope sLawSpin) := ⟨rfl, rfl, rfl, by decide +kernel, rfl, by decide +kernel, by decide +kernel⟩
abbrev sLawDrawnSize : Stmt := topS 25
theorem scLawDrawnSize : FnScope ["reel", "power", "other", "some"] ["reel"] (defScope sLawDrawnSize) := ⟨rfl, rfl, rfl, by decide +kernel, rfl, by decide +kernel, by decide +kernel⟩
abbrev sLawOnes : Stmt := topS 26
theorem scLawOnes : FnScope ["number", "found", "left"] ["number"] (defScope sLawOnes) := ⟨rfl, rfl, rfl, by decide +kernel, rfl, by decide +kernel, by decide +kernel⟩
abbrev sLawDrawnNumber : Stmt := topS 27
theorem scLawDrawnNumber : FnScope ["reel", "size", "step", "most"] ["reel", "size", "step"] (defScope sLawDrawnNumber) := ⟨rfl, rfl, rfl, by decide +kernel, rfl, by decide +kernel, by decide +kernel⟩
abbrev sLawRight : Stmt := topS 28
theorem scLawRight : FnScope ["reel", "size", "step", "number", "told", "due", "some", "half", "rows", "turn"] ["reel"] (defScope sLawRight) := ⟨rfl, rfl, rfl, by decide +kernel, rfl, by decide +kernel, by decide +kernel⟩
abbrev sLawPowerRight : Stmt := topS 29
theorem scLawPowerRight : FnScope ["reel", "size", "power", "number", "first", "rest", "due", "most"] ["reel"] (defScope sLawPowerRight) := ⟨rfl, rfl, rfl, by decide +kernel, rfl, by decide +kernel, by decide +kernel⟩
abbrev sLaw : Stmt := topS 30
theorem scLaw : FnScope ["script", "k", "reel", "turn"] ["script"] (defScope sLaw) := ⟨rfl, rfl, rfl, by decide +kernel, rfl, by decide +kernel, by decide +kernel⟩
/-- a def as it stands behind the top -/
structure At (K : PySem.W.Frag) (mg : Str → Option Value) (x : Str) (f : Addr) (fd : FuncData) (ps : List Str) : Prop where
  m : mg x = some (.ref f)
  kp : PySem.W.keepIn K (.ref f) = true
  b : Binds K fd ps []
theorem units1 {k : Nat} {A : Around} (r : Room k A) : A.units + 65 < cLine := by have := r.un; omega
/-- all but b as it was -/
def But (b : Addr) (H H' : Hp) : Prop := ∀ a o, a ≠ b → H a = some o → H' a = some o
theorem But.refl (b : Addr) (H : Hp) : But b H H := fun _ _ _ h => h
theorem But.trans {b : Addr} {H H1 H2 : Hp} (x : But b H H1) (y : But b H1 H2) : But b H H2 := fun a o n h => y a o n (x a o n h)
theorem But.of {b : Addr} {H H1 : Hp} (x : Same H H1) : But b H H1 := fun a o _ h => x a o h
theorem same_upd {H : Hp} {p : Addr} {o : HO} (h : H p = none) : Same H (upd H p o) := fun b x e => by
  rw [upd_ne (ne_of_none e h)]
  exact e
def BagAt (H : Hp) (b : Addr) : Prop := ∃ x y z : Int, H b = some (.lst [.int x, .int y, .int z])
theorem BagAt.same {H H' : Hp} {b : Addr} (h : BagAt H b) (s : Same H H') : BagAt H' b := by
  obtain ⟨x, y, z, e⟩ := h
  exact ⟨x, y, z, s _ _ e⟩
/-- a pair of ints -/
def Nd (H : Hp) (v : V) (x : Nat × Nat) : Prop := ∃ p, v = .ref p ∧ H p = some (.tup [.int x.1, .int x.2])
theorem Nd.same {H H' : Hp} {v : V} {x : Nat × Nat} (h : Nd H v x) (s : Same H H') : Nd H' v x := by
  obtain ⟨p, e, q⟩ := h
  exact ⟨p, e, s _ _ q⟩
theorem Nd.dp {K : PySem.W.Frag} {H : Hp} {v : V} {x : Nat × Nat} (h : Nd H v x) : Dp K H v (.tuple [.int x.1, .int x.2]) := by
  obtain ⟨p, rfl, q⟩ := h
  exact .tup (SqT.of q) (.cons (.int _) (.cons (.int _) .nil))
theorem nd_shaped (a b : Int) : SeqAt.shaped (.tuple [.int a, .int b]) = true := by
  show (PyData.canLay0 _ && decide (PyData.depth _ ≤ 64)) = true
  simp [PyData.canLay0, PyData.canLayAll0, PyData.depth, PyData.depthAll]
theorem nd_eqv (a b c d : Int) : PyData.eqv (.tuple [.int a, .int b]) (.tuple [.int c, .int d]) = (decide (a = c) && decide (b = d)) := by
  have e : PyData.eqv (.tuple [.int a, .int b]) (.tuple [.int c, .int d]) = ((a == c) && ((b == d) && true)) := by simp only [PyData.eqv, PyData.eqvAll]
  rw [e, Bool.and_true]
  by_cases h1 : a = c <;> by_cases h2 : b = d <;> simp [h1, h2]
/-- lists of values and what they stand for -/
inductive All2 {α : Type} (R : V → α → Prop) : List V → List α → Prop
  | nil : All2 R [] []
  | cons {v : V} {x : α} {vs : List V} {xs : List α} : R v x → All2 R vs xs → All2 R (v :: vs) (x :: xs)
section
variable {α : Type} {R R' : V → α → Prop}
theorem All2.mono (f : ∀ v x, R v x → R' v x) : ∀ {vs : List V} {xs : List α}, All2 R vs xs → All2 R' vs xs
  | _, _, .nil => .nil
  | _, _, .cons h t => .cons (f _ _ h) (All2.mono f t)
theorem All2.len : ∀ {vs : List V} {xs : List α}, All2 R vs xs → vs.length = xs.length
  | _, _, .nil => rfl
  | _, _, .cons _ t => by rw [List.length_cons, List.length_cons, All2.len t]
theorem All2.app : ∀ {vs : List V} {xs : List α} {us : List V} {ys : List α}, All2 R vs xs → All2 R us ys → All2 R (vs ++ us) (xs ++ ys)
  | _, _, _, _, .nil, h => h
  | _, _, _, _, .cons h t, k => .cons h (All2.app t k)
theorem All2.rev : ∀ {vs : List V} {xs : List α}, All2 R vs xs → All2 R vs.reverse xs.reverse
  | _, _, .nil => .nil
  | _, _, .cons h t => by
    rw [List.reverse_cons, List.reverse_cons]
    exact All2.app (All2.rev t) (.cons h .nil)
theorem All2.nth : ∀ {vs : List V} {xs : List α} {i : Nat} {v : V}, All2 R vs xs → vs[i]? = some v → ∃ x, xs[i]? = some x ∧ R v x
  | _, _, _, _, .nil, h => by simp at h
  | _, _, 0, _, .cons h t, e => by
    have := Option.some.inj e
    subst this
    exact ⟨_, rfl, h⟩
  | _, _, i + 1, _, .cons h t, e => by
    rw [List.getElem?_cons_succ] at e ⊢
    exact All2.nth t e
theorem All2.nth2 : ∀ {vs : List V} {xs : List α} {i : Nat} {x : α}, All2 R vs xs → xs[i]? = some x → ∃ v, vs[i]? = some v ∧ R v x
  | _, _, _, _, .nil, h => by simp at h
  | _, _, 0, _, .cons h t, e => by
    have := Option.some.inj e
    subst this
    exact ⟨_, rfl, h⟩
  | _, _, i + 1, _, .cons h t, e => by
    rw [List.getElem?_cons_succ] at e ⊢
    exact All2.nth2 t e
end

/-! ### rules within a comprehension: what they say of the written part is said of the def's -/
section
open PySem L2
variable {X : Cx} {s : Shared} {H : Hp} {sc : Scope} {ce : Env} {fp : List Addr}
theorem pg_tupB {es : List Expr} {k : Nat} {pos : Pos} {t : TGs} {n : Nat} (hc : X.calm = true) (h : PGs (X.blk s H sc ce fp) es t)
    (hn : (assignEach es (X.blk s H sc ce fp).env).length = n := by rfl) (hst : (assignEach es (X.blk s H sc ce fp).env).findIdx? (·.1) = none := by rfl) : PG (X.blk s H sc ce fp) (.Tuple es k pos) (gTup X.K n t) := pg_tup hc h hn hst
theorem ix_listB : IxR (X.blk s H sc ce fp) (rIxL X.K) := ix_list
theorem ix_tupB : IxR (X.blk s H sc ce fp) (rIxT X.K) := ix_tup
theorem call_len_seqB : CallR (X.blk s H sc ce fp) (.builtin "len") (fun xs H Q => ∃ p ys, xs = [.ref p] ∧ (SqL X.K H p ys ∨ SqT X.K H p ys) ∧ Q (.int ys.length) H) := call_len_seq
theorem op_eqDB (hu : X.A.units + 64 < cLine) : OpR (X.blk s H sc ce fp) (compareOp .Eq) (rEqD X.K) := op_eqD (X := X.blk s H sc ce fp) hu
theorem op_neDB (hu : X.A.units + 64 < cLine) : OpR (X.blk s H sc ce fp) (compareOp .NotEq) (rNeD X.K) := op_neD (X := X.blk s H sc ce fp) hu
theorem op_inDB (hu : X.A.units + 65 < cLine) : OpR (X.blk s H sc ce fp) (compareOp .In) (rInD X.K) := op_inD (X := X.blk s H sc ce fp) hu
theorem op_notInDB (hu : X.A.units + 65 < cLine) : OpR (X.blk s H sc ce fp) (compareOp .NotIn) (rNotInD X.K) := op_notInD (X := X.blk s H sc ce fp) hu
end
theorem Nd.upd {H : Hp} {v : V} {x : Nat × Nat} {s : Addr} {xs : List V} {o : HO} (h : Nd H v x) (hs : H s = some (.lst xs)) : Nd (upd H s o) v x := by
  obtain ⟨p, e, q⟩ := h
  exact ⟨p, e, by rw [upd_ne (ne_of q hs (by intro z; cases z))]; exact q⟩
def full (x : Nat × Nat) : Nat × Nat := (x.1, x.1 + 2 ^ x.2)
theorem pk_len : ∀ (i n b : Nat), (pk i n b).length ≤ i
  | 0, _, _ => Nat.le_refl _
  | i + 1, n, b => by
    show (if n.testBit i = true then (b, i) :: pk i n (b + 2 ^ i) else pk i n b).length ≤ i + 1
    by_cases t : n.testBit i = true
    · rw [if_pos t, List.length_cons]
      exact Nat.succ_le_succ (pk_len i n _)
    · rw [if_neg t]
      exact Nat.le_succ_of_le (pk_len i n b)
theorem take_more {α : Type} : ∀ {l : List α} {i : Nat} {x : α}, l[i]? = some x → l.take (i + 1) = l.take i ++ [x]
  | [], i, x, h => by simp at h
  | a :: l, 0, x, h => by
    have e : a = x := Option.some.inj h
    subst e
    rfl
  | a :: l, i + 1, x, h => by
    have ih := take_more (l := l) (i := i) (x := x) h
    show a :: l.take (i + 1) = a :: l.take i ++ [x]
    rw [ih]
    rfl
theorem szle {n : Nat} (h : n ≤ 100000) : n ≤ sizeLine := Nat.le_trans h (by decide)
theorem szlt {n : Nat} (h : n < 100000) : n < sizeLine := Nat.lt_of_lt_of_le h (by decide)
end LT

namespace LT
open PySem PySem.Spec PyProof.Rows L2
section
variable {P : Program} {w : World} {K : PySem.W.Frag} {mg : Str → Option Value} {base : Heap}
def spWhole : Sp := fun vs H Q _ => ∃ i : Int, vs = [.int i] ∧ Q (.bl true) H
theorem ok_is_whole {f : Addr} {fd : FuncData} (F : Fun K "is_whole" "is_whole" sIsWhole f fd) (z_isinstance : mg "isinstance" = none) (z_int : mg "int" = none) (z_bool : mg "bool" = none) : FnOk P w K mg base CX0 1 f fd ["value"] spWhole := by
  refine F.ok scIsWhole (fun vs H Q E h => ?_) (fun cdv A outer s H vs Q E hr h => ?_)
  · obtain ⟨i, rfl, _⟩ := h
    rfl
  obtain ⟨i, rfl, q⟩ := h
  refine ⟨_, (pss_one (ps_ret (pe_and (pe_callB call_isi (by rfl) z_isinstance (by decide +kernel) (pa_cons (pv 0) (pa_cons (pe_bltn (v := .ty "int") (u := .type "int") (by rfl) z_int (by decide +kernel) rfl) pa_nil))) (pe_one (pe_not (pe_callB call_isi (by rfl) z_isinstance (by decide +kernel) (pa_cons (pv 0) (pa_cons (pe_bltn (v := .ty "bool") (u := .type "bool") (by rfl) z_bool (by decide +kernel) rfl) pa_nil)))))))), ?_⟩
  refine ⟨_, rfl, _, _, _, _, true, rfl, .ty "int", .base (.int i), kit_ty (by decide +kernel), true, rfl, ?_⟩
  refine ⟨_, rfl, _, _, _, _, false, rfl, .ty "bool", .base (.int i), kit_ty (by decide +kernel), false, rfl, ?_⟩
  exact q
def spBetween : Sp := fun vs H Q _ => ∃ v lo hi : Int, vs = [.int v, .int lo, .int hi] ∧ Q (.bl (decide (lo ≤ v) && decide (v ≤ hi))) H
theorem ok_is_between {f g : Addr} {fd gd : FuncData} (F : Fun K "is_between" "is_between" sIsBetween f fd) (GIsWhole : FnOk P w K mg base CX0 1 g gd ["value"] spWhole) (AIsWhole : At K mg "is_whole" g gd ["value"]) : FnOk P w K mg base CX0 2 f fd ["value", "low", "high"] spBetween := by
  refine F.ok scIsBetween (fun vs H Q E h => ?_) (fun cdv A outer s H vs Q E hr h => ?_)
  · obtain ⟨i, _, _, rfl, _⟩ := h
    rfl
  obtain ⟨v, lo, hi, rfl, q⟩ := h
  refine ⟨_, (pss_one (ps_ret (pe_and (pe_call GIsWhole (hr.mono (by decide)) rfl AIsWhole.m AIsWhole.kp AIsWhole.b .nil pass0 (pa_cons (pv 0) pa_nil)) (pe_one (pe_chain op_le op_le (pv 1) (pv 0) (pv 2)))))), ?_⟩
  refine ⟨_, rfl, v, rfl, true, rfl, ?_⟩
  refine ⟨_, rfl, _, rfl, _, _, rfl, rfl, _, rfl, ?_⟩
  by_cases h1 : lo ≤ v
  · rw [decide_eq_true h1] at q ⊢
    exact ⟨_, rfl, _, _, rfl, rfl, q⟩
  · rw [decide_eq_false h1] at q ⊢
    exact q
def spCheckSize : Sp := fun vs H Q _ => ∃ n : Int, vs = [.int n] ∧ 1 ≤ n ∧ n ≤ 10 ^ 30 ∧ Q .non H
theorem ok_check_size {f g : Addr} {fd gd : FuncData} {t : Tok} (F : Fun K "check_size" "check_size" sCheckSize f fd) (GIsBetween : FnOk P w K mg base CX0 2 g gd ["value", "low", "high"] spBetween) (AIsBetween : At K mg "is_between" g gd ["value", "low", "high"]) (g_MOST_ENTRIES : mg "MOST_ENTRIES" = some (.int 1000000000000000000000000000000 t)) : FnOk P w K mg base CX0 3 f fd ["size"] spCheckSize := by
  refine F.ok scCheckSize (fun vs H Q E h => ?_) (fun cdv A outer s H vs Q E hr h => ?_)
  · obtain ⟨i, rfl, _⟩ := h
    rfl
  obtain ⟨n, rfl, h1, h2, q⟩ := h
  refine ⟨_, (pss_one (ps_if (pt_not (pt_val (pe_call GIsBetween (hr.mono (by decide)) rfl AIsBetween.m AIsBetween.kp AIsBetween.b .nil pass0 (pa_cons (pv 0) (pa_cons pe_int (pa_cons (pe_glob (v := .int 1000000000000000000000000000000) rfl g_MOST_ENTRIES ⟨_, rfl⟩) pa_nil))))))
    (pss_one ps_never)
    pss_nil)), ?_⟩
  refine ⟨_, rfl, n, 1, 1000000000000000000000000000000, rfl, _, rfl, ?_⟩
  rw [decide_eq_true h1, decide_eq_true (show n ≤ 1000000000000000000000000000000 from h2)]
  exact q
end
end LT

namespace LT
open PySem PySem.Spec PyProof.Rows L2
theorem bits_nat (k : Nat) : Builtin.Int.intBits (k : Int) = if k = 0 then 0 else k.log2 + 1 := by
  unfold Builtin.Int.intBits
  by_cases h : k = 0
  · subst h; rfl
  · rw [if_neg h, if_neg (by simpa using h)]
    rfl
theorem bits_lb {m : Nat} (h : 1 ≤ m) : Builtin.Int.intBits ((m - 1 : Nat) : Int) = lb m := by
  rw [bits_nat]
  unfold lb
  by_cases k : m ≤ 1
  · rw [if_pos k, if_pos (by omega)]
  · rw [if_neg k, if_neg (by omega)]
theorem lb100 {m : Nat} (h : m ≤ 10 ^ 30) : lb m ≤ 100 := lb_le (Nat.le_trans h (by decide))
theorem fmod_of_dvd {a b : Nat} (h : a ∣ b) : Int.fmod (b : Int) (a : Int) = 0 := by
  rw [Int.fmod_eq_emod_of_nonneg _ (Int.natCast_nonneg _)]
  exact Int.emod_eq_zero_of_dvd (Int.natCast_dvd_natCast.mpr h)
end LT

namespace LT
open PySem PySem.Spec PyProof.Rows L2
section
variable {P : Program} {w : World} {K : PySem.W.Frag} {mg : Str → Option Value} {base : Heap}
def spPower : Sp := fun vs H Q _ => ∃ (k : Nat), vs = [.int k] ∧ 1 ≤ k ∧ k ≤ 10 ^ 30 ∧ Q (.int ((2 ^ k.log2 : Nat) : Int)) H
theorem ok_power_within {f : Addr} {fd : FuncData} (F : Fun K "power_within" "power_within" sPowerWithin f fd) : FnOk P w K mg base CX0 1 f fd ["number"] spPower := by
  refine F.ok scPowerWithin (fun vs H Q E h => ?_) (fun cdv A outer s H vs Q E hr h => ?_)
  · obtain ⟨_, rfl, _⟩ := h
    rfl
  obtain ⟨k, rfl, h1, h30, q⟩ := h
  refine ⟨_, (pss_one (ps_ret (pe_op op_shl pe_int (pe_op op_sub (pe_bits (pv 0)) pe_int)))), ?_⟩
  refine ⟨_, rfl, _, rfl, _, _, rfl, rfl, ?_⟩
  dsimp only
  have e : ((Builtin.Int.intBits (k : Int) : Nat) : Int) - 1 = ((k.log2 : Nat) : Int) := by
    rw [bits_nat, if_neg (by omega)]
    omega
  rw [e]
  have l100 : k.log2 < 100 := (Nat.log2_lt (by omega)).mpr (Nat.lt_of_le_of_lt h30 (by decide))
  refine ⟨_, _, rfl, rfl, ⟨Int.natCast_nonneg _, by omega, by decide⟩, ?_⟩
  have e2 : (1 : Int) * 2 ^ ((k.log2 : Nat) : Int).toNat = ((2 ^ k.log2 : Nat) : Int) := by rw [Int.one_mul, Int.toNat_natCast]; exact (Int.natCast_pow 2 _).symm
  show Q (.int ((1 : Int) * 2 ^ ((k.log2 : Nat) : Int).toNat)) H
  rw [e2]
  exact q
end
end LT

namespace LT
open PySem PySem.Spec PyProof.Rows L2
theorem log2_is {r h : Nat} (h1 : 2 ^ h ≤ r) (h2 : r < 2 ^ (h + 1)) : r.log2 = h := (Nat.log2_eq_iff (by have := Nat.pow_pos (a := 2) (n := h) (by decide); omega)).mpr ⟨h1, h2⟩
theorem pk_step : ∀ (i n b : Nat), n % 2 ^ i ≠ 0 → ∃ h, h < i ∧ pk i n b = (b, h) :: pk h n (b + 2 ^ h) ∧ n % 2 ^ i = 2 ^ h + n % 2 ^ h
  | 0, n, b, hr => by simp [Nat.mod_one] at hr
  | i + 1, n, b, hr => by
    rw [mod_succ] at hr
    by_cases t : n.testBit i = true
    · refine ⟨i, Nat.lt_succ_self i, ?_, by rw [mod_succ, if_pos t]⟩
      show (if n.testBit i = true then _ else _) = _
      rw [if_pos t]
    · rw [if_neg t, Nat.zero_add] at hr
      obtain ⟨h, h1, h2, h3⟩ := pk_step i n b hr
      refine ⟨h, by omega, ?_, by rw [mod_succ, if_neg t, Nat.zero_add]; exact h3⟩
      show (if n.testBit i = true then _ else _) = _
      rw [if_neg t]
      exact h2
section
variable {P : Program} {w : World} {K : PySem.W.Frag} {mg : Str → Option Value} {base : Heap}
def spTops : Sp := fun vs H Q _ => ∃ (n : Nat), vs = [.int n] ∧ 1 ≤ n ∧ n ≤ 10 ^ 30 ∧ ∀ (H' : Hp) (p : Addr) (xs : List V), Same H H' → H p = none → H' p = some (.lst xs) → All2 (Nd H') xs ((pk 101 n 0).map full) → Q (.ref p) H'
theorem ok_peaks {f g1 g2 : Addr} {fd d1 d2 : FuncData} (F : Fun K "peaks" "peaks" sPeaks f fd) (GCheckSize : FnOk P w K mg base CX0 3 g1 d1 ["size"] spCheckSize) (ACheckSize : At K mg "check_size" g1 d1 ["size"])
    (GPowerWithin : FnOk P w K mg base CX0 1 g2 d2 ["number"] spPower) (APowerWithin : At K mg "power_within" g2 d2 ["number"]) : FnOk P w K mg base CX0 4 f fd ["size"] spTops := by
  refine F.ok scPeaks (fun vs H Q E h => ?_) (fun cdv A outer s H vs Q E hr h => ?_)
  · obtain ⟨_, rfl, _⟩ := h
    rfl
  obtain ⟨n, rfl, h1, h30, q⟩ := h
  refine ⟨_, (pss_cons (ps_expr (pe_call GCheckSize (hr.mono (by decide)) rfl ACheckSize.m ACheckSize.kp ACheckSize.b .nil pass0 (pa_cons (pv 0) pa_nil)))
    (pss_cons (ps_set (i := 1) scPeaks.nd rfl (Or.inl rfl) (pe_lst pa_nil))
    (pss_cons (ps_set (i := 2) scPeaks.nd rfl (Or.inl rfl) pe_int)
    (pss_cons (ps_while PassesOwn.never (pt_cmpR op_lt (pv 2) (pv 0) (nomark _))
    (pss_cons (ps_set (i := 3) scPeaks.nd rfl (Or.inl rfl) (pe_op op_add (pv 2) (pe_call GPowerWithin (hr.mono (by decide)) rfl APowerWithin.m APowerWithin.kp APowerWithin.b .nil pass0 (pa_cons (pe_op op_sub (pv 0) (pv 2)) pa_nil))))
    (pss_cons (ps_expr (pe_bm PySem.F.plainAttrs_list PySem.F.slot_list_append PySem.F.type_list_append mt_append (pv 1) (pa_cons (pe_tup (pa_cons (pv 2) (pa_cons (pv 3) pa_nil))) pa_nil)))
    (pss_one (ps_set (i := 2) scPeaks.nd rfl (Or.inl rfl) (pv 3))))))
    (pss_one (ps_ret (pv 1))))))), ?_⟩
  refine ⟨_, rfl, n, rfl, by omega, by omega, ?_⟩
  refine ⟨Nat.zero_le _, fun fa nf => ?_⟩
  have nm : n % 2 ^ 101 = n := Nat.mod_eq_of_lt (Nat.lt_of_le_of_lt h30 (by decide))
  refine ⟨fun mu σ H' => ∃ (i b : Nat) (v3 : Option V) (xs : List V) (done : List (Nat × Nat)), σ = [some (.int n), some (.ref fa), some (.int b), v3] ∧ Same H H' ∧ H' fa = some (.lst xs) ∧ All2 (Nd H') xs (done.map full) ∧ done ++ pk i n b = pk 101 n 0 ∧ b + n % 2 ^ i = n ∧ mu = n - b,
    ⟨n, 101, 0, none, [], [], rfl, same_upd nf, upd_same, .nil, rfl, by omega, by omega⟩, ?_⟩
  rintro m σ H1 ⟨i, b, v3, xs, done, rfl, sm, hf, hx, hd, hb, rfl⟩
  refine ⟨_, rfl, _, rfl, _, _, rfl, rfl, _, rfl, ite2 (fun c => ?_) (fun c => ?_)⟩
  · have c1 : (b : Int) < (n : Int) := of_decide_eq_true c
    obtain ⟨h, hi, hp, hm⟩ := pk_step i n b (by omega)
    have ph := Nat.pow_pos (a := 2) (n := h) (by decide)
    have lh : (n - b).log2 = h := log2_is (by omega) (by have := Nat.mod_lt n ph; rw [Nat.pow_succ]; omega)
    have dl : done.length ≤ 101 := by
      have k1 := congrArg List.length hd
      rw [List.length_append] at k1
      have k2 := pk_len 101 n 0
      omega
    refine ⟨fun σ' H' => ∃ mu, mu < n - b ∧ ∃ (i b : Nat) (v3 : Option V) (xs : List V) (done : List (Nat × Nat)), σ' = [some (.int n), some (.ref fa), some (.int b), v3] ∧ Same H H' ∧ H' fa = some (.lst xs) ∧ All2 (Nd H') xs (done.map full) ∧ done ++ pk i n b = pk 101 n 0 ∧ b + n % 2 ^ i = n ∧ mu = n - b, fun σ' H' h => h, ?_⟩
    have e1 : (n : Int) - (b : Int) = ((n - b : Nat) : Int) := by omega
    refine ⟨_, rfl, _, rfl, _, rfl, _, _, rfl, rfl, n - b, congrArg (fun z => [V.int z]) e1, by omega, by omega, _, _, rfl, rfl, ?_⟩
    have e2 : (b : Int) + ((2 ^ (n - b).log2 : Nat) : Int) = ((b + 2 ^ h : Nat) : Int) := by rw [lh]; omega
    dsimp only
    rw [e2]
    refine ⟨_, rfl, .inl ⟨rfl, _, SqL.of hf⟩, _, rfl, _, rfl, (by show 2 ≤ sizeLine; decide), fun t nt => ?_⟩
    have s1 := same_upd (o := .tup [.int (b : Int), .int ((b + 2 ^ h : Nat) : Int)]) nt
    have hf1 := s1 _ _ hf
    refine ⟨fa, _, _, rfl, rfl, hf1, szlt (by rw [hx.len, List.length_map]; omega), ?_⟩
    refine ⟨_, rfl, ?_⟩
    refine ⟨n - (b + 2 ^ h), by omega, h, b + 2 ^ h, _, xs ++ [.ref t], done ++ [(b, h)], rfl, ?_, upd_same, ?_, ?_, by omega, rfl⟩
    · exact fun a o k => by rw [upd_ne (ne_of_none k nf)]; exact s1 _ _ (sm _ _ k)
    · rw [List.map_append]
      refine (hx.mono (fun v x (k : Nd H1 v x) => (k.same s1).upd hf1)).app (.cons ?_ .nil)
      exact Nd.upd (x := full (b, h)) ⟨t, rfl, upd_same⟩ hf1
    · rw [← hd, hp, List.append_assoc]
      rfl
  · have c1 : ¬ (b : Int) < (n : Int) := of_decide_eq_false (Bool.eq_false_iff.mpr c)
    rw [pk_nil i n b (by omega), List.append_nil] at hd
    rw [hd] at hx
    exact ⟨_, rfl, q H1 fa xs sm nf hf hx⟩
end
end LT

namespace LT
open PySem PySem.Spec PyProof.Rows L2
theorem cut_last (xs : List V) : cutV xs none (some (-1)) = xs.dropLast := by
  unfold cutV
  have e : HT.sIx xs.length xs.length (some (-1)) = xs.length - 1 := by
    show (if (-1 : Int) < 0 then ((-1 : Int) + (xs.length : Int)).toNat else min (-1 : Int).toNat xs.length) = _
    rw [if_pos (by decide)]
    omega
  rw [e, HT.sIx_none, List.drop_zero, Nat.sub_zero, List.dropLast_eq_take]
theorem All2.droplast {α : Type} {R : V → α → Prop} : ∀ {vs : List V} {xs : List α}, All2 R vs xs → All2 R vs.dropLast xs.dropLast
  | _, _, .nil => .nil
  | _, _, .cons _ .nil => .nil
  | _, _, .cons h (.cons k t) => .cons h (All2.droplast (.cons k t))
section
variable {P : Program} {w : World} {K : PySem.W.Frag} {mg : Str → Option Value} {base : Heap}
def spEdges : Sp := fun vs H Q _ => ∃ (n : Nat), vs = [.int n] ∧ 1 ≤ n ∧ n ≤ 10 ^ 30 ∧ ∀ (H' : Hp) (p : Addr) (xs : List V), Same H H' → H p = none → H' p = some (.lst xs) → All2 (Nd H') xs (((pk 101 n 0).map full).dropLast.map fun x => (x.1, n)) → Q (.ref p) H'
theorem ok_edges {f g1 : Addr} {fd d1 : FuncData} (F : Fun K "edges" "edges" sEdges f fd) (GPeaks : FnOk P w K mg base CX0 4 g1 d1 ["size"] spTops) (APeaks : At K mg "peaks" g1 d1 ["size"]) : FnOk P w K mg base CX0 5 f fd ["size"] spEdges := by
  refine F.ok scEdges (fun vs H Q E h => ?_) (fun cdv A outer s H vs Q E hr h => ?_)
  · obtain ⟨_, rfl, _⟩ := h
    rfl
  obtain ⟨n, rfl, h1, h30, q⟩ := h
  refine ⟨_, (pss_one (ps_ret (pe_lc (own := [("begin", 1), ("_", 2)]) rfl scEdges.nd (pi_list (pe_slice sl_list (pe_call GPeaks (hr.mono (by decide)) rfl APeaks.m APeaks.kp APeaks.b .nil pass0 (pa_cons (pv 0) pa_nil)) po_none (po_some (pe_un un_neg pe_int)))) (blkOk_by (N := ["size", "begin", "_"]) (sc := defScope sEdges) (by decide +kernel)) (fun _ _ _ _ _ => (pg_tupB (n := 2) rfl (pgs_cons (pg_name (i := 1) scEdges.nd rfl (Or.inl rfl)) (pgs_cons (pg_name (i := 2) scEdges.nd rfl (Or.inl rfl)) pgs_nil)))) (fun _ _ _ _ _ => pts_nil) (fun _ _ _ _ _ => (pe_tup (pa_cons (pv 1) (pa_cons (pv 0) pa_nil))))))), ?_⟩
  refine ⟨_, rfl, n, rfl, h1, h30, fun H1 p xs sm np hp hx => ?_⟩
  have L101 : ((pk 101 n 0).map full).length ≤ 101 := by rw [List.length_map]; exact pk_len 101 n 0
  generalize (pk 101 n 0).map full = L at q hx L101
  refine ⟨1, rfl, -1, rfl, p, _, rfl, SqL.of hp, fun c nc => ?_⟩
  have sc := same_upd (o := .lst (cutV xs none (some (-1)))) nc
  have hc : (upd H1 c (.lst (cutV xs none (some (-1))))) c = some (.lst xs.dropLast) := by rw [upd_same, cut_last]
  have hx1 := (hx.mono (fun v x (k : Nd H1 v x) => k.same sc)).droplast
  generalize upd H1 c (.lst (cutV xs none (some (-1)))) = H2 at hc hx1 sc
  refine ⟨c, rfl, ⟨_, SqL.of hc⟩, fun D nD => lc_list (xs := xs.dropLast) (fun i H' => ∃ ys : List V, Same H2 H' ∧ H' D = some (.lst ys) ∧ All2 (Nd H') ys ((L.dropLast.take i).map fun x => (x.1, n))) ⟨[], same_upd nD, upd_same, .nil⟩ (fun i H' _ ⟨_, k, _⟩ => SqL.of (k _ _ hc)) ?_ ?_⟩
  · rintro i x H3 hi ⟨ys, s3, hD, hy3⟩
    obtain ⟨y, hy, xp, rfl, hxp⟩ := hx1.nth hi
    have il : i < L.dropLast.length := (List.getElem?_eq_some_iff.mp hy).1
    rw [List.length_dropLast] at il
    refine ⟨xp, _, rfl, SqT.of (s3 _ _ hxp), rfl, _, _, rfl, _, _, rfl, rfl, rfl, ?_⟩
    refine ⟨_, rfl, _, rfl, (by show 2 ≤ sizeLine; decide), fun t nt => ?_⟩
    have st := same_upd (o := .tup [.int (y.1 : Int), .int (n : Int)]) nt
    refine ⟨ys, st _ _ hD, szlt (by rw [hy3.len, List.length_map, List.length_take, List.length_dropLast]; omega), ys ++ [.ref t], ?_, upd_same, ?_⟩
    · exact fun a o k => by rw [upd_ne (ne_of_none k nD)]; exact st _ _ (s3 _ _ k)
    · rw [take_more hy, List.map_append]
      exact (hy3.mono (fun v x (k : Nd H3 v x) => (k.same st).upd (st _ _ hD))).app (.cons (Nd.upd (x := (y.1, n)) ⟨t, rfl, upd_same⟩ (st _ _ hD)) .nil)
  rintro H3 ⟨ys, s3, hD, hy3⟩
  have et : L.dropLast.take xs.dropLast.length = L.dropLast := List.take_of_length_le (by rw [hx1.len]; exact Nat.le_refl _)
  rw [et] at hy3
  refine q H3 D ys (sm.trans (sc.trans s3)) ?_ hD hy3
  exact (sm.trans sc).free nD
end
end LT

namespace LT
open PySem PySem.Spec PyProof.Rows L2
theorem fm0 (x : Int) {m : Int} (h : 0 < m) : 0 ≤ x.fmod m := by
  rw [Int.fmod_eq_emod_of_nonneg _ (by omega)]
  exact Int.emod_nonneg _ (by omega)
theorem fm1 (x : Int) {m : Int} (h : 0 < m) : x.fmod m < m := by
  rw [Int.fmod_eq_emod_of_nonneg _ (by omega)]
  exact Int.emod_lt_of_pos _ h
def CPowW (i j : Int) : Prop := 0 ≤ j ∧ (Builtin.Int.intBits i : Int) * j ≤ 2 ^ 27
theorem op_powW {X : Cx} : OpR X (binaryOp .Pow) (rI CPowW fun i j => .int (i ^ j.toNat)) := opI fun _ _ _ _ _ _ _ hc q => pow_int hc.1 hc.2 q
theorem intBits_le {i : Int} {k : Nat} (h : i.natAbs < 2 ^ k) : Builtin.Int.intBits i ≤ k := by
  unfold Builtin.Int.intBits
  split
  · omega
  · rename_i c
    have : i.natAbs ≠ 0 := by simpa using c
    have := (Nat.log2_lt this).mpr h
    omega
theorem powW3 {i : Int} (h : i.natAbs < 2 ^ 1000) : CPowW i 3 := by
  have := intBits_le h
  refine ⟨by decide, ?_⟩
  omega
/-- a reel: three ints, the last one a count -/
def ReelAt (H : Hp) (b : Addr) (c : Nat) : Prop := ∃ x y z : Int, H b = some (.lst [.int x, .int y, .int z]) ∧ y.natAbs < 2 ^ 200 ∧ 0 ≤ z ∧ z ≤ c
theorem ReelAt.same {H H' : Hp} {b : Addr} {c : Nat} (h : ReelAt H b c) (s : Same H H') : ReelAt H' b c := by
  obtain ⟨x, y, z, e, r⟩ := h
  exact ⟨x, y, z, s _ _ e, r⟩
theorem ReelAt.mono {H : Hp} {b : Addr} {c d : Nat} (h : ReelAt H b c) (k : c ≤ d) : ReelAt H b d := by
  obtain ⟨x, y, z, e, r1, r2, r3⟩ := h
  exact ⟨x, y, z, e, r1, r2, by omega⟩
theorem ReelAt.ne {H : Hp} {b p : Addr} {c : Nat} (h : ReelAt H b c) (n : H p = none) : p ≠ b := fun z => by
  obtain ⟨_, _, _, e, _⟩ := h
  rw [← z, n] at e
  cases e
theorem ReelAt.upd {H : Hp} {b p : Addr} {c : Nat} {o : HO} (h : ReelAt H b c) (n : p ≠ b) : ReelAt (upd H p o) b c := by
  obtain ⟨x, y, z, e, r⟩ := h
  exact ⟨x, y, z, by rw [upd_ne (fun z => n z.symm)]; exact e, r⟩
section
variable {P : Program} {w : World} {K : PySem.W.Frag} {mg : Str → Option Value} {base : Heap}
def spWound (K : PySem.W.Frag) : Sp := fun vs H Q _ => ∃ (a : Addr) (ns : List Int) (k : Nat), vs = [.ref a, .int k] ∧ SqL K H a (ns.map V.int) ∧ k ≤ 63 ∧ ∀ (H' : Hp) (p : Addr), Same H H' → H p = none → ReelAt H' p 0 → Q (.ref p) H'
theorem ok_law_wound {f : Addr} {fd : FuncData} (F : Fun K "_law_wound" "_law_wound" sLawWound f fd) (z_max : mg "max" = none) (z_len : mg "len" = none) (z_int : mg "int" = none) : FnOk P w K mg base CX0 1 f fd ["script", "k"] (spWound K) := by
  refine F.ok scLawWound (fun vs H Q E h => ?_) (fun cdv A outer s H vs Q E hr h => ?_)
  · obtain ⟨_, _, _, rfl, _⟩ := h
    rfl
  obtain ⟨a, ns, k, rfl, hS, hk, q⟩ := h
  refine ⟨_, (pss_cons (ps_set (i := 2) scLawWound.nd rfl (Or.inl rfl) pe_int)
    (pss_cons (ps_if (pt_cmpR op_lt (pv 1) (pe_callB call_len_seq (by rfl) z_len PySem.boot_len (pa_cons (pv 0) pa_nil)) (nomark _))
    (pss_one (ps_set (i := 2) scLawWound.nd rfl (Or.inl rfl) (pe_ix ix_list (pv 0) (pv 1) (fun _ _ => rfl))))
    pss_nil)
    (pss_one (ps_ret (pe_lst (pa_cons (pe_callB (call_max2 rfl) (by rfl) z_max (by decide +kernel) (pa_cons pe_int (pa_cons (pe_op op_sub (pv 2) (pe_op op_pow pe_int pe_int)) pa_nil))) (pa_cons (pe_op op_add (pe_op op_add (pe_op op_mul (pe_op op_modN (pe_callTy call_int1 (by rfl) z_int (by decide +kernel) (pa_cons (pv 2) pa_nil)) (pe_op op_add (pe_op op_pow pe_int pe_int) pe_int)) pe_int) (pe_op op_mul pe_int (pv 1))) pe_int) (pa_cons pe_int pa_nil)))))))), ?_⟩
  have fin : ∀ (cell : Int), Q (.ref 0) H → True := fun _ _ => trivial
  refine ⟨_, rfl, _, rfl, a, _, rfl, .inl hS, _, _, rfl, rfl, _, rfl, ite2 (fun c => ?_) (fun c => ?_)⟩
  · have c1 : (k : Int) < ((ns.map V.int).length : Int) := of_decide_eq_true c
    have c2 : k < (ns.map V.int).length := by omega
    have c3 : k < ns.length := by rw [List.length_map] at c2; exact c2
    have e : (ns.map V.int)[k]? = some (.int ns[k]) := by rw [List.getElem?_map, List.getElem?_eq_getElem c3]; rfl
    generalize ns[k] = cell at e
    refine ⟨_, rfl, _, rfl, a, _, _, _, rfl, rfl, hS, atI_nat e, ?_⟩
    refine ⟨_, rfl, _, _, rfl, rfl, ⟨by decide, by decide, by decide⟩, _, _, rfl, rfl, _, _, rfl, _, rfl, .inl ⟨_, rfl, _, _, rfl, rfl, ⟨by decide, by decide, by decide⟩, _, _, rfl, rfl, _, _, rfl, rfl, (by show (10 ^ (38 : Int).toNat + 133 : Int) ≠ 0; decide), _, _, rfl, rfl, .inr ⟨by decide, by decide⟩, _, rfl, _, _, rfl, rfl, .inl ⟨by decide, by decide⟩, _, _, rfl, rfl, _, _, rfl, rfl, (by show 3 ≤ sizeLine; decide), fun p np => ?_⟩⟩
    have f0 := fm0 cell (m := 10 ^ (38 : Int).toNat + 133) (by decide)
    have f1 := fm1 cell (m := 10 ^ (38 : Int).toNat + 133) (by decide)
    have e10 : (10 : Int) ^ (38 : Int).toNat = 100000000000000000000000000000000000000 := by decide
    rw [e10] at f0 f1
    refine q _ p (same_upd np) np ⟨_, _, _, upd_same, ?_, by decide, by decide⟩
    rw [e10]
    generalize cell.fmod (100000000000000000000000000000000000000 + 133) = z at f0 f1
    omega
  · refine ⟨_, rfl, _, _, rfl, rfl, ⟨by decide, by decide, by decide⟩, _, _, rfl, rfl, _, _, rfl, _, rfl, .inl ⟨_, rfl, _, _, rfl, rfl, ⟨by decide, by decide, by decide⟩, _, _, rfl, rfl, _, _, rfl, rfl, (by show (10 ^ (38 : Int).toNat + 133 : Int) ≠ 0; decide), _, _, rfl, rfl, .inr ⟨by decide, by decide⟩, _, rfl, _, _, rfl, rfl, .inl ⟨by decide, by decide⟩, _, _, rfl, rfl, _, _, rfl, rfl, (by show 3 ≤ sizeLine; decide), fun p np => ?_⟩⟩
    have f0 := fm0 0 (m := 10 ^ (38 : Int).toNat + 133) (by decide)
    have f1 := fm1 0 (m := 10 ^ (38 : Int).toNat + 133) (by decide)
    have e10 : (10 : Int) ^ (38 : Int).toNat = 100000000000000000000000000000000000000 := by decide
    rw [e10] at f0 f1
    refine q _ p (same_upd np) np ⟨_, _, _, upd_same, ?_, by decide, by decide⟩
    rw [e10]
    generalize (0 : Int).fmod (100000000000000000000000000000000000000 + 133) = z at f0 f1
    omega
def spSpin : Sp := fun vs H Q _ => ∃ (b : Addr) (many : Int) (c : Nat), vs = [.ref b, .int many] ∧ 0 < many ∧ many.natAbs < 2 ^ 250 ∧ ReelAt H b c ∧ c ≤ 10 ^ 9 ∧
  ∀ (r : Nat) (H' : Hp), (r : Int) < many → (∀ a, a ≠ b → H' a = H a) → ReelAt H' b (c + 1) → Q (.int r) H'
theorem ok_law_spin {f : Addr} {fd : FuncData} (F : Fun K "_law_spin" "_law_spin" sLawSpin f fd) (z_int : mg "int" = none) : FnOk P w K mg base CX0 1 f fd ["reel", "many"] spSpin := by
  refine F.ok scLawSpin (fun vs H Q E h => ?_) (fun cdv A outer s H vs Q E hr h => ?_)
  · obtain ⟨_, _, _, rfl, _⟩ := h
    rfl
  obtain ⟨b, many, cn, rfl, hm, hm2, ⟨x, y, z, h0, hy, z0, zc⟩, hc, q0⟩ := h
  have q : ∀ (i : Int) (H' : Hp), (∀ a, a ≠ b → H' a = H a) → ReelAt H' b (cn + 1) → Q (.int (i.fmod many)) H' := fun i H' k1 k2 => by
    have a0 := fm0 i hm
    have a1 := fm1 i hm
    obtain ⟨r, e⟩ := Int.eq_ofNat_of_zero_le a0
    rw [e] at a1 ⊢
    exact q0 r H' a1 k1 k2
  refine ⟨_, (pss_cons (ps_if (pt_cmpR op_gt (pe_ix ix_list (pv 0) pe_int (fun _ _ => rfl)) pe_int (nomark _))
    (pss_cons (ps_set (i := 2) scLawSpin.nd rfl (Or.inl rfl) (pe_op op_modN (pe_callTy call_int1 (by rfl) z_int (by decide +kernel) (pa_cons (pe_ix ix_list (pv 0) pe_int (fun _ _ => rfl)) pa_nil)) (pv 1)))
    (pss_cons (ps_asg (pe_op op_fdivW (pe_ix ix_list (pv 0) pe_int (fun _ _ => rfl)) (pv 1)) (pg_sub (pv 0) pe_int set_list))
    (pss_one (ps_ret (pv 2)))))
    pss_nil)
    (pss_cons (ps_asg (pe_op op_add (pe_ix ix_list (pv 0) pe_int (fun _ _ => rfl)) pe_int) (pg_sub (pv 0) pe_int set_list))
    (pss_cons (ps_set (i := 3) scLawSpin.nd rfl (Or.inl rfl) (pe_op op_modN (pe_callTy call_int1 (by rfl) z_int (by decide +kernel) (pa_cons (pe_op op_powW (pe_op op_add (pe_ix ix_list (pv 0) pe_int (fun _ _ => rfl)) (pe_op op_mul pe_int (pe_ix ix_list (pv 0) pe_int (fun _ _ => rfl)))) pe_int) pa_nil)) (pe_op op_add (pe_op op_pow pe_int pe_int) pe_int)))
    (pss_cons (ps_set (i := 3) scLawSpin.nd rfl (Or.inl rfl) (pe_op op_modN (pe_callTy call_int1 (by rfl) z_int (by decide +kernel) (pa_cons (pe_op op_powW (pe_op op_add (pv 3) (pe_op op_mul pe_int (pe_ix ix_list (pv 0) pe_int (fun _ _ => rfl)))) pe_int) pa_nil)) (pe_op op_add (pe_op op_pow pe_int pe_int) pe_int)))
    (pss_one (ps_ret (pe_op op_modN (pe_callTy call_int1 (by rfl) z_int (by decide +kernel) (pa_cons (pe_op op_fdivW (pv 3) pe_int) pa_nil)) (pv 1)))))))), ?_⟩
  refine ⟨_, rfl, b, _, _, _, rfl, rfl, SqL.of h0, atI_nat (j := 0) rfl, _, _, rfl, rfl, _, rfl, ite2 (fun c => ?_) (fun c => ?_)⟩
  · refine ⟨_, rfl, b, _, _, _, rfl, rfl, SqL.of h0, atI_nat (j := 0) rfl, .inl ⟨_, rfl, _, rfl, _, _, rfl, rfl, by omega, ?_⟩⟩
    refine ⟨_, rfl, b, _, _, _, rfl, rfl, SqL.of h0, atI_nat (j := 0) rfl, _, rfl, _, _, rfl, rfl, wide_div hm hm2 (by decide) (by decide), _, rfl, b, _, _, 0, rfl, rfl, h0, rfl, ?_⟩
    refine ⟨_, rfl, ?_⟩
    exact q x _ (fun a ha => upd_ne ha) ⟨_, y, z, upd_same, hy, z0, by omega⟩
  · refine ⟨_, rfl, b, _, _, _, rfl, rfl, SqL.of h0, atI_nat (j := 2) rfl, _, _, rfl, rfl, _, rfl, b, _, _, 2, rfl, rfl, h0, rfl, ?_⟩
    dsimp only
    have h1 : (upd H b (.lst ([.int x, .int y, .int z].set 2 (.int (z + 1))))) b = some (.lst [.int x, .int y, .int (z + 1)]) := upd_same
    have k1 : ∀ a, a ≠ b → (upd H b (.lst ([.int x, .int y, .int z].set 2 (.int (z + 1))))) a = H a := fun a ha => upd_ne ha
    generalize upd H b (.lst ([.int x, .int y, .int z].set 2 (.int (z + 1)))) = H1 at h1 k1
    refine ⟨_, rfl, b, _, _, _, rfl, rfl, SqL.of h1, atI_nat (j := 1) rfl, _, rfl, b, _, _, _, rfl, rfl, SqL.of h1, atI_nat (j := 2) rfl, _, _, rfl, rfl, .inl ⟨by decide, by decide⟩, _, _, rfl, rfl, _, _, rfl, rfl, powW3 (by omega), .inl ⟨_, rfl, _, _, rfl, rfl, ⟨by decide, by decide, by decide⟩, _, _, rfl, rfl, _, _, rfl, rfl, (by show (10 ^ (42 : Int).toNat + 63 : Int) ≠ 0; decide), ?_⟩⟩
    dsimp only
    have e10 : (10 : Int) ^ (42 : Int).toNat = 1000000000000000000000000000000000000000000 := by decide
    rw [e10]
    have a0 := fm0 ((y + 86028121 * (z + 1)) ^ (3 : Int).toNat) (m := 1000000000000000000000000000000000000000000 + 63) (by decide)
    have a1 := fm1 ((y + 86028121 * (z + 1)) ^ (3 : Int).toNat) (m := 1000000000000000000000000000000000000000000 + 63) (by decide)
    generalize ((y + 86028121 * (z + 1)) ^ (3 : Int).toNat).fmod (1000000000000000000000000000000000000000000 + 63) = mi at a0 a1
    refine ⟨_, rfl, _, rfl, b, _, _, _, rfl, rfl, SqL.of h1, atI_nat (j := 2) rfl, _, _, rfl, rfl, .inl ⟨by decide, by decide⟩, _, _, rfl, rfl, _, _, rfl, rfl, powW3 (by omega), .inl ⟨_, rfl, _, _, rfl, rfl, ⟨by decide, by decide, by decide⟩, _, _, rfl, rfl, _, _, rfl, rfl, (by show (10 ^ (44 : Int).toNat + 57 : Int) ≠ 0; decide), ?_⟩⟩
    dsimp only
    generalize ((mi + 67867967 * (z + 1)) ^ (3 : Int).toNat).fmod (10 ^ (44 : Int).toNat + 57) = mj
    refine ⟨_, rfl, _, _, rfl, rfl, wide_div (by decide) (b := 20) (by decide) (by decide) (by decide), .inl ⟨_, rfl, _, rfl, _, _, rfl, rfl, by omega, ?_⟩⟩
    exact q _ _ k1 ⟨_, _, _, h1, hy, by omega, by omega⟩
end
end LT

namespace LT
open PySem PySem.Spec PyProof.Rows L2
section
variable {P : Program} {w : World} {K : PySem.W.Frag} {mg : Str → Option Value} {base : Heap}
theorem shl_nat (k : Nat) : (1 : Int) * 2 ^ ((k : Nat) : Int).toNat = ((2 ^ k : Nat) : Int) := by rw [Int.one_mul, Int.toNat_natCast]; exact (Int.natCast_pow 2 k).symm
def spDrawnSize : Sp := fun vs H Q _ => ∃ (b : Addr) (c : Nat), vs = [.ref b] ∧ ReelAt H b c ∧ c ≤ 10 ^ 8 ∧
  ∀ (n : Nat) (H' : Hp), 1 ≤ n → n ≤ 10 ^ 30 → But b H H' → ReelAt H' b (c + 5) → Q (.int n) H'
theorem ok_law_drawn_size {f g1 : Addr} {fd d1 : FuncData} (F : Fun K "_law_drawn_size" "_law_drawn_size" sLawDrawnSize f fd) (GLawSpin : FnOk P w K mg base CX0 1 g1 d1 ["reel", "many"] spSpin) (ALawSpin : At K mg "_law_spin" g1 d1 ["reel", "many"]) (z_min : mg "min" = none) (z_int : mg "int" = none) :
    FnOk P w K mg base CX0 2 f fd ["reel"] spDrawnSize := by
  refine F.ok scLawDrawnSize (fun vs H Q E h => ?_) (fun cdv A outer s H vs Q E hr h => ?_)
  · obtain ⟨_, _, rfl, _⟩ := h
    rfl
  obtain ⟨b, c, rfl, hb, hc, q⟩ := h
  refine ⟨_, (pss_cons (ps_par (i := 1) (j := 2) (by rfl) scLawDrawnSize.nd rfl rfl (by decide) rfl rfl (pa_cons (pe_call GLawSpin (hr.mono (by decide)) rfl ALawSpin.m ALawSpin.kp ALawSpin.b .nil pass0 (pa_cons (pv 0) (pa_cons pe_int pa_nil))) (pa_cons (pe_call GLawSpin (hr.mono (by decide)) rfl ALawSpin.m ALawSpin.kp ALawSpin.b .nil pass0 (pa_cons (pv 0) (pa_cons pe_int pa_nil))) pa_nil)) (by rfl))
    (pss_cons (ps_set (i := 3) scLawDrawnSize.nd rfl (Or.inl rfl) (pe_lst (pa_cons (pe_op op_add pe_int (pe_call GLawSpin (hr.mono (by decide)) rfl ALawSpin.m ALawSpin.kp ALawSpin.b .nil pass0 (pa_cons (pv 0) (pa_cons (pe_op op_pow pe_int pe_int) pa_nil)))) (pa_cons (pe_op op_add (pe_op op_shl pe_int (pv 1)) (pe_op op_shl pe_int (pv 2))) (pa_cons (pe_op op_sub (pe_op op_shl pe_int (pe_op op_add (pv 1) pe_int)) pe_int) pa_nil)))))
    (pss_cons (ps_set (i := 3) scLawDrawnSize.nd rfl (Or.inl rfl) (pe_op op_cat (pv 3) (pe_lst (pa_cons (pe_op op_add (pe_op op_sub (pe_op op_sub (pe_op op_shl pe_int (pe_op op_add (pv 1) pe_int)) pe_int) (pe_op op_shl pe_int (pe_callB (call_min2 rfl) (by rfl) z_min (by decide +kernel) (pa_cons (pv 1) (pa_cons (pv 2) pa_nil))))) (pe_callTy call_int1 (by rfl) z_int (by decide +kernel) (pa_cons (pe_cmpR op_eq (pv 1) pe_int (nomark _)) pa_nil))) (pa_cons (pe_op op_add pe_int (pe_call GLawSpin (hr.mono (by decide)) rfl ALawSpin.m ALawSpin.kp ALawSpin.b .nil pass0 (pa_cons (pv 0) (pa_cons pe_int pa_nil)))) pa_nil)))))
    (pss_one (ps_ret (pe_ix ix_list (pv 3) (pe_call GLawSpin (hr.mono (by decide)) rfl ALawSpin.m ALawSpin.kp ALawSpin.b .nil pass0 (pa_cons (pv 0) (pa_cons pe_int pa_nil))) (fun _ _ => rfl))))))), ?_⟩
  refine ⟨_, rfl, b, 99, c, rfl, by decide, by decide, hb, by omega, fun pw H1 p1 k1 b1 => ?_⟩
  refine ⟨_, rfl, b, 99, _, rfl, by decide, by decide, b1, by omega, fun ot H2 o1 k2 b2 => ?_⟩
  refine ⟨_, _, rfl, ?_⟩
  have B2 : But b H H2 := fun a o n h => by rw [k2 a n, k1 a n]; exact h
  refine ⟨_, rfl, _, _, rfl, rfl, ⟨by decide, by decide, by decide⟩, b, _, _, rfl, by decide, by decide, b2, by omega, fun r3 H3 r31 k3 b3 => ?_⟩
  have B3 : But b H H3 := fun a o n h => by rw [k3 a n]; exact B2 a o n h
  refine ⟨_, _, rfl, rfl, ?_⟩
  refine ⟨_, rfl, _, _, rfl, rfl, ⟨Int.natCast_nonneg _, by omega, by decide⟩, _, rfl, _, _, rfl, rfl, ⟨Int.natCast_nonneg _, by omega, by decide⟩, _, _, rfl, rfl, ?_⟩
  refine ⟨_, rfl, _, _, rfl, rfl, _, _, rfl, rfl, ⟨by omega, by omega, by decide⟩, _, _, rfl, rfl, (by show 3 ≤ sizeLine; decide), fun l nl => ?_⟩
  dsimp only
  have ep : (pw : Int) + 1 = ((pw + 1 : Nat) : Int) := by omega
  rw [ep, shl_nat, shl_nat, shl_nat]
  have p0 := Nat.pow_pos (a := 2) (n := pw) (by decide)
  have q0 := Nat.pow_pos (a := 2) (n := ot) (by decide)
  have pb : 2 ^ pw ≤ 2 ^ 98 := Nat.pow_le_pow_right (by decide) (by omega)
  have qb : 2 ^ ot ≤ 2 ^ 98 := Nat.pow_le_pow_right (by decide) (by omega)
  have ps : 2 ^ (pw + 1) = 2 * 2 ^ pw := by rw [Nat.pow_succ]; omega
  have lb_ : l ≠ b := b3.ne nl
  have s4 := same_upd (o := .lst [.int (1 + (r3 : Int)), .int (((2 ^ pw : Nat) : Int) + ((2 ^ ot : Nat) : Int)), .int (((2 ^ (pw + 1) : Nat) : Int) - 1)]) nl
  have h4 : (upd H3 l (.lst [.int (1 + (r3 : Int)), .int (((2 ^ pw : Nat) : Int) + ((2 ^ ot : Nat) : Int)), .int (((2 ^ (pw + 1) : Nat) : Int) - 1)])) l = some (.lst [.int (1 + (r3 : Int)), .int (((2 ^ pw : Nat) : Int) + ((2 ^ ot : Nat) : Int)), .int (((2 ^ (pw + 1) : Nat) : Int) - 1)]) := upd_same
  have B4 := B3.trans (But.of (b := b) s4)
  have b4 := b3.same s4
  generalize upd H3 l (.lst [.int (1 + (r3 : Int)), .int (((2 ^ pw : Nat) : Int) + ((2 ^ ot : Nat) : Int)), .int (((2 ^ (pw + 1) : Nat) : Int) - 1)]) = H4 at h4 B4 b4
  have em : (if (ot : Int) < (pw : Int) then (ot : Int) else (pw : Int)) = ((min pw ot : Nat) : Int) := by split <;> omega
  have mb : 2 ^ (min pw ot) ≤ 2 ^ pw := Nat.pow_le_pow_right (by decide) (by omega)
  have m0 := Nat.pow_pos (a := 2) (n := min pw ot) (by decide)
  refine ⟨_, rfl, _, rfl, _, _, rfl, rfl, _, _, rfl, rfl, ⟨by omega, by omega, by decide⟩, _, _, rfl, rfl, _, rfl, _, rfl, _, _, rfl, ?_⟩
  rw [em]
  refine ⟨_, _, rfl, rfl, ⟨Int.natCast_nonneg _, by omega, by decide⟩, _, _, rfl, rfl, _, rfl, rfl, .inr ⟨_, rfl, _, _, rfl, rfl, ?_⟩⟩
  dsimp only
  rw [ep, shl_nat, shl_nat]
  refine ⟨_, rfl, b, 99, _, rfl, by decide, by decide, b4, by omega, fun r5 H5 r51 k5 b5 => ⟨_, _, rfl, rfl, (by show 2 ≤ sizeLine; decide), fun l2 n2 => ?_⟩⟩
  have B5 : But b H H5 := fun a o n h => by rw [k5 a n]; exact B4 a o n h
  have h5 : H5 l = some _ := (k5 l lb_).trans h4
  have s6 := same_upd (o := .lst [.int (((2 ^ (pw + 1) : Nat) : Int) - 1 - ((2 ^ min pw ot : Nat) : Int) + if decide ((V.int (pw : Int)) = V.int 0) = true then 1 else 0), .int (1 + (r5 : Int))]) n2
  refine ⟨l, l2, _, _, rfl, rfl, s6 _ _ h5, upd_same, (by show 3 + 2 ≤ sizeLine; decide), fun l3 n3 => ?_⟩
  have s7 := same_upd (o := .lst ([.int (1 + (r3 : Int)), .int (((2 ^ pw : Nat) : Int) + ((2 ^ ot : Nat) : Int)), .int (((2 ^ (pw + 1) : Nat) : Int) - 1)] ++ [.int (((2 ^ (pw + 1) : Nat) : Int) - 1 - ((2 ^ min pw ot : Nat) : Int) + if decide ((V.int (pw : Int)) = V.int 0) = true then 1 else 0), .int (1 + (r5 : Int))])) n3
  have hz : (if decide ((V.int (pw : Int)) = V.int 0) = true then (1 : Int) else 0) = if pw = 0 then 1 else 0 := by
    by_cases c : pw = 0
    · subst c; rfl
    · rw [if_neg c]
      exact if_neg (fun z => c (by have := V.int.inj (of_decide_eq_true z); omega))
  have e30 : (10 : Int) ^ (30 : Int).toNat = 1000000000000000000000000000000 := by decide
  rw [e30] at r31
  have hv : ∀ r : Nat, (r : Int) < 5 → ∃ n : Nat, atI ([V.int (1 + (r3 : Int)), .int (((2 ^ pw : Nat) : Int) + ((2 ^ ot : Nat) : Int)), .int (((2 ^ (pw + 1) : Nat) : Int) - 1)] ++ [.int (((2 ^ (pw + 1) : Nat) : Int) - 1 - ((2 ^ min pw ot : Nat) : Int) + if decide ((V.int (pw : Int)) = V.int 0) = true then 1 else 0), .int (1 + (r5 : Int))]) (r : Int) = some (.int (n : Int)) ∧ 1 ≤ n ∧ n ≤ 10 ^ 30 := by
    intro r hr5
    have key : ∀ (i : Int), (1 ≤ i ∧ i ≤ 10 ^ 30) → ∀ (o : Option V), o = some (.int i) → ∃ n : Nat, o = some (.int (n : Int)) ∧ 1 ≤ n ∧ n ≤ 10 ^ 30 := fun i hi o ho => by
      obtain ⟨n, rfl⟩ := Int.eq_ofNat_of_zero_le (show 0 ≤ i by omega)
      exact ⟨n, ho, by omega, by omega⟩
    rw [hz]
    have : r = 0 ∨ r = 1 ∨ r = 2 ∨ r = 3 ∨ r = 4 := by omega
    rcases this with rfl | rfl | rfl | rfl | rfl
    · exact key _ (by omega) _ (atI_nat (j := 0) rfl)
    · exact key _ (by omega) _ (atI_nat (j := 1) rfl)
    · exact key _ (by omega) _ (atI_nat (j := 2) rfl)
    · refine key _ ?_ _ (atI_nat (j := 3) rfl)
      by_cases c : pw = 0
      · subst c
        rw [if_pos rfl]
        have : min 0 ot = 0 := by omega
        rw [this]
        decide
      · rw [if_neg c]
        have : 2 ≤ 2 ^ pw := Nat.pow_le_pow_right (n := 2) (by decide) (show 1 ≤ pw by omega)
        omega
    · exact key _ (by omega) _ (atI_nat (j := 4) rfl)
  generalize [V.int (1 + (r3 : Int)), .int (((2 ^ pw : Nat) : Int) + ((2 ^ ot : Nat) : Int)), .int (((2 ^ (pw + 1) : Nat) : Int) - 1)] ++ [.int (((2 ^ (pw + 1) : Nat) : Int) - 1 - ((2 ^ min pw ot : Nat) : Int) + if decide ((V.int (pw : Int)) = V.int 0) = true then 1 else 0), .int (1 + (r5 : Int))] = L at s7 hv ⊢
  have b7 := (b5.same s6).same s7
  have h7 : (upd (upd H5 l2 (.lst [.int (((2 ^ (pw + 1) : Nat) : Int) - 1 - ((2 ^ min pw ot : Nat) : Int) + if decide ((V.int (pw : Int)) = V.int 0) = true then 1 else 0), .int (1 + (r5 : Int))])) l3 (.lst L)) l3 = some (.lst L) := upd_same
  have B7 := (B5.trans (But.of (b := b) s6)).trans (But.of (b := b) s7)
  generalize upd (upd H5 l2 (.lst [.int (((2 ^ (pw + 1) : Nat) : Int) - 1 - ((2 ^ min pw ot : Nat) : Int) + if decide ((V.int (pw : Int)) = V.int 0) = true then 1 else 0), .int (1 + (r5 : Int))])) l3 (.lst L) = H7 at b7 h7 B7
  have l3b : l3 ≠ b := (b5.same s6).ne n3
  refine ⟨_, rfl, _, rfl, b, 5, _, rfl, by decide, by decide, b7, by omega, fun r H8 r8 k8 b8 => ?_⟩
  obtain ⟨n, hn, n1, n30⟩ := hv r r8
  exact ⟨l3, _, _, _, rfl, rfl, SqL.of ((k8 l3 l3b).trans h7), hn, q n H8 n1 n30 (fun a o z h => by rw [k8 a z]; exact B7 a o z h) b8⟩
end
end LT

namespace LT
open PySem PySem.Spec PyProof.Rows L2
/-- the digits 1 -/
def ones (n : Nat) : Nat := if h : n = 0 then 0 else n % 2 + ones (n / 2)
termination_by n
decreasing_by omega
theorem ones_zero : ones 0 = 0 := by rw [ones]; rfl
theorem ones_step (n : Nat) : ones n = n % 2 + ones (n / 2) := by
  by_cases h : n = 0
  · subst h; rw [Nat.zero_mod, Nat.zero_div, ones_zero]
  · rw [ones, dif_neg h]
theorem ones_one : ones 1 = 1 := by rw [ones_step]; show 1 + ones 0 = 1; rw [ones_zero]
theorem ones_dbl (n : Nat) : ones (2 * n) = ones n := by rw [ones_step, Nat.mul_mod_right, Nat.zero_add, Nat.mul_div_cancel_left _ (by decide)]
theorem ones_dbl1 (n : Nat) : ones (2 * n + 1) = ones n + 1 := by
  rw [ones_step, show (2 * n + 1) % 2 = 1 by omega, show (2 * n + 1) / 2 = n by omega]; omega
theorem ones_pos {n : Nat} (h : 1 ≤ n) : 1 ≤ ones n := by
  induction n using Nat.strongRecOn with
  | ind n ih =>
    rw [ones_step]
    by_cases c : n % 2 = 1
    · omega
    · have := ih (n / 2) (by omega) (by omega)
      omega
theorem ones_split : ∀ (i a r : Nat), r < 2 ^ i → ones (2 ^ i * a + r) = ones a + ones r
  | 0, a, r, h => by
    have : r = 0 := by simp at h; omega
    subst this
    rw [Nat.pow_zero, Nat.one_mul, Nat.add_zero, ones_zero, Nat.add_zero]
  | i + 1, a, r, h => by
    rw [Nat.pow_succ] at h
    have e : 2 ^ (i + 1) * a + r = 2 * (2 ^ i * a + r / 2) + r % 2 := by
      rw [Nat.pow_succ, Nat.mul_right_comm]
      omega
    have ih := ones_split i a (r / 2) (by omega)
    have s := ones_step r
    have c : r % 2 = 0 ∨ r % 2 = 1 := by omega
    rcases c with c | c
    · rw [e, c, Nat.add_zero, ones_dbl, ih]; omega
    · rw [e, c, ones_dbl1, ih]; omega
theorem ones_pow (i : Nat) : ones (2 ^ i) = 1 := by
  have := ones_split i 1 0 (Nat.pow_pos (by decide))
  rw [Nat.mul_one, Nat.add_zero, ones_one, ones_zero] at this
  exact this
theorem ones_le (i n : Nat) (h : n < 2 ^ i) : ones n ≤ i := by
  induction i generalizing n with
  | zero => have : n = 0 := by simp at h; omega
            subst this; rw [ones_zero]; exact Nat.le_refl _
  | succ i ih =>
    rw [Nat.pow_succ] at h
    have := ih (n / 2) (by omega)
    rw [ones_step]
    omega
theorem ones_le_self (n : Nat) : ones n ≤ n := by
  induction n using Nat.strongRecOn with
  | ind n ih =>
    by_cases c : n = 0
    · subst c; rw [ones_zero]; exact Nat.le_refl _
    · have := ih (n / 2) (by omega)
      rw [ones_step]
      omega
theorem pk_ones : ∀ (i n b : Nat), (pk i n b).length = ones (n % 2 ^ i)
  | 0, n, b => by rw [Nat.pow_zero, Nat.mod_one, ones_zero]; rfl
  | i + 1, n, b => by
    rw [mod_succ]
    have ml := Nat.mod_lt n (Nat.pow_pos (a := 2) (n := i) (by decide))
    by_cases t : n.testBit i = true
    · show (if n.testBit i = true then (b, i) :: pk i n (b + 2 ^ i) else pk i n b).length = _
      rw [if_pos t, if_pos t, List.length_cons, pk_ones i n _]
      have := ones_split i 1 (n % 2 ^ i) ml
      rw [Nat.mul_one, ones_one] at this
      omega
    · show (if n.testBit i = true then (b, i) :: pk i n (b + 2 ^ i) else pk i n b).length = _
      rw [if_neg t, if_neg t, pk_ones i n _, Nat.zero_add]
section
variable {P : Program} {w : World} {K : PySem.W.Frag} {mg : Str → Option Value} {base : Heap}
theorem bitAnd_low1 (n : Nat) : Builtin.bitAnd (n : Int) 1 = ((n % 2 : Nat) : Int) := by
  have := bitAnd_pp (x := (n : Int)) (y := 1) (Int.natCast_nonneg n) (by decide)
  rw [this, Int.toNat_natCast]
  show (((n &&& 1 : Nat)) : Int) = _
  rw [Nat.and_one_is_mod]
def spOnes : Sp := fun vs H Q _ => ∃ (n : Nat), vs = [.int n] ∧ n < 2 ^ 400 ∧ Q (.int ((ones n : Nat) : Int)) H
theorem ok_law_ones {f : Addr} {fd : FuncData} (F : Fun K "_law_ones" "_law_ones" sLawOnes f fd) : FnOk P w K mg base CX0 1 f fd ["number"] spOnes := by
  refine F.ok scLawOnes (fun vs H Q E h => ?_) (fun cdv A outer s H vs Q E hr h => ?_)
  · obtain ⟨_, rfl, _⟩ := h
    rfl
  obtain ⟨n, rfl, hn, q⟩ := h
  refine ⟨_, (pss_cons (ps_par (i := 1) (j := 2) (by rfl) scLawOnes.nd rfl rfl (by decide) rfl rfl (pa_cons pe_int (pa_cons (pv 0) pa_nil)) (by rfl))
    (pss_cons (ps_while PassesOwn.never (pt_cmpR op_gt (pv 2) pe_int (nomark _))
    (pss_one (ps_par (i := 1) (j := 2) (by rfl) scLawOnes.nd rfl rfl (by decide) rfl rfl (pa_cons (pe_op op_add (pv 1) (pe_op op_and (pv 2) pe_int)) (pa_cons (pe_op op_shr (pv 2) pe_int) pa_nil)) (by rfl))))
    (pss_one (ps_ret (pv 1))))), ?_⟩
  refine ⟨_, rfl, _, _, rfl, ?_⟩
  refine ⟨fun mu σ H' => ∃ (d l : Nat), σ = [some (.int n), some (.int (d : Int)), some (.int (l : Int))] ∧ H' = H ∧ d + ones l = ones n ∧ mu = l + 0, ⟨n, 0, n, rfl, rfl, Nat.zero_add _, rfl⟩, ?_⟩
  rintro m σ H1 ⟨d, l, rfl, rfl, hd, hm⟩
  refine ⟨_, rfl, _, _, rfl, rfl, _, rfl, ite2 (fun c1 => ?_) (fun c1 => ?_)⟩
  · have c2 : (l : Int) > 0 := of_decide_eq_true c1
    refine ⟨_, fun σ' H' h => h, _, rfl, _, rfl, _, _, rfl, rfl, _, _, rfl, rfl, _, rfl, _, _, rfl, rfl, (by show (0 : Int) ≤ 1; decide), _, _, rfl, ?_⟩
    have st := ones_step l
    have e1 : (d : Int) + Builtin.bitAnd (l : Int) 1 = ((d + l % 2 : Nat) : Int) := by rw [bitAnd_low1]; rfl
    have e2 : (l : Int) / 2 ^ (1 : Int).toNat = ((l / 2 : Nat) : Int) := by
      show (l : Int) / 2 ^ 1 = _
      omega
    refine ⟨l / 2, by omega, d + l % 2, l / 2, ?_, rfl, by omega, rfl⟩
    rw [← e1, ← e2]
    rfl
  · have c2 : ¬ (l : Int) > 0 := of_decide_eq_false (Bool.eq_false_iff.mpr c1)
    have l0 : l = 0 := by omega
    subst l0
    rw [ones_zero, Nat.add_zero] at hd
    subst hd
    exact ⟨_, rfl, q⟩
end
end LT

namespace LT
open PySem PySem.Spec PyProof.Rows L2
/-- f 0 + .. + f (n - 1) -/
def sumR : Nat → (Nat → Nat) → Nat
  | 0, _ => 0
  | n + 1, f => sumR n f + f n
theorem sumR_congr {f g : Nat → Nat} : ∀ {n : Nat}, (∀ i, i < n → f i = g i) → sumR n f = sumR n g
  | 0, _ => rfl
  | n + 1, h => by
    show sumR n f + f n = sumR n g + g n
    rw [sumR_congr fun i hi => h i (by omega), h n (by omega)]
theorem sumR_add (f g : Nat → Nat) : ∀ n, sumR n (fun i => f i + g i) = sumR n f + sumR n g
  | 0 => rfl
  | n + 1 => by
    show sumR n (fun i => f i + g i) + (f n + g n) = sumR n f + f n + (sumR n g + g n)
    rw [sumR_add f g n]; omega
theorem sumR_const (c : Nat) : ∀ n, sumR n (fun _ => c) = n * c
  | 0 => (Nat.zero_mul c).symm
  | n + 1 => by
    show sumR n (fun _ => c) + c = (n + 1) * c
    rw [sumR_const c n, Nat.succ_mul]
theorem sumR_zero {f : Nat → Nat} {n : Nat} (h : ∀ i, i < n → f i = 0) : sumR n f = 0 := by rw [sumR_congr h, sumR_const, Nat.mul_zero]
theorem sumR_le {f g : Nat → Nat} : ∀ {n : Nat}, (∀ i, i < n → f i ≤ g i) → sumR n f ≤ sumR n g
  | 0, _ => Nat.le_refl _
  | n + 1, h => by
    show sumR n f + f n ≤ sumR n g + g n
    have := sumR_le (n := n) fun i hi => h i (by omega)
    have := h n (by omega)
    omega
theorem sumR_split (f : Nat → Nat) (m : Nat) : ∀ k, sumR (m + k) f = sumR m f + sumR k (fun i => f (m + i))
  | 0 => rfl
  | k + 1 => by
    show sumR (m + k) f + f (m + k) = sumR m f + (sumR k (fun i => f (m + i)) + f (m + k))
    rw [sumR_split f m k]; omega
theorem sumR_head (f : Nat → Nat) (n : Nat) : sumR (n + 1) f = f 0 + sumR n (fun i => f (i + 1)) := by
  have := sumR_split f 1 n
  rw [Nat.add_comm 1 n] at this
  rw [this]
  show 0 + f 0 + _ = _
  rw [Nat.zero_add]
  congr 1
  exact sumR_congr fun i _ => by rw [Nat.add_comm]
theorem sumR_rev (f : Nat → Nat) : ∀ n, sumR n f = sumR n (fun i => f (n - 1 - i))
  | 0 => rfl
  | n + 1 => by
    rw [sumR_head (fun i => f (n + 1 - 1 - i)) n]
    show sumR n f + f n = f (n + 1 - 1 - 0) + sumR n (fun i => f (n + 1 - 1 - (i + 1)))
    rw [sumR_rev f n, Nat.add_sub_cancel, Nat.sub_zero, Nat.add_comm]
    congr 1
    exact sumR_congr fun i hi => by rw [show n - 1 - i = n - (i + 1) by omega]
theorem sumR_swap (f : Nat → Nat → Nat) (m : Nat) : ∀ n, sumR n (fun i => sumR m (fun j => f i j)) = sumR m (fun j => sumR n (fun i => f i j))
  | 0 => (sumR_zero fun _ _ => rfl).symm
  | n + 1 => by
    show sumR n (fun i => sumR m (fun j => f i j)) + sumR m (fun j => f n j) = sumR m (fun j => sumR n (fun i => f i j) + f n j)
    rw [sumR_swap f m n, sumR_add]
theorem sumR_below (c : Nat) : ∀ m, sumR m (fun j => if j < c then 1 else 0) = min c m
  | 0 => by show 0 = min c 0; omega
  | m + 1 => by
    show sumR m (fun j => if j < c then 1 else 0) + (if m < c then 1 else 0) = min c (m + 1)
    rw [sumR_below c m]
    split <;> omega
/-- the sum of quotients -/
def fs (n a b d : Nat) : Nat := sumR n (fun i => (a + i * b) / d)
def tri (n : Nat) : Nat := n * (n - 1) / 2
theorem tri_step (n : Nat) : tri (n + 1) = tri n + n := by
  unfold tri
  rw [Nat.add_sub_cancel]
  cases n with
  | zero => rfl
  | succ k =>
    rw [Nat.add_sub_cancel]
    have e : (k + 1 + 1) * (k + 1) = (k + 1) * k + 2 * (k + 1) := by
      rw [Nat.mul_comm (k + 1) k, ← Nat.add_mul]
    rw [e, Nat.add_mul_div_left _ _ (by decide)]
theorem sumR_lin (a b : Nat) : ∀ n, sumR n (fun i => a + i * b) = n * a + tri n * b
  | 0 => by show 0 = 0 * a + 0 * b; omega
  | n + 1 => by
    show sumR n (fun i => a + i * b) + (a + n * b) = (n + 1) * a + tri (n + 1) * b
    rw [sumR_lin a b n, tri_step, Nat.add_mul, Nat.add_mul, Nat.one_mul]
    omega
/-- whole parts taken off -/
theorem fs_off {n a b d : Nat} (hd : 0 < d) : fs n a b d = tri n * (b / d) + n * (a / d) + fs n (a % d) (b % d) d := by
  have e : fs n a b d = sumR n (fun i => (a / d + i * (b / d)) + (a % d + i * (b % d)) / d) := sumR_congr fun i _ => by
    have h : a + i * b = d * (a / d + i * (b / d)) + (a % d + i * (b % d)) := by
      have h1 := Nat.div_add_mod a d
      have h2 := Nat.div_add_mod b d
      have h3 : i * b = i * (d * (b / d)) + i * (b % d) := by rw [← Nat.mul_add, h2]
      have h4 : d * (a / d + i * (b / d)) = d * (a / d) + i * (d * (b / d)) := by rw [Nat.mul_add, Nat.mul_left_comm]
      omega
    rw [h, Nat.mul_add_div hd]
  rw [e, sumR_add, sumR_lin]
  unfold fs
  omega
/-- counted along the other axis -/
theorem fs_turn {n a b d : Nat} (ha : a < d) (hb : b < d) : fs n a b d = fs ((b * n + a) / d) ((b * n + a) % d) d b := by
  have hd : 0 < d := by omega
  have hN := Nat.div_add_mod (b * n + a) d
  have hr := Nat.mod_lt (b * n + a) hd
  generalize (b * n + a) / d = n' at *
  generalize (b * n + a) % d = a' at *
  have c0 : d * n' = n' * d := Nat.mul_comm _ _
  have cb : b * n = n * b := Nat.mul_comm _ _
  have fle : ∀ i, i < n → (a + i * b) / d ≤ n' := fun i hi => by
    have h1 := Nat.mul_le_mul_right b (show i + 1 ≤ n from hi)
    rw [Nat.succ_mul] at h1
    rw [← Nat.lt_succ_iff, Nat.div_lt_iff_lt_mul hd, Nat.succ_mul]
    omega
  by_cases hn : n' = 0
  · subst hn
    show sumR n _ = sumR 0 _
    exact sumR_zero fun i hi => Nat.le_zero.mp (fle i hi)
  have b0 : 0 < b := by
    rcases Nat.eq_zero_or_pos b with z | z
    · subst z
      have := Nat.le_mul_of_pos_right d (Nat.pos_of_ne_zero hn)
      omega
    · exact z
  have gle : ∀ j, j < n' → (a' + j * d) / b ≤ n := fun j hj => by
    have h1 := Nat.mul_le_mul_right d (show j + 1 ≤ n' from hj)
    rw [Nat.succ_mul] at h1
    rw [← Nat.lt_succ_iff, Nat.div_lt_iff_lt_mul b0, Nat.succ_mul]
    omega
  have e1 : fs n a b d = sumR n (fun i => sumR n' (fun j => if j < (a + i * b) / d then 1 else 0)) := sumR_congr fun i hi => by
    rw [sumR_below, Nat.min_eq_left (fle i hi)]
  have e2 : fs n' a' d b = sumR n' (fun j => sumR n (fun i => if i < (a' + j * d) / b then 1 else 0)) := sumR_congr fun j hj => by
    rw [sumR_below, Nat.min_eq_left (gle j hj)]
  rw [e1, e2, sumR_rev, sumR_swap, sumR_rev]
  refine sumR_congr fun j hj => sumR_congr fun i hi => ?_
  have key : (n' - 1 - j < (a + (n - 1 - i) * b) / d) ↔ (i < (a' + j * d) / b) := by
    show (n' - 1 - j + 1 ≤ _) ↔ (i + 1 ≤ _)
    rw [Nat.le_div_iff_mul_le hd, Nat.le_div_iff_mul_le b0]
    have h1 : (n' - 1 - j + 1) * d + j * d = n' * d := by rw [← Nat.add_mul]; congr 1; omega
    have h2 : (n - 1 - i) * b + (i + 1) * b = n * b := by rw [← Nat.add_mul]; congr 1; omega
    omega
  by_cases k : i < (a' + j * d) / b
  · rw [if_pos k, if_pos (key.mpr k)]
  · rw [if_neg k, if_neg (fun z => k (key.mp z))]
/-- a number by its digits 1 and its quotients -/
theorem legendre : ∀ (j x : Nat), x < 2 ^ (j + 1) → x = ones x + sumR j (fun k => x / 2 ^ (k + 1))
  | 0, x, h => by
    have : x = 0 ∨ x = 1 := by simp at h; omega
    rcases this with rfl | rfl
    · rw [ones_zero]; rfl
    · rw [ones_one]; rfl
  | j + 1, x, h => by
    have ih := legendre j (x / 2) (by rw [Nat.pow_succ] at h; omega)
    have s := ones_step x
    have e : sumR (j + 1) (fun k => x / 2 ^ (k + 1)) = x / 2 + sumR j (fun k => x / 2 / 2 ^ (k + 1)) := by
      rw [sumR_head]
      congr 1
      exact sumR_congr fun k _ => by rw [Nat.div_div_eq_div_mul, Nat.pow_succ 2 (k + 1), Nat.mul_comm]
    rw [e]
    omega
theorem quots {n a b j : Nat} (h : ∀ i, i < n → a + i * b < 2 ^ (j + 1)) : n * a + tri n * b = sumR n (fun i => ones (a + i * b)) + sumR j (fun k => fs n a b (2 ^ (k + 1))) := by
  rw [← sumR_lin]
  have e : sumR n (fun i => a + i * b) = sumR n (fun i => ones (a + i * b) + sumR j (fun k => (a + i * b) / 2 ^ (k + 1))) := sumR_congr fun i hi => legendre j _ (h i hi)
  rw [e, sumR_add, sumR_swap]
  rfl
theorem less_one {n : Nat} {f : Nat → Nat} (h : ∀ i, i < n → 1 ≤ f i) : sumR n f = sumR n (fun i => f i - 1) + n := by
  have e : sumR n f = sumR n (fun i => (f i - 1) + 1) := sumR_congr fun i hi => by have := h i hi; omega
  rw [e, sumR_add, sumR_const, Nat.mul_one]
end LT

namespace LT
open PySem PySem.Spec PyProof.Rows L2
theorem npk_ones {n : Nat} (h : n ≤ 10 ^ 30) : (pk 101 n 0).length = ones n := by rw [pk_ones, Nat.mod_eq_of_lt (Nat.lt_of_le_of_lt h (by decide))]
section
variable {P : Program} {w : World} {K : PySem.W.Frag} {mg : Str → Option Value} {base : Heap}
def spRootSums : Sp := fun vs H Q _ => ∃ (n : Nat), vs = [.int n] ∧ 1 ≤ n ∧ n ≤ 10 ^ 30 ∧ ∀ (H' : Hp), Same H H' → Q (.int ((ones n - 1 : Nat) : Int)) H'
theorem ok_root_sums {f g1 : Addr} {fd d1 : FuncData} (F : Fun K "root_sums" "root_sums" sRootSums f fd) (GEdges : FnOk P w K mg base CX0 5 g1 d1 ["size"] spEdges) (AEdges : At K mg "edges" g1 d1 ["size"]) (z_len : mg "len" = none) : FnOk P w K mg base CX0 6 f fd ["size"] spRootSums := by
  refine F.ok scRootSums (fun vs H Q E h => ?_) (fun cdv A outer s H vs Q E hr h => ?_)
  · obtain ⟨_, rfl, _⟩ := h
    rfl
  obtain ⟨n, rfl, h1, h30, q⟩ := h
  refine ⟨_, (pss_one (ps_ret (pe_callB call_len_seq (by rfl) z_len PySem.boot_len (pa_cons (pe_call GEdges (hr.mono (by decide)) rfl AEdges.m AEdges.kp AEdges.b .nil pass0 (pa_cons (pv 0) pa_nil)) pa_nil)))), ?_⟩
  refine ⟨_, rfl, n, rfl, h1, h30, fun H1 p xs sm np hp hx => ⟨p, xs, rfl, .inl (SqL.of hp), ?_⟩⟩
  dsimp only
  rw [hx.len, List.length_map, List.length_dropLast, List.length_map, npk_ones h30]
  exact q H1 sm
end
end LT

namespace LT
open PySem PySem.Spec PyProof.Rows L2
section
variable {P : Program} {w : World} {K : PySem.W.Frag} {mg : Str → Option Value} {base : Heap}
def spStretch : Sp := fun vs H Q _ => ∃ (l h : Nat), vs = [.int l, .int h] ∧ 1 ≤ l ∧ l ≤ h ∧ h ≤ 10 ^ 30 ∧ Q .non H
theorem ok_check_stretch {f g1 : Addr} {fd d1 : FuncData} (F : Fun K "_check_stretch" "_check_stretch" sCheckStretch f fd) (GCheckSize : FnOk P w K mg base CX0 3 g1 d1 ["size"] spCheckSize) (ACheckSize : At K mg "check_size" g1 d1 ["size"]) : FnOk P w K mg base CX0 4 f fd ["low", "high"] spStretch := by
  refine F.ok scCheckStretch (fun vs H Q E h => ?_) (fun cdv A outer s H vs Q E hr h => ?_)
  · obtain ⟨_, _, rfl, _⟩ := h
    rfl
  obtain ⟨l, h, rfl, l1, lh, h30, q⟩ := h
  refine ⟨_, (pss_cons (ps_expr (pe_call GCheckSize (hr.mono (by decide)) rfl ACheckSize.m ACheckSize.kp ACheckSize.b .nil pass0 (pa_cons (pv 0) pa_nil)))
    (pss_cons (ps_expr (pe_call GCheckSize (hr.mono (by decide)) rfl ACheckSize.m ACheckSize.kp ACheckSize.b .nil pass0 (pa_cons (pv 1) pa_nil)))
    (pss_one (ps_if (pt_cmpR op_gt (pv 0) (pv 1) (nomark _))
    (pss_one ps_never)
    pss_nil)))), ?_⟩
  refine ⟨_, rfl, _, rfl, by omega, by omega, _, rfl, _, rfl, by omega, by omega, _, rfl, _, rfl, _, _, rfl, rfl, false, congrArg V.bl (decide_eq_false (by show ¬ (l : Int) > (h : Int); omega)), ?_⟩
  exact q
end
end LT

namespace LT
open PySem PySem.Spec PyProof.Rows L2
theorem ediv_cast (a b : Nat) : (a : Int) / (b : Int) = ((a / b : Nat) : Int) := (Int.natCast_ediv a b).symm
theorem fmod_cast (a b : Nat) : Int.fmod (a : Int) (b : Int) = ((a % b : Nat) : Int) := by
  rw [Int.fmod_eq_emod_of_nonneg _ (Int.natCast_nonneg _)]
  exact (Int.natCast_emod a b).symm
theorem mulW {a b : Nat} {k l : Nat} (h1 : a < 2 ^ k) (h2 : b < 2 ^ l) (k0 : 0 < k) (l0 : 0 < l) (h : k + l ≤ 1000000) : CMulW (a : Int) (b : Int) := wide_mul (by show a < 2 ^ k; exact h1) (by show b < 2 ^ l; exact h2) k0 l0 h
theorem divW {a b : Nat} {l : Nat} (h0 : 0 < b) (h2 : b < 2 ^ l) (l0 : 0 < l) (h : l ≤ 9000) : CDivW (a : Int) (b : Int) := wide_div (by omega) (by show b < 2 ^ l; exact h2) l0 h
theorem mul_lt {a b k l : Nat} (h1 : a < 2 ^ k) (h2 : b < 2 ^ l) : a * b < 2 ^ (k + l) := by
  rw [Nat.pow_add]
  exact Nat.mul_lt_mul'' h1 h2
theorem pred_mul (n : Nat) : (n : Int) * ((n : Int) - 1) = ((n * (n - 1) : Nat) : Int) := by
  cases n with
  | zero => rfl
  | succ k =>
    rw [Nat.add_sub_cancel, show ((k + 1 : Nat) : Int) - 1 = (k : Int) by omega]
    exact (Int.natCast_mul _ _).symm
section
variable {P : Program} {w : World} {K : PySem.W.Frag} {mg : Str → Option Value} {base : Heap}
def spQuot : Sp := fun vs H Q _ => ∃ (a b n d : Nat), vs = [.int a, .int b, .int n, .int d] ∧ a < 2 ^ 200 ∧ b < 2 ^ 200 ∧ n < 2 ^ 200 ∧ d < 2 ^ 200 ∧ 1 ≤ d ∧ Q (.int ((fs n a b d : Nat) : Int)) H
theorem ok_quotients_sum {f : Addr} {fd : FuncData} (F : Fun K "_quotients_sum" "_quotients_sum" sQuotientsSum f fd) : FnOk P w K mg base CX0 1 f fd ["first", "step", "number", "divisor"] spQuot := by
  refine F.ok scQuotientsSum (fun vs H Q E h => ?_) (fun cdv A outer s H vs Q E hr h => ?_)
  · obtain ⟨_, _, _, _, rfl, _⟩ := h
    rfl
  obtain ⟨a0, b0, n0, d0, rfl, ha, hb, hn, hd, d1, q⟩ := h
  refine ⟨_, (pss_cons (ps_set (i := 4) scQuotientsSum.nd rfl (Or.inl rfl) pe_int)
    (pss_cons (ps_while PassesOwn.never (pt_cmpR op_gt (pv 2) pe_int (nomark _))
    (pss_cons (ps_aug (i := 4) scQuotientsSum.nd rfl (Or.inl rfl) (pe_op op_add (pe_op op_mulW (pe_op op_fdivW (pe_op op_mulW (pv 2) (pe_op op_sub (pv 2) pe_int)) pe_int) (pe_op op_fdivW (pv 1) (pv 3))) (pe_op op_mulW (pv 2) (pe_op op_fdivW (pv 0) (pv 3)))) ip_add)
    (pss_cons (ps_par (i := 1) (j := 0) (by rfl) scQuotientsSum.nd rfl rfl (by decide) rfl rfl (pa_cons (pe_op op_modN (pv 1) (pv 3)) (pa_cons (pe_op op_modN (pv 0) (pv 3)) pa_nil)) (by rfl))
    (pss_cons (ps_par (i := 2) (j := 0) (by rfl) scQuotientsSum.nd rfl rfl (by decide) rfl rfl (pa_cons (pe_op op_fdivW (pe_op op_add (pe_op op_mulW (pv 1) (pv 2)) (pv 0)) (pv 3)) (pa_cons (pe_op op_modN (pe_op op_add (pe_op op_mulW (pv 1) (pv 2)) (pv 0)) (pv 3)) pa_nil)) (by rfl))
    (pss_one (ps_par (i := 1) (j := 3) (by rfl) scQuotientsSum.nd rfl rfl (by decide) rfl rfl (pa_cons (pv 3) (pa_cons (pv 1) pa_nil)) (by rfl)))))))
    (pss_one (ps_ret (pv 4))))), ?_⟩
  refine ⟨fun mu σ H' => ∃ (a b n d t : Nat), σ = [some (.int (a : Int)), some (.int (b : Int)), some (.int (n : Int)), some (.int (d : Int)), some (.int (t : Int))] ∧ H' = H ∧ a < 2 ^ 200 ∧ b < 2 ^ 200 ∧ n < 2 ^ 200 ∧ d < 2 ^ 200 ∧ (1 ≤ n → 1 ≤ d) ∧ t + fs n a b d = fs n0 a0 b0 d0 ∧ mu = d + 0,
    ⟨d0, a0, b0, n0, d0, 0, rfl, rfl, ha, hb, hn, hd, fun _ => d1, Nat.zero_add _, rfl⟩, ?_⟩
  rintro mu σ H1 ⟨a, b, n, d, t, rfl, rfl, ha, hb, hn, hd, d1, hf, hmu⟩
  refine ⟨_, rfl, _, _, rfl, rfl, _, rfl, ite2 (fun c1 => ?_) (fun c1 => ?_)⟩
  · have c2 : (n : Int) > 0 := of_decide_eq_true c1
    have dp : 1 ≤ d := d1 (by omega)
    have bd : b % d < d := Nat.mod_lt _ dp
    have ad : a % d < d := Nat.mod_lt _ dp
    have tn : n * (n - 1) < 2 ^ 400 := mul_lt (k := 200) (l := 200) hn (by omega)
    have trin : tri n < 2 ^ 400 := Nat.lt_of_le_of_lt (Nat.div_le_self _ _) tn
    have bq : b / d < 2 ^ 200 := Nat.lt_of_le_of_lt (Nat.div_le_self _ _) hb
    have aq : a / d < 2 ^ 200 := Nat.lt_of_le_of_lt (Nat.div_le_self _ _) ha
    have nn : b % d * n + a % d < d * (n + 1) := by
      have h1 := Nat.mul_le_mul_right n (show b % d + 1 ≤ d from bd)
      rw [Nat.succ_mul] at h1
      rw [Nat.mul_succ]
      omega
    have nle : (b % d * n + a % d) / d ≤ n := by
      rw [← Nat.lt_succ_iff, Nat.div_lt_iff_lt_mul dp, Nat.mul_comm n.succ d]
      exact nn
    have al : (b % d * n + a % d) % d < d := Nat.mod_lt _ dp
    have off := fs_off (n := n) (a := a) (b := b) dp
    have turn := fs_turn (n := n) ad bd
    have hn1 : (n : Int) - 1 = ((n - 1 : Nat) : Int) := by omega
    refine ⟨_, fun σ' H' h => h, _, rfl, _, rfl, _, rfl, _, _, rfl, rfl, _, _, rfl, rfl, ?_, _, _, rfl, rfl, wide_div (b := 2) (by decide) (by decide) (by decide) (by decide), _, rfl, _, rfl, _, _, rfl, rfl, divW (l := 200) dp hd (by decide) (by decide), _, _, rfl, rfl, ?_, _, rfl, _, rfl, _, rfl, _, _, rfl, rfl, divW (l := 200) dp hd (by decide) (by decide), _, _, rfl, rfl, ?_, _, _, rfl, rfl, _, _, rfl, rfl, ?_⟩
    · rw [hn1]
      exact mulW (k := 200) (l := 200) hn (by omega) (by decide) (by decide) (by decide)
    · show CMulW ((n : Int) * ((n : Int) - 1) / 2) ((b : Int) / (d : Int))
      rw [pred_mul, show ((n * (n - 1) : Nat) : Int) / 2 = ((tri n : Nat) : Int) from ediv_cast _ 2, ediv_cast]
      exact mulW trin bq (by decide) (by decide) (by decide)
    · show CMulW (n : Int) ((a : Int) / (d : Int))
      rw [ediv_cast]
      exact mulW hn aq (by decide) (by decide) (by decide)
    dsimp only
    have dne : (d : Int) ≠ 0 := by omega
    refine ⟨_, rfl, _, rfl, _, _, rfl, rfl, dne, _, rfl, _, rfl, _, _, rfl, rfl, dne, _, _, rfl, ?_⟩
    dsimp only
    rw [fmod_cast, fmod_cast]
    have e1 : ((b % d : Nat) : Int) * (n : Int) + ((a % d : Nat) : Int) = ((b % d * n + a % d : Nat) : Int) := by
      rw [show ((b % d : Nat) : Int) * (n : Int) = ((b % d * n : Nat) : Int) from (Int.natCast_mul _ _).symm]
      rfl
    have bm : b % d < 2 ^ 200 := by omega
    refine ⟨_, rfl, _, rfl, _, _, rfl, rfl, mulW bm hn (by decide) (by decide) (by decide), _, rfl, _, _, rfl, rfl, _, rfl, _, _, rfl, rfl, divW (l := 200) dp hd (by decide) (by decide), _, rfl, _, rfl, _, _, rfl, rfl, mulW bm hn (by decide) (by decide) (by decide), _, rfl, _, _, rfl, rfl, _, rfl, _, _, rfl, rfl, dne, _, _, rfl, ?_⟩
    dsimp only
    rw [e1, ediv_cast, fmod_cast]
    refine ⟨_, rfl, _, rfl, _, _, rfl, ?_⟩
    have e2 : (t : Int) + ((n : Int) * ((n : Int) - 1) / 2 * ((b : Int) / (d : Int)) + (n : Int) * ((a : Int) / (d : Int))) = ((t + (tri n * (b / d) + n * (a / d)) : Nat) : Int) := by
      rw [pred_mul, show ((n * (n - 1) : Nat) : Int) / 2 = ((tri n : Nat) : Int) from ediv_cast _ 2, ediv_cast, ediv_cast]
      rw [show ((tri n : Nat) : Int) * ((b / d : Nat) : Int) = ((tri n * (b / d) : Nat) : Int) from (Int.natCast_mul _ _).symm, show (n : Int) * ((a / d : Nat) : Int) = ((n * (a / d) : Nat) : Int) from (Int.natCast_mul _ _).symm]
      rfl
    refine ⟨b % d, by omega, (b % d * n + a % d) % d, d, (b % d * n + a % d) / d, b % d, t + (tri n * (b / d) + n * (a / d)), ?_, rfl, by omega, hd, by omega, by omega, fun z => ?_, by omega, rfl⟩
    · rw [← e2]
      rfl
    · by_cases c : b % d = 0
      · rw [c, Nat.zero_mul, Nat.zero_add, Nat.div_eq_of_lt ad] at z
        omega
      · omega
  · have c2 : ¬ (n : Int) > 0 := of_decide_eq_false (Bool.eq_false_iff.mpr c1)
    have n0' : n = 0 := by omega
    subst n0'
    have z : fs 0 a b d = 0 := rfl
    rw [z, Nat.add_zero] at hf
    subst hf
    exact ⟨_, rfl, q⟩
def spAlong : Sp := fun vs H Q _ => ∃ (a b n : Nat), vs = [.int a, .int b, .int n] ∧ 1 ≤ a ∧ a < 2 ^ 102 ∧ b < 2 ^ 102 ∧ n < 2 ^ 102 ∧ (∀ i, i < n → a + i * b < 2 ^ 102) ∧ Q (.int ((sumR n (fun i => ones (a + i * b) - 1) : Nat) : Int)) H
theorem ok_roots_along {f g1 : Addr} {fd d1 : FuncData} (F : Fun K "_roots_along" "_roots_along" sRootsAlong f fd) (GQuotientsSum : FnOk P w K mg base CX0 1 g1 d1 ["first", "step", "number", "divisor"] spQuot) (AQuotientsSum : At K mg "_quotients_sum" g1 d1 ["first", "step", "number", "divisor"]) : FnOk P w K mg base CX0 2 f fd ["first", "step", "number"] spAlong := by
  refine F.ok scRootsAlong (fun vs H Q E h => ?_) (fun cdv A outer s H vs Q E hr h => ?_)
  · obtain ⟨_, _, _, rfl, _⟩ := h
    rfl
  obtain ⟨a, b, n, rfl, a1, ha, hb, hn, hx, q⟩ := h
  refine ⟨_, (pss_cons (ps_set (i := 3) scRootsAlong.nd rfl (Or.inl rfl) (pe_op op_sub (pe_op op_add (pe_op op_mulW (pv 2) (pv 0)) (pe_op op_mulW (pe_op op_fdivW (pe_op op_mulW (pv 2) (pe_op op_sub (pv 2) pe_int)) pe_int) (pv 1))) (pv 2)))
    (pss_cons (ps_set (i := 4) scRootsAlong.nd rfl (Or.inl rfl) pe_int)
    (pss_cons (ps_while PassesOwn.never (pt_cmpR op_le (pv 4) (pe_op op_add (pv 0) (pe_op op_mulW (pv 1) (pe_op op_sub (pv 2) pe_int))) (nomark _))
    (pss_cons (ps_aug (i := 3) scRootsAlong.nd rfl (Or.inl rfl) (pe_call GQuotientsSum (hr.mono (by decide)) rfl AQuotientsSum.m AQuotientsSum.kp AQuotientsSum.b .nil pass0 (pa_cons (pv 0) (pa_cons (pv 1) (pa_cons (pv 2) (pa_cons (pv 4) pa_nil))))) ip_sub)
    (pss_one (ps_set (i := 4) scRootsAlong.nd rfl (Or.inl rfl) (pe_op op_mulW (pv 4) pe_int)))))
    (pss_one (ps_ret (pv 3)))))), ?_⟩
  have up : ∀ {x : Nat}, x < 2 ^ 102 → x < 2 ^ 200 := fun h => Nat.lt_trans h (by decide)
  have tn : n * (n - 1) < 2 ^ 400 := mul_lt (k := 200) (l := 200) (up hn) (by have := up hn; omega)
  have trin : tri n < 2 ^ 400 := Nat.lt_of_le_of_lt (Nat.div_le_self _ _) tn
  have c1 : CMulW (n : Int) ((n : Int) - 1) := by
    refine wide_mul (a := 200) (b := 200) (by show n < 2 ^ 200; exact up hn) ?_ (by decide) (by decide) (by decide)
    have := up hn
    omega
  have c2 : CMulW ((n : Int) * ((n : Int) - 1) / 2) (b : Int) := by
    rw [pred_mul, show ((n * (n - 1) : Nat) : Int) / 2 = ((tri n : Nat) : Int) from ediv_cast _ 2]
    exact mulW trin (up hb) (by decide) (by decide) (by decide)
  refine ⟨_, rfl, _, rfl, _, _, rfl, rfl, mulW (up hn) (up ha) (by decide) (by decide) (by decide), _, rfl, _, rfl, _, _, rfl, rfl, _, _, rfl, rfl, c1, _, _, rfl, rfl, wide_div (b := 2) (by decide) (by decide) (by decide) (by decide), _, rfl, _, _, rfl, rfl, c2, _, _, rfl, rfl, _, rfl, _, _, rfl, rfl, ?_⟩
  have e0 : (n : Int) * (a : Int) + (n : Int) * ((n : Int) - 1) / 2 * (b : Int) - (n : Int) = ((n * a + tri n * b : Nat) : Int) - (n : Int) := by
    rw [pred_mul, show ((n * (n - 1) : Nat) : Int) / 2 = ((tri n : Nat) : Int) from ediv_cast _ 2, show (n : Int) * (a : Int) = ((n * a : Nat) : Int) from (Int.natCast_mul _ _).symm, show ((tri n : Nat) : Int) * (b : Int) = ((tri n * b : Nat) : Int) from (Int.natCast_mul _ _).symm]
    rfl
  dsimp only
  rw [e0]
  refine ⟨fun mu σ H' => ∃ (j : Nat) (t : Int), σ = [some (.int (a : Int)), some (.int (b : Int)), some (.int (n : Int)), some (.int t), some (.int ((2 ^ (j + 1) : Nat) : Int))] ∧ H' = H ∧ t + ((sumR j (fun k => fs n a b (2 ^ (k + 1))) : Nat) : Int) = ((n * a + tri n * b : Nat) : Int) - (n : Int) ∧ j ≤ 102 ∧ mu = 102 - j,
    ⟨102, 0, _, rfl, rfl, by show _ + ((0 : Nat) : Int) = _; omega, by decide, rfl⟩, ?_⟩
  rintro mu σ H1 ⟨j, t, rfl, rfl, ht, j102, hmu⟩
  have pj := Nat.pow_pos (a := 2) (n := j + 1) (by decide)
  have c3 : CMulW (b : Int) ((n : Int) - 1) := by
    refine wide_mul (a := 200) (b := 200) (by show b < 2 ^ 200; exact up hb) ?_ (by decide) (by decide) (by decide)
    have := up hn
    omega
  have last : (a : Int) + (b : Int) * ((n : Int) - 1) < 2 ^ 102 := by
    cases n with
    | zero =>
      rw [show ((0 : Nat) : Int) - 1 = -1 by omega, Int.mul_neg, Int.mul_one]
      omega
    | succ k =>
      have := hx k (by omega)
      rw [show ((k + 1 : Nat) : Int) - 1 = (k : Int) by omega, show (b : Int) * (k : Int) = ((k * b : Nat) : Int) by rw [Nat.mul_comm]; exact (Int.natCast_mul _ _).symm]
      omega
  have lastx : (a : Int) + (b : Int) * ((n : Int) - 1) < ((2 ^ (j + 1) : Nat) : Int) → ∀ i, i < n → a + i * b < 2 ^ (j + 1) := fun h i hi => by
    cases n with
    | zero => omega
    | succ k =>
      rw [show ((k + 1 : Nat) : Int) - 1 = (k : Int) by omega, show (b : Int) * (k : Int) = ((k * b : Nat) : Int) by rw [Nat.mul_comm]; exact (Int.natCast_mul _ _).symm] at h
      have := Nat.mul_le_mul_right b (show i ≤ k by omega)
      omega
  refine ⟨_, rfl, _, rfl, _, rfl, _, rfl, _, _, rfl, rfl, _, _, rfl, rfl, c3, _, _, rfl, rfl, _, _, rfl, rfl, _, rfl, ite2 (fun c4 => ?_) (fun c4 => ?_)⟩
  · have c5 : ((2 ^ (j + 1) : Nat) : Int) ≤ (a : Int) + (b : Int) * ((n : Int) - 1) := of_decide_eq_true c4
    have jl : j + 1 < 102 := by
      have h1 : ((2 ^ (j + 1) : Nat) : Int) < 2 ^ 102 := Int.lt_of_le_of_lt c5 last
      have h2 : (2 ^ (j + 1) : Nat) < 2 ^ 102 := by omega
      exact (Nat.pow_lt_pow_iff_right (by decide : 1 < 2)).mp h2
    have pjb : 2 ^ (j + 1) < 2 ^ 200 := Nat.lt_of_le_of_lt (Nat.pow_le_pow_right (n := 2) (by decide) (show j + 1 ≤ 102 by omega)) (by decide)
    have er : ((2 ^ (j + 1) : Nat) : Int) * 2 = ((2 ^ (j + 1 + 1) : Nat) : Int) := by rw [Nat.pow_succ 2 (j + 1)]; omega
    refine ⟨_, fun σ' H' h => h, _, rfl, _, rfl, _, rfl, _, rfl, _, rfl, a, b, n, 2 ^ (j + 1), rfl, up ha, up hb, up hn, pjb, pj, _, _, rfl, rfl, _, rfl, _, _, rfl, rfl, mulW (k := 200) (l := 2) pjb (by decide) (by decide) (by decide) (by decide), ?_⟩
    dsimp only
    refine ⟨102 - (j + 1), by omega, j + 1, t - ((fs n a b (2 ^ (j + 1)) : Nat) : Int), ?_, rfl, ?_, by omega, rfl⟩
    · rw [← er]
      rfl
    · show _ + ((sumR j (fun k => fs n a b (2 ^ (k + 1))) + fs n a b (2 ^ (j + 1)) : Nat) : Int) = _
      omega
  · have c5 : ¬ ((2 ^ (j + 1) : Nat) : Int) ≤ (a : Int) + (b : Int) * ((n : Int) - 1) := of_decide_eq_false (Bool.eq_false_iff.mpr c4)
    have hq := quots (j := j) (lastx (by omega))
    have h1 := less_one (n := n) (f := fun i => ones (a + i * b)) (fun i hi => ones_pos (by omega))
    have et : t = ((sumR n (fun i => ones (a + i * b) - 1) : Nat) : Int) := by
      have h2 : sumR n (fun i => ones (a + i * b)) = sumR n (fun i => ones (a + i * b) - 1) + n := h1
      omega
    subst et
    exact ⟨_, rfl, q⟩
end
end LT

namespace LT
open PySem PySem.Spec PyProof.Rows L2
section
variable {P : Program} {w : World} {K : PySem.W.Frag} {mg : Str → Option Value} {base : Heap}
/-- the sum of root_sums of l, l + 1, .., so many -/
def rt (l m : Nat) : Nat := sumR m (fun i => ones (l + i) - 1)
def spTotal : Sp := fun vs H Q _ => ∃ (l h : Nat), vs = [.int l, .int h] ∧ 1 ≤ l ∧ l ≤ h ∧ h ≤ 10 ^ 30 ∧ Q (.int ((rt l (h + 1 - l) : Nat) : Int)) H
theorem ok_roots_total {f g1 g2 : Addr} {fd d1 d2 : FuncData} (F : Fun K "roots_total" "roots_total" sRootsTotal f fd) (GCheckStretch : FnOk P w K mg base CX0 4 g1 d1 ["low", "high"] spStretch) (ACheckStretch : At K mg "_check_stretch" g1 d1 ["low", "high"])
    (GRootsAlong : FnOk P w K mg base CX0 2 g2 d2 ["first", "step", "number"] spAlong) (ARootsAlong : At K mg "_roots_along" g2 d2 ["first", "step", "number"]) : FnOk P w K mg base CX0 5 f fd ["low", "high"] spTotal := by
  refine F.ok scRootsTotal (fun vs H Q E h => ?_) (fun cdv A outer s H vs Q E hr h => ?_)
  · obtain ⟨_, _, rfl, _⟩ := h
    rfl
  obtain ⟨l, h, rfl, l1, lh, h30, q⟩ := h
  refine ⟨_, (pss_cons (ps_expr (pe_call GCheckStretch (hr.mono (by decide)) rfl ACheckStretch.m ACheckStretch.kp ACheckStretch.b .nil pass0 (pa_cons (pv 0) (pa_cons (pv 1) pa_nil))))
    (pss_one (ps_ret (pe_call GRootsAlong (hr.mono (by decide)) rfl ARootsAlong.m ARootsAlong.kp ARootsAlong.b .nil pass0 (pa_cons (pv 0) (pa_cons pe_int (pa_cons (pe_op op_add (pe_op op_sub (pv 1) (pv 0)) pe_int) pa_nil))))))), ?_⟩
  have b30 : (10 : Nat) ^ 30 + 2 < 2 ^ 102 := by decide
  refine ⟨_, rfl, _, rfl, l, h, rfl, l1, lh, h30, ?_⟩
  refine ⟨_, rfl, _, rfl, _, rfl, _, _, rfl, rfl, _, _, rfl, rfl, l, 1, h + 1 - l, congrArg (fun z => [V.int (l : Int), V.int 1, V.int z]) (by omega), l1, by omega, by decide, by omega, fun i hi => by omega, ?_⟩
  have e : sumR (h + 1 - l) (fun i => ones (l + i * 1) - 1) = rt l (h + 1 - l) := sumR_congr fun i _ => by rw [Nat.mul_one]
  rw [e]
  exact q
end
end LT

namespace LT
open PySem PySem.Spec PyProof.Rows L2
section
variable {P : Program} {w : World} {K : PySem.W.Frag} {mg : Str → Option Value} {base : Heap}
def spNumberFrom : Sp := fun vs H Q _ => ∃ n l : Int, vs = [.int n, .int l] ∧ l ≤ n ∧ Q .non H
theorem ok_check_number_from {f g : Addr} {fd gd : FuncData} (F : Fun K "check_number_from" "check_number_from" sCheckNumberFrom f fd) (GIsWhole : FnOk P w K mg base CX0 1 g gd ["value"] spWhole) (AIsWhole : At K mg "is_whole" g gd ["value"]) : FnOk P w K mg base CX0 2 f fd ["number", "least"] spNumberFrom := by
  refine F.ok scCheckNumberFrom (fun vs H Q E h => ?_) (fun cdv A outer s H vs Q E hr h => ?_)
  · obtain ⟨_, _, rfl, _⟩ := h
    rfl
  obtain ⟨n, l, rfl, h1, q⟩ := h
  refine ⟨_, (pss_one (ps_if (PW.pt (pw_or (pt_not (pt_val (pe_call GIsWhole (hr.mono (by decide)) rfl AIsWhole.m AIsWhole.kp AIsWhole.b .nil pass0 (pa_cons (pv 0) pa_nil)))) (pw_or1 (pt_cmpR op_lt (pv 0) (pv 1) (nomark _)))))
    (pss_one ps_never)
    pss_nil)), ?_⟩
  refine ⟨_, rfl, n, rfl, true, rfl, _, rfl, _, rfl, _, _, rfl, rfl, false, congrArg V.bl (decide_eq_false (by omega)), ?_⟩
  exact q
end
end LT

namespace LT
open PySem PySem.Spec PyProof.Rows L2
section
variable {P : Program} {w : World} {K : PySem.W.Frag} {mg : Str → Option Value} {base : Heap}
def spNumberBetween : Sp := fun vs H Q _ => ∃ n l h : Int, vs = [.int n, .int l, .int h] ∧ l ≤ n ∧ n ≤ h ∧ Q .non H
theorem ok_check_number_between {f g : Addr} {fd gd : FuncData} (F : Fun K "check_number_between" "check_number_between" sCheckNumberBetween f fd) (GIsBetween : FnOk P w K mg base CX0 2 g gd ["value", "low", "high"] spBetween) (AIsBetween : At K mg "is_between" g gd ["value", "low", "high"]) : FnOk P w K mg base CX0 3 f fd ["number", "least", "most"] spNumberBetween := by
  refine F.ok scCheckNumberBetween (fun vs H Q E h => ?_) (fun cdv A outer s H vs Q E hr h => ?_)
  · obtain ⟨_, _, _, rfl, _⟩ := h
    rfl
  obtain ⟨n, l, h, rfl, h1, h2, q⟩ := h
  refine ⟨_, (pss_one (ps_if (pt_not (pt_val (pe_call GIsBetween (hr.mono (by decide)) rfl AIsBetween.m AIsBetween.kp AIsBetween.b .nil pass0 (pa_cons (pv 0) (pa_cons (pv 1) (pa_cons (pv 2) pa_nil))))))
    (pss_one ps_never)
    pss_nil)), ?_⟩
  refine ⟨_, rfl, _, rfl, _, rfl, n, l, h, rfl, _, rfl, ?_⟩
  rw [decide_eq_true h1, decide_eq_true h2]
  exact q
end
end LT

namespace LT
open PySem PySem.Spec PyProof.Rows L2
/-- the sum of root_sums of n + s, n + 2 s, .., so many -/
def rs (n s m : Nat) : Nat := sumR m (fun i => ones (n + s + i * s) - 1)
section
variable {P : Program} {w : World} {K : PySem.W.Frag} {mg : Str → Option Value} {base : Heap}
def spSteps : Sp := fun vs H Q _ => ∃ (n s m : Nat), vs = [.int n, .int s, .int m] ∧ 1 ≤ n ∧ 1 ≤ s ∧ s < 2 ^ 101 ∧ n + s * m ≤ 10 ^ 30 ∧ Q (.int ((rs n s m : Nat) : Int)) H
theorem ok_roots_by_steps {f g1 g2 g3 g4 : Addr} {fd d1 d2 d3 d4 : FuncData} {t : Tok} (F : Fun K "roots_by_steps" "roots_by_steps" sRootsBySteps f fd) (GCheckSize : FnOk P w K mg base CX0 3 g1 d1 ["size"] spCheckSize) (ACheckSize : At K mg "check_size" g1 d1 ["size"])
    (GCheckNumberFrom : FnOk P w K mg base CX0 2 g2 d2 ["number", "least"] spNumberFrom) (ACheckNumberFrom : At K mg "check_number_from" g2 d2 ["number", "least"])
    (GCheckNumberBetween : FnOk P w K mg base CX0 3 g3 d3 ["number", "least", "most"] spNumberBetween) (ACheckNumberBetween : At K mg "check_number_between" g3 d3 ["number", "least", "most"])
    (GRootsAlong : FnOk P w K mg base CX0 2 g4 d4 ["first", "step", "number"] spAlong) (ARootsAlong : At K mg "_roots_along" g4 d4 ["first", "step", "number"]) (g_MOST_ENTRIES : mg "MOST_ENTRIES" = some (.int 1000000000000000000000000000000 t)) : FnOk P w K mg base CX0 4 f fd ["size", "step", "number"] spSteps := by
  refine F.ok scRootsBySteps (fun vs H Q E h => ?_) (fun cdv A outer s H vs Q E hr h => ?_)
  · obtain ⟨_, _, _, rfl, _⟩ := h
    rfl
  obtain ⟨n, s, m, rfl, n1, s1, s101, h30, q⟩ := h
  refine ⟨_, (pss_cons (ps_expr (pe_call GCheckSize (hr.mono (by decide)) rfl ACheckSize.m ACheckSize.kp ACheckSize.b .nil pass0 (pa_cons (pv 0) pa_nil)))
    (pss_cons (ps_expr (pe_call GCheckNumberFrom (hr.mono (by decide)) rfl ACheckNumberFrom.m ACheckNumberFrom.kp ACheckNumberFrom.b .nil pass0 (pa_cons (pv 1) (pa_cons pe_int pa_nil))))
    (pss_cons (ps_expr (pe_call GCheckNumberBetween (hr.mono (by decide)) rfl ACheckNumberBetween.m ACheckNumberBetween.kp ACheckNumberBetween.b .nil pass0 (pa_cons (pv 2) (pa_cons pe_int (pa_cons (pe_op op_fdivW (pe_op op_sub (pe_glob (v := .int 1000000000000000000000000000000) rfl g_MOST_ENTRIES ⟨_, rfl⟩) (pv 0)) (pv 1)) pa_nil)))))
    (pss_one (ps_ret (pe_call GRootsAlong (hr.mono (by decide)) rfl ARootsAlong.m ARootsAlong.kp ARootsAlong.b .nil pass0 (pa_cons (pe_op op_add (pv 0) (pv 1)) (pa_cons (pv 1) (pa_cons (pv 2) pa_nil))))))))), ?_⟩
  have n30 : n ≤ 10 ^ 30 := by
    have := Nat.zero_le (s * m)
    omega
  have mm : m ≤ s * m := Nat.le_mul_of_pos_left m s1
  have ed : ((1000000000000000000000000000000 : Int) - (n : Int)) / (s : Int) = (((10 ^ 30 - n) / s : Nat) : Int) := by
    rw [show (1000000000000000000000000000000 : Int) - (n : Int) = ((10 ^ 30 - n : Nat) : Int) by omega]
    exact ediv_cast _ _
  have md : m ≤ (10 ^ 30 - n) / s := (Nat.le_div_iff_mul_le s1).mpr (by rw [Nat.mul_comm]; omega)
  refine ⟨_, rfl, _, rfl, by omega, by omega, ?_⟩
  refine ⟨_, rfl, _, _, rfl, by omega, ?_⟩
  refine ⟨_, rfl, _, rfl, _, _, rfl, rfl, _, rfl, _, _, rfl, rfl, wide_div (b := 101) (show (0 : Int) < (s : Int) by omega) (by show s < 2 ^ 101; exact s101) (by decide) (by decide), _, _, _, rfl, by omega, ?_, ?_⟩
  · show (m : Int) ≤ ((1000000000000000000000000000000 : Int) - (n : Int)) / (s : Int)
    rw [ed]
    omega
  have b30 : (10 : Nat) ^ 30 < 2 ^ 101 := by decide
  refine ⟨_, rfl, _, rfl, _, _, rfl, rfl, _, rfl, _, rfl, n + s, s, m, rfl, by omega, by omega, by omega, by omega, fun i hi => ?_, q⟩
  have := Nat.mul_le_mul_right s (show i + 1 ≤ m from hi)
  rw [Nat.succ_mul, Nat.mul_comm m s] at this
  omega
end
end LT

namespace LT
open PySem PySem.Spec PyProof.Rows L2
section
variable {P : Program} {w : World} {K : PySem.W.Frag} {mg : Str → Option Value} {base : Heap}
def spDrawnNumber : Sp := fun vs H Q _ => ∃ (b : Addr) (c n s : Nat), vs = [.ref b, .int n, .int s] ∧ ReelAt H b c ∧ c ≤ 10 ^ 8 ∧ n ≤ 10 ^ 30 ∧ 1 ≤ s ∧ s < 2 ^ 101 ∧
  ∀ (m : Nat) (H' : Hp), n + s * m ≤ 10 ^ 30 → But b H H' → ReelAt H' b (c + 5) → Q (.int m) H'
theorem ok_law_drawn_number {f g1 : Addr} {fd d1 : FuncData} (F : Fun K "_law_drawn_number" "_law_drawn_number" sLawDrawnNumber f fd) (GLawSpin : FnOk P w K mg base CX0 1 g1 d1 ["reel", "many"] spSpin) (ALawSpin : At K mg "_law_spin" g1 d1 ["reel", "many"]) (z_min : mg "min" = none) :
    FnOk P w K mg base CX0 2 f fd ["reel", "size", "step"] spDrawnNumber := by
  refine F.ok scLawDrawnNumber (fun vs H Q E h => ?_) (fun cdv A outer s H vs Q E hr h => ?_)
  · obtain ⟨_, _, _, _, rfl, _⟩ := h
    rfl
  obtain ⟨b, c, n, s, rfl, hb, hc, n30, s1, s101, q⟩ := h
  refine ⟨_, (pss_cons (ps_set (i := 3) scLawDrawnNumber.nd rfl (Or.inl rfl) (pe_op op_fdivW (pe_op op_sub (pe_op op_pow pe_int pe_int) (pv 1)) (pv 2)))
    (pss_one (ps_ret (pe_callB (call_min2 rfl) (by rfl) z_min (by decide +kernel) (pa_cons (pv 3) (pa_cons (pe_ix ix_list (pe_lst (pa_cons (pe_call GLawSpin (hr.mono (by decide)) rfl ALawSpin.m ALawSpin.kp ALawSpin.b .nil pass0 (pa_cons (pv 0) (pa_cons pe_int pa_nil))) (pa_cons (pe_call GLawSpin (hr.mono (by decide)) rfl ALawSpin.m ALawSpin.kp ALawSpin.b .nil pass0 (pa_cons (pv 0) (pa_cons (pe_op op_add (pv 3) pe_int) pa_nil))) (pa_cons (pv 3) pa_nil)))) (pe_call GLawSpin (hr.mono (by decide)) rfl ALawSpin.m ALawSpin.kp ALawSpin.b .nil pass0 (pa_cons (pv 0) (pa_cons pe_int pa_nil))) (fun _ _ => rfl)) pa_nil)))))), ?_⟩
  have three : 3 ≤ sizeLine := by decide
  have e30 : (10 : Int) ^ (30 : Int).toNat - (n : Int) = ((10 ^ 30 - n : Nat) : Int) := by
    rw [show (10 : Int) ^ (30 : Int).toNat = ((10 ^ 30 : Nat) : Int) from rfl]
    omega
  refine ⟨_, _, rfl, rfl, ⟨by decide, by decide, by decide⟩, _, rfl, _, _, rfl, rfl, _, rfl, _, _, rfl, rfl, wide_div (b := 101) (show (0 : Int) < (s : Int) by omega) (by show s < 2 ^ 101; exact s101) (by decide) (by decide), ?_⟩
  dsimp only
  rw [e30, ediv_cast]
  have mx : (10 ^ 30 - n) / s ≤ 10 ^ 30 := Nat.le_trans (Nat.div_le_self _ _) (Nat.sub_le _ _)
  have ok : ∀ m, m ≤ (10 ^ 30 - n) / s → n + s * m ≤ 10 ^ 30 := fun m hm => by
    have := Nat.mul_le_mul_left s hm
    have := Nat.mul_div_le (10 ^ 30 - n) s
    omega
  generalize (10 ^ 30 - n) / s = M at mx ok
  refine ⟨_, rfl, _, rfl, b, 9, _, rfl, by decide, by decide, hb, by omega, fun r1 H1 r11 k1 b1 => ?_⟩
  refine ⟨_, rfl, _, rfl, _, _, rfl, rfl, b, _, _, rfl, by omega, by omega, b1, by omega, fun r2 H2 r21 k2 b2 => ⟨_, rfl, three, fun l nl => ?_⟩⟩
  have B2 : But b H H2 := fun a o n h => by rw [k2 a n, k1 a n]; exact h
  have u3 := same_upd (o := .lst [.int (r1 : Int), .int (r2 : Int), .int (M : Int)]) nl
  have h3 : (upd H2 l (.lst [.int (r1 : Int), .int (r2 : Int), .int (M : Int)])) l = some (.lst ([r1, r2, M].map fun x : Nat => V.int (x : Int))) := upd_same
  have lb_ := b2.ne nl
  have B3 := B2.trans (But.of (b := b) u3)
  have b3 := b2.same u3
  have ln : [r1, r2, M].length = 3 := rfl
  generalize upd H2 l (.lst [.int (r1 : Int), .int (r2 : Int), .int (M : Int)]) = H3 at h3 B3 b3
  generalize [r1, r2, M] = L at h3 ln
  refine ⟨_, rfl, b, 3, _, rfl, by decide, by decide, b3, by omega, fun r4 H4 r41 k4 b4 => ?_⟩
  have rl : r4 < L.length := by omega
  have hat : (L.map fun x : Nat => V.int (x : Int))[r4]? = some (.int (L[r4] : Int)) := by rw [List.getElem?_map, List.getElem?_eq_getElem rl]; rfl
  generalize L[r4] = x at hat
  refine ⟨l, _, _, _, rfl, rfl, SqL.of ((k4 l lb_).trans h3), atI_nat hat, _, _, rfl, ?_⟩
  have em : (if (x : Int) < (M : Int) then (x : Int) else (M : Int)) = ((min M x : Nat) : Int) := by split <;> omega
  rw [em]
  exact q _ H4 (ok _ (Nat.min_le_left _ _)) (fun a o n h => by rw [k4 a n]; exact B3 a o n h) (b4.mono (by omega))
end
end LT

namespace LT
open PySem PySem.Spec PyProof.Rows L2
theorem ne_no {x y : V} (h : x = y) : V.bl (!decide (x = y)) = V.bl false := by rw [decide_eq_true h]; rfl
theorem rs_split (n s m k : Nat) : rs n s (m + k) = rs n s m + rs (n + s * m) s k := by
  unfold rs
  rw [sumR_split]
  congr 1
  exact sumR_congr fun i _ => by rw [show n + s + (m + i) * s = n + s * m + s + i * s by rw [Nat.add_mul, Nat.mul_comm m s]; omega]
theorem sumR_pairs (f : Nat → Nat) : ∀ m, sumR m f = sumR (m - m / 2) (fun j => f (2 * j)) + sumR (m / 2) (fun j => f (2 * j + 1))
  | 0 => rfl
  | m + 1 => by
    show sumR m f + f m = _
    rw [sumR_pairs f m]
    have c : m % 2 = 0 ∨ m % 2 = 1 := by omega
    rcases c with c | c
    · rw [show m + 1 - (m + 1) / 2 = m - m / 2 + 1 by omega, show (m + 1) / 2 = m / 2 by omega]
      show _ = sumR (m - m / 2) (fun j => f (2 * j)) + f (2 * (m - m / 2)) + _
      rw [show 2 * (m - m / 2) = m by omega]
      omega
    · rw [show m + 1 - (m + 1) / 2 = m - m / 2 by omega, show (m + 1) / 2 = m / 2 + 1 by omega]
      show _ = _ + (sumR (m / 2) (fun j => f (2 * j + 1)) + f (2 * (m / 2) + 1))
      rw [show 2 * (m / 2) + 1 = m by omega]
      omega
theorem rs_pairs {n s m : Nat} (h : s < n) : rs (n - s) (2 * s) (m - m / 2) + rs n (2 * s) (m / 2) = rs n s m := by
  unfold rs
  rw [sumR_pairs (fun i => ones (n + s + i * s) - 1) m]
  congr 1
  · exact sumR_congr fun j _ => by rw [show n - s + 2 * s + j * (2 * s) = n + s + 2 * j * s by rw [Nat.mul_left_comm j 2 s, ← Nat.mul_assoc]; omega]
  · exact sumR_congr fun j _ => by rw [show n + 2 * s + j * (2 * s) = n + s + (2 * j + 1) * s by rw [Nat.add_mul, Nat.mul_left_comm j 2 s, ← Nat.mul_assoc]; omega]
section
variable {P : Program} {w : World} {K : PySem.W.Frag} {mg : Str → Option Value} {base : Heap}
def spRight : Sp := fun vs H Q _ => ∃ (b : Addr) (c : Nat), vs = [.ref b] ∧ ReelAt H b c ∧ c ≤ 10 ^ 6 ∧ ∀ (H' : Hp), But b H H' → ReelAt H' b (c + 50) → Q (.bl true) H'
theorem ok_law_right {f g1 g2 g3 g4 g5 : Addr} {fd d1 d2 d3 d4 d5 : FuncData} (F : Fun K "_law_right" "_law_right" sLawRight f fd)
    (GLawSpin : FnOk P w K mg base CX0 1 g1 d1 ["reel", "many"] spSpin) (ALawSpin : At K mg "_law_spin" g1 d1 ["reel", "many"])
    (GLawDrawnSize : FnOk P w K mg base CX0 2 g2 d2 ["reel"] spDrawnSize) (ALawDrawnSize : At K mg "_law_drawn_size" g2 d2 ["reel"])
    (GLawDrawnNumber : FnOk P w K mg base CX0 2 g3 d3 ["reel", "size", "step"] spDrawnNumber) (ALawDrawnNumber : At K mg "_law_drawn_number" g3 d3 ["reel", "size", "step"])
    (GRootsBySteps : FnOk P w K mg base CX0 4 g4 d4 ["size", "step", "number"] spSteps) (ARootsBySteps : At K mg "roots_by_steps" g4 d4 ["size", "step", "number"])
    (GRootSums : FnOk P w K mg base CX0 6 g5 d5 ["size"] spRootSums) (ARootSums : At K mg "root_sums" g5 d5 ["size"])
    (z_range : mg "range" = none) (z_min : mg "min" = none) (z_sum : mg "sum" = none) : FnOk P w K mg base CX0 7 f fd ["reel"] spRight := by
  refine F.ok scLawRight (fun vs H Q E h => ?_) (fun cdv A outer s H vs Q E hr h => ?_)
  · obtain ⟨_, _, rfl, _⟩ := h
    rfl
  obtain ⟨b, c, rfl, hb, hc, q⟩ := h
  refine ⟨_, (pss_cons (ps_set (i := 1) scLawRight.nd rfl (Or.inr rfl) (pe_ix ix_list (pe_lst (pa_cons (pe_call GLawDrawnSize (hr.mono (by decide)) rfl ALawDrawnSize.m ALawDrawnSize.kp ALawDrawnSize.b .nil pass0 (pa_cons (pv 0) pa_nil)) (pa_cons (pe_op op_add pe_int (pe_call GLawSpin (hr.mono (by decide)) rfl ALawSpin.m ALawSpin.kp ALawSpin.b .nil pass0 (pa_cons (pv 0) (pa_cons pe_int pa_nil)))) pa_nil))) (pe_call GLawSpin (hr.mono (by decide)) rfl ALawSpin.m ALawSpin.kp ALawSpin.b .nil pass0 (pa_cons (pv 0) (pa_cons pe_int pa_nil))) (fun _ _ => rfl)))
    (pss_cons (ps_set (i := 2) scLawRight.nd rfl (Or.inr rfl) (pe_ix ix_list (pe_lst (pa_cons (pe_op op_add pe_int (pe_call GLawSpin (hr.mono (by decide)) rfl ALawSpin.m ALawSpin.kp ALawSpin.b .nil pass0 (pa_cons (pv 0) (pa_cons (pe_op op_pow pe_int pe_int) pa_nil)))) (pa_cons (pe_op op_add pe_int (pe_call GLawSpin (hr.mono (by decide)) rfl ALawSpin.m ALawSpin.kp ALawSpin.b .nil pass0 (pa_cons (pv 0) (pa_cons pe_int pa_nil)))) (pa_cons (pe_op op_shl pe_int (pe_call GLawSpin (hr.mono (by decide)) rfl ALawSpin.m ALawSpin.kp ALawSpin.b .nil pass0 (pa_cons (pv 0) (pa_cons pe_int pa_nil)))) pa_nil)))) (pe_call GLawSpin (hr.mono (by decide)) rfl ALawSpin.m ALawSpin.kp ALawSpin.b .nil pass0 (pa_cons (pv 0) (pa_cons pe_int pa_nil))) (fun _ _ => rfl)))
    (pss_cons (ps_set (i := 3) scLawRight.nd rfl (Or.inl rfl) (pe_call GLawDrawnNumber (hr.mono (by decide)) rfl ALawDrawnNumber.m ALawDrawnNumber.kp ALawDrawnNumber.b .nil pass0 (pa_cons (pv 0) (pa_cons (pv 1) (pa_cons (pv 2) pa_nil)))))
    (pss_cons (ps_set (i := 4) scLawRight.nd rfl (Or.inl rfl) (pe_call GRootsBySteps (hr.mono (by decide)) rfl ARootsBySteps.m ARootsBySteps.kp ARootsBySteps.b .nil pass0 (pa_cons (pv 1) (pa_cons (pv 2) (pa_cons (pv 3) pa_nil)))))
    (pss_cons (ps_set (i := 5) scLawRight.nd rfl (Or.inl rfl) (pe_callB (cr_sum rfl) (by rfl) z_sum (by decide +kernel) (pa_cons (pe_lc (own := [("turn", 9)]) rfl scLawRight.nd (pi_range2 (by rfl) z_range (pa_cons pe_int (pa_cons (pe_op op_add (pe_callB (call_min2 rfl) (by rfl) z_min (by decide +kernel) (pa_cons (pv 3) (pa_cons pe_int pa_nil))) pe_int) pa_nil))) (blkOk_by (N := ["reel", "size", "step", "number", "told", "due", "some", "half", "rows", "turn"]) (sc := defScope sLawRight) (by decide +kernel)) (fun _ _ _ _ _ => (pg_name (i := 9) scLawRight.nd rfl (Or.inl rfl))) (fun _ _ _ _ _ => pts_nil) (fun _ _ _ _ _ => (pe_call GRootSums (hr.mono (by decide)) rfl ARootSums.m ARootSums.kp ARootSums.b .nil pass0 (pa_cons (pe_op op_add (pv 1) (pe_op op_mulW (pv 2) (pv 9))) pa_nil)))) pa_nil)))
    (pss_cons (ps_if (PW.pt (pw_and (pt_cmpR op_lt (pv 3) pe_int (nomark _)) (pw_and1 (pt_cmpR op_ne (pv 4) (pv 5) (nomark _)))))
    (pss_one (ps_ret pe_bl))
    pss_nil)
    (pss_cons (ps_set (i := 6) scLawRight.nd rfl (Or.inl rfl) (pe_call GLawSpin (hr.mono (by decide)) rfl ALawSpin.m ALawSpin.kp ALawSpin.b .nil pass0 (pa_cons (pv 0) (pa_cons (pe_op op_add (pv 3) pe_int) pa_nil))))
    (pss_cons (ps_if (pt_cmpR op_ne (pe_op op_add (pe_call GRootsBySteps (hr.mono (by decide)) rfl ARootsBySteps.m ARootsBySteps.kp ARootsBySteps.b .nil pass0 (pa_cons (pv 1) (pa_cons (pv 2) (pa_cons (pv 6) pa_nil)))) (pe_call GRootsBySteps (hr.mono (by decide)) rfl ARootsBySteps.m ARootsBySteps.kp ARootsBySteps.b .nil pass0 (pa_cons (pe_op op_add (pv 1) (pe_op op_mulW (pv 2) (pv 6))) (pa_cons (pv 2) (pa_cons (pe_op op_sub (pv 3) (pv 6)) pa_nil))))) (pv 4) (nomark _))
    (pss_one (ps_ret pe_bl))
    pss_nil)
    (pss_cons (ps_set (i := 7) scLawRight.nd rfl (Or.inl rfl) (pe_op op_fdivW (pv 3) pe_int))
    (pss_cons (ps_if (PW.pt (pw_and (pt_cmpR op_gt (pv 1) (pv 2) (nomark _)) (pw_and1 (pt_cmpR op_le (pv 2) (pe_op op_fdivW (pe_op op_pow pe_int pe_int) pe_int) (nomark _)))))
    (pss_cons (ps_set (i := 8) scLawRight.nd rfl (Or.inl rfl) (pe_op op_add (pe_call GRootsBySteps (hr.mono (by decide)) rfl ARootsBySteps.m ARootsBySteps.kp ARootsBySteps.b .nil pass0 (pa_cons (pe_op op_sub (pv 1) (pv 2)) (pa_cons (pe_op op_mulW pe_int (pv 2)) (pa_cons (pe_op op_sub (pv 3) (pv 7)) pa_nil)))) (pe_call GRootsBySteps (hr.mono (by decide)) rfl ARootsBySteps.m ARootsBySteps.kp ARootsBySteps.b .nil pass0 (pa_cons (pv 1) (pa_cons (pe_op op_mulW pe_int (pv 2)) (pa_cons (pv 7) pa_nil))))))
    (pss_one (ps_if (pt_cmpR op_ne (pv 8) (pv 4) (nomark _))
    (pss_one (ps_ret pe_bl))
    pss_nil)))
    pss_nil)
    (pss_one (ps_ret (pe_cmpR op_eq (pe_call GRootsBySteps (hr.mono (by decide)) rfl ARootsBySteps.m ARootsBySteps.kp ARootsBySteps.b .nil pass0 (pa_cons (pv 1) (pa_cons (pv 2) (pa_cons pe_int pa_nil)))) pe_int (nomark _)))))))))))))), ?_⟩
  have two : 2 ≤ sizeLine := by decide
  have three : 3 ≤ sizeLine := by decide
  refine ⟨_, rfl, b, c, rfl, hb, by omega, fun n0 H1 n01 n030 B1 b1 => ?_⟩
  refine ⟨_, rfl, b, 200, _, rfl, by decide, by decide, b1, by omega, fun r1 H2 r11 k2 b2 => ⟨_, _, rfl, rfl, two, fun l nl => ?_⟩⟩
  have B2 : But b H H2 := fun a o n h => by rw [k2 a n]; exact B1 a o n h
  have u3 := same_upd (o := .lst [.int (n0 : Int), .int (1 + (r1 : Int))]) nl
  have h3 : (upd H2 l (.lst [.int (n0 : Int), .int (1 + (r1 : Int))])) l = some (.lst ([n0, 1 + r1].map fun x : Nat => V.int (x : Int))) := upd_same
  have lb_ := b2.ne nl
  have B3 := B2.trans (But.of (b := b) u3)
  have b3 := b2.same u3
  have hl : ∀ x ∈ [n0, 1 + r1], 1 ≤ x ∧ x ≤ 10 ^ 30 := by
    intro x hx
    simp only [List.mem_cons, List.not_mem_nil, or_false] at hx
    rcases hx with rfl | rfl <;> omega
  have ln : [n0, 1 + r1].length = 2 := rfl
  generalize upd H2 l (.lst [.int (n0 : Int), .int (1 + (r1 : Int))]) = H3 at h3 B3 b3
  generalize [n0, 1 + r1] = L at h3 ln hl
  refine ⟨_, rfl, b, 2, _, rfl, by decide, by decide, b3, by omega, fun r4 H4 r41 k4 b4 => ?_⟩
  have B4 : But b H H4 := fun a o n h => by rw [k4 a n]; exact B3 a o n h
  have rl : r4 < L.length := by omega
  have hat : (L.map fun x : Nat => V.int (x : Int))[r4]? = some (.int (L[r4] : Int)) := by rw [List.getElem?_map, List.getElem?_eq_getElem rl]; rfl
  obtain ⟨n1, n30⟩ := hl L[r4] (List.getElem_mem rl)
  generalize L[r4] = n at hat n1 n30
  refine ⟨l, _, _, _, rfl, rfl, SqL.of ((k4 l lb_).trans h3), atI_nat hat, ?_⟩
  -- the step
  refine ⟨_, rfl, _, _, rfl, rfl, ⟨by decide, by decide, by decide⟩, b, _, _, rfl, by decide, by decide, b4, by omega, fun r5 H5 r51 k5 b5 => ⟨_, _, rfl, rfl, ?_⟩⟩
  refine ⟨_, rfl, b, 99, _, rfl, by decide, by decide, b5, by omega, fun r6 H6 r61 k6 b6 => ⟨_, _, rfl, rfl, ?_⟩⟩
  refine ⟨_, rfl, b, 90, _, rfl, by decide, by decide, b6, by omega, fun r7 H7 r71 k7 b7 => ⟨_, _, rfl, rfl, ⟨Int.natCast_nonneg _, by omega, by decide⟩, three, fun l2 nl2 => ?_⟩⟩
  dsimp only
  rw [shl_nat]
  have r5b : (r5 : Int) < ((10 ^ 30 : Nat) : Int) := r51
  have p7 := Nat.pow_pos (a := 2) (n := r7) (by decide)
  have p7b : 2 ^ r7 ≤ 2 ^ 90 := Nat.pow_le_pow_right (by decide) (by omega)
  have t90 : (2 : Nat) ^ 90 ≤ 10 ^ 30 := by decide
  have B7 : But b H H7 := fun a o n h => by rw [k7 a n, k6 a n, k5 a n]; exact B4 a o n h
  have u8 := same_upd (o := .lst [.int (1 + (r5 : Int)), .int (1 + (r6 : Int)), .int ((2 ^ r7 : Nat) : Int)]) nl2
  have h8 : (upd H7 l2 (.lst [.int (1 + (r5 : Int)), .int (1 + (r6 : Int)), .int ((2 ^ r7 : Nat) : Int)])) l2 = some (.lst ([1 + r5, 1 + r6, 2 ^ r7].map fun x : Nat => V.int (x : Int))) := upd_same
  have lb2 := b7.ne nl2
  have B8 := B7.trans (But.of (b := b) u8)
  have b8 := b7.same u8
  have hl2 : ∀ x ∈ [1 + r5, 1 + r6, 2 ^ r7], 1 ≤ x ∧ x ≤ 10 ^ 30 := by
    intro x hx
    simp only [List.mem_cons, List.not_mem_nil, or_false] at hx
    rcases hx with rfl | rfl | rfl <;> omega
  have ln2 : [1 + r5, 1 + r6, 2 ^ r7].length = 3 := rfl
  generalize upd H7 l2 (.lst [.int (1 + (r5 : Int)), .int (1 + (r6 : Int)), .int ((2 ^ r7 : Nat) : Int)]) = H8 at h8 B8 b8
  generalize [1 + r5, 1 + r6, 2 ^ r7] = L2' at h8 ln2 hl2
  refine ⟨_, rfl, b, 3, _, rfl, by decide, by decide, b8, by omega, fun r9 H9 r91 k9 b9 => ?_⟩
  have B9 : But b H H9 := fun a o n h => by rw [k9 a n]; exact B8 a o n h
  have rl2 : r9 < L2'.length := by omega
  have hat2 : (L2'.map fun x : Nat => V.int (x : Int))[r9]? = some (.int (L2'[r9] : Int)) := by rw [List.getElem?_map, List.getElem?_eq_getElem rl2]; rfl
  obtain ⟨s1, s30⟩ := hl2 L2'[r9] (List.getElem_mem rl2)
  generalize L2'[r9] = st at hat2 s1 s30
  have s101 : st < 2 ^ 101 := Nat.lt_of_le_of_lt s30 (by decide)
  refine ⟨l2, _, _, _, rfl, rfl, SqL.of ((k9 l2 lb2).trans h8), atI_nat hat2, ?_⟩
  refine ⟨_, rfl, _, rfl, _, rfl, b, _, n, st, rfl, b9, by omega, n30, s1, s101, fun m H10 hm B10 b10 => ?_⟩
  have B10 := B9.trans B10
  have mm : m ≤ st * m := Nat.le_mul_of_pos_left m s1
  have sW : ∀ k, k ≤ m → CMulW (st : Int) (k : Int) := fun k hk => mulW (k := 101) (l := 101) s101 (Nat.lt_of_le_of_lt (show k ≤ 10 ^ 30 by omega) (by decide)) (by decide) (by decide) (by decide)
  have sc : ∀ k : Nat, (st : Int) * (k : Int) = ((st * k : Nat) : Int) := fun k => (Int.natCast_mul _ _).symm
  refine ⟨_, rfl, _, rfl, _, rfl, n, st, m, rfl, n1, s1, s101, hm, ?_⟩
  -- due
  have em : (if (20 : Int) < (m : Int) then (20 : Int) else (m : Int)) = ((min m 20 : Nat) : Int) := by split <;> omega
  refine ⟨_, rfl, _, _, rfl, _, _, rfl, rfl, 1, ((min m 20 + 1 : Nat) : Int), ?_, ⟨by omega, by omega, by omega, by omega⟩, fun D nD => ?_⟩
  · show [V.int 1, V.int ((if (20 : Int) < (m : Int) then (20 : Int) else (m : Int)) + 1)] = _
    rw [em]
    rfl
  have en : (((min m 20 + 1 : Nat) : Int) - 1).toNat = min m 20 := by omega
  rw [en]
  have Db := b10.ne nD
  refine lc_range (lo := 1) (n := min m 20) (fun i H' => Same H10 H' ∧ H' D = some (.lst (((List.range i).map fun j => ((ones (n + st + j * st) - 1 : Nat) : Int)).map V.int))) ⟨same_upd nD, upd_same⟩ ?_ ?_
  · rintro j H11 hj ⟨s11, hD⟩
    have ej : (1 : Int) + (j : Int) = ((1 + j : Nat) : Int) := rfl
    rw [ej]
    have jm : 1 + j ≤ m := by omega
    have nj : n + st * (1 + j) ≤ 10 ^ 30 := by
      have := Nat.mul_le_mul_left st jm
      omega
    refine ⟨rfl, ?_⟩
    refine ⟨_, rfl, _, rfl, _, rfl, _, _, rfl, rfl, sW _ jm, _, _, rfl, rfl, n + st * (1 + j), congrArg (fun z => [V.int ((n : Int) + z)]) (sc (1 + j)), by omega, nj, fun H12 s12 => ?_⟩
    refine ⟨_, s12 _ _ hD, szlt (by rw [List.length_map, List.length_map, List.length_range]; omega), ?_, ?_⟩
    · exact fun a o k => by rw [upd_ne (ne_of_none k nD)]; exact s12 _ _ (s11 _ _ k)
    · rw [List.range_succ, List.map_append, List.map_append, show n + st * (1 + j) = n + st + j * st by rw [Nat.mul_add, Nat.mul_one, Nat.mul_comm st j]; omega]
      exact upd_same
  rintro H11 ⟨s11, hD⟩
  have B11 := B10.trans (But.of (b := b) s11)
  have b11 := b10.same s11
  refine ⟨D, _, rfl, SqL.of hD, ?_⟩
  have sumI : ∀ (f : Nat → Nat) (k : Nat), ((List.range k).map fun j => ((f j : Nat) : Int)).sum = ((sumR k f : Nat) : Int) := fun f k => by
    induction k with
    | zero => rfl
    | succ k ih =>
      rw [List.range_succ, List.map_append, List.sum_append, ih]
      show _ + (((f k : Nat) : Int) + 0) = ((sumR k f + f k : Nat) : Int)
      omega
  rw [sumI (fun j => ones (n + st + j * st) - 1)]
  have e20 : m < 20 → sumR (min m 20) (fun j => ones (n + st + j * st) - 1) = rs n st m := fun h => by rw [Nat.min_eq_left (by omega)]; rfl
  generalize sumR (min m 20) (fun j => ones (n + st + j * st) - 1) = due at e20
  by_cases c1 : m < 20
  · refine ⟨_, rfl, _, _, rfl, rfl, true, congrArg V.bl (decide_eq_true (by show (m : Int) < 20; omega)), ?_⟩
    refine ⟨_, rfl, _, rfl, rfl, false, ne_no (congrArg V.int (by rw [e20 c1])), ?_⟩
    refine ⟨_, rfl, _, rfl, _, _, rfl, rfl, b, _, _, rfl, by omega, by omega, b11, by omega, fun so H12 so1 k12 b12 => ?_⟩
    have B12 : But b H H12 := fun a o n h => by rw [k12 a n]; exact B11 a o n h
    have som : so ≤ m := by omega
    have hso : n + st * so ≤ 10 ^ 30 := by
      have := Nat.mul_le_mul_left st som
      omega
    have sp := rs_split n st so (m - so)
    rw [show so + (m - so) = m by omega] at sp
    have hrest : n + st * so + st * (m - so) ≤ 10 ^ 30 := by
      rw [Nat.add_assoc, ← Nat.mul_add, show so + (m - so) = m by omega]
      exact hm
    have ev : [V.int ((n : Int) + (st : Int) * (so : Int)), V.int (st : Int), V.int ((m : Int) - (so : Int))] = [V.int ((n + st * so : Nat) : Int), V.int (st : Int), V.int ((m - so : Nat) : Int)] := by
      rw [sc so, show (m : Int) - (so : Int) = ((m - so : Nat) : Int) by omega]
      rfl
    refine ⟨_, rfl, _, rfl, _, rfl, n, st, so, rfl, n1, s1, s101, hso, _, rfl, _, rfl, _, rfl, _, _, rfl, rfl, sW _ som, _, _, rfl, rfl, _, rfl, _, rfl, _, rfl, _, _, rfl, rfl, n + st * so, st, m - so, ev, by omega, s1, s101, hrest, _, _, rfl, rfl, _, rfl, rfl, false, ne_no (congrArg V.int (by rw [sp]; rfl)), ?_⟩
    refine ⟨_, rfl, _, _, rfl, rfl, wide_div (b := 2) (by decide) (by decide) (by decide) (by decide), ?_⟩
    have eh2 : (m : Int) / 2 = ((m / 2 : Nat) : Int) := rfl
    dsimp only
    rw [eh2]
    have h500 : (10 : Int) ^ (30 : Int).toNat / 2 = ((10 ^ 30 / 2 : Nat) : Int) := rfl
    by_cases c3 : st < n
    · refine ⟨_, rfl, _, rfl, _, _, rfl, rfl, true, congrArg V.bl (decide_eq_true (by show (n : Int) > (st : Int); omega)), ?_⟩
      by_cases c4 : st ≤ 10 ^ 30 / 2
      · refine ⟨_, rfl, _, _, rfl, rfl, ⟨by decide, by decide, by decide⟩, _, _, rfl, rfl, wide_div (b := 2) (by decide) (by decide) (by decide) (by decide), _, _, rfl, rfl, true, congrArg V.bl (decide_eq_true (by show (st : Int) ≤ (10 : Int) ^ (30 : Int).toNat / 2; rw [h500]; omega)), ?_⟩
        have W2 : CMulW 2 (st : Int) := wide_mul (a := 2) (b := 101) (by decide) (by show st < 2 ^ 101; exact s101) (by decide) (by decide) (by decide)
        have e2s : (2 : Int) * (st : Int) = ((2 * st : Nat) : Int) := rfl
        have ev2 : [V.int ((n : Int) - (st : Int)), V.int ((2 : Int) * (st : Int)), V.int ((m : Int) - ((m / 2 : Nat) : Int))] = [V.int ((n - st : Nat) : Int), V.int ((2 * st : Nat) : Int), V.int ((m - m / 2 : Nat) : Int)] := by
          rw [show (n : Int) - (st : Int) = ((n - st : Nat) : Int) by omega, show (m : Int) - ((m / 2 : Nat) : Int) = ((m - m / 2 : Nat) : Int) by omega]
          rfl
        have two1 : n - st + 2 * st * (m - m / 2) ≤ 10 ^ 30 := by
          have h1 : 2 * st * (m - m / 2) = st * (2 * (m - m / 2)) := by rw [Nat.mul_comm 2 st, Nat.mul_assoc]
          have h2 := Nat.mul_le_mul_left st (show 2 * (m - m / 2) ≤ m + 1 by omega)
          rw [Nat.mul_succ] at h2
          omega
        have two2 : n + 2 * st * (m / 2) ≤ 10 ^ 30 := by
          have h1 : 2 * st * (m / 2) = st * (2 * (m / 2)) := by rw [Nat.mul_comm 2 st, Nat.mul_assoc]
          have h2 := Nat.mul_le_mul_left st (show 2 * (m / 2) ≤ m by omega)
          omega
        have s2b : 2 * st < 2 ^ 101 := by
          have : (10 : Nat) ^ 30 < 2 ^ 101 := by decide
          omega
        have pr := rs_pairs (m := m) c3
        refine ⟨_, rfl, _, rfl, _, _, rfl, rfl, _, rfl, _, _, rfl, rfl, W2, _, rfl, _, rfl, _, _, rfl, rfl, n - st, 2 * st, m - m / 2, ev2, by omega, by omega, s2b, two1, _, rfl, _, rfl, _, _, rfl, rfl, W2, _, rfl, n, 2 * st, m / 2, rfl, n1, by omega, s2b, two2, _, _, rfl, rfl, ?_⟩
        refine ⟨_, rfl, _, rfl, rfl, false, ne_no (congrArg V.int (by rw [← pr]; rfl)), ?_⟩
        refine ⟨_, rfl, _, rfl, n, st, 0, rfl, n1, s1, s101, (by rw [Nat.mul_zero]; omega), rfl, ?_⟩
        exact q _ B12 (b12.mono (by omega))
      · refine ⟨_, rfl, _, _, rfl, rfl, ⟨by decide, by decide, by decide⟩, _, _, rfl, rfl, wide_div (b := 2) (by decide) (by decide) (by decide) (by decide), _, _, rfl, rfl, false, congrArg V.bl (decide_eq_false (by show ¬ (st : Int) ≤ (10 : Int) ^ (30 : Int).toNat / 2; rw [h500]; omega)), ?_⟩
        refine ⟨_, rfl, _, rfl, n, st, 0, rfl, n1, s1, s101, (by rw [Nat.mul_zero]; omega), rfl, ?_⟩
        exact q _ B12 (b12.mono (by omega))
    · refine ⟨_, rfl, _, rfl, _, _, rfl, rfl, false, congrArg V.bl (decide_eq_false (by show ¬ (n : Int) > (st : Int); omega)), ?_⟩
      refine ⟨_, rfl, _, rfl, n, st, 0, rfl, n1, s1, s101, (by rw [Nat.mul_zero]; omega), rfl, ?_⟩
      exact q _ B12 (b12.mono (by omega))
  · refine ⟨_, rfl, _, _, rfl, rfl, false, congrArg V.bl (decide_eq_false (by show ¬ (m : Int) < 20; omega)), ?_⟩
    refine ⟨_, rfl, _, rfl, _, _, rfl, rfl, b, _, _, rfl, by omega, by omega, b11, by omega, fun so H12 so1 k12 b12 => ?_⟩
    have B12 : But b H H12 := fun a o n h => by rw [k12 a n]; exact B11 a o n h
    have som : so ≤ m := by omega
    have hso : n + st * so ≤ 10 ^ 30 := by
      have := Nat.mul_le_mul_left st som
      omega
    have sp := rs_split n st so (m - so)
    rw [show so + (m - so) = m by omega] at sp
    have hrest : n + st * so + st * (m - so) ≤ 10 ^ 30 := by
      rw [Nat.add_assoc, ← Nat.mul_add, show so + (m - so) = m by omega]
      exact hm
    have ev : [V.int ((n : Int) + (st : Int) * (so : Int)), V.int (st : Int), V.int ((m : Int) - (so : Int))] = [V.int ((n + st * so : Nat) : Int), V.int (st : Int), V.int ((m - so : Nat) : Int)] := by
      rw [sc so, show (m : Int) - (so : Int) = ((m - so : Nat) : Int) by omega]
      rfl
    refine ⟨_, rfl, _, rfl, _, rfl, n, st, so, rfl, n1, s1, s101, hso, _, rfl, _, rfl, _, rfl, _, _, rfl, rfl, sW _ som, _, _, rfl, rfl, _, rfl, _, rfl, _, rfl, _, _, rfl, rfl, n + st * so, st, m - so, ev, by omega, s1, s101, hrest, _, _, rfl, rfl, _, rfl, rfl, false, ne_no (congrArg V.int (by rw [sp]; rfl)), ?_⟩
    refine ⟨_, rfl, _, _, rfl, rfl, wide_div (b := 2) (by decide) (by decide) (by decide) (by decide), ?_⟩
    have eh2 : (m : Int) / 2 = ((m / 2 : Nat) : Int) := rfl
    dsimp only
    rw [eh2]
    have h500 : (10 : Int) ^ (30 : Int).toNat / 2 = ((10 ^ 30 / 2 : Nat) : Int) := rfl
    by_cases c3 : st < n
    · refine ⟨_, rfl, _, rfl, _, _, rfl, rfl, true, congrArg V.bl (decide_eq_true (by show (n : Int) > (st : Int); omega)), ?_⟩
      by_cases c4 : st ≤ 10 ^ 30 / 2
      · refine ⟨_, rfl, _, _, rfl, rfl, ⟨by decide, by decide, by decide⟩, _, _, rfl, rfl, wide_div (b := 2) (by decide) (by decide) (by decide) (by decide), _, _, rfl, rfl, true, congrArg V.bl (decide_eq_true (by show (st : Int) ≤ (10 : Int) ^ (30 : Int).toNat / 2; rw [h500]; omega)), ?_⟩
        have W2 : CMulW 2 (st : Int) := wide_mul (a := 2) (b := 101) (by decide) (by show st < 2 ^ 101; exact s101) (by decide) (by decide) (by decide)
        have e2s : (2 : Int) * (st : Int) = ((2 * st : Nat) : Int) := rfl
        have ev2 : [V.int ((n : Int) - (st : Int)), V.int ((2 : Int) * (st : Int)), V.int ((m : Int) - ((m / 2 : Nat) : Int))] = [V.int ((n - st : Nat) : Int), V.int ((2 * st : Nat) : Int), V.int ((m - m / 2 : Nat) : Int)] := by
          rw [show (n : Int) - (st : Int) = ((n - st : Nat) : Int) by omega, show (m : Int) - ((m / 2 : Nat) : Int) = ((m - m / 2 : Nat) : Int) by omega]
          rfl
        have two1 : n - st + 2 * st * (m - m / 2) ≤ 10 ^ 30 := by
          have h1 : 2 * st * (m - m / 2) = st * (2 * (m - m / 2)) := by rw [Nat.mul_comm 2 st, Nat.mul_assoc]
          have h2 := Nat.mul_le_mul_left st (show 2 * (m - m / 2) ≤ m + 1 by omega)
          rw [Nat.mul_succ] at h2
          omega
        have two2 : n + 2 * st * (m / 2) ≤ 10 ^ 30 := by
          have h1 : 2 * st * (m / 2) = st * (2 * (m / 2)) := by rw [Nat.mul_comm 2 st, Nat.mul_assoc]
          have h2 := Nat.mul_le_mul_left st (show 2 * (m / 2) ≤ m by omega)
          omega
        have s2b : 2 * st < 2 ^ 101 := by
          have : (10 : Nat) ^ 30 < 2 ^ 101 := by decide
          omega
        have pr := rs_pairs (m := m) c3
        refine ⟨_, rfl, _, rfl, _, _, rfl, rfl, _, rfl, _, _, rfl, rfl, W2, _, rfl, _, rfl, _, _, rfl, rfl, n - st, 2 * st, m - m / 2, ev2, by omega, by omega, s2b, two1, _, rfl, _, rfl, _, _, rfl, rfl, W2, _, rfl, n, 2 * st, m / 2, rfl, n1, by omega, s2b, two2, _, _, rfl, rfl, ?_⟩
        refine ⟨_, rfl, _, rfl, rfl, false, ne_no (congrArg V.int (by rw [← pr]; rfl)), ?_⟩
        refine ⟨_, rfl, _, rfl, n, st, 0, rfl, n1, s1, s101, (by rw [Nat.mul_zero]; omega), rfl, ?_⟩
        exact q _ B12 (b12.mono (by omega))
      · refine ⟨_, rfl, _, _, rfl, rfl, ⟨by decide, by decide, by decide⟩, _, _, rfl, rfl, wide_div (b := 2) (by decide) (by decide) (by decide) (by decide), _, _, rfl, rfl, false, congrArg V.bl (decide_eq_false (by show ¬ (st : Int) ≤ (10 : Int) ^ (30 : Int).toNat / 2; rw [h500]; omega)), ?_⟩
        refine ⟨_, rfl, _, rfl, n, st, 0, rfl, n1, s1, s101, (by rw [Nat.mul_zero]; omega), rfl, ?_⟩
        exact q _ B12 (b12.mono (by omega))
    · refine ⟨_, rfl, _, rfl, _, _, rfl, rfl, false, congrArg V.bl (decide_eq_false (by show ¬ (n : Int) > (st : Int); omega)), ?_⟩
      refine ⟨_, rfl, _, rfl, n, st, 0, rfl, n1, s1, s101, (by rw [Nat.mul_zero]; omega), rfl, ?_⟩
      exact q _ B12 (b12.mono (by omega))
end
end LT

namespace LT
open PySem PySem.Spec PyProof.Rows L2
theorem rs_one (n m : Nat) : rs n 1 m = rt (n + 1) m := sumR_congr fun i _ => by rw [Nat.mul_one]
theorem rs_pow (n p m : Nat) : rs n (2 ^ p) m = rt (n / 2 ^ p + 1) m + m * ones (n % 2 ^ p) := by
  have e : rs n (2 ^ p) m = sumR m (fun i => (ones (n / 2 ^ p + 1 + i) - 1) + ones (n % 2 ^ p)) := sumR_congr fun i _ => by
    have h1 := Nat.div_add_mod n (2 ^ p)
    have h2 := Nat.mod_lt n (Nat.pow_pos (a := 2) (n := p) (by decide))
    have h3 : n + 2 ^ p + i * 2 ^ p = 2 ^ p * (n / 2 ^ p + 1 + i) + n % 2 ^ p := by
      have h5 : 2 ^ p * (n / 2 ^ p + 1 + i) = 2 ^ p * (n / 2 ^ p) + 2 ^ p + i * 2 ^ p := by rw [Nat.mul_add, Nat.mul_add, Nat.mul_one, Nat.mul_comm (2 ^ p) i]
      omega
    have h4 := ones_pos (n := n / 2 ^ p + 1 + i) (by generalize n / 2 ^ p = z; omega)
    rw [h3, ones_split _ _ _ h2]
    omega
  rw [e, sumR_add, sumR_const]
  rfl
section
variable {P : Program} {w : World} {K : PySem.W.Frag} {mg : Str → Option Value} {base : Heap}
theorem ok_law_power_right {f g1 g2 g3 g4 g5 g6 : Addr} {fd d1 d2 d3 d4 d5 d6 : FuncData} (F : Fun K "_law_power_right" "_law_power_right" sLawPowerRight f fd)
    (GLawSpin : FnOk P w K mg base CX0 1 g1 d1 ["reel", "many"] spSpin) (ALawSpin : At K mg "_law_spin" g1 d1 ["reel", "many"])
    (GLawDrawnSize : FnOk P w K mg base CX0 2 g2 d2 ["reel"] spDrawnSize) (ALawDrawnSize : At K mg "_law_drawn_size" g2 d2 ["reel"])
    (GLawDrawnNumber : FnOk P w K mg base CX0 2 g3 d3 ["reel", "size", "step"] spDrawnNumber) (ALawDrawnNumber : At K mg "_law_drawn_number" g3 d3 ["reel", "size", "step"])
    (GRootsBySteps : FnOk P w K mg base CX0 4 g4 d4 ["size", "step", "number"] spSteps) (ARootsBySteps : At K mg "roots_by_steps" g4 d4 ["size", "step", "number"])
    (GLawOnes : FnOk P w K mg base CX0 1 g5 d5 ["number"] spOnes) (ALawOnes : At K mg "_law_ones" g5 d5 ["number"])
    (GRootsTotal : FnOk P w K mg base CX0 5 g6 d6 ["low", "high"] spTotal) (ARootsTotal : At K mg "roots_total" g6 d6 ["low", "high"]) : FnOk P w K mg base CX0 7 f fd ["reel"] spRight := by
  refine F.ok scLawPowerRight (fun vs H Q E h => ?_) (fun cdv A outer s H vs Q E hr h => ?_)
  · obtain ⟨_, _, rfl, _⟩ := h
    rfl
  obtain ⟨b, c, rfl, hb, hc, q⟩ := h
  refine ⟨_, (pss_cons (ps_par (i := 1) (j := 2) (by rfl) scLawPowerRight.nd rfl rfl (by decide) rfl rfl (pa_cons (pe_call GLawDrawnSize (hr.mono (by decide)) rfl ALawDrawnSize.m ALawDrawnSize.kp ALawDrawnSize.b .nil pass0 (pa_cons (pv 0) pa_nil)) (pa_cons (pe_call GLawSpin (hr.mono (by decide)) rfl ALawSpin.m ALawSpin.kp ALawSpin.b .nil pass0 (pa_cons (pv 0) (pa_cons pe_int pa_nil))) pa_nil)) (by rfl))
    (pss_cons (ps_set (i := 3) scLawPowerRight.nd rfl (Or.inl rfl) (pe_call GLawDrawnNumber (hr.mono (by decide)) rfl ALawDrawnNumber.m ALawDrawnNumber.kp ALawDrawnNumber.b .nil pass0 (pa_cons (pv 0) (pa_cons (pv 1) (pa_cons (pe_op op_shl pe_int (pv 2)) pa_nil)))))
    (pss_cons (ps_set (i := 4) scLawPowerRight.nd rfl (Or.inl rfl) (pe_op op_shr (pv 1) (pv 2)))
    (pss_cons (ps_set (i := 5) scLawPowerRight.nd rfl (Or.inl rfl) (pe_call GLawOnes (hr.mono (by decide)) rfl ALawOnes.m ALawOnes.kp ALawOnes.b .nil pass0 (pa_cons (pe_op op_sub (pv 1) (pe_op op_shlW (pv 4) (pv 2))) pa_nil)))
    (pss_cons (ps_set (i := 6) scLawPowerRight.nd rfl (Or.inl rfl) (pe_op op_mulW (pv 3) (pv 5)))
    (pss_cons (ps_if (pt_cmpR op_gt (pv 3) pe_int (nomark _))
    (pss_one (ps_set (i := 6) scLawPowerRight.nd rfl (Or.inl rfl) (pe_op op_add (pv 6) (pe_call GRootsTotal (hr.mono (by decide)) rfl ARootsTotal.m ARootsTotal.kp ARootsTotal.b .nil pass0 (pa_cons (pe_op op_add (pv 4) pe_int) (pa_cons (pe_op op_add (pv 4) (pv 3)) pa_nil))))))
    pss_nil)
    (pss_cons (ps_if (pt_cmpR op_ne (pe_call GRootsBySteps (hr.mono (by decide)) rfl ARootsBySteps.m ARootsBySteps.kp ARootsBySteps.b .nil pass0 (pa_cons (pv 1) (pa_cons (pe_op op_shl pe_int (pv 2)) (pa_cons (pv 3) pa_nil)))) (pv 6) (nomark _))
    (pss_one (ps_ret pe_bl))
    pss_nil)
    (pss_cons (ps_set (i := 7) scLawPowerRight.nd rfl (Or.inl rfl) (pe_call GLawDrawnNumber (hr.mono (by decide)) rfl ALawDrawnNumber.m ALawDrawnNumber.kp ALawDrawnNumber.b .nil pass0 (pa_cons (pv 0) (pa_cons (pv 1) (pa_cons pe_int pa_nil)))))
    (pss_cons (ps_if (pt_cmpR op_eq (pv 7) pe_int (nomark _))
    (pss_one (ps_ret pe_bl))
    pss_nil)
    (pss_one (ps_ret (pe_cmpR op_eq (pe_call GRootsBySteps (hr.mono (by decide)) rfl ARootsBySteps.m ARootsBySteps.kp ARootsBySteps.b .nil pass0 (pa_cons (pv 1) (pa_cons pe_int (pa_cons (pv 7) pa_nil)))) (pe_call GRootsTotal (hr.mono (by decide)) rfl ARootsTotal.m ARootsTotal.kp ARootsTotal.b .nil pass0 (pa_cons (pe_op op_add (pv 1) pe_int) (pa_cons (pe_op op_add (pv 1) (pv 7)) pa_nil))) (nomark _))))))))))))), ?_⟩
  refine ⟨_, rfl, b, c, rfl, hb, by omega, fun n H1 n1 n30 B1 b1 => ?_⟩
  refine ⟨_, rfl, b, 60, _, rfl, by decide, by decide, b1, by omega, fun p H2 p1 k2 b2 => ⟨_, _, rfl, ?_⟩⟩
  have B2 : But b H H2 := fun a o n h => by rw [k2 a n]; exact B1 a o n h
  have p0 : (0 : Int) ≤ (p : Int) := Int.natCast_nonneg _
  have pp := Nat.pow_pos (a := 2) (n := p) (by decide)
  have pb : 2 ^ p ≤ 2 ^ 60 := Nat.pow_le_pow_right (by decide) (by omega)
  have p101 : 2 ^ p < 2 ^ 101 := Nat.lt_of_le_of_lt pb (by decide)
  have e1 : (1 : Int) * 2 ^ ((p : Nat) : Int).toNat = ((2 ^ p : Nat) : Int) := shl_nat p
  refine ⟨_, rfl, _, rfl, _, rfl, _, _, rfl, rfl, ⟨p0, by omega, by decide⟩, b, _, n, 2 ^ p, congrArg (fun z => [V.ref b, V.int (n : Int), V.int z]) e1, b2, by omega, n30, pp, p101, fun m H3 hm B3 b3 => ?_⟩
  have B3 := B2.trans B3
  have mm : m ≤ 2 ^ p * m := Nat.le_mul_of_pos_left m pp
  have rp := rs_pow n p m
  have fm : n / 2 ^ p + m ≤ 10 ^ 30 := by
    have h1 := Nat.div_le_self n (2 ^ p)
    by_cases z : m = 0
    · omega
    · have h2 := Nat.mul_div_le n (2 ^ p)
      have h3 : n / 2 ^ p ≤ 2 ^ p * (n / 2 ^ p) := Nat.le_mul_of_pos_left _ pp
      omega
  refine ⟨_, rfl, _, rfl, _, _, rfl, rfl, p0, ?_⟩
  have ef : (n : Int) / 2 ^ ((p : Nat) : Int).toNat = ((n / 2 ^ p : Nat) : Int) := by
    rw [Int.toNat_natCast, show (2 : Int) ^ p = ((2 ^ p : Nat) : Int) from (Int.natCast_pow 2 p).symm]
    exact ediv_cast _ _
  dsimp only
  rw [ef]
  have fl : n / 2 ^ p < 2 ^ 200 := Nat.lt_of_le_of_lt (Nat.div_le_self _ _) (Nat.lt_of_le_of_lt n30 (by decide))
  have em : (n : Int) - ((n / 2 ^ p : Nat) : Int) * 2 ^ ((p : Nat) : Int).toNat = ((n % 2 ^ p : Nat) : Int) := by
    rw [Int.toNat_natCast, show (2 : Int) ^ p = ((2 ^ p : Nat) : Int) from (Int.natCast_pow 2 p).symm, show ((n / 2 ^ p : Nat) : Int) * ((2 ^ p : Nat) : Int) = ((n / 2 ^ p * 2 ^ p : Nat) : Int) from (Int.natCast_mul _ _).symm]
    have := Nat.div_add_mod n (2 ^ p)
    rw [Nat.mul_comm] at this
    omega
  have rl : n % 2 ^ p < 2 ^ 400 := Nat.lt_of_lt_of_le (Nat.mod_lt n pp) (Nat.le_trans pb (by decide))
  refine ⟨_, rfl, _, rfl, _, rfl, _, _, rfl, rfl, shl_ok (n := 200) (by show n / 2 ^ p < 2 ^ 200; exact fl) (by omega), _, _, rfl, rfl, n % 2 ^ p, congrArg (fun z => [V.int z]) em, rl, ?_⟩
  have ol : ones (n % 2 ^ p) < 2 ^ 200 := Nat.lt_of_le_of_lt (ones_le_self _) (Nat.lt_of_lt_of_le (Nat.mod_lt n pp) (Nat.le_trans pb (by decide)))
  have m200 : m < 2 ^ 200 := Nat.lt_of_le_of_lt (show m ≤ 10 ^ 30 by omega) (by decide)
  refine ⟨_, rfl, _, rfl, _, _, rfl, rfl, mulW m200 ol (by decide) (by decide) (by decide), ?_⟩
  have e1v : ∀ m : Nat, [V.int (n : Int), V.int ((1 : Int) * 2 ^ ((p : Nat) : Int).toNat), V.int (m : Int)] = [V.int (n : Int), V.int ((2 ^ p : Nat) : Int), V.int (m : Int)] := fun m => by rw [e1]
  have ed : (m : Int) * ((ones (n % 2 ^ p) : Nat) : Int) = ((m * ones (n % 2 ^ p) : Nat) : Int) := (Int.natCast_mul _ _).symm
  dsimp only
  rw [ed]
  generalize n / 2 ^ p = fi at *
  generalize ones (n % 2 ^ p) = re at *
  refine ⟨_, rfl, _, _, rfl, rfl, _, rfl, ite2 (fun c1 => ?_) (fun c1 => ?_)⟩
  · have c2 : (m : Int) > 0 := of_decide_eq_true c1
    refine ⟨_, rfl, _, rfl, _, _, rfl, rfl, _, rfl, _, rfl, _, _, rfl, rfl, fi + 1, fi + m, rfl, by omega, by omega, fm, _, _, rfl, rfl, ?_⟩
    have ee : ((rs n (2 ^ p) m : Nat) : Int) = ((m * re : Nat) : Int) + ((rt (fi + 1) (fi + m + 1 - (fi + 1)) : Nat) : Int) := by
      rw [rp, show fi + m + 1 - (fi + 1) = m by omega]
      omega
    refine ⟨_, rfl, _, rfl, _, _, rfl, rfl, ⟨p0, by omega, by decide⟩, _, rfl, n, 2 ^ p, m, e1v m, n1, pp, p101, hm, _, rfl, rfl, false, ne_no (congrArg V.int ee), ?_⟩
    refine ⟨_, rfl, _, rfl, b, _, n, 1, rfl, b3, by omega, n30, by decide, by decide, fun mo H4 hmo B4 b4 => ?_⟩
    have B4 := B3.trans B4
    rw [Nat.one_mul] at hmo
    refine ⟨_, rfl, rfl, _, rfl, ite2 (fun c5 => ?_) (fun c5 => ?_)⟩
    · exact q _ B4 (b4.mono (by omega))
    · have mo1 : 1 ≤ mo := by
        rcases Nat.eq_zero_or_pos mo with z | z
        · exact absurd (decide_eq_true (by rw [z]; rfl)) c5
        · exact z
      refine ⟨_, rfl, _, rfl, n, 1, mo, rfl, n1, by decide, by decide, by omega, _, rfl, _, _, rfl, rfl, _, rfl, _, rfl, _, _, rfl, rfl, n + 1, n + mo, rfl, by omega, by omega, by omega, rfl, ?_⟩
      have ef : V.int ((rs n 1 mo : Nat) : Int) = V.int ((rt (n + 1) (n + mo + 1 - (n + 1)) : Nat) : Int) := by
        rw [rs_one, show n + mo + 1 - (n + 1) = mo by omega]
      rw [decide_eq_true ef]
      exact q _ B4 (b4.mono (by omega))
  · have c2 : ¬ (m : Int) > 0 := of_decide_eq_false (Bool.eq_false_iff.mpr c1)
    have m0 : m = 0 := by omega
    have ee : ((rs n (2 ^ p) m : Nat) : Int) = ((m * re : Nat) : Int) := by
      have z : rt (fi + 1) 0 = 0 := rfl
      rw [rp, m0, z, Nat.zero_add]
    refine ⟨_, rfl, _, rfl, _, _, rfl, rfl, ⟨p0, by omega, by decide⟩, _, rfl, n, 2 ^ p, m, e1v m, n1, pp, p101, hm, _, rfl, rfl, false, ne_no (congrArg V.int ee), ?_⟩
    refine ⟨_, rfl, _, rfl, b, _, n, 1, rfl, b3, by omega, n30, by decide, by decide, fun mo H4 hmo B4 b4 => ?_⟩
    have B4 := B3.trans B4
    rw [Nat.one_mul] at hmo
    refine ⟨_, rfl, rfl, _, rfl, ite2 (fun c5 => ?_) (fun c5 => ?_)⟩
    · exact q _ B4 (b4.mono (by omega))
    · have mo1 : 1 ≤ mo := by
        rcases Nat.eq_zero_or_pos mo with z | z
        · exact absurd (decide_eq_true (by rw [z]; rfl)) c5
        · exact z
      refine ⟨_, rfl, _, rfl, n, 1, mo, rfl, n1, by decide, by decide, by omega, _, rfl, _, _, rfl, rfl, _, rfl, _, rfl, _, _, rfl, rfl, n + 1, n + mo, rfl, by omega, by omega, by omega, rfl, ?_⟩
      have ef : V.int ((rs n 1 mo : Nat) : Int) = V.int ((rt (n + 1) (n + mo + 1 - (n + 1)) : Nat) : Int) := by
        rw [rs_one, show n + mo + 1 - (n + 1) = mo by omega]
      rw [decide_eq_true ef]
      exact q _ B4 (b4.mono (by omega))
end
end LT

namespace LT
open PySem PySem.Spec PyProof.Rows L2
theorem script_at {ns : List Int} {lo hi : Option Int} {i : Nat} {x : V} (h : (cutV (ns.map V.int) lo hi ++ [.int 0])[i]? = some x) : ∃ c : Int, x = .int c := by
  have m := List.mem_of_getElem? h
  rcases List.mem_append.mp m with m | m
  · unfold cutV at m
    have m2 := List.mem_of_mem_drop (List.mem_of_mem_take m)
    obtain ⟨c, _, e⟩ := List.mem_map.mp m2
    exact ⟨c, e.symm⟩
  · exact ⟨0, List.mem_singleton.mp m⟩
theorem sqSame {K : PySem.W.Frag} {H H' : Hp} {a : Addr} {xs : List V} (h : SqL K H a xs) (e : Same H H') : SqL K H' a xs :=
  h.elim (fun h => .inl (h.elim (fun h => .inl (e _ _ h)) fun ⟨o, h⟩ => .inr ⟨o, e _ _ h⟩)) fun h => .inr h
def spLaw (K : PySem.W.Frag) : Sp := fun vs H Q _ => ∃ (a : Addr) (ns : List Int), vs = [.ref a] ∧ SqL K H a (ns.map V.int) ∧ ns.length ≤ 63 ∧ ∀ H', Q (.bl true) H'
end LT

namespace LT
open PySem PySem.Spec PyProof.Rows L2
theorem turns_is (k : Int) (len : Nat) (h : 1 ≤ k) : ∃ m : Nat, m ≤ k.toNat ∧ (if (if (len : Int) < k then (len : Int) else k) > 1 then (if (len : Int) < k then (len : Int) else k) else 1) = (m : Int) := by
  refine ⟨(if (if (len : Int) < k then (len : Int) else k) > 1 then (if (len : Int) < k then (len : Int) else k) else 1).toNat, ?_, ?_⟩ <;> split <;> split <;> omega
section
variable {P : Program} {w : World} {K : PySem.W.Frag} {mg : Str → Option Value} {base : Heap}
theorem ok_law {f g1 g2 g3 g4 : Addr} {fd d1 d2 d3 d4 : FuncData} (F : Fun K "law" "law" sLaw f fd)
    (GLawWound : FnOk P w K mg base CX0 1 g1 d1 ["script", "k"] (spWound K)) (ALawWound : At K mg "_law_wound" g1 d1 ["script", "k"])
    (GLawRight : FnOk P w K mg base CX0 7 g2 d2 ["reel"] spRight) (ALawRight : At K mg "_law_right" g2 d2 ["reel"])
    (GLawPowerRight : FnOk P w K mg base CX0 7 g3 d3 ["reel"] spRight) (ALawPowerRight : At K mg "_law_power_right" g3 d3 ["reel"])
    (GRootsBySteps : FnOk P w K mg base CX0 4 g4 d4 ["size", "step", "number"] spSteps) (ARootsBySteps : At K mg "roots_by_steps" g4 d4 ["size", "step", "number"])
    (z_range : mg "range" = none) (z_len : mg "len" = none) (z_max : mg "max" = none) (z_min : mg "min" = none) : FnOk P w K mg base CX0 8 f fd ["script"] (spLaw K) := by
  refine F.ok scLaw (fun vs H Q E h => ?_) (fun cdv A outer s H vs Q E hr h => ?_)
  · obtain ⟨_, _, rfl, _⟩ := h
    rfl
  obtain ⟨a, ns, rfl, hS, h63, q⟩ := h
  refine' ⟨_, (pss_cons (ps_for PassesOwn.never rfl (pi_range1 (by rfl) z_range (pa_cons (pe_callB (call_max2 rfl) (by rfl) z_max (by decide +kernel) (pa_cons pe_int (pa_cons (pe_callB (call_min2 rfl) (by rfl) z_min (by decide +kernel) (pa_cons pe_int (pa_cons (pe_callB call_len_seq (by rfl) z_len PySem.boot_len (pa_cons (pv 0) pa_nil)) pa_nil))) pa_nil))) pa_nil)) (pg_name (i := 1) scLaw.nd rfl (Or.inl rfl))
    (pss_cons (ps_set (i := 2) scLaw.nd rfl (Or.inl rfl) (pe_call GLawWound (hr.mono (by decide)) rfl ALawWound.m ALawWound.kp ALawWound.b .nil pass0 (pa_cons (pv 0) (pa_cons (pv 1) pa_nil))))
    (pss_one (ps_for PassesOwn.never rfl (pi_range1 (by rfl) z_range (pa_cons pe_int pa_nil)) (pg_name (i := 3) scLaw.nd rfl (Or.inl rfl))
    (pss_one (ps_if (PW.pt (pw_or (pt_not (pt_val (pe_call GLawRight (hr.mono (by decide)) rfl ALawRight.m ALawRight.kp ALawRight.b .nil pass0 (pa_cons (pv 2) pa_nil)))) (pw_or1 (pt_not (pt_val (pe_call GLawPowerRight (hr.mono (by decide)) rfl ALawPowerRight.m ALawPowerRight.kp ALawPowerRight.b .nil pass0 (pa_cons (pv 2) pa_nil)))))))
    (pss_one (ps_ret pe_bl))
    pss_nil))))))
    (pss_one (ps_ret (pe_and (pe_cmpR op_eq (pe_call GRootsBySteps (hr.mono (by decide)) rfl ARootsBySteps.m ARootsBySteps.kp ARootsBySteps.b .nil pass0 (pa_cons pe_int (pa_cons pe_int (pa_cons pe_int pa_nil)))) pe_int (nomark _)) (pe_one (pe_cmpR op_eq (pe_call GRootsBySteps (hr.mono (by decide)) rfl ARootsBySteps.m ARootsBySteps.kp ARootsBySteps.b .nil pass0 (pa_cons (pe_op op_pow pe_int pe_int) (pa_cons pe_int (pa_cons pe_int pa_nil)))) pe_int (nomark _))))))), ?_⟩
  obtain ⟨m, m6, em⟩ := turns_is 6 (ns.map V.int).length (by decide)
  refine ⟨_, rfl, a, _, rfl, .inl hS, _, _, rfl, _, _, rfl, ?_⟩
  refine ⟨(m : Int), congrArg (fun z => [V.int z]) em, by omega, by omega, for_range (lo := 0) (n := m) (fun i σ H' => ∃ v1 v2 v3 : Option V, σ = [some (.ref a), v1, v2, v3] ∧ Same H H') ⟨none, none, none, rfl, Same.refl _⟩ ?_ ?_⟩
  · rintro k σ H2 hk ⟨v1, v2, v3, rfl, s2⟩
    have ek : (0 : Int) + (k : Int) = ((k : Nat) : Int) := by omega
    rw [ek]
    refine ⟨_, rfl, _, rfl, a, ns, k, rfl, sqSame hS s2, by omega, fun H3 b s3 nb hb => ?_⟩
    have nb1 : H b = none := s2.free nb
    refine ⟨4, rfl, by decide, by decide, for_range (lo := 0) (n := 4) (fun i σ H' => ∃ v3 : Option V, σ = [some (.ref a), some (.int (k : Int)), some (.ref b), v3] ∧ Same H H' ∧ ReelAt H' b (i * 100)) ⟨v3, rfl, s2.trans s3, hb⟩ ?_ ?_⟩
    · rintro j σ H4 hj ⟨v3, rfl, s4, hb4⟩
      refine ⟨_, rfl, b, _, rfl, hb4, by omega, fun H5 B5 hb5 => ⟨true, rfl, ?_⟩⟩
      refine ⟨_, rfl, b, _, rfl, hb5, by omega, fun H6 B6 hb6 => ⟨true, rfl, ?_⟩⟩
      exact ⟨_, rfl, fun u o z => B6 _ _ (ne_of_none z nb1) (B5 _ _ (ne_of_none z nb1) (s4 _ _ z)), hb6.mono (by omega)⟩
    · rintro σ H4 ⟨v3, rfl, s4, hb4⟩
      exact ⟨_, _, _, rfl, s4⟩
  · rintro σ H2 ⟨v1, v2, v3, rfl, s2⟩
    have e4 : rs 1 2 3 = 4 := by
      have h := rs_pairs (n := 1) (s := 2) (m := 0)
      unfold rs
      show 0 + (ones (1 + 2 + 0 * 2) - 1) + (ones (1 + 2 + 1 * 2) - 1) + (ones (1 + 2 + 2 * 2) - 1) = 4
      have o3 : ones 3 = 2 := by rw [ones_step 3, show 3 % 2 = 1 by decide, show 3 / 2 = 1 by decide, ones_one]
      have o5 : ones 5 = 2 := by rw [ones_step 5, show 5 % 2 = 1 by decide, show 5 / 2 = 2 by decide, ones_dbl 1, ones_one]
      have o7 : ones 7 = 3 := by rw [ones_step 7, show 7 % 2 = 1 by decide, show 7 / 2 = 3 by decide, o3]
      rw [show 1 + 2 + 0 * 2 = 3 by decide, show 1 + 2 + 1 * 2 = 5 by decide, show 1 + 2 + 2 * 2 = 7 by decide, o3, o5, o7]
    refine ⟨1, 2, 3, rfl, by decide, by decide, by decide, by decide, rfl, true, congrArg V.bl (decide_eq_true (congrArg V.int (by rw [e4]; rfl))), ?_⟩
    refine ⟨_, _, rfl, rfl, ⟨by decide, by decide, by decide⟩, 10 ^ 30, 7, 0, rfl, by decide, by decide, by decide, by decide, rfl, ?_⟩
    exact q _
end
end LT

namespace LT
open PySem PySem.Spec PyProof.Rows L2
theorem all_mk {l : PySem.W.OpenLaw} {w : World} {K : PySem.W.Frag} {h : Heap} {mg : Str → Option Value} {fa f0 f1 f2 f3 f4 f5 f6 f7 f8 f9 f10 f11 f12 f13 f14 f15 f16 f17 f18 f19 f20 f21 : Addr} (X : K.In h) (G : h.Ns mainGlobals mg) (hfa : mg "law" = some (.ref fa))
    {od0 an0 od1 an1 od2 an2 od3 an3 od4 an4 od5 an5 od6 an6 od7 an7 od8 an8 od9 an9 od10 an10 od11 an11 od12 an12 od13 an13 od14 an14 od15 an15 od16 an16 od17 an17 od18 an18 od19 an19 od20 an20 od21 an21 : Option Addr} {sl0 sl1 sl2 sl3 sl4 sl5 sl6 sl7 sl8 sl9 sl10 sl11 sl12 sl13 sl14 sl15 sl16 sl17 sl18 sl19 sl20 sl21 : Array (Option Value)} {oc0 kV0 dc0 pm0 cd0 ct0 oc1 kV1 dc1 pm1 cd1 ct1 oc2 kV2 dc2 pm2 cd2 ct2 oc3 kV3 dc3 pm3 cd3 ct3 oc4 kV4 dc4 pm4 cd4 ct4 oc5 kV5 dc5 pm5 cd5 ct5 oc6 kV6 dc6 pm6 cd6 ct6 oc7 kV7 dc7 pm7 cd7 ct7 oc8 kV8 dc8 pm8 cd8 ct8 oc9 kV9 dc9 pm9 cd9 ct9 oc10 kV10 dc10 pm10 cd10 ct10 oc11 kV11 dc11 pm11 cd11 ct11 oc12 kV12 dc12 pm12 cd12 ct12 oc13 kV13 dc13 pm13 cd13 ct13 oc14 kV14 dc14 pm14 cd14 ct14 oc15 kV15 dc15 pm15 cd15 ct15 oc16 kV16 dc16 pm16 cd16 ct16 oc17 kV17 dc17 pm17 cd17 ct17 oc18 kV18 dc18 pm18 cd18 ct18 oc19 kV19 dc19 pm19 cd19 ct19 oc20 kV20 dc20 pm20 cd20 ct20 oc21 kV21 dc21 pm21 cd21 ct21 : Value}
    (a0 : PySem.W.nsIn K mainGlobals "is_whole" = some (some (.ref f0))) (l0 : K.lookup f0 = some ⟨oc0, od0, .func (PySem.W.fnOf "is_whole" "is_whole" (defArgs sIsWhole) (defBody sIsWhole) (defScope sIsWhole) .none kV0 dc0 pm0 an0 cd0 ct0), sl0⟩) (c0 : PySem.W.codeIn K cd0 "is_whole" = true) (k0 : PySem.W.keepIn K (.ref f0) = true)
    (a1 : PySem.W.nsIn K mainGlobals "is_between" = some (some (.ref f1))) (l1 : K.lookup f1 = some ⟨oc1, od1, .func (PySem.W.fnOf "is_between" "is_between" (defArgs sIsBetween) (defBody sIsBetween) (defScope sIsBetween) .none kV1 dc1 pm1 an1 cd1 ct1), sl1⟩) (c1 : PySem.W.codeIn K cd1 "is_between" = true) (k1 : PySem.W.keepIn K (.ref f1) = true)
    (a2 : PySem.W.nsIn K mainGlobals "check_size" = some (some (.ref f2))) (l2 : K.lookup f2 = some ⟨oc2, od2, .func (PySem.W.fnOf "check_size" "check_size" (defArgs sCheckSize) (defBody sCheckSize) (defScope sCheckSize) .none kV2 dc2 pm2 an2 cd2 ct2), sl2⟩) (c2 : PySem.W.codeIn K cd2 "check_size" = true) (k2 : PySem.W.keepIn K (.ref f2) = true)
    (a3 : PySem.W.nsIn K mainGlobals "check_number_from" = some (some (.ref f3))) (l3 : K.lookup f3 = some ⟨oc3, od3, .func (PySem.W.fnOf "check_number_from" "check_number_from" (defArgs sCheckNumberFrom) (defBody sCheckNumberFrom) (defScope sCheckNumberFrom) .none kV3 dc3 pm3 an3 cd3 ct3), sl3⟩) (c3 : PySem.W.codeIn K cd3 "check_number_from" = true) (k3 : PySem.W.keepIn K (.ref f3) = true)
    (a4 : PySem.W.nsIn K mainGlobals "check_number_between" = some (some (.ref f4))) (l4 : K.lookup f4 = some ⟨oc4, od4, .func (PySem.W.fnOf "check_number_between" "check_number_between" (defArgs sCheckNumberBetween) (defBody sCheckNumberBetween) (defScope sCheckNumberBetween) .none kV4 dc4 pm4 an4 cd4 ct4), sl4⟩) (c4 : PySem.W.codeIn K cd4 "check_number_between" = true) (k4 : PySem.W.keepIn K (.ref f4) = true)
    (a5 : PySem.W.nsIn K mainGlobals "power_within" = some (some (.ref f5))) (l5 : K.lookup f5 = some ⟨oc5, od5, .func (PySem.W.fnOf "power_within" "power_within" (defArgs sPowerWithin) (defBody sPowerWithin) (defScope sPowerWithin) .none kV5 dc5 pm5 an5 cd5 ct5), sl5⟩) (c5 : PySem.W.codeIn K cd5 "power_within" = true) (k5 : PySem.W.keepIn K (.ref f5) = true)
    (a6 : PySem.W.nsIn K mainGlobals "peaks" = some (some (.ref f6))) (l6 : K.lookup f6 = some ⟨oc6, od6, .func (PySem.W.fnOf "peaks" "peaks" (defArgs sPeaks) (defBody sPeaks) (defScope sPeaks) .none kV6 dc6 pm6 an6 cd6 ct6), sl6⟩) (c6 : PySem.W.codeIn K cd6 "peaks" = true) (k6 : PySem.W.keepIn K (.ref f6) = true)
    (a7 : PySem.W.nsIn K mainGlobals "edges" = some (some (.ref f7))) (l7 : K.lookup f7 = some ⟨oc7, od7, .func (PySem.W.fnOf "edges" "edges" (defArgs sEdges) (defBody sEdges) (defScope sEdges) .none kV7 dc7 pm7 an7 cd7 ct7), sl7⟩) (c7 : PySem.W.codeIn K cd7 "edges" = true) (k7 : PySem.W.keepIn K (.ref f7) = true)
    (a8 : PySem.W.nsIn K mainGlobals "root_sums" = some (some (.ref f8))) (l8 : K.lookup f8 = some ⟨oc8, od8, .func (PySem.W.fnOf "root_sums" "root_sums" (defArgs sRootSums) (defBody sRootSums) (defScope sRootSums) .none kV8 dc8 pm8 an8 cd8 ct8), sl8⟩) (c8 : PySem.W.codeIn K cd8 "root_sums" = true) (k8 : PySem.W.keepIn K (.ref f8) = true)
    (a9 : PySem.W.nsIn K mainGlobals "_quotients_sum" = some (some (.ref f9))) (l9 : K.lookup f9 = some ⟨oc9, od9, .func (PySem.W.fnOf "_quotients_sum" "_quotients_sum" (defArgs sQuotientsSum) (defBody sQuotientsSum) (defScope sQuotientsSum) .none kV9 dc9 pm9 an9 cd9 ct9), sl9⟩) (c9 : PySem.W.codeIn K cd9 "_quotients_sum" = true) (k9 : PySem.W.keepIn K (.ref f9) = true)
    (a10 : PySem.W.nsIn K mainGlobals "_roots_along" = some (some (.ref f10))) (l10 : K.lookup f10 = some ⟨oc10, od10, .func (PySem.W.fnOf "_roots_along" "_roots_along" (defArgs sRootsAlong) (defBody sRootsAlong) (defScope sRootsAlong) .none kV10 dc10 pm10 an10 cd10 ct10), sl10⟩) (c10 : PySem.W.codeIn K cd10 "_roots_along" = true) (k10 : PySem.W.keepIn K (.ref f10) = true)
    (a11 : PySem.W.nsIn K mainGlobals "_check_stretch" = some (some (.ref f11))) (l11 : K.lookup f11 = some ⟨oc11, od11, .func (PySem.W.fnOf "_check_stretch" "_check_stretch" (defArgs sCheckStretch) (defBody sCheckStretch) (defScope sCheckStretch) .none kV11 dc11 pm11 an11 cd11 ct11), sl11⟩) (c11 : PySem.W.codeIn K cd11 "_check_stretch" = true) (k11 : PySem.W.keepIn K (.ref f11) = true)
    (a12 : PySem.W.nsIn K mainGlobals "roots_total" = some (some (.ref f12))) (l12 : K.lookup f12 = some ⟨oc12, od12, .func (PySem.W.fnOf "roots_total" "roots_total" (defArgs sRootsTotal) (defBody sRootsTotal) (defScope sRootsTotal) .none kV12 dc12 pm12 an12 cd12 ct12), sl12⟩) (c12 : PySem.W.codeIn K cd12 "roots_total" = true) (k12 : PySem.W.keepIn K (.ref f12) = true)
    (a13 : PySem.W.nsIn K mainGlobals "roots_by_steps" = some (some (.ref f13))) (l13 : K.lookup f13 = some ⟨oc13, od13, .func (PySem.W.fnOf "roots_by_steps" "roots_by_steps" (defArgs sRootsBySteps) (defBody sRootsBySteps) (defScope sRootsBySteps) .none kV13 dc13 pm13 an13 cd13 ct13), sl13⟩) (c13 : PySem.W.codeIn K cd13 "roots_by_steps" = true) (k13 : PySem.W.keepIn K (.ref f13) = true)
    (a14 : PySem.W.nsIn K mainGlobals "_law_wound" = some (some (.ref f14))) (l14 : K.lookup f14 = some ⟨oc14, od14, .func (PySem.W.fnOf "_law_wound" "_law_wound" (defArgs sLawWound) (defBody sLawWound) (defScope sLawWound) .none kV14 dc14 pm14 an14 cd14 ct14), sl14⟩) (c14 : PySem.W.codeIn K cd14 "_law_wound" = true) (k14 : PySem.W.keepIn K (.ref f14) = true)
    (a15 : PySem.W.nsIn K mainGlobals "_law_spin" = some (some (.ref f15))) (l15 : K.lookup f15 = some ⟨oc15, od15, .func (PySem.W.fnOf "_law_spin" "_law_spin" (defArgs sLawSpin) (defBody sLawSpin) (defScope sLawSpin) .none kV15 dc15 pm15 an15 cd15 ct15), sl15⟩) (c15 : PySem.W.codeIn K cd15 "_law_spin" = true) (k15 : PySem.W.keepIn K (.ref f15) = true)
    (a16 : PySem.W.nsIn K mainGlobals "_law_drawn_size" = some (some (.ref f16))) (l16 : K.lookup f16 = some ⟨oc16, od16, .func (PySem.W.fnOf "_law_drawn_size" "_law_drawn_size" (defArgs sLawDrawnSize) (defBody sLawDrawnSize) (defScope sLawDrawnSize) .none kV16 dc16 pm16 an16 cd16 ct16), sl16⟩) (c16 : PySem.W.codeIn K cd16 "_law_drawn_size" = true) (k16 : PySem.W.keepIn K (.ref f16) = true)
    (a17 : PySem.W.nsIn K mainGlobals "_law_ones" = some (some (.ref f17))) (l17 : K.lookup f17 = some ⟨oc17, od17, .func (PySem.W.fnOf "_law_ones" "_law_ones" (defArgs sLawOnes) (defBody sLawOnes) (defScope sLawOnes) .none kV17 dc17 pm17 an17 cd17 ct17), sl17⟩) (c17 : PySem.W.codeIn K cd17 "_law_ones" = true) (k17 : PySem.W.keepIn K (.ref f17) = true)
    (a18 : PySem.W.nsIn K mainGlobals "_law_drawn_number" = some (some (.ref f18))) (l18 : K.lookup f18 = some ⟨oc18, od18, .func (PySem.W.fnOf "_law_drawn_number" "_law_drawn_number" (defArgs sLawDrawnNumber) (defBody sLawDrawnNumber) (defScope sLawDrawnNumber) .none kV18 dc18 pm18 an18 cd18 ct18), sl18⟩) (c18 : PySem.W.codeIn K cd18 "_law_drawn_number" = true) (k18 : PySem.W.keepIn K (.ref f18) = true)
    (a19 : PySem.W.nsIn K mainGlobals "_law_right" = some (some (.ref f19))) (l19 : K.lookup f19 = some ⟨oc19, od19, .func (PySem.W.fnOf "_law_right" "_law_right" (defArgs sLawRight) (defBody sLawRight) (defScope sLawRight) .none kV19 dc19 pm19 an19 cd19 ct19), sl19⟩) (c19 : PySem.W.codeIn K cd19 "_law_right" = true) (k19 : PySem.W.keepIn K (.ref f19) = true)
    (a20 : PySem.W.nsIn K mainGlobals "_law_power_right" = some (some (.ref f20))) (l20 : K.lookup f20 = some ⟨oc20, od20, .func (PySem.W.fnOf "_law_power_right" "_law_power_right" (defArgs sLawPowerRight) (defBody sLawPowerRight) (defScope sLawPowerRight) .none kV20 dc20 pm20 an20 cd20 ct20), sl20⟩) (c20 : PySem.W.codeIn K cd20 "_law_power_right" = true) (k20 : PySem.W.keepIn K (.ref f20) = true)
    (a21 : PySem.W.nsIn K mainGlobals "law" = some (some (.ref f21))) (l21 : K.lookup f21 = some ⟨oc21, od21, .func (PySem.W.fnOf "law" "law" (defArgs sLaw) (defBody sLaw) (defScope sLaw) .none kV21 dc21 pm21 an21 cd21 ct21), sl21⟩) (c21 : PySem.W.codeIn K cd21 "law" = true) (k21 : PySem.W.keepIn K (.ref f21) = true)
    (z_bool : PySem.W.nsIn K mainGlobals "bool" = some none)
    (z_int : PySem.W.nsIn K mainGlobals "int" = some none)
    (z_isinstance : PySem.W.nsIn K mainGlobals "isinstance" = some none)
    (z_len : PySem.W.nsIn K mainGlobals "len" = some none)
    (z_max : PySem.W.nsIn K mainGlobals "max" = some none)
    (z_min : PySem.W.nsIn K mainGlobals "min" = some none)
    (z_range : PySem.W.nsIn K mainGlobals "range" = some none)
    (z_sum : PySem.W.nsIn K mainGlobals "sum" = some none)
    {t_MOST_ENTRIES : Tok} (g_MOST_ENTRIES : PySem.W.nsIn K mainGlobals "MOST_ENTRIES" = some (some (.int 1000000000000000000000000000000 t_MOST_ENTRIES)))
    : ∃ fd : FuncData, (∀ (s : Shared) (v : Value), BindsTo s fd ⟨[v], []⟩ [("script", v)]) ∧ ∀ base : Heap, K.In base → base.Ns mainGlobals mg → FnOk l.prog w K mg base CX0 8 fa fd ["script"] (spLaw K) := by
  have e := hfa.symm.trans (PySem.W.mg_of X G a21)
  cases e
  have FIsWhole := fun_mk (st := sIsWhole) l0 c0 k0
  have FIsBetween := fun_mk (st := sIsBetween) l1 c1 k1
  have FCheckSize := fun_mk (st := sCheckSize) l2 c2 k2
  have FCheckNumberFrom := fun_mk (st := sCheckNumberFrom) l3 c3 k3
  have FCheckNumberBetween := fun_mk (st := sCheckNumberBetween) l4 c4 k4
  have FPowerWithin := fun_mk (st := sPowerWithin) l5 c5 k5
  have FPeaks := fun_mk (st := sPeaks) l6 c6 k6
  have FEdges := fun_mk (st := sEdges) l7 c7 k7
  have FRootSums := fun_mk (st := sRootSums) l8 c8 k8
  have FQuotientsSum := fun_mk (st := sQuotientsSum) l9 c9 k9
  have FRootsAlong := fun_mk (st := sRootsAlong) l10 c10 k10
  have FCheckStretch := fun_mk (st := sCheckStretch) l11 c11 k11
  have FRootsTotal := fun_mk (st := sRootsTotal) l12 c12 k12
  have FRootsBySteps := fun_mk (st := sRootsBySteps) l13 c13 k13
  have FLawWound := fun_mk (st := sLawWound) l14 c14 k14
  have FLawSpin := fun_mk (st := sLawSpin) l15 c15 k15
  have FLawDrawnSize := fun_mk (st := sLawDrawnSize) l16 c16 k16
  have FLawOnes := fun_mk (st := sLawOnes) l17 c17 k17
  have FLawDrawnNumber := fun_mk (st := sLawDrawnNumber) l18 c18 k18
  have FLawRight := fun_mk (st := sLawRight) l19 c19 k19
  have FLawPowerRight := fun_mk (st := sLawPowerRight) l20 c20 k20
  have FLaw := fun_mk (st := sLaw) l21 c21 k21
  have AIsWhole : At K mg "is_whole" f0 (PySem.W.fnOf "is_whole" "is_whole" (defArgs sIsWhole) (defBody sIsWhole) (defScope sIsWhole) .none kV0 dc0 pm0 an0 cd0 ct0) ["value"] := ⟨PySem.W.mg_of X G a0, k0, FIsWhole.binds (ps := ["value"]) fun _ _ _ _ _ _ us hl => match us, hl with | [_], _ => rfl⟩
  have AIsBetween : At K mg "is_between" f1 (PySem.W.fnOf "is_between" "is_between" (defArgs sIsBetween) (defBody sIsBetween) (defScope sIsBetween) .none kV1 dc1 pm1 an1 cd1 ct1) ["value", "low", "high"] := ⟨PySem.W.mg_of X G a1, k1, FIsBetween.binds (ps := ["value", "low", "high"]) fun _ _ _ _ _ _ us hl => match us, hl with | [_, _, _], _ => rfl⟩
  have ACheckSize : At K mg "check_size" f2 (PySem.W.fnOf "check_size" "check_size" (defArgs sCheckSize) (defBody sCheckSize) (defScope sCheckSize) .none kV2 dc2 pm2 an2 cd2 ct2) ["size"] := ⟨PySem.W.mg_of X G a2, k2, FCheckSize.binds (ps := ["size"]) fun _ _ _ _ _ _ us hl => match us, hl with | [_], _ => rfl⟩
  have ACheckNumberFrom : At K mg "check_number_from" f3 (PySem.W.fnOf "check_number_from" "check_number_from" (defArgs sCheckNumberFrom) (defBody sCheckNumberFrom) (defScope sCheckNumberFrom) .none kV3 dc3 pm3 an3 cd3 ct3) ["number", "least"] := ⟨PySem.W.mg_of X G a3, k3, FCheckNumberFrom.binds (ps := ["number", "least"]) fun _ _ _ _ _ _ us hl => match us, hl with | [_, _], _ => rfl⟩
  have ACheckNumberBetween : At K mg "check_number_between" f4 (PySem.W.fnOf "check_number_between" "check_number_between" (defArgs sCheckNumberBetween) (defBody sCheckNumberBetween) (defScope sCheckNumberBetween) .none kV4 dc4 pm4 an4 cd4 ct4) ["number", "least", "most"] := ⟨PySem.W.mg_of X G a4, k4, FCheckNumberBetween.binds (ps := ["number", "least", "most"]) fun _ _ _ _ _ _ us hl => match us, hl with | [_, _, _], _ => rfl⟩
  have APowerWithin : At K mg "power_within" f5 (PySem.W.fnOf "power_within" "power_within" (defArgs sPowerWithin) (defBody sPowerWithin) (defScope sPowerWithin) .none kV5 dc5 pm5 an5 cd5 ct5) ["number"] := ⟨PySem.W.mg_of X G a5, k5, FPowerWithin.binds (ps := ["number"]) fun _ _ _ _ _ _ us hl => match us, hl with | [_], _ => rfl⟩
  have APeaks : At K mg "peaks" f6 (PySem.W.fnOf "peaks" "peaks" (defArgs sPeaks) (defBody sPeaks) (defScope sPeaks) .none kV6 dc6 pm6 an6 cd6 ct6) ["size"] := ⟨PySem.W.mg_of X G a6, k6, FPeaks.binds (ps := ["size"]) fun _ _ _ _ _ _ us hl => match us, hl with | [_], _ => rfl⟩
  have AEdges : At K mg "edges" f7 (PySem.W.fnOf "edges" "edges" (defArgs sEdges) (defBody sEdges) (defScope sEdges) .none kV7 dc7 pm7 an7 cd7 ct7) ["size"] := ⟨PySem.W.mg_of X G a7, k7, FEdges.binds (ps := ["size"]) fun _ _ _ _ _ _ us hl => match us, hl with | [_], _ => rfl⟩
  have ARootSums : At K mg "root_sums" f8 (PySem.W.fnOf "root_sums" "root_sums" (defArgs sRootSums) (defBody sRootSums) (defScope sRootSums) .none kV8 dc8 pm8 an8 cd8 ct8) ["size"] := ⟨PySem.W.mg_of X G a8, k8, FRootSums.binds (ps := ["size"]) fun _ _ _ _ _ _ us hl => match us, hl with | [_], _ => rfl⟩
  have AQuotientsSum : At K mg "_quotients_sum" f9 (PySem.W.fnOf "_quotients_sum" "_quotients_sum" (defArgs sQuotientsSum) (defBody sQuotientsSum) (defScope sQuotientsSum) .none kV9 dc9 pm9 an9 cd9 ct9) ["first", "step", "number", "divisor"] := ⟨PySem.W.mg_of X G a9, k9, FQuotientsSum.binds (ps := ["first", "step", "number", "divisor"]) fun _ _ _ _ _ _ us hl => match us, hl with | [_, _, _, _], _ => rfl⟩
  have ARootsAlong : At K mg "_roots_along" f10 (PySem.W.fnOf "_roots_along" "_roots_along" (defArgs sRootsAlong) (defBody sRootsAlong) (defScope sRootsAlong) .none kV10 dc10 pm10 an10 cd10 ct10) ["first", "step", "number"] := ⟨PySem.W.mg_of X G a10, k10, FRootsAlong.binds (ps := ["first", "step", "number"]) fun _ _ _ _ _ _ us hl => match us, hl with | [_, _, _], _ => rfl⟩
  have ACheckStretch : At K mg "_check_stretch" f11 (PySem.W.fnOf "_check_stretch" "_check_stretch" (defArgs sCheckStretch) (defBody sCheckStretch) (defScope sCheckStretch) .none kV11 dc11 pm11 an11 cd11 ct11) ["low", "high"] := ⟨PySem.W.mg_of X G a11, k11, FCheckStretch.binds (ps := ["low", "high"]) fun _ _ _ _ _ _ us hl => match us, hl with | [_, _], _ => rfl⟩
  have ARootsTotal : At K mg "roots_total" f12 (PySem.W.fnOf "roots_total" "roots_total" (defArgs sRootsTotal) (defBody sRootsTotal) (defScope sRootsTotal) .none kV12 dc12 pm12 an12 cd12 ct12) ["low", "high"] := ⟨PySem.W.mg_of X G a12, k12, FRootsTotal.binds (ps := ["low", "high"]) fun _ _ _ _ _ _ us hl => match us, hl with | [_, _], _ => rfl⟩
  have ARootsBySteps : At K mg "roots_by_steps" f13 (PySem.W.fnOf "roots_by_steps" "roots_by_steps" (defArgs sRootsBySteps) (defBody sRootsBySteps) (defScope sRootsBySteps) .none kV13 dc13 pm13 an13 cd13 ct13) ["size", "step", "number"] := ⟨PySem.W.mg_of X G a13, k13, FRootsBySteps.binds (ps := ["size", "step", "number"]) fun _ _ _ _ _ _ us hl => match us, hl with | [_, _, _], _ => rfl⟩
  have ALawWound : At K mg "_law_wound" f14 (PySem.W.fnOf "_law_wound" "_law_wound" (defArgs sLawWound) (defBody sLawWound) (defScope sLawWound) .none kV14 dc14 pm14 an14 cd14 ct14) ["script", "k"] := ⟨PySem.W.mg_of X G a14, k14, FLawWound.binds (ps := ["script", "k"]) fun _ _ _ _ _ _ us hl => match us, hl with | [_, _], _ => rfl⟩
  have ALawSpin : At K mg "_law_spin" f15 (PySem.W.fnOf "_law_spin" "_law_spin" (defArgs sLawSpin) (defBody sLawSpin) (defScope sLawSpin) .none kV15 dc15 pm15 an15 cd15 ct15) ["reel", "many"] := ⟨PySem.W.mg_of X G a15, k15, FLawSpin.binds (ps := ["reel", "many"]) fun _ _ _ _ _ _ us hl => match us, hl with | [_, _], _ => rfl⟩
  have ALawDrawnSize : At K mg "_law_drawn_size" f16 (PySem.W.fnOf "_law_drawn_size" "_law_drawn_size" (defArgs sLawDrawnSize) (defBody sLawDrawnSize) (defScope sLawDrawnSize) .none kV16 dc16 pm16 an16 cd16 ct16) ["reel"] := ⟨PySem.W.mg_of X G a16, k16, FLawDrawnSize.binds (ps := ["reel"]) fun _ _ _ _ _ _ us hl => match us, hl with | [_], _ => rfl⟩
  have ALawOnes : At K mg "_law_ones" f17 (PySem.W.fnOf "_law_ones" "_law_ones" (defArgs sLawOnes) (defBody sLawOnes) (defScope sLawOnes) .none kV17 dc17 pm17 an17 cd17 ct17) ["number"] := ⟨PySem.W.mg_of X G a17, k17, FLawOnes.binds (ps := ["number"]) fun _ _ _ _ _ _ us hl => match us, hl with | [_], _ => rfl⟩
  have ALawDrawnNumber : At K mg "_law_drawn_number" f18 (PySem.W.fnOf "_law_drawn_number" "_law_drawn_number" (defArgs sLawDrawnNumber) (defBody sLawDrawnNumber) (defScope sLawDrawnNumber) .none kV18 dc18 pm18 an18 cd18 ct18) ["reel", "size", "step"] := ⟨PySem.W.mg_of X G a18, k18, FLawDrawnNumber.binds (ps := ["reel", "size", "step"]) fun _ _ _ _ _ _ us hl => match us, hl with | [_, _, _], _ => rfl⟩
  have ALawRight : At K mg "_law_right" f19 (PySem.W.fnOf "_law_right" "_law_right" (defArgs sLawRight) (defBody sLawRight) (defScope sLawRight) .none kV19 dc19 pm19 an19 cd19 ct19) ["reel"] := ⟨PySem.W.mg_of X G a19, k19, FLawRight.binds (ps := ["reel"]) fun _ _ _ _ _ _ us hl => match us, hl with | [_], _ => rfl⟩
  have ALawPowerRight : At K mg "_law_power_right" f20 (PySem.W.fnOf "_law_power_right" "_law_power_right" (defArgs sLawPowerRight) (defBody sLawPowerRight) (defScope sLawPowerRight) .none kV20 dc20 pm20 an20 cd20 ct20) ["reel"] := ⟨PySem.W.mg_of X G a20, k20, FLawPowerRight.binds (ps := ["reel"]) fun _ _ _ _ _ _ us hl => match us, hl with | [_], _ => rfl⟩
  have z_bool := PySem.W.mg_none_of X G z_bool
  have z_int := PySem.W.mg_none_of X G z_int
  have z_isinstance := PySem.W.mg_none_of X G z_isinstance
  have z_len := PySem.W.mg_none_of X G z_len
  have z_max := PySem.W.mg_none_of X G z_max
  have z_min := PySem.W.mg_none_of X G z_min
  have z_range := PySem.W.mg_none_of X G z_range
  have z_sum := PySem.W.mg_none_of X G z_sum
  have g_MOST_ENTRIES := PySem.W.mg_of X G g_MOST_ENTRIES
  refine ⟨PySem.W.fnOf "law" "law" (defArgs sLaw) (defBody sLaw) (defScope sLaw) .none kV21 dc21 pm21 an21 cd21 ct21, fun s v => .of_eq rfl, fun base _ _ => ?_⟩
  have GIsWhole := ok_is_whole (P := l.prog) (w := w) (base := base) FIsWhole z_isinstance z_int z_bool
  have GIsBetween := ok_is_between FIsBetween GIsWhole AIsWhole
  have GCheckSize := ok_check_size FCheckSize GIsBetween AIsBetween g_MOST_ENTRIES
  have GCheckNumberFrom := ok_check_number_from FCheckNumberFrom GIsWhole AIsWhole
  have GCheckNumberBetween := ok_check_number_between FCheckNumberBetween GIsBetween AIsBetween
  have GPowerWithin := ok_power_within (P := l.prog) (w := w) (mg := mg) (base := base) FPowerWithin
  have GPeaks := ok_peaks FPeaks GCheckSize ACheckSize GPowerWithin APowerWithin
  have GEdges := ok_edges FEdges GPeaks APeaks
  have GRootSums := ok_root_sums FRootSums GEdges AEdges z_len
  have GQuotientsSum := ok_quotients_sum (P := l.prog) (w := w) (mg := mg) (base := base) FQuotientsSum
  have GRootsAlong := ok_roots_along FRootsAlong GQuotientsSum AQuotientsSum
  have GCheckStretch := ok_check_stretch FCheckStretch GCheckSize ACheckSize
  have GRootsTotal := ok_roots_total FRootsTotal GCheckStretch ACheckStretch GRootsAlong ARootsAlong
  have GRootsBySteps := ok_roots_by_steps FRootsBySteps GCheckSize ACheckSize GCheckNumberFrom ACheckNumberFrom GCheckNumberBetween ACheckNumberBetween GRootsAlong ARootsAlong g_MOST_ENTRIES
  have GLawWound := ok_law_wound (P := l.prog) (w := w) (base := base) FLawWound z_max z_len z_int
  have GLawSpin := ok_law_spin (P := l.prog) (w := w) (base := base) FLawSpin z_int
  have GLawDrawnSize := ok_law_drawn_size FLawDrawnSize GLawSpin ALawSpin z_min z_int
  have GLawOnes := ok_law_ones (P := l.prog) (w := w) (mg := mg) (base := base) FLawOnes
  have GLawDrawnNumber := ok_law_drawn_number FLawDrawnNumber GLawSpin ALawSpin z_min
  have GLawRight := ok_law_right FLawRight GLawSpin ALawSpin GLawDrawnSize ALawDrawnSize GLawDrawnNumber ALawDrawnNumber GRootsBySteps ARootsBySteps GRootSums ARootSums z_range z_min z_sum
  have GLawPowerRight := ok_law_power_right FLawPowerRight GLawSpin ALawSpin GLawDrawnSize ALawDrawnSize GLawDrawnNumber ALawDrawnNumber GRootsBySteps ARootsBySteps GLawOnes ALawOnes GRootsTotal ARootsTotal
  exact ok_law FLaw GLawWound ALawWound GLawRight ALawRight GLawPowerRight ALawPowerRight GRootsBySteps ARootsBySteps z_range z_len z_max z_min
end LT
open PySem PySem.W PyProof.Rows
set_option maxRecDepth 100000 in
set_option maxHeartbeats 0 in
theorem PySem.Challenge.cw_logtrees_k24_totals_by_steps_holds : PySem.Challenge.rw_logtrees_k24_totals_by_steps.Holds := by
  w_on; o_law; k_head; (case hw => w_witness2)
  k_fill
  refine L2.walk_of (l := PySem.Challenge.rw_logtrees_k24_totals_by_steps) (n := 63) (k := 8) (x := "script") (CX := fun _ => L2.CX0) (sp := fun w => LT.spLaw _) rfl (by decide) rfl ⟨rfl, by decide, by decide⟩ (fun w h Y => PySem.W.kIn_of Y) ?F (fun _ _ a ns hl _ hS => ⟨a, ns, rfl, hS, hl, fun _ => rfl⟩) (fun _ _ _ _ _ h => h)
  case F =>
    intro w mg fa h KX G hmg
    refine' LT.all_mk KX G hmg ?a0 ?l0 ?c0 ?k0 ?a1 ?l1 ?c1 ?k1 ?a2 ?l2 ?c2 ?k2 ?a3 ?l3 ?c3 ?k3 ?a4 ?l4 ?c4 ?k4 ?a5 ?l5 ?c5 ?k5 ?a6 ?l6 ?c6 ?k6 ?a7 ?l7 ?c7 ?k7 ?a8 ?l8 ?c8 ?k8 ?a9 ?l9 ?c9 ?k9 ?a10 ?l10 ?c10 ?k10 ?a11 ?l11 ?c11 ?k11 ?a12 ?l12 ?c12 ?k12 ?a13 ?l13 ?c13 ?k13 ?a14 ?l14 ?c14 ?k14 ?a15 ?l15 ?c15 ?k15 ?a16 ?l16 ?c16 ?k16 ?a17 ?l17 ?c17 ?k17 ?a18 ?l18 ?c18 ?k18 ?a19 ?l19 ?c19 ?k19 ?a20 ?l20 ?c20 ?k20 ?a21 ?l21 ?c21 ?k21 ?z_bool ?z_int ?z_isinstance ?z_len ?z_max ?z_min ?z_range ?z_sum ?g_MOST_ENTRIES
    (case a0 => k_is)
    (case l0 => k_is)
    (case c0 => k_is)
    (case k0 => k_is)
    (case a1 => k_is)
    (case l1 => k_is)
    (case c1 => k_is)
    (case k1 => k_is)
    (case a2 => k_is)
    (case l2 => k_is)
    (case c2 => k_is)
    (case k2 => k_is)
    (case a3 => k_is)
    (case l3 => k_is)
    (case c3 => k_is)
    (case k3 => k_is)
    (case a4 => k_is)
    (case l4 => k_is)
    (case c4 => k_is)
    (case k4 => k_is)
    (case a5 => k_is)
    (case l5 => k_is)
    (case c5 => k_is)
    (case k5 => k_is)
    (case a6 => k_is)
    (case l6 => k_is)
    (case c6 => k_is)
    (case k6 => k_is)
    (case a7 => k_is)
    (case l7 => k_is)
    (case c7 => k_is)
    (case k7 => k_is)
    (case a8 => k_is)
    (case l8 => k_is)
    (case c8 => k_is)
    (case k8 => k_is)
    (case a9 => k_is)
    (case l9 => k_is)
    (case c9 => k_is)
    (case k9 => k_is)
    (case a10 => k_is)
    (case l10 => k_is)
    (case c10 => k_is)
    (case k10 => k_is)
    (case a11 => k_is)
    (case l11 => k_is)
    (case c11 => k_is)
    (case k11 => k_is)
    (case a12 => k_is)
    (case l12 => k_is)
    (case c12 => k_is)
    (case k12 => k_is)
    (case a13 => k_is)
    (case l13 => k_is)
    (case c13 => k_is)
    (case k13 => k_is)
    (case a14 => k_is)
    (case l14 => k_is)
    (case c14 => k_is)
    (case k14 => k_is)
    (case a15 => k_is)
    (case l15 => k_is)
    (case c15 => k_is)
    (case k15 => k_is)
    (case a16 => k_is)
    (case l16 => k_is)
    (case c16 => k_is)
    (case k16 => k_is)
    (case a17 => k_is)
    (case l17 => k_is)
    (case c17 => k_is)
    (case k17 => k_is)
    (case a18 => k_is)
    (case l18 => k_is)
    (case c18 => k_is)
    (case k18 => k_is)
    (case a19 => k_is)
    (case l19 => k_is)
    (case c19 => k_is)
    (case k19 => k_is)
    (case a20 => k_is)
    (case l20 => k_is)
    (case c20 => k_is)
    (case k20 => k_is)
    (case a21 => k_is)
    (case l21 => k_is)
    (case c21 => k_is)
    (case k21 => k_is)
    (case z_bool => k_is)
    (case z_int => k_is)
    (case z_isinstance => k_is)
    (case z_len => k_is)
    (case z_max => k_is)
    (case z_min => k_is)
    (case z_range => k_is)
    (case z_sum => k_is)
    (case g_MOST_ENTRIES => k_is)
