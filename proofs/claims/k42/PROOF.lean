import PyProof.Rows.All
import Wide.All
import OpenK.AllK
import Wide.FinOn
import HandS.ForMost
import HandS.Wide
import HandS.WideBits
import HandS.IsInst
import HandS.Style
import HandS.Deep
import HandS.RaiseMore
import HandS.Conv
import HandS.Flow
import HandS.SortRule
import HandS.Exc
import HandS.ExcOwn
import HandS.ExcValue
import HandS.ExcIs
import HandS.WordsExc
import HandS.NoneIn
import KE.DataMinMax
import KE.SortData
import HandS.FStr
import HandS.ExcInit
import HandS.ExcSuper
import HandS.ExcField
import HandS.ClsMeth
import KE.KExcSuper
import PyProof.ReprRoads
import PyProof.Rows.NestShow
import HandS.TupLen
import HandS.Set
import HandS.SetFor
import HandS.Strs
import HandS.Defaults
import KE.DataAny
import HandS.TupSets
import HandS.Text
import HandS.StrMore
import HandS.Property
import HandS.TupAny
import HandS.OwnEq
import PySem.Challenge.RW_logtrees_k42_budgets_of_sums
set_option Elab.async false
set_option linter.all false
set_option maxRecDepth 100000
set_option maxHeartbeats 4000000
namespace LT
/-- the greatest power of two less than m (m from 2) -/
def gp (m : Nat) : Nat := 2 ^ Nat.log2 (m - 1)
theorem gp_pos (m : Nat) : 0 < gp m := Nat.pow_pos (by decide)
theorem gp_lt {m : Nat} (h : 2 ≤ m) : gp m < m := by
  have := Nat.log2_self_le (n := m - 1) (by omega)
  unfold gp; omega
theorem gp_ge {m : Nat} (h : 2 ≤ m) : m ≤ 2 * gp m := by
  have := Nat.lt_log2_self (n := m - 1)
  unfold gp; rw [Nat.pow_succ] at this; omega
theorem pow_eq_of {i j : Nat} {m : Nat} (h1 : 2 ^ i < m) (h2 : m ≤ 2 * 2 ^ i) (h3 : 2 ^ j < m) (h4 : m ≤ 2 * 2 ^ j) : i = j := by
  have a : 2 ^ i < 2 ^ (j + 1) := by rw [Nat.pow_succ]; omega
  have b : 2 ^ j < 2 ^ (i + 1) := by rw [Nat.pow_succ]; omega
  have a' := (Nat.pow_lt_pow_iff_right (by decide : 1 < 2)).mp a
  have b' := (Nat.pow_lt_pow_iff_right (by decide : 1 < 2)).mp b
  omega
theorem gp_eq {i m : Nat} (h1 : 2 ^ i < m) (h2 : m ≤ 2 * 2 ^ i) : gp m = 2 ^ i := by
  have h : 2 ≤ m := by have := Nat.pow_pos (a := 2) (n := i) (by decide); omega
  have := pow_eq_of (gp_lt h) (gp_ge h) h1 h2
  unfold gp; rw [this]
theorem gp_pow (i : Nat) : gp (2 ^ (i + 1)) = 2 ^ i := gp_eq (by rw [Nat.pow_succ]; have := Nat.pow_pos (a := 2) (n := i) (by decide); omega) (by rw [Nat.pow_succ]; omega)

/-- siblings from the root's half down to the leaf's: nodes as (begin, length-end) pairs -/
def sib (b m e : Nat) : List (Nat × Nat) :=
  if h : m ≤ 1 then [] else
    if e < b + gp m then (b + gp m, b + m) :: sib b (gp m) e
    else (b, b + gp m) :: sib (b + gp m) (m - gp m) e
termination_by m
decreasing_by
  · exact gp_lt (by omega)
  · have := gp_pos m; omega
theorem sib_one {b m e : Nat} (h : m ≤ 1) : sib b m e = [] := by rw [sib]; simp [h]
theorem sib_low {b m e : Nat} (h : 2 ≤ m) (k : e < b + gp m) : sib b m e = (b + gp m, b + m) :: sib b (gp m) e := by
  rw [sib]; rw [dif_neg (by omega), if_pos k]
theorem sib_high {b m e : Nat} (h : 2 ≤ m) (k : ¬ e < b + gp m) : sib b m e = (b, b + gp m) :: sib (b + gp m) (m - gp m) e := by
  rw [sib]; rw [dif_neg (by omega), if_neg k]

/-! ### joining up again -/
def join (x y : Nat × Nat) : Nat × Nat := (min x.1 y.1, max x.2 y.2)
/-- the halves of a node -/
def halv (x : Nat × Nat) : (Nat × Nat) × (Nat × Nat) := ((x.1, x.1 + gp (x.2 - x.1)), (x.1 + gp (x.2 - x.1), x.2))
def ok1 (x y : Nat × Nat) : Prop := (join x y).1 + 2 ≤ (join x y).2 ∧ (halv (join x y) = (x, y) ∨ halv (join x y) = (y, x))
def oks : Nat × Nat → List (Nat × Nat) → Prop
  | _, [] => True
  | x, y :: r => ok1 x y ∧ oks (join x y) r
def top : Nat × Nat → List (Nat × Nat) → Nat × Nat
  | x, [] => x
  | x, y :: r => top (join x y) r
theorem oks_append : ∀ (x : Nat × Nat) (l r : List (Nat × Nat)), oks x l → oks (top x l) r → oks x (l ++ r)
  | _, [], _, _, h => h
  | x, y :: l, r, h1, h2 => ⟨h1.1, oks_append (join x y) l r h1.2 h2⟩
theorem top_append : ∀ (x : Nat × Nat) (l r : List (Nat × Nat)), top x (l ++ r) = top (top x l) r
  | _, [], _ => rfl
  | x, y :: l, r => top_append (join x y) l r
theorem sib_up : ∀ (m b e : Nat), b ≤ e → e < b + m → oks (e, e + 1) (sib b m e).reverse ∧ top (e, e + 1) (sib b m e).reverse = (b, b + m) := by
  intro m
  induction m using Nat.strongRecOn with
  | ind m ih =>
    intro b e h1 h2
    by_cases hm : m ≤ 1
    · have : m = 1 := by omega
      subst this
      rw [sib_one (by omega)]
      have : e = b := by omega
      subst this
      exact ⟨True.intro, rfl⟩
    · have g1 := gp_lt (m := m) (by omega)
      have g2 := gp_pos m
      by_cases k : e < b + gp m
      · rw [sib_low (by omega) k, List.reverse_cons]
        obtain ⟨p, q⟩ := ih (gp m) g1 b e h1 k
        have j : join (b, b + gp m) (b + gp m, b + m) = (b, b + m) := by
          unfold join; simp only []; rw [Nat.min_eq_left (by omega), Nat.max_eq_right (by omega)]
        refine ⟨oks_append _ _ _ p ?_, ?_⟩
        · rw [q]
          refine ⟨⟨?_, .inl ?_⟩, True.intro⟩
          · rw [j]; simp only []; omega
          · rw [j]; unfold halv; simp only []; rw [Nat.add_sub_cancel_left]
        · rw [top_append, q]; exact j
      · rw [sib_high (by omega) k, List.reverse_cons]
        obtain ⟨p, q⟩ := ih (m - gp m) (by omega) (b + gp m) e (by omega) (by omega)
        have e2 : b + gp m + (m - gp m) = b + m := by omega
        rw [e2] at q
        have j : join (b + gp m, b + m) (b, b + gp m) = (b, b + m) := by
          unfold join; simp only []; rw [Nat.min_eq_right (by omega), Nat.max_eq_left (by omega)]
        refine ⟨oks_append _ _ _ p ?_, ?_⟩
        · rw [q]
          refine ⟨⟨?_, .inr ?_⟩, True.intro⟩
          · rw [j]; simp only []; omega
          · rw [j]; unfold halv; simp only []; rw [Nat.add_sub_cancel_left]
        · rw [top_append, q]; exact j
theorem sib_len_pow (i : Nat) : ∀ (b e : Nat), b ≤ e → e < b + 2 ^ i → (sib b (2 ^ i) e).length = i := by
  induction i with
  | zero => intro b e h1 h2; rw [sib_one (by simp)]; rfl
  | succ i ih =>
    intro b e h1 h2
    have h3 : 2 ≤ 2 ^ (i + 1) := by rw [Nat.pow_succ]; have := Nat.pow_pos (a := 2) (n := i) (by decide); omega
    have g := gp_pow i
    have e2 : 2 ^ (i + 1) - 2 ^ i = 2 ^ i := by rw [Nat.pow_succ]; omega
    by_cases k : e < b + gp (2 ^ (i + 1))
    · rw [sib_low h3 k, List.length_cons, g, ih b e h1 (by omega)]
    · rw [sib_high h3 k, List.length_cons, g, e2, ih (b + 2 ^ i) e (by omega) (by rw [Nat.pow_succ] at h2; omega)]
/-! ### the peaks by digits: (begin, height) -/
def pk : Nat → Nat → Nat → List (Nat × Nat)
  | 0, _, _ => []
  | i + 1, n, b => if n.testBit i then (b, i) :: pk i n (b + 2 ^ i) else pk i n b
theorem mod_succ (n i : Nat) : n % 2 ^ (i + 1) = (if n.testBit i then 2 ^ i else 0) + n % 2 ^ i := by
  rw [Nat.mod_pow_succ, Nat.testBit_eq_decide_div_mod_eq, Nat.add_comm]
  have h : n / 2 ^ i % 2 = 0 ∨ n / 2 ^ i % 2 = 1 := by omega
  rcases h with h | h <;> rw [h] <;> simp
theorem pk_nil : ∀ (i n b : Nat), n % 2 ^ i = 0 → pk i n b = []
  | 0, _, _, _ => rfl
  | i + 1, n, b, h => by
    rw [mod_succ] at h
    have p := Nat.pow_pos (a := 2) (n := i) (by decide)
    unfold pk
    cases t : n.testBit i with
    | true => rw [t] at h; simp at h
    | false => rw [t] at h; simp at h; simp; exact pk_nil i n b h
theorem pk_ne : ∀ (i n b : Nat), n % 2 ^ i ≠ 0 → pk i n b ≠ []
  | 0, _, _, h => by simp [Nat.mod_one] at h
  | i + 1, n, b, h => by
    rw [mod_succ] at h
    unfold pk
    cases t : n.testBit i with
    | true => simp
    | false => rw [t] at h; simp at h; simp; exact pk_ne i n b (by omega)
theorem pk_begin : ∀ (i n b : Nat) (x : Nat × Nat), x ∈ pk i n b → b ≤ x.1 ∧ x.2 < i
  | 0, _, _, _, h => by simp [pk] at h
  | i + 1, n, b, x, h => by
    unfold pk at h
    cases t : n.testBit i with
    | true =>
      rw [t] at h; simp at h
      rcases h with h | h
      · subst h; exact ⟨Nat.le_refl _, Nat.lt_succ_self _⟩
      · have := pk_begin i n _ x h; have p := Nat.pow_pos (a := 2) (n := i) (by decide); omega
    | false =>
      rw [t] at h; simp at h
      have := pk_begin i n _ x h; omega
/-- what the law says of the levels: s the place of the first row, of t rows in all -/
def lev (t : Nat) : Nat → List (Nat × Nat) → List (Nat × Nat × Nat)
  | _, [] => []
  | s, x :: r => (x.1, x.1 + 2 ^ x.2, x.2 + min (s + 1) (t - 1)) :: lev t (s + 1) r
def due (e : Nat) (l : List (Nat × Nat × Nat)) : List Nat := (l.filter fun x => decide (x.1 ≤ e) && decide (e < x.2.1)).map fun x => x.2.2
theorem due_none (t e : Nat) : ∀ (l : List (Nat × Nat)) (s : Nat), (∀ x ∈ l, e < x.1) → due e (lev t s l) = []
  | [], _, _ => rfl
  | x :: r, s, h => by
    have h1 := h x (List.mem_cons_self)
    have ih := due_none t e r (s + 1) fun y hy => h y (List.mem_cons_of_mem _ hy)
    show List.map _ (List.filter _ ((x.1, x.1 + 2 ^ x.2, x.2 + min (s + 1) (t - 1)) :: lev t (s + 1) r)) = []
    rw [List.filter_cons, if_neg (by simp; omega)]
    exact ih
theorem due_is (n e : Nat) : ∀ (i b s : Nat), b ≤ e → e < b + n % 2 ^ i → due e (lev (s + (pk i n b).length) s (pk i n b)) = [(sib b (n % 2 ^ i) e).length + min s (s + (pk i n b).length - 1)] := by
  intro i
  induction i with
  | zero => intro b s h1 h2; simp [Nat.mod_one] at h2; omega
  | succ i ih =>
    intro b s h1 h2
    have p := Nat.pow_pos (a := 2) (n := i) (by decide)
    have ml := Nat.mod_lt n p
    cases t : n.testBit i with
    | false =>
      have e1 : n % 2 ^ (i + 1) = n % 2 ^ i := by rw [mod_succ, t]; simp
      have e2 : pk (i + 1) n b = pk i n b := by show (if n.testBit i = true then _ else _) = _; rw [t]; simp
      rw [e1] at h2
      rw [e1, e2]; exact ih b s h1 h2
    | true =>
      have e1 : n % 2 ^ (i + 1) = 2 ^ i + n % 2 ^ i := by rw [mod_succ, t]; simp
      have e2 : pk (i + 1) n b = (b, i) :: pk i n (b + 2 ^ i) := by show (if n.testBit i = true then _ else _) = _; rw [t]; simp
      rw [e1] at h2
      rw [e1, e2, List.length_cons]
      by_cases r0 : n % 2 ^ i = 0
      · rw [pk_nil i n _ r0, r0]
        rw [r0] at h2
        rw [Nat.add_zero] at h2
        rw [Nat.add_zero (2 ^ i), sib_len_pow i b e h1 h2]
        show List.map _ (List.filter _ [(b, b + 2 ^ i, i + min (s + 1) (s + (0 + 1) - 1))]) = _
        rw [List.filter_cons, if_pos (by simp; omega)]
        simp
      · have hne : 1 ≤ (pk i n (b + 2 ^ i)).length := by
          have := pk_ne i n (b + 2 ^ i) r0
          cases hh : pk i n (b + 2 ^ i) with
          | nil => exact absurd hh this
          | cons _ _ => rw [List.length_cons]; omega
        have g : gp (2 ^ i + n % 2 ^ i) = 2 ^ i := gp_eq (by omega) (by omega)
        by_cases k : e < b + 2 ^ i
        · rw [sib_low (by omega) (by rw [g]; exact k), g, List.length_cons, sib_len_pow i b e h1 k]
          have d := due_none (s + ((pk i n (b + 2 ^ i)).length + 1)) e (pk i n (b + 2 ^ i)) (s + 1) fun x hx => by have := pk_begin _ _ _ x hx; omega
          show List.map _ (List.filter _ ((b, b + 2 ^ i, i + min (s + 1) (s + ((pk i n (b + 2 ^ i)).length + 1) - 1)) :: lev (s + ((pk i n (b + 2 ^ i)).length + 1)) (s + 1) (pk i n (b + 2 ^ i)))) = _
          rw [List.filter_cons, if_pos (by simp; omega), List.map_cons]
          have d' : List.map (fun x => x.2.2) (List.filter (fun x => decide (x.1 ≤ e) && decide (e < x.2.1)) (lev (s + ((pk i n (b + 2 ^ i)).length + 1)) (s + 1) (pk i n (b + 2 ^ i)))) = [] := d
          rw [d']
          simp
          omega
        · rw [sib_high (by omega) (by rw [g]; exact k), g, List.length_cons, Nat.add_sub_cancel_left]
          have q := ih (b + 2 ^ i) (s + 1) (by omega) (by omega)
          have e3 : s + 1 + (pk i n (b + 2 ^ i)).length = s + ((pk i n (b + 2 ^ i)).length + 1) := by omega
          rw [e3] at q
          show List.map _ (List.filter _ ((b, b + 2 ^ i, i + min (s + 1) (s + ((pk i n (b + 2 ^ i)).length + 1) - 1)) :: lev (s + ((pk i n (b + 2 ^ i)).length + 1)) (s + 1) (pk i n (b + 2 ^ i)))) = _
          rw [List.filter_cons, if_neg (by simp; omega)]
          refine Eq.trans q ?_
          congr 1
          omega
/-! ### which pairs are nodes -/
/-- the bits of m - 1 -/
def lb (m : Nat) : Nat := if m ≤ 1 then 0 else Nat.log2 (m - 1) + 1
theorem lb_le {x i : Nat} (h : x ≤ 2 ^ i) : lb x ≤ i := by
  unfold lb
  by_cases k : x ≤ 1
  · rw [if_pos k]; omega
  · rw [if_neg k]
    have h1 := Nat.log2_self_le (n := x - 1) (by omega)
    have h2 : 2 ^ Nat.log2 (x - 1) < 2 ^ i := by omega
    exact (Nat.pow_lt_pow_iff_right (by decide : 1 < 2)).mp h2
theorem lb_ge (x : Nat) : x ≤ 2 ^ lb x := by
  unfold lb
  by_cases k : x ≤ 1
  · rw [if_pos k]; omega
  · rw [if_neg k]
    have := Nat.lt_log2_self (n := x - 1)
    omega
theorem lb_pow (i : Nat) : lb (2 ^ i) = i := by
  have h1 := lb_le (Nat.le_refl (2 ^ i))
  have h2 := (Nat.pow_le_pow_iff_right (by decide : 1 < 2)).mp (lb_ge (2 ^ i))
  omega
theorem lb_gp {m : Nat} (h : 2 ≤ m) : 2 ^ lb m = 2 * gp m := by
  unfold lb gp; rw [if_neg (by omega), Nat.pow_succ]; omega
def tree (n b m : Nat) : Prop := 2 ^ lb m ∣ b ∧ (m = 2 ^ lb m ∨ b + m = n)
theorem tree_root (n : Nat) : tree n 0 n := ⟨Nat.dvd_zero _, .inr (Nat.zero_add _)⟩
theorem tree_low {n b m : Nat} (h : 2 ≤ m) (t : tree n b m) : tree n b (gp m) := by
  obtain ⟨d, _⟩ := t
  rw [lb_gp h] at d
  have e : 2 ^ lb (gp m) = gp m := by unfold gp; rw [lb_pow]
  exact ⟨by rw [e]; exact Nat.dvd_trans (Nat.dvd_mul_left _ _) d, .inl e.symm⟩
theorem tree_high {n b m : Nat} (h : 2 ≤ m) (t : tree n b m) : tree n (b + gp m) (m - gp m) := by
  obtain ⟨d, k⟩ := t
  rw [lb_gp h] at d k
  have g1 := gp_lt h
  have g2 := gp_ge h
  have dg : 2 ^ lb (m - gp m) ∣ gp m := by
    have : lb (m - gp m) ≤ Nat.log2 (m - 1) := lb_le (by unfold gp at g1 g2 ⊢; omega)
    exact Nat.pow_dvd_pow 2 this
  refine ⟨Nat.dvd_add (Nat.dvd_trans dg (Nat.dvd_trans (Nat.dvd_mul_left _ _) d)) dg, ?_⟩
  rcases k with k | k
  · left
    have e : m - gp m = gp m := by omega
    rw [e]
    unfold gp; rw [lb_pow]
  · right; omega
theorem sib_len_le : ∀ (m b e : Nat), b ≤ e → e < b + m → (sib b m e).length ≤ lb m := by
  intro m
  induction m using Nat.strongRecOn with
  | ind m ih =>
    intro b e h1 h2
    by_cases hm : m ≤ 1
    · rw [sib_one hm]; exact Nat.zero_le _
    · have g1 := gp_lt (m := m) (by omega)
      have g2 := gp_ge (m := m) (by omega)
      have g3 := gp_pos m
      have e1 : lb m = Nat.log2 (m - 1) + 1 := by unfold lb; rw [if_neg hm]
      by_cases k : e < b + gp m
      · rw [sib_low (by omega) k, List.length_cons]
        have := ih (gp m) g1 b e h1 k
        have e2 : lb (gp m) = Nat.log2 (m - 1) := by unfold gp; rw [lb_pow]
        omega
      · rw [sib_high (by omega) k, List.length_cons]
        have := ih (m - gp m) (by omega) (b + gp m) e (by omega) (by omega)
        have e2 : lb (m - gp m) ≤ Nat.log2 (m - 1) := lb_le (by unfold gp at g1 g2 ⊢; omega)
        omega
end LT
namespace LT
open PySem PySem.Spec PyProof.Rows L2
def topS (i : Nat) : Stmt := PySem.Challenge.pw_logtrees_k42_budgets_of_sums.main.body.getD i (.Pass ⟨0, 0, 0, 0⟩)
abbrev sIsWhole : Stmt := topS 11
theorem scIsWhole : FnScope ["value"] ["value"] (defScope sIsWhole) := ⟨rfl, rfl, rfl, by decide +kernel, rfl, by decide +kernel, by decide +kernel⟩
abbrev sIsBetween : Stmt := topS 12
theorem scIsBetween : FnScope ["value", "low", "high"] ["value", "low", "high"] (defScope sIsBetween) := ⟨rfl, rfl, rfl, by decide +kernel, rfl, by decide +kernel, by decide +kernel⟩
abbrev sCheckSize : Stmt := topS 13
theorem scCheckSize : FnScope ["size"] ["size"] (defScope sCheckSize) := ⟨rfl, rfl, rfl, by decide +kernel, rfl, by decide +kernel, by decide +kernel⟩
abbrev sCheckOlder : Stmt := topS 14
theorem scCheckOlder : FnScope ["size", "older"] ["size", "older"] (defScope sCheckOlder) := ⟨rfl, rfl, rfl, by decide +kernel, rfl, by decide +kernel, by decide +kernel⟩
abbrev sCheckNumberBetween : Stmt := topS 15
theorem scCheckNumberBetween : FnScope ["number", "least", "most"] ["number", "least", "most"] (defScope sCheckNumberBetween) := ⟨rfl, rfl, rfl, by decide +kernel, rfl, by decide +kernel, by decide +kernel⟩
abbrev sPowerWithin : Stmt := topS 17
theorem scPowerWithin : FnScope ["number"] ["number"] (defScope sPowerWithin) := ⟨rfl, rfl, rfl, by decide +kernel, rfl, by decide +kernel, by decide +kernel⟩
abbrev sPeaks : Stmt := topS 18
theorem scPeaks : FnScope ["size", "found", "begin", "end"] ["size"] (defScope sPeaks) := ⟨rfl, rfl, rfl, by decide +kernel, rfl, by decide +kernel, by decide +kernel⟩
abbrev sEdges : Stmt := topS 19
theorem scEdges : FnScope ["size", "begin", "_"] ["size"] (defScope sEdges) := ⟨rfl, rfl, rfl, by decide +kernel, rfl, by decide +kernel, by decide +kernel⟩
abbrev sMadeSums : Stmt := topS 21
theorem scMadeSums : FnScope ["size"] ["size"] (defScope sMadeSums) := ⟨rfl, rfl, rfl, by decide +kernel, rfl, by decide +kernel, by decide +kernel⟩
abbrev sAppendSums : Stmt := topS 22
theorem scAppendSums : FnScope ["size", "number"] ["size", "number"] (defScope sAppendSums) := ⟨rfl, rfl, rfl, by decide +kernel, rfl, by decide +kernel, by decide +kernel⟩
abbrev sRootSums : Stmt := topS 23
theorem scRootSums : FnScope ["size"] ["size"] (defScope sRootSums) := ⟨rfl, rfl, rfl, by decide +kernel, rfl, by decide +kernel, by decide +kernel⟩
abbrev sIsOperation : Stmt := topS 26
theorem scIsOperation : FnScope ["value"] ["value"] (defScope sIsOperation) := ⟨rfl, rfl, rfl, by decide +kernel, rfl, by decide +kernel, by decide +kernel⟩
abbrev sLiveLogInit : Stmt := inClass (topS 27) 0
theorem scLiveLogInit : FnScope ["self", "size"] ["self", "size"] (defScope sLiveLogInit) := ⟨rfl, rfl, rfl, by decide +kernel, rfl, by decide +kernel, by decide +kernel⟩
abbrev sLiveLogEq : Stmt := inClass (topS 27) 1
theorem scLiveLogEq : FnScope ["self", "other"] ["self", "other"] (defScope sLiveLogEq) := ⟨rfl, rfl, rfl, by decide +kernel, rfl, by decide +kernel, by decide +kernel⟩
abbrev sLiveLogPresent : Stmt := inClass (topS 27) 2
theorem scLiveLogPresent : FnScope ["self"] ["self"] (defScope sLiveLogPresent) := ⟨rfl, rfl, rfl, by decide +kernel, rfl, by decide +kernel, by decide +kernel⟩
abbrev sLiveLogMarks : Stmt := inClass (topS 27) 3
theorem scLiveLogMarks : FnScope ["self"] ["self"] (defScope sLiveLogMarks) := ⟨rfl, rfl, rfl, by decide +kernel, rfl, by decide +kernel, by decide +kernel⟩
abbrev sLiveLogSpent : Stmt := inClass (topS 27) 4
theorem scLiveLogSpent : FnScope ["self"] ["self"] (defScope sLiveLogSpent) := ⟨rfl, rfl, rfl, by decide +kernel, rfl, by decide +kernel, by decide +kernel⟩
abbrev sLiveLogAppend : Stmt := inClass (topS 27) 5
theorem scLiveLogAppend : FnScope ["self", "number"] ["self", "number"] (defScope sLiveLogAppend) := ⟨rfl, rfl, rfl, by decide +kernel, rfl, by decide +kernel, by decide +kernel⟩
abbrev sLiveLogMark : Stmt := inClass (topS 27) 6
theorem scLiveLogMark : FnScope ["self"] ["self"] (defScope sLiveLogMark) := ⟨rfl, rfl, rfl, by decide +kernel, rfl, by decide +kernel, by decide +kernel⟩
abbrev sLiveLogCut : Stmt := inClass (topS 27) 7
theorem scLiveLogCut : FnScope ["self", "size"] ["self", "size"] (defScope sLiveLogCut) := ⟨rfl, rfl, rfl, by decide +kernel, rfl, by decide +kernel, by decide +kernel⟩
abbrev sLiveLogUndo : Stmt := inClass (topS 27) 8
theorem scLiveLogUndo : FnScope ["self", "_"] ["self"] (defScope sLiveLogUndo) := ⟨rfl, rfl, rfl, by decide +kernel, rfl, by decide +kernel, by decide +kernel⟩
abbrev sLiveLogLog : Stmt := inClass (topS 27) 9
theorem scLiveLogLog : FnScope ["self", "operation", "_"] ["self"] (defScope sLiveLogLog) := ⟨rfl, rfl, rfl, by decide +kernel, rfl, by decide +kernel, by decide +kernel⟩
abbrev sLiveLogPreview : Stmt := inClass (topS 27) 11
theorem scLiveLogPreview : FnScope ["self", "operations", "operation", "state"] ["self", "operations"] (defScope sLiveLogPreview) := ⟨rfl, rfl, rfl, by decide +kernel, rfl, by decide +kernel, by decide +kernel⟩
abbrev sLiveLogPerform : Stmt := inClass (topS 27) 12
theorem scLiveLogPerform : FnScope ["self", "operation", "state"] ["self", "operation"] (defScope sLiveLogPerform) := ⟨rfl, rfl, rfl, by decide +kernel, rfl, by decide +kernel, by decide +kernel⟩
abbrev sLiveLogBehind : Stmt := inClass (topS 27) 13
theorem scLiveLogBehind : FnScope ["self", "state", "operation", "present", "marks", "spent", "number", "size", "mark"] ["self", "state", "operation"] (defScope sLiveLogBehind) := ⟨rfl, rfl, rfl, by decide +kernel, rfl, by decide +kernel, by decide +kernel⟩
abbrev sBudgetLogInit : Stmt := inClass (topS 28) 0
theorem scBudgetLogInit : FnScope ["self", "size", "budget"] ["self", "size", "budget"] (defScope sBudgetLogInit) := ⟨rfl, rfl, rfl, by decide +kernel, rfl, by decide +kernel, by decide +kernel⟩
abbrev sBudgetLogEq : Stmt := inClass (topS 28) 1
theorem scBudgetLogEq : FnScope ["self", "other"] ["self", "other"] (defScope sBudgetLogEq) := ⟨rfl, rfl, rfl, by decide +kernel, rfl, by decide +kernel, by decide +kernel⟩
abbrev sBudgetLogBudget : Stmt := inClass (topS 28) 2
theorem scBudgetLogBudget : FnScope ["self"] ["self"] (defScope sBudgetLogBudget) := ⟨rfl, rfl, rfl, by decide +kernel, rfl, by decide +kernel, by decide +kernel⟩
abbrev sLawBag : Stmt := topS 30
theorem scLawBag : FnScope ["cell"] ["cell"] (defScope sLawBag) := ⟨rfl, rfl, rfl, by decide +kernel, rfl, by decide +kernel, by decide +kernel⟩
abbrev sLawPick : Stmt := topS 31
theorem scLawPick : FnScope ["bag", "many", "told", "seed", "turn", "first", "second", "drawn"] ["bag", "many"] (defScope sLawPick) := ⟨rfl, rfl, rfl, by decide +kernel, rfl, by decide +kernel, by decide +kernel⟩
abbrev sLawOnes : Stmt := topS 32
theorem scLawOnes : FnScope ["number", "found"] ["number"] (defScope sLawOnes) := ⟨rfl, rfl, rfl, by decide +kernel, rfl, by decide +kernel, by decide +kernel⟩
abbrev sLawCost : Stmt := topS 38
theorem scLawCost : FnScope ["size_here", "number"] ["size_here", "number"] (defScope sLawCost) := ⟨rfl, rfl, rfl, by decide +kernel, rfl, by decide +kernel, by decide +kernel⟩
abbrev sLawOperation : Stmt := topS 40
theorem scLawOperation : FnScope ["bag", "state", "most", "many", "way"] ["bag", "state", "most"] (defScope sLawOperation) := ⟨rfl, rfl, rfl, by decide +kernel, rfl, by decide +kernel, by decide +kernel⟩
abbrev sLawAfter : Stmt := topS 41
theorem scLawAfter : FnScope ["state", "step", "many", "marks", "spent", "mark"] ["state", "step"] (defScope sLawAfter) := ⟨rfl, rfl, rfl, by decide +kernel, rfl, by decide +kernel, by decide +kernel⟩
abbrev sLawCalled : Stmt := topS 42
theorem scLawCalled : FnScope ["live", "step"] ["live", "step"] (defScope sLawCalled) := ⟨rfl, rfl, rfl, by decide +kernel, rfl, by decide +kernel, by decide +kernel⟩
abbrev sLawTold : Stmt := topS 43
theorem scLawTold : FnScope ["live"] ["live"] (defScope sLawTold) := ⟨rfl, rfl, rfl, by decide +kernel, rfl, by decide +kernel, by decide +kernel⟩
abbrev sLawTried : Stmt := topS 44
theorem scLawTried : FnScope ["live", "step", "told", "e"] ["live", "step"] (defScope sLawTried) := ⟨rfl, rfl, rfl, by decide +kernel, rfl, by decide +kernel, by decide +kernel⟩
abbrev sLawLooked : Stmt := topS 45
theorem scLawLooked : FnScope ["live", "one", "two", "told", "e"] ["live", "one", "two"] (defScope sLawLooked) := ⟨rfl, rfl, rfl, by decide +kernel, rfl, by decide +kernel, by decide +kernel⟩
abbrev sLawDue : Stmt := topS 46
theorem scLawDue : FnScope ["state", "some", "budget", "step"] ["state", "some", "budget"] (defScope sLawDue) := ⟨rfl, rfl, rfl, by decide +kernel, rfl, by decide +kernel, by decide +kernel⟩
abbrev sLawRight : Stmt := topS 47
theorem scLawRight : FnScope ["bag", "many", "most", "state", "past", "calls", "budget", "live", "turn", "one", "two", "due", "told"] ["bag", "many", "most"] (defScope sLawRight) := ⟨rfl, rfl, rfl, by decide +kernel, rfl, by decide +kernel, by decide +kernel⟩
abbrev sLaw : Stmt := topS 48
theorem scLaw : FnScope ["script", "cell", "bag", "one", "two", "bare", "told", "up", "wrong"] ["script"] (defScope sLaw) := ⟨rfl, rfl, rfl, by decide +kernel, rfl, by decide +kernel, by decide +kernel⟩
/-- a def as it stands behind the top -/
structure At (K : PySem.W.Frag) (mg : Str → Option Value) (x : Str) (f : Addr) (fd : FuncData) (ps : List Str) : Prop where
  m : mg x = some (.ref f)
  kp : PySem.W.keepIn K (.ref f) = true
  b : Binds K fd ps []
theorem units1 {k : Nat} {A : Around} (r : Room k A) : A.units + 65 < cLine := by have := r.un; omega
/-- all but b as it was -/
def But (b : Addr) (H H' : Hp) : Prop := ∀ a o, a ≠ b → H a = some o → H' a = some o
theorem But.refl (b : Addr) (H : Hp) : But b H H := fun _ _ _ h => h
theorem But.trans {b : Addr} {H H1 H2 : Hp} (x : But b H H1) (y : But b H1 H2) : But b H H2 := fun a o n h => y a o n (x a o n h)
theorem But.of {b : Addr} {H H1 : Hp} (x : Same H H1) : But b H H1 := fun a o _ h => x a o h
theorem same_upd {H : Hp} {p : Addr} {o : HO} (h : H p = none) : Same H (upd H p o) := fun b x e => by
  rw [upd_ne (ne_of_none e h)]
  exact e
def BagAt (H : Hp) (b : Addr) : Prop := ∃ x y z : Int, H b = some (.lst [.int x, .int y, .int z])
theorem BagAt.same {H H' : Hp} {b : Addr} (h : BagAt H b) (s : Same H H') : BagAt H' b := by
  obtain ⟨x, y, z, e⟩ := h
  exact ⟨x, y, z, s _ _ e⟩
/-- a pair of ints -/
def Nd (H : Hp) (v : V) (x : Nat × Nat) : Prop := ∃ p, v = .ref p ∧ H p = some (.tup [.int x.1, .int x.2])
theorem Nd.same {H H' : Hp} {v : V} {x : Nat × Nat} (h : Nd H v x) (s : Same H H') : Nd H' v x := by
  obtain ⟨p, e, q⟩ := h
  exact ⟨p, e, s _ _ q⟩
theorem Nd.dp {K : PySem.W.Frag} {H : Hp} {v : V} {x : Nat × Nat} (h : Nd H v x) : Dp K H v (.tuple [.int x.1, .int x.2]) := by
  obtain ⟨p, rfl, q⟩ := h
  exact .tup (SqT.of q) (.cons (.int _) (.cons (.int _) .nil))
theorem nd_shaped (a b : Int) : SeqAt.shaped (.tuple [.int a, .int b]) = true := by
  show (PyData.canLay0 _ && decide (PyData.depth _ ≤ 64)) = true
  simp [PyData.canLay0, PyData.canLayAll0, PyData.depth, PyData.depthAll]
theorem nd_eqv (a b c d : Int) : PyData.eqv (.tuple [.int a, .int b]) (.tuple [.int c, .int d]) = (decide (a = c) && decide (b = d)) := by
  have e : PyData.eqv (.tuple [.int a, .int b]) (.tuple [.int c, .int d]) = ((a == c) && ((b == d) && true)) := by simp only [PyData.eqv, PyData.eqvAll]
  rw [e, Bool.and_true]
  by_cases h1 : a = c <;> by_cases h2 : b = d <;> simp [h1, h2]
/-- lists of values and what they stand for -/
inductive All2 {α : Type} (R : V → α → Prop) : List V → List α → Prop
  | nil : All2 R [] []
  | cons {v : V} {x : α} {vs : List V} {xs : List α} : R v x → All2 R vs xs → All2 R (v :: vs) (x :: xs)
section
variable {α : Type} {R R' : V → α → Prop}
theorem All2.mono (f : ∀ v x, R v x → R' v x) : ∀ {vs : List V} {xs : List α}, All2 R vs xs → All2 R' vs xs
  | _, _, .nil => .nil
  | _, _, .cons h t => .cons (f _ _ h) (All2.mono f t)
theorem All2.len : ∀ {vs : List V} {xs : List α}, All2 R vs xs → vs.length = xs.length
  | _, _, .nil => rfl
  | _, _, .cons _ t => by rw [List.length_cons, List.length_cons, All2.len t]
theorem All2.app : ∀ {vs : List V} {xs : List α} {us : List V} {ys : List α}, All2 R vs xs → All2 R us ys → All2 R (vs ++ us) (xs ++ ys)
  | _, _, _, _, .nil, h => h
  | _, _, _, _, .cons h t, k => .cons h (All2.app t k)
theorem All2.rev : ∀ {vs : List V} {xs : List α}, All2 R vs xs → All2 R vs.reverse xs.reverse
  | _, _, .nil => .nil
  | _, _, .cons h t => by
    rw [List.reverse_cons, List.reverse_cons]
    exact All2.app (All2.rev t) (.cons h .nil)
theorem All2.nth : ∀ {vs : List V} {xs : List α} {i : Nat} {v : V}, All2 R vs xs → vs[i]? = some v → ∃ x, xs[i]? = some x ∧ R v x
  | _, _, _, _, .nil, h => by simp at h
  | _, _, 0, _, .cons h t, e => by
    have := Option.some.inj e
    subst this
    exact ⟨_, rfl, h⟩
  | _, _, i + 1, _, .cons h t, e => by
    rw [List.getElem?_cons_succ] at e ⊢
    exact All2.nth t e
theorem All2.nth2 : ∀ {vs : List V} {xs : List α} {i : Nat} {x : α}, All2 R vs xs → xs[i]? = some x → ∃ v, vs[i]? = some v ∧ R v x
  | _, _, _, _, .nil, h => by simp at h
  | _, _, 0, _, .cons h t, e => by
    have := Option.some.inj e
    subst this
    exact ⟨_, rfl, h⟩
  | _, _, i + 1, _, .cons h t, e => by
    rw [List.getElem?_cons_succ] at e ⊢
    exact All2.nth2 t e
end

/-! ### rules within a comprehension: what they say of the written part is said of the def's -/
section
open PySem L2
variable {X : Cx} {s : Shared} {H : Hp} {sc : Scope} {ce : Env} {fp : List Addr}
theorem pg_tupB {es : List Expr} {k : Nat} {pos : Pos} {t : TGs} {n : Nat} (hc : X.calm = true) (h : PGs (X.blk s H sc ce fp) es t)
    (hn : (assignEach es (X.blk s H sc ce fp).env).length = n := by rfl) (hst : (assignEach es (X.blk s H sc ce fp).env).findIdx? (·.1) = none := by rfl) : PG (X.blk s H sc ce fp) (.Tuple es k pos) (gTup X.K n t) := pg_tup hc h hn hst
theorem ix_listB : IxR (X.blk s H sc ce fp) (rIxL X.K) := ix_list
theorem ix_tupB : IxR (X.blk s H sc ce fp) (rIxT X.K) := ix_tup
theorem call_len_seqB : CallR (X.blk s H sc ce fp) (.builtin "len") (fun xs H Q => ∃ p ys, xs = [.ref p] ∧ (SqL X.K H p ys ∨ SqT X.K H p ys) ∧ Q (.int ys.length) H) := call_len_seq
theorem op_eqDB (hu : X.A.units + 64 < cLine) : OpR (X.blk s H sc ce fp) (compareOp .Eq) (rEqD X.K) := op_eqD (X := X.blk s H sc ce fp) hu
theorem op_neDB (hu : X.A.units + 64 < cLine) : OpR (X.blk s H sc ce fp) (compareOp .NotEq) (rNeD X.K) := op_neD (X := X.blk s H sc ce fp) hu
theorem op_inDB (hu : X.A.units + 65 < cLine) : OpR (X.blk s H sc ce fp) (compareOp .In) (rInD X.K) := op_inD (X := X.blk s H sc ce fp) hu
theorem op_notInDB (hu : X.A.units + 65 < cLine) : OpR (X.blk s H sc ce fp) (compareOp .NotIn) (rNotInD X.K) := op_notInD (X := X.blk s H sc ce fp) hu
end
theorem Nd.upd {H : Hp} {v : V} {x : Nat × Nat} {s : Addr} {xs : List V} {o : HO} (h : Nd H v x) (hs : H s = some (.lst xs)) : Nd (upd H s o) v x := by
  obtain ⟨p, e, q⟩ := h
  exact ⟨p, e, by rw [upd_ne (ne_of q hs (by intro z; cases z))]; exact q⟩
def full (x : Nat × Nat) : Nat × Nat := (x.1, x.1 + 2 ^ x.2)
theorem pk_len : ∀ (i n b : Nat), (pk i n b).length ≤ i
  | 0, _, _ => Nat.le_refl _
  | i + 1, n, b => by
    show (if n.testBit i = true then (b, i) :: pk i n (b + 2 ^ i) else pk i n b).length ≤ i + 1
    by_cases t : n.testBit i = true
    · rw [if_pos t, List.length_cons]
      exact Nat.succ_le_succ (pk_len i n _)
    · rw [if_neg t]
      exact Nat.le_succ_of_le (pk_len i n b)
theorem take_more {α : Type} : ∀ {l : List α} {i : Nat} {x : α}, l[i]? = some x → l.take (i + 1) = l.take i ++ [x]
  | [], i, x, h => by simp at h
  | a :: l, 0, x, h => by
    have e : a = x := Option.some.inj h
    subst e
    rfl
  | a :: l, i + 1, x, h => by
    have ih := take_more (l := l) (i := i) (x := x) h
    show a :: l.take (i + 1) = a :: l.take i ++ [x]
    rw [ih]
    rfl
theorem szle {n : Nat} (h : n ≤ 100000) : n ≤ sizeLine := Nat.le_trans h (by decide)
theorem szlt {n : Nat} (h : n < 100000) : n < sizeLine := Nat.lt_of_lt_of_le h (by decide)
end LT

namespace LT
open PySem PySem.Spec PyProof.Rows L2
/-! ### a caught exception that is kept behind its suite -/
/-- an exception of the class cls at a, its own dict at d, if any -/
def ExK (cls : Value) (d : Option Addr) (a : Addr) : HO := .ext fun h => ∃ (ob : Obj) (fs : Array Value), h.get? a = some ob ∧ Zc cls d ob ∧ ob.data = .fields fs
theorem exK_ok {P : Program} {w : World} {H : Hp} {h : Heap} {a : Addr} {cls : Value} {d : Option Addr} {ob : Obj} {fs : Array Value} (e : h.get? a = some ob) (z : Zc cls d ob) (df : ob.data = .fields fs) : ObjOk P w H h a (ExK cls d a) :=
  ⟨⟨ob, fs, e, z, df⟩, ⟨ob, e⟩, fun _ _ ⟨o, v, q, r⟩ k => ⟨o, v, k o q, r⟩⟩
section
variable {X : Cx} {pins : List (Addr × Obj)} {σ : L2.St} {H : Hp} {s : Shared}
/-- it is told of from now on -/
theorem Inv.adopt {a : Addr} {cls : Value} {d : Option Addr} {ob : Obj} {fs : Array Value} (I : Inv X pins σ H s) (e : s.heap.get? a = some ob) (z : Zc cls d ob) (df : ob.data = .fields fs) (na : H a = none) (n0 : X.s_0.heap.get? a = none)
    (nL : a ≠ X.env.locals) (np : ∀ p ∈ X.pn ++ pins, p.1 ≠ a) : Inv X pins σ (upd H a (ExK cls d a)) s := by
  have ne0 : ∀ b o, X.s_0.heap.get? b = some o → b ≠ a := fun b o q y => by
    rw [y, n0] at q
    cases q
  refine ⟨I.ok, I.os, I.bare, ⟨I.base.keep, I.base.slot, ?_, I.base.there, ?_, ?_, ?_⟩, I.loc, I.cell, ?_, ?_, ?_, ?_, I.len⟩
  · intro b o q n hx
    rw [upd_ne (ne0 b o q)]
    exact I.base.free b o q n hx
  · intro b xs q
    have y := I.base.tups b xs q
    rw [upd_ne (ne_of_none y na)]
    exact y
  · intro b o u q
    have y := I.base.frzs b o u q
    rw [upd_ne (ne_of_none y na)]
    exact y
  · intro b ps q
    obtain ⟨m, y⟩ := I.base.tbls b ps q
    exact ⟨m, by rw [upd_ne (ne_of_none y na)]; exact y⟩
  · rw [upd_ne (fun y => nL y.symm)]
    exact I.free
  · intro x c q
    obtain ⟨v, o, ho, hd⟩ := I.cell x c q
    rw [upd_ne (fun y => by rw [y, e] at ho; cases ho; rw [df] at hd; cases hd)]
    exact I.freeC x c q
  · intro p hp
    obtain ⟨q1, q2, q3⟩ := I.pin p hp
    exact ⟨q1, by rw [upd_ne (np p hp)]; exact q2, q3⟩
  · exact HOk.laidN I.hok (fun _ _ q => q) na (exK_ok e z df)
end
/-- what the ends of a suite say, once the name of its clause has gone and the exception is told of -/
def endsK (i : Nat) (a : Addr) (cls : Value) (d : Option Addr) (D : Ends) : Ends :=
  { nx := fun σ' H' => H' a = none → D.nx (σ'.set i none) (upd H' a (ExK cls d a)), rt := fun v H' => H' a = none → D.rt v (upd H' a (ExK cls d a)),
    bk := fun σ' H' => H' a = none → D.bk (σ'.set i none) (upd H' a (ExK cls d a)), ct := fun σ' H' => H' a = none → D.ct (σ'.set i none) (upd H' a (ExK cls d a)) }
def wKeep (K : PySem.W.Frag) (c : Value) (i : Nat) (ts : Addr → Value → Option Addr → TS) (Wout : WX) (D : Ends) : WX := fun cls d σ H =>
  ∃ b, PySem.W.exmOne K cls c = some b ∧ (b = true → ∀ a, H a = none → ts a cls d (endsK i a cls d D) (σ.set i (some (.ref a))) H) ∧ (b = false → Wout cls d σ H)
section
variable {X : Cx} {x n : Str} {c : Value} {i : Nat} {body suite : List Stmt} {st0 : Stmt} {p1 p2 p3 : Pos} {tb : WX → TS} {ts : Addr → Value → Option Addr → TS} {Wout : WX}
theorem ps_try_keep (hst : X.stack = X.env :: X.outer) (hex : X.ex = []) (hfr : X.env.frame = some X.env.locals) (nod : X.N.Nodup) (slot : X.N[i]? = some n) (own : X.env.kindOf n = some .local) (hc : Names X x c) (tk : Takes X Wout)
    (hb : ∀ (W : WX) (pn : List (Addr × Obj)) (xe : Value → Shared → Prop), Takes (X.tr pn xe) W → PassesOwn (model X.prog X.w) X.A X.env xe → PSs (X.tr pn xe) body (tb W))
    (hsu : ∀ (a : Addr) (ob : Obj) (cls : Value) (d : Option Addr) (pn : List (Addr × Obj)), Zc cls d ob → (∃ fs, ob.data = .fields fs) → PSs (X.suite a ((a, ob) :: pn)) (st0 :: suite) (ts a cls d)) :
    PS X (.Try body [.ExceptHandler (some (.Name x p1)) (some n) (st0 :: suite) p2] [] [] p3) (fun D σ H => tb (wKeep X.K c i ts Wout D) D σ H) := by
  refine ⟨?_⟩
  intro pins s σ H D I h
  have okX := I.ok
  have frms : X.A.frames = some (X.env :: X.outer) := okX.frames.trans (congrArg some hst)
  have locn : Loc X.env.scope n := .inl own
  refine wpAny_Try_except ?_
  let land : Value → Shared → Prop := fun e u1 => wpAny (model X.prog X.w) X.A (noteFrame e X.env) (fun _ u2 => wpAny (model X.prog X.w) X.A (setFlight e none)
    (fun _ u3 => wpAny (model X.prog X.w) X.A (handleBy e X.env [.ExceptHandler (some (.Name x p1)) (some n) (st0 :: suite) p2]) (SP X pins D) X.xe u3) X.xe u2) X.xe u1
  have catch_ : Takes (X.tr (X.pn ++ pins) land) (wKeep X.K c i ts Wout D) := by
    rintro u s' ⟨a, B, sI, pins', τ, G, cls, d, rfl, J', ground, up, sky, na, os, ag, b, hb1, yes, no⟩
    have J : Inv X pins τ G sI := J'.ofTry okX
    have sky1 : Sky B (X.env :: X.outer) a (Zc cls d) X.env.locals s'.heap := hst ▸ sky
    show wpAny (model X.prog X.w) X.A (noteFrame (.ref a) X.env) _ _ _
    refine Sky.land Zc.steady frms hfr sky1 fun ha fa upa => ?_
    have Ja : Inv X pins τ G { s' with heap := ha } := J.landed ground fa.1 (up.trans upa) os ag
    obtain ⟨oa, va, geta, za, da⟩ := fa.there
    have offStack : a ∉ frs (X.env :: X.outer) := fun hm => by
      obtain ⟨_, o', e', hnf⟩ := Heap.FunFrames.mem fa.2.2.1 hm
      rw [geta] at e'
      cases e'
      exact hnf _ da
    have nL : a ≠ X.env.locals := fun y => offStack (List.mem_filterMap.mpr ⟨X.env, List.mem_cons_self, by rw [hfr, y]⟩)
    have nF : a ∉ X.fs := fun hm => by
      obtain ⟨e, he, q⟩ := List.mem_filterMap.mp hm
      exact offStack (List.mem_filterMap.mpr ⟨e, List.mem_cons_of_mem _ he, q⟩)
    -- it was not there before
    have newI : sI.heap.get? a = none := by
      cases q : sI.heap.get? a with
      | none => rfl
      | some o =>
        have y := ground a o q (by rw [hst]; exact offStack)
        rw [fa.2.1] at y
        cases y
    have new0 : X.s_0.heap.get? a = none := by
      cases q : X.s_0.heap.get? a with
      | none => rfl
      | some o =>
        obtain ⟨o', y⟩ := J.base.there a o q (by rw [hex]; exact List.not_mem_nil)
        rw [newI] at y
        cases y
    have npin : ∀ p ∈ X.pn ++ pins, p.1 ≠ a := fun p hp y => by
      have q := (J.pin p hp).1
      rw [y, newI] at q
      cases q
    have Sa := Ja.suite geta da na nL nF
    refine wpAny_handleBy_cons (codeAny_handlers_test ?_) (fun q => by cases q)
    have tyA : PySem.W.Looks (model X.prog X.w) ha (typeOf (.ref a)) cls := fun A Q E s k q => wpAny_typeOf_ref (k _ _ geta) (by rw [za.1]; exact q)
    have asked := PySem.W.exm_one (M := model X.prog X.w) (Ja.kIn) tyA hb1
    have named : ∀ {Q : Value → Shared → Prop} {E : Value → Shared → Prop}, Q c { s' with heap := ha } → wpAny (model X.prog X.w) (X.A.mark (some (.ref a))) (eval (.Name x p1) X.env) Q E { s' with heap := ha } := by
      intro Q E q
      obtain ⟨hg, hdbg, hm | ⟨hm, hv, hnn⟩⟩ := hc
      · exact ld_glob (X := X.suite a ((a, oa) :: (X.pn ++ pins))) Sa hg hm q hdbg
      · exact ld_blt (X := X.suite a ((a, oa) :: (X.pn ++ pins))) Sa hg hm hv q hnn hdbg
    refine named (asked.here ?_)
    cases b with
    | true =>
      refine codeAny_handlers_suite_as ?_
      refine HandSPX.lands_againZ fa fun hz fz upz => ?_
      have Jz : Inv X pins τ G { s' with heap := hz } := J.landed ground fz.1 ((up.trans upa).trans upz) os ag
      obtain ⟨oz, vz, getz, zz, dz⟩ := fz.there
      have Sz := Jz.suite getz dz na nL nF
      refine store_ok (X := X.suite a ((a, oz) :: (X.pn ++ pins))) (v := .ref a) Sz nod slot locn rfl ?_ (.inr own)
      intro s5 S5
      refine wpAny_mono ((hsu a oz cls d (X.pn ++ pins) zz ⟨_, dz⟩).run [] s5 _ G _ S5 (yes rfl a na)) ?_ (fun _ _ y => False.elim y)
      intro fl s6 sp
      have fin : ∀ {σ6 : L2.St} {H6 : Hp} {Q : Shared → Prop}, Inv (X.suite a ((a, oz) :: (X.pn ++ pins))) [] σ6 H6 s6 → H6 a = none ∧ ((∀ s7, Inv X pins (σ6.set i none) (upd H6 a (ExK cls d a)) s7 → Q s7) →
          wpAny (model X.prog X.w) X.A (do bindName X.env n .none; unbindBehindTheSuite X.env n p2) (fun _ s7 => Q s7) X.xe s6) := by
        intro σ6 H6 Q S6
        refine ⟨(S6.pin (a, oz) (List.mem_append_left _ List.mem_cons_self)).2.1, fun hq => ?_⟩
        refine gone_ok (X := X.suite a ((a, oz) :: (X.pn ++ pins))) S6 nod slot own fun s7 S7 => hq s7 ?_
        have pa := S7.pin (a, oz) (List.mem_append_left _ List.mem_cons_self)
        exact Inv.adopt (S7.unsuite okX) pa.1 zz dz pa.2.1 new0 nL npin
      cases fl with
      | next =>
        obtain ⟨σ6, H6, S6, q6⟩ := sp
        exact (fin S6).2 fun s7 J7 => ⟨_, _, J7, q6 (fin (Q := fun _ => True) S6).1⟩
      | brk =>
        obtain ⟨σ6, H6, S6, q6⟩ := sp
        exact (fin S6).2 fun s7 J7 => ⟨_, _, J7, q6 (fin (Q := fun _ => True) S6).1⟩
      | cont =>
        obtain ⟨σ6, H6, S6, q6⟩ := sp
        exact (fin S6).2 fun s7 J7 => ⟨_, _, J7, q6 (fin (Q := fun _ => True) S6).1⟩
      | ret u =>
        obtain ⟨v6, σ6, H6, S6, r6, q6⟩ := sp
        exact (fin S6).2 fun s7 J7 => ⟨_, _, _, J7, r6, q6 (fin (Q := fun _ => True) S6).1⟩
    | false =>
      show wpAny _ X.A (handleBy (.ref a) X.env []) _ _ _
      refine wpAny_handleBy_nil ?_
      obtain ⟨_, _, _, ob, fv, T, oT, ts', he, hz, hd, h1, hr⟩ := id fa
      unfold PySem.passOn
      refine wpAny_bind (wpAny_field he hd h1 ?_)
      rw [if_neg (show ¬ ((Value.ref T == Value.none) = true) from by simp)]
      have on_ : wpAny (model X.prog X.w) X.A (setFlight (.ref a) X.env.frame) (fun _ u4 => wpAny (model X.prog X.w) X.A (throw (.ref a) : Sem Flow) (SP X pins D) X.xe u4) X.xe { s' with heap := ha } := by
        rw [hfr]
        refine HandSPX.setFlight_upZ fa fun h4 hh4 up4 => wpAny_throw (tk _ _ ?_)
        exact ⟨a, B, sI, pins, τ, G, cls, d, rfl, J, ground, (up.trans upa).trans up4, .inr (.inr (by rw [hst]; exact hh4)), na, os, ag, no rfl⟩
      first
        | exact wpAny_bind (wpAny_pure (wpAny_bind on_))
        | exact wpAny_bind on_
  refine wpAny_mono ((hb (wKeep X.K c i ts Wout D) (X.pn ++ pins) land catch_ PassesOwn.looking).run [] s σ H D (I.toTry _) h) ?_ (fun e s1 he => he)
  intro fl s1 sp
  cases fl with
  | next =>
    obtain ⟨σ', H', J', q⟩ := sp
    exact wpAny_execs_nil ⟨σ', H', J'.ofTry okX, q⟩
  | brk =>
    obtain ⟨σ', H', J', q⟩ := sp
    exact ⟨σ', H', J'.ofTry okX, q⟩
  | cont =>
    obtain ⟨σ', H', J', q⟩ := sp
    exact ⟨σ', H', J'.ofTry okX, q⟩
  | ret u =>
    obtain ⟨v, σ', H', J', r, q⟩ := sp
    exact ⟨v, σ', H', J'.ofTry okX, r, q⟩
end
section
variable {X : Cx}
/-- isinstance(e, c), e an exception that is kept, without a dict of its own -/
def rIsK (K : PySem.W.Frag) : List V → Hp → VK → Prop := fun xs H Q => ∃ (a D : Addr) (c : V) (cv : Value) (b : Bool), xs = [.ref a, c] ∧ H a = some (ExK (.ref D) none a) ∧ ExcC K D ∧ (∀ u, RelV c u → u = cv) ∧ PySem.W.kitOne K (.ref D) cv = some b ∧ Q (.bl b) H
theorem call_isK : CallR X (.builtin "isinstance") (rIsK X.K) := by
  intro pins s σ H xs us Q I r h
  obtain ⟨a, D, c, cv, b, rfl, ha, C, hcv, e, q⟩ := h
  obtain ⟨u1, us1, rfl, r1, r2⟩ : ∃ u us', us = u :: us' ∧ RelV (.ref a) u ∧ Vals [c] us' := by
    cases r with | cons h t => exact ⟨_, _, rfl, h, t⟩
  obtain ⟨u2, rfl, r3⟩ := vals1 r2
  cases r1
  have ec := hcv _ r3
  subst ec
  obtain ⟨⟨ob, fs, hget, hz, hd⟩, _, _⟩ := I.hok a _ ha
  have J : PySem.W.InstAt s.heap a ob D none := by
    obtain ⟨oc, od, oda, osl⟩ := ob
    obtain ⟨z1, z2⟩ := hz
    dsimp only at z1 z2 hd
    subst z1 z2 hd
    exact ⟨hget, rfl, rfl, trivial⟩
  refine PySem.W.kia_one (PySem.W.handS_kitx_exc C.hg C.hk C.hs C.hd C.ha C.hn C.ht C.hm) I.kIn J e (fun z => nomatch z) ?_
  intro tk
  exact ⟨.bl b, H, I.kept (t' := tk) fun _ _ z => z, rfl, q⟩
end
end LT

namespace LT
open PySem PySem.Spec PyProof.Rows L2
/-! ### a try with two clauses, each with a name: OWN RULE -/
section
variable {X : Cx} {x x2 n : Str} {c c2 : Value} {i : Nat} {body suite suite2 : List Stmt} {st0 st2 : Stmt} {p1 p2 p3 p4 p5 : Pos} {tb : WX → TS} {ts ts2 : Addr → Value → Option Addr → TS} {Wout : WX}
theorem ps_try_keep2 (hst : X.stack = X.env :: X.outer) (hex : X.ex = []) (hfr : X.env.frame = some X.env.locals) (nod : X.N.Nodup) (slot : X.N[i]? = some n) (own : X.env.kindOf n = some .local) (hc : Names X x c) (hc2 : Names X x2 c2) (tk : Takes X Wout)
    (hb : ∀ (W : WX) (pn : List (Addr × Obj)) (xe : Value → Shared → Prop), Takes (X.tr pn xe) W → PassesOwn (model X.prog X.w) X.A X.env xe → PSs (X.tr pn xe) body (tb W))
    (hsu : ∀ (a : Addr) (ob : Obj) (cls : Value) (d : Option Addr) (pn : List (Addr × Obj)), Zc cls d ob → (∃ fs, ob.data = .fields fs) → PSs (X.suite a ((a, ob) :: pn)) (st0 :: suite) (ts a cls d))
    (hsu2 : ∀ (a : Addr) (ob : Obj) (cls : Value) (d : Option Addr) (pn : List (Addr × Obj)), Zc cls d ob → (∃ fs, ob.data = .fields fs) → PSs (X.suite a ((a, ob) :: pn)) (st2 :: suite2) (ts2 a cls d)) :
    PS X (.Try body [.ExceptHandler (some (.Name x p1)) (some n) (st0 :: suite) p2, .ExceptHandler (some (.Name x2 p4)) (some n) (st2 :: suite2) p5] [] [] p3) (fun D σ H => tb (wKeep X.K c i ts (wKeep X.K c2 i ts2 Wout D) D) D σ H) := by
  refine ⟨?_⟩
  intro pins s σ H D I h
  have okX := I.ok
  have frms : X.A.frames = some (X.env :: X.outer) := okX.frames.trans (congrArg some hst)
  have locn : Loc X.env.scope n := .inl own
  refine wpAny_Try_except ?_
  let land : Value → Shared → Prop := fun e u1 => wpAny (model X.prog X.w) X.A (noteFrame e X.env) (fun _ u2 => wpAny (model X.prog X.w) X.A (setFlight e none)
    (fun _ u3 => wpAny (model X.prog X.w) X.A (handleBy e X.env [.ExceptHandler (some (.Name x p1)) (some n) (st0 :: suite) p2, .ExceptHandler (some (.Name x2 p4)) (some n) (st2 :: suite2) p5]) (SP X pins D) X.xe u3) X.xe u2) X.xe u1
  have catch_ : Takes (X.tr (X.pn ++ pins) land) (wKeep X.K c i ts (wKeep X.K c2 i ts2 Wout D) D) := by
    rintro u s' ⟨a, B, sI, pins', τ, G, cls, d, rfl, J', ground, up, sky, na, os, ag, hK⟩
    have J : Inv X pins τ G sI := J'.ofTry okX
    have sky1 : Sky B (X.env :: X.outer) a (Zc cls d) X.env.locals s'.heap := hst ▸ sky
    show wpAny (model X.prog X.w) X.A (noteFrame (.ref a) X.env) _ _ _
    refine Sky.land Zc.steady frms hfr sky1 fun ha fa upa => ?_
    have Ja : Inv X pins τ G { s' with heap := ha } := J.landed ground fa.1 (up.trans upa) os ag
    obtain ⟨oa, va, geta, za, da⟩ := fa.there
    have offStack : a ∉ frs (X.env :: X.outer) := fun hm => by
      obtain ⟨_, o', e', hnf⟩ := Heap.FunFrames.mem fa.2.2.1 hm
      rw [geta] at e'
      cases e'
      exact hnf _ da
    have nL : a ≠ X.env.locals := fun y => offStack (List.mem_filterMap.mpr ⟨X.env, List.mem_cons_self, by rw [hfr, y]⟩)
    have nF : a ∉ X.fs := fun hm => by
      obtain ⟨e, he, q⟩ := List.mem_filterMap.mp hm
      exact offStack (List.mem_filterMap.mpr ⟨e, List.mem_cons_of_mem _ he, q⟩)
    -- it was not there before
    have newI : sI.heap.get? a = none := by
      cases q : sI.heap.get? a with
      | none => rfl
      | some o =>
        have y := ground a o q (by rw [hst]; exact offStack)
        rw [fa.2.1] at y
        cases y
    have new0 : X.s_0.heap.get? a = none := by
      cases q : X.s_0.heap.get? a with
      | none => rfl
      | some o =>
        obtain ⟨o', y⟩ := J.base.there a o q (by rw [hex]; exact List.not_mem_nil)
        rw [newI] at y
        cases y
    have npin : ∀ p ∈ X.pn ++ pins, p.1 ≠ a := fun p hp y => by
      have q := (J.pin p hp).1
      rw [y, newI] at q
      cases q
    have Sa := Ja.suite geta da na nL nF
    have step : ∀ {x : Str} {c : Value} {ts : Addr → Value → Option Addr → TS} {st0 : Stmt} {suite : List Stmt} {p1 p2 : Pos} {rest : List ExceptHandler} {W' : WX}, Names X x c →
        (∀ (a : Addr) (ob : Obj) (cls : Value) (d : Option Addr) (pn : List (Addr × Obj)), Zc cls d ob → (∃ fs, ob.data = .fields fs) → PSs (X.suite a ((a, ob) :: pn)) (st0 :: suite) (ts a cls d)) →
        wKeep X.K c i ts W' D cls d τ G → (W' cls d τ G → wpAny (model X.prog X.w) X.A (handleBy (.ref a) X.env rest) (SP X pins D) X.xe { s' with heap := ha }) →
        wpAny (model X.prog X.w) X.A (handleBy (.ref a) X.env (.ExceptHandler (some (.Name x p1)) (some n) (st0 :: suite) p2 :: rest)) (SP X pins D) X.xe { s' with heap := ha } := by
      intro x c ts st0 suite p1 p2 rest W' hc hsu hw hrest
      obtain ⟨b, hb1, yes, no⟩ := hw
      refine wpAny_handleBy_cons (codeAny_handlers_test ?_) (fun q => by cases q)
      have tyA : PySem.W.Looks (model X.prog X.w) ha (typeOf (.ref a)) cls := fun A Q E s k q => wpAny_typeOf_ref (k _ _ geta) (by rw [za.1]; exact q)
      have asked := PySem.W.exm_one (M := model X.prog X.w) (Ja.kIn) tyA hb1
      have named : ∀ {Q : Value → Shared → Prop} {E : Value → Shared → Prop}, Q c { s' with heap := ha } → wpAny (model X.prog X.w) (X.A.mark (some (.ref a))) (eval (.Name x p1) X.env) Q E { s' with heap := ha } := by
        intro Q E q
        obtain ⟨hg, hdbg, hm | ⟨hm, hv, hnn⟩⟩ := hc
        · exact ld_glob (X := X.suite a ((a, oa) :: (X.pn ++ pins))) Sa hg hm q hdbg
        · exact ld_blt (X := X.suite a ((a, oa) :: (X.pn ++ pins))) Sa hg hm hv q hnn hdbg
      refine named (asked.here ?_)
      cases b with
      | true =>
        refine codeAny_handlers_suite_as ?_
        refine HandSPX.lands_againZ fa fun hz fz upz => ?_
        have Jz : Inv X pins τ G { s' with heap := hz } := J.landed ground fz.1 ((up.trans upa).trans upz) os ag
        obtain ⟨oz, vz, getz, zz, dz⟩ := fz.there
        have Sz := Jz.suite getz dz na nL nF
        refine store_ok (X := X.suite a ((a, oz) :: (X.pn ++ pins))) (v := .ref a) Sz nod slot locn rfl ?_ (.inr own)
        intro s5 S5
        refine wpAny_mono ((hsu a oz cls d (X.pn ++ pins) zz ⟨_, dz⟩).run [] s5 _ G _ S5 (yes rfl a na)) ?_ (fun _ _ y => False.elim y)
        intro fl s6 sp
        have fin : ∀ {σ6 : L2.St} {H6 : Hp} {Q : Shared → Prop}, Inv (X.suite a ((a, oz) :: (X.pn ++ pins))) [] σ6 H6 s6 → H6 a = none ∧ ((∀ s7, Inv X pins (σ6.set i none) (upd H6 a (ExK cls d a)) s7 → Q s7) →
            wpAny (model X.prog X.w) X.A (do bindName X.env n .none; unbindBehindTheSuite X.env n p2) (fun _ s7 => Q s7) X.xe s6) := by
          intro σ6 H6 Q S6
          refine ⟨(S6.pin (a, oz) (List.mem_append_left _ List.mem_cons_self)).2.1, fun hq => ?_⟩
          refine gone_ok (X := X.suite a ((a, oz) :: (X.pn ++ pins))) S6 nod slot own fun s7 S7 => hq s7 ?_
          have pa := S7.pin (a, oz) (List.mem_append_left _ List.mem_cons_self)
          exact Inv.adopt (S7.unsuite okX) pa.1 zz dz pa.2.1 new0 nL npin
        cases fl with
        | next =>
          obtain ⟨σ6, H6, S6, q6⟩ := sp
          exact (fin S6).2 fun s7 J7 => ⟨_, _, J7, q6 (fin (Q := fun _ => True) S6).1⟩
        | brk =>
          obtain ⟨σ6, H6, S6, q6⟩ := sp
          exact (fin S6).2 fun s7 J7 => ⟨_, _, J7, q6 (fin (Q := fun _ => True) S6).1⟩
        | cont =>
          obtain ⟨σ6, H6, S6, q6⟩ := sp
          exact (fin S6).2 fun s7 J7 => ⟨_, _, J7, q6 (fin (Q := fun _ => True) S6).1⟩
        | ret u =>
          obtain ⟨v6, σ6, H6, S6, r6, q6⟩ := sp
          exact (fin S6).2 fun s7 J7 => ⟨_, _, _, J7, r6, q6 (fin (Q := fun _ => True) S6).1⟩
      | false => exact hrest (no rfl)
    refine step hc hsu hK fun h1 => step hc2 hsu2 h1 fun hW => ?_
    refine wpAny_handleBy_nil ?_
    obtain ⟨_, _, _, ob, fv, T, oT, ts', he, hz, hd, h1, hr⟩ := id fa
    unfold PySem.passOn
    refine wpAny_bind (wpAny_field he hd h1 ?_)
    rw [if_neg (show ¬ ((Value.ref T == Value.none) = true) from by simp)]
    have on_ : wpAny (model X.prog X.w) X.A (setFlight (.ref a) X.env.frame) (fun _ u4 => wpAny (model X.prog X.w) X.A (throw (.ref a) : Sem Flow) (SP X pins D) X.xe u4) X.xe { s' with heap := ha } := by
      rw [hfr]
      refine HandSPX.setFlight_upZ fa fun h4 hh4 up4 => wpAny_throw (tk _ _ ?_)
      exact ⟨a, B, sI, pins, τ, G, cls, d, rfl, J, ground, (up.trans upa).trans up4, .inr (.inr (by rw [hst]; exact hh4)), na, os, ag, hW⟩
    first
      | exact wpAny_bind (wpAny_pure (wpAny_bind on_))
      | exact wpAny_bind on_
  refine wpAny_mono ((hb (wKeep X.K c i ts (wKeep X.K c2 i ts2 Wout D) D) (X.pn ++ pins) land catch_ PassesOwn.looking).run [] s σ H D (I.toTry _) h) ?_ (fun e s1 he => he)
  intro fl s1 sp
  cases fl with
  | next =>
    obtain ⟨σ', H', J', q⟩ := sp
    exact wpAny_execs_nil ⟨σ', H', J'.ofTry okX, q⟩
  | brk =>
    obtain ⟨σ', H', J', q⟩ := sp
    exact ⟨σ', H', J'.ofTry okX, q⟩
  | cont =>
    obtain ⟨σ', H', J', q⟩ := sp
    exact ⟨σ', H', J'.ofTry okX, q⟩
  | ret u =>
    obtain ⟨v, σ', H', J', r, q⟩ := sp
    exact ⟨v, σ', H', J'.ofTry okX, r, q⟩
end
end LT

namespace LT
open PySem PySem.Spec PyProof.Rows L2
section
variable {X : Cx}
/-- {x}: nothing or an int, as a text -/
def tFmtN (te : TE) : TE := fun σ H Q => te σ H fun x H1 => (x = .non ∧ Q (.str "None") H1) ∨ ∃ i : Int, x = .int i ∧ i.natAbs.log2 < 1920 ∧ Q (.str (toString i)) H1
theorem pe_fmtN {e : Expr} {te : TE} {pos : Pos} (he : PE X e te) : PE X (.FormattedValue e (-1) none pos) (tFmtN te) := by
  refine ⟨fun pins s σ H Q I h => ?_⟩
  refine wpAny_FormattedValue_plain (thn (he.run pins s σ H _ I h) fun v s1 hv => ?_)
  obtain ⟨x, H1, I1, r1, q⟩ := hv
  rcases q with ⟨rfl, q⟩ | ⟨i, rfl, hz, q⟩
  · cases (show v = Value.none from r1)
    exact wpAny_formatField_none ⟨.str "None", H1, I1.tok _, ⟨_, rfl⟩, q⟩
  · obtain ⟨t, rfl⟩ := r1
    exact wpAny_formatField_int hz ⟨.str (toString i), H1, I1.tok _, ⟨_, rfl⟩, q⟩
end
/-- the scope of an __init__ that says super() -/
structure SScope (x : Str) (sc : Scope) : Prop where
  kind : sc.kind = .function
  co : sc.isCoroutine = false
  gen : sc.isGenerator = false
  self : sc.names.lookup ("self" : Str) = some .local
  par : sc.names.lookup x = some .local
  cls : sc.names.lookup ("__class__" : Str) = some .free
  sup : sc.names.lookup ("super" : Str) = some .globalImplicit
  nocell : ∀ y ∈ sc.names, y.2 ≠ .cell
  free : ∀ y ∈ sc.names, y.2 = .free → y.1 = "__class__"
  ne : x ≠ ("self" : Str)
  nd : (x == ("__debug__" : Str)) = false
  nc : (x == ("__classdict__" : Str)) = false
/-- the context of its body -/
def cxS (CX : CXT) (P : Program) (w : World) (K : PySem.W.Frag) (mg : Str → Option Value) (base : Heap) (N : List Str) (qual : Str) (scope : Scope) (f cda cc : Addr) (A : Around) (outer : List Env) (s : Shared) (H : Hp) (E : XK) : Cx where
  prog := P
  w := w
  K := K
  mg := mg
  base := base
  A := A.deeper (PySem.W.ksEnv qual scope s.heap.objs.size f (.ref cda) cc)
  N := N
  s_0 := s
  H_0 := H
  env := PySem.W.ksEnv qual scope s.heap.objs.size f (.ref cda) cc
  outer := outer
  stack := PySem.W.ksEnv qual scope s.heap.objs.size f (.ref cda) cc :: outer
  ex := []
  calm := true
  fn := fun y => y != "__class__"
  pn := []
  xe := fun e s' => wpAny (model P w) (A.deeper (PySem.W.ksEnv qual scope s.heap.objs.size f (.ref cda) cc)) (leaving (PySem.W.ksEnv qual scope s.heap.objs.size f (.ref cda) cc) e) (fun _ s'' => CX outer H s E e s'') (fun e' s'' => CX outer H s E e' s'') s'
/-- what the top says of a class whose __init__ says super().__init__(..) -/
structure Sup (P : Program) (K : PySem.W.Frag) (mg : Str → Option Value) (C cda cc : Addr) (fld : Str) : Prop where
  ex : OexC K C
  nofld : PySem.W.findIn K (.ref C) fld = some none
  sup : PySem.W.ks_superIn K C C "__init__" = some (some (.builtin "ValueError.__init__"))
  ve : PySem.W.subIn K (.ref C) (.type "ValueError") = some true
  own : PySem.W.mroIn K C (.ref C) = some true
  opq : PySem.W.nsIn K cStatics "thirdparty.any" = some none
  cell : ∃ cl cld csl, K.lookup cc = some ⟨cl, cld, .cell (some (.ref C)), csl⟩
  code : ∃ ccl cdd ccs, ∃ vs : Array Value, ∃ (file : Str) (tf : Tok), K.lookup cda = some ⟨ccl, cdd, .fields vs, ccs⟩ ∧ vs[2]? = some (.str file tf) ∧ ((P.main.file : Str) == file) = true
  top : (P.main.scope.names.lookup ("super" : Str)).isSome = false
  z : mg "super" = none
def spInit (C : Addr) (fld : Str) : Sp := fun vs H Q _ => ∃ (a : Addr) (y : V), vs = [.ref a, y] ∧ H a = some (exo a C none) ∧ (y = .non ∨ ∃ i : Int, y = .int i ∧ i.natAbs < 10 ^ 66) ∧
  ∀ dx, H dx = none → dx ≠ a → Q .non (upd (upd H dx (exd dx [(fld, y)])) a (exo a C (some dx)))
section
open PySem.W PySem.HandSPX
variable {prog : Program} {w : World} {A : Around} {E : Value → Shared → Prop} {h : Heap} {g : Array GenState} {d : Drawn} {t : Nat} {os : OsState}
variable {nm q : Str} {C N : Addr} {bs bm : List Value} {hdct : Bool} {sn : List Str} {sub : List Value} {ab : Bool} {col : Option Bool} {dd : Option Addr} {k0 k1 k2 k3 k5 : Option Value}
theorem call_mwV {u e t0 : Addr} {rest : List Value} {Q : Value → Shared → Prop}
    (hC : h.get? C = some (excClassObj nm q C N bs bm hdct sn sub ab col dd k0 k1 k2 k3 k5 "ValueError.__new__")) (he : h.get? e = some (HandSPX.excO C t0)) (hu : h.get? u = some (kxs_mw "ValueError.__init__" e)) (hrest : rest.length ≤ sizeLine)
    (hq : ∀ h' t1, (∀ b o, b ≠ e → h.get? b = some o → h'.get? b = some o) → h'.get? e = some (HandSPX.excO C t1) → Q .none ⟨h', g, d, t, os⟩) :
    wpAny (model prog w) A (call (.ref u) rest) Q E ⟨h, g, d, t, os⟩ := by
  refine wpAny_call (codeAny_of_tree ?_)
  show wpAny _ A.in1 (callAny (.ref u) ⟨rest, []⟩) _ _ _
  simp only [callAny]
  refine wpAny_bind (wpAny_load hu ?_)
  simp only [kxs_mw, show (Value.type "method-wrapper" == Value.type "method" || Value.type "method-wrapper" == Value.type "builtin_function_or_method" || Value.type "method-wrapper" == Value.type "method-wrapper") = true by decide, if_true]
  refine W.KFB.if_so (by decide) ?_
  refine wpAny_bind (ESX.check_bound F.excBase_ValueError hC he rfl ?_)
  refine wpAny_bind (wpAny_pure (wpAny_pure ?_))
  refine ⟨Code.quiet_builtin _ (by decide +kernel), codeAny_builtin F.excBase_ValueError.initEntry ?_⟩
  rw [Around.under_plainId F.excBase_ValueError.init.plain _]
  wp_walk
  refine hq _ h.objs.size (fun b o hb ho => ?_) ?_
  · rw [Heap.get?_update_other _ _ (Ne.symm hb)]
    exact Heap.get?_push_of_some _ ho
  · rw [Heap.get?_update_self _ (Heap.get?_push_of_some _ he) rfl]
    rfl
end
section
variable {CX : CXT} {P : Program} {w : World} {K : PySem.W.Frag} {mg : Str → Option Value} {base : Heap} {k : Nat}
theorem sup_inv {qual x : Str} {scope : Scope} {f cda cc C : Addr} {fld : Str} {A : Around} {outer : List Env} {s : Shared} {H : Hp} {E : XK} {h1 : Heap} {tk : Nat} {u0 u1 : Value} {v0 v1 : V} (S : SScope x scope) (T : Sup P K mg C cda cc fld) (hd : A.handled = none)
    (e0 : Env0 P w K mg base A outer s H) (r0 : RelV v0 u0) (r1 : RelV v1 u1) (hns : h1.Ns s.heap.objs.size (fun y => [(x, u1), ("self", u0)].lookup y)) (hk : ∀ b o, s.heap.get? b = some o → h1.get? b = some o) :
    Inv (cxS CX P w K mg base ["self", x] qual scope f cda cc A outer s H E) [] [some v0, some v1] H { s with heap := h1, toks := tk } := by
  have noA : ∀ b : Addr, b ∉ (cxS CX P w K mg base ["self", x] qual scope f cda cc A outer s H E).ex := fun b z => absurd (show b ∈ ([] : List Addr) from z) (by simp)
  have cl : ∀ {y : Str} {c : Addr}, (cxS CX P w K mg base ["self", x] qual scope f cda cc A outer s H E).env.cells.lookup y = some c → y = "__class__" ∧ c = cc := by
    intro y c h
    have h' : List.lookup y [(("__class__" : Str), cc)] = some c := h
    by_cases hy : y = "__class__"
    · subst hy
      simp [List.lookup] at h'
      exact ⟨rfl, h'.symm⟩
    · have : (y == ("__class__" : Str)) = false := by simpa using hy
      simp [List.lookup, this] at h'
  obtain ⟨ccl, ccd, ccs, hcc⟩ := T.cell
  have hbc := e0.mod.kin _ _ hcc
  refine ⟨⟨e0.mod, S.kind, rfl, rfl, Nat.le_refl _, fun y z c a b => ?_, fun y hy => ?_, fun y c hy a => ?_, fun _ => hd, Around.frames_deeper e0.frames, .inr ⟨rfl, rfl⟩, fun b z => absurd z (noA b), e0.bs, e0.bsz, fun b _ _ => noA b, fun b z => absurd z (noA b), e0.funs, e0.frf⟩,
    rfl, e0.bare, Un.kept hk, ⟨_, hns, fun i y v a b c => ?_⟩, fun y c a => ?_, e0.hok.fresh (Nat.le_refl _), fun y c a => ?_, fun p hp => absurd (show p ∈ ([] : List (Addr × Obj)) from hp) (by simp), e0.hok.kept hk, rfl⟩
  · rw [(cl a).1, (cl b).1]
  · have hy : scope.names.lookup y = some .cell ∨ scope.names.lookup y = some .free := hy
    rcases hy with hy | hy
    · exact absurd rfl (S.nocell _ (PySem.mem_of_lookup hy))
    · have e := S.free _ (PySem.mem_of_lookup hy) rfl
      have e : y = "__class__" := e
      subst e
      exact ⟨cc, by show List.lookup _ [(("__class__" : Str), cc)] = some cc; simp [List.lookup]⟩
  · rw [(cl a).1] at hy
    exact absurd (show (("__class__" : Str) != "__class__") = true from hy) (by simp)
  · match i, a, b with
    | 0, a, b =>
      have ey : "self" = y := Option.some.inj a
      have ev : v0 = v := Option.some.inj (Option.some.inj b)
      subst ey; subst ev
      refine ⟨u0, r0, .inl ⟨S.self, ?_⟩⟩
      have : ((("self" : Str)) == x) = false := by simpa using fun z => S.ne z.symm
      simp [List.lookup, this]
    | 1, a, b =>
      have ey : x = y := Option.some.inj a
      have ev : v1 = v := Option.some.inj (Option.some.inj b)
      subst ey; subst ev
      exact ⟨u1, r1, .inl ⟨S.par, by simp [List.lookup]⟩⟩
    | i + 2, a, b => exact absurd a (by show ¬ ([] : List Str)[i]? = some y; simp)
  · rw [(cl a).2]
    exact ⟨_, _, hk _ _ ((e0.bs _ _ hbc).1), rfl⟩
  · rw [(cl a).2]
    exact (e0.bs _ _ hbc).2
theorem sup_len {i : Int} (h : i.natAbs < 10 ^ 66) : (Str.ofString (toString i)).length ≤ 100 := by
  have e := int_text_length_le10 (a := i) (k := 66) (by decide) h
  rw [PySem.ofString_length]
  omega
theorem sup_sz {n : Nat} (h : n ≤ 5000) : n ≤ sizeLine := by rw [sizeLine_eq]; omega
theorem sup_log {i : Int} (h : i.natAbs < 10 ^ 66) : i.natAbs.log2 < 1920 := by
  by_cases z : i.natAbs = 0
  · rw [z]; decide
  · exact Nat.lt_of_lt_of_le ((Nat.log2_lt (k := 250) z).mpr (Nat.lt_of_lt_of_le h (by decide))) (by decide)
/-- super().__init__(e, ..) in the __init__ of an exception class over ValueError -/
theorem sup_call {X : Cx} {body : List Stmt} {f cda cc C a : Addr} {fld : Str} {fd : FuncData} {ar : Arg} {oc : Value} {od : Option Addr} {osl : Array (Option Value)} {e : Expr} {es : List Expr} {ta : TA} {p0 p1 p2 p7 : Pos} {σ : L2.St} {H : Hp} {s1 : Shared} {Q : Hp → Prop} {pl : Sem Bool}
    (T : Sup X.prog X.K X.mg C cda cc fld) (hks : X.env.kindOf "super" = some .globalImplicit) (hkc : X.env.kindOf "__class__" = some .free) (hka : X.env.kindOf "self" = some .local) (hcell : X.env.cells.lookup ("__class__" : Str) = some cc) (hfu : X.env.func = some f) (hco : X.env.code = .ref cda)
    (lk : X.K.lookup f = some ⟨oc, od, .func fd, osl⟩) (har : (fd.params.posonlyargs ++ fd.params.args).head? = some ar) (hself : ar.arg = "self") (I : Inv X [] σ H s1) (ea : H a = some (exo a C none)) (hN : X.N[0]? = some ("self" : Str)) (hσ : σ[0]? = some (some (V.ref a)))
    (ha : PA X (e :: es) ta)
    (hat : eval (.Call (.Attribute (.Call (.Name "super" p0) [] [] p1) "__init__" p2) (e :: es) [] p7) X.env = (do
      let ov ← attributeBase (.Call (.Name "super" p0) [] [] p1) "__init__" X.env (eval (.Call (.Name "super" p0) [] [] p1) X.env)
      standAt p2.atName
      let (f, first) ← holding [ov] (getMethod ov "__init__" pl)
      callWith p7 f first (backTo p7 (starEach (e :: es) X.env)) []) := by rfl)
    (he : starEach (e :: es) X.env = (false, eval e X.env) :: starEach es X.env := by rfl) (hpl : (backTo p7 (starEach es X.env)).any (·.1) = false := by rfl)
    (h : ta σ H fun vs H1 => vs.length ≤ 1000 ∧ H1 a = some (exo a C none) ∧ Q H1) :
    PySem.wpAt (model X.prog X.w) X.A (.func body X.env) (eval (.Call (.Attribute (.Call (.Name "super" p0) [] [] p1) "__init__" p2) (e :: es) [] p7) X.env) (fun _ s' => ∃ H1, Inv X [] σ H1 s' ∧ Q H1) X.xe s1 := by
  obtain ⟨nm, q, N, bs, bm, sn, sub, ab, col, dd, k0, k1, k2, k3, k5, hC, hbm⟩ := T.ex.cls
  have hcl : PySem.W.clsIn X.K C = some { name := nm, bases := bs, mro := .ref C :: bm, ns := N, qualname := q, hasDict := true, slotNames := sn, subclasses := sub, abstract := ab, collection := col, hasDel := false } := by unfold PySem.W.clsIn; rw [hC] <;> rfl
  obtain ⟨cl, cld, csl, hcc⟩ := T.cell
  obtain ⟨ccl, cdd, ccs, vs, file, tf, hcode, hvs, hfile⟩ := T.code
  have KX := I.kIn
  obtain ⟨t1, ho⟩ := exo_at I.hok ea
  obtain ⟨m, hns, hl⟩ := I.loc
  obtain ⟨u, ru, hu⟩ := hl 0 "self" (.ref a) hN hσ (.inl hka)
  obtain rfl : u = Value.ref a := ru
  have hm : m ("self" : Str) = some (Value.ref a) := by
    rcases hu with ⟨_, e⟩ | ⟨e, _⟩
    · exact e
    · rcases e with e | e <;> rw [hka] at e <;> cases e
  have hCs := KX _ _ hC
  refine ks_wpAt_MethodCall (pl := pl) ?_ hat
  refine ks_wpAt_super_base hks hkc (by decide) hfu (KX _ _ lk) rfl har hco (KX _ _ hcode) rfl hvs hfile T.top ?_
  obtain ⟨mb, hb1, hb2⟩ := I.mod.blt
  refine PySem.W.ks_loadName_global I.ok.kind hks (Calls.loadGlobal_builtin (by rw [I.ok.glob]; exact I.mod.glob.keeps I.bk) T.z (by rw [I.ok.blt]; exact hb1.keeps I.bk) ((hb2 "super" (by decide)).trans (by rfl)) ⟨rfl, ?_⟩)
  refine wpAny_loadName_free I.ok.kind hkc hcell ⟨_, KX _ _ hcc, rfl⟩ ?_
  rw [hself]
  refine wpAny_loadName_local I.ok.kind hka hns hm ?_
  obtain ⟨hh, g, d, t, os⟩ := s1
  refine ks_wpAny_isType_cls hCs rfl ⟨rfl, ?_⟩
  have IA : PySem.W.InstAt hh a { cls := .ref C, dict := none, data := .fields #[.ref t1, .none, .none, .none, .bool false, .none] } C none := ⟨ho, rfl, rfl, trivial⟩
  refine ks_wpAny_call_super hCs rfl ho rfl (fun c => by intro z; cases z) (PySem.W.looks_mroIn KX T.own) (fun h' e1 k1 => ?_)
  have KX' : X.K.In h' := KX.keeps k1
  have IA' : PySem.W.InstAt h' a { cls := .ref C, dict := none, data := .fields #[.ref t1, .none, .none, .none, .bool false, .none] } C none := ⟨k1 _ _ ho, rfl, rfl, trivial⟩
  have hmr : PySem.W.Looks (model X.prog X.w) h' (mroOf (.ref C)) (.ref C :: bm) := (PySem.W.looks_clsIn KX' hcl).andThen .now
  have hal : PySem.W.alongIn X.K "__init__" (((Value.ref C :: bm).dropWhile (· != .ref C)).drop 1) = some (some (.builtin "ValueError.__init__")) := by
    have z := T.sup
    unfold PySem.W.ks_superIn at z
    rw [hcl] at z
    exact z
  have hne : a ≠ C := fun z => by
    rw [z, hCs] at ho
    cases ho
  refine PySem.W.kxs_getMethod PySem.W.kxs_ValueError e1 (PySem.W.looks_opaque KX' T.opq) hmr rfl KX' hal (IA'.type.andThen (PySem.W.looks_subIn KX' T.ve)) hne (by decide) ?_
  have kk : ∀ b o, hh.get? b = some o → (h'.push (PySem.W.kxs_mw "ValueError.__init__" a)).get? b = some o := fun b o z => Heap.get?_push_of_some _ (k1 _ _ z)
  have sz : hh.objs.size ≤ h'.objs.size := Nat.le_of_lt (Heap.lt_size e1)
  have I2 : Inv X [(h'.objs.size, PySem.W.kxs_mw "ValueError.__init__" a)] σ H ⟨h'.push (PySem.W.kxs_mw "ValueError.__init__" a), g, d, t + 1, os⟩ :=
    ClX.pin_new (t' := t + 1) I kk sz (Heap.get?_push_size _ rfl) (fun v => by intro z; cases z)
  show wpAny _ _ (callWith p7 (Value.ref h'.objs.size) [] (backTo p7 (starEach (e :: es) X.env)) []) _ _ _
  have hA := ha.run p7 _ _ σ H _ I2 h
  rw [he] at hA ⊢
  refine PySem.W.kxs_callWith (i := "ValueError.__init__") (x := a) (by show (false || (backTo p7 (starEach es X.env)).any (·.1)) = false; rw [hpl]; rfl) ?_
  refine Calls.evalArgs_plain (thn hA fun us s2 ⟨vs2, H1, I3, rv, hlen, ea1, q⟩ => ?_)
  have hpin := ClX.pin_at I3
  refine ⟨hpin, ?_⟩
  obtain ⟨t2, ho2⟩ := exo_at I3.hok ea1
  obtain ⟨h2, g2, d2, tk2, os2⟩ := s2
  have hlu : us.length ≤ sizeLine := by
    rw [← Paired.length rv, sizeLine_eq]
    omega
  refine call_mwV (I3.kIn _ _ hC) ho2 hpin hlu fun h3 t3 k3 hx => ?_
  have J := I3.write (t' := tk2) (x := a) (e := a) (o := exo a C none) (by rw [ea1]; exact True.intro) (.inl rfl) k3 ⟨_, hx⟩ (exo_ok hx)
  have eu : upd H1 a (exo a C none) = H1 := by
    funext b
    by_cases hb : b = a
    · rw [hb, upd_same, ea1]
    · rw [upd_ne hb]
  rw [eu] at J
  exact ⟨H1, ClX.unpin J, q⟩
theorem ok_init_super {name qual x fld lit : Str} {params : Arguments} {scope : Scope} {dV kV doc pm ct oc : Value} {an od : Option Addr} {osl : Array (Option Value)} {f cda cc C : Addr} {p0 p1 p2 p3 p4 p5 p6 p7 p8 q0 q1 q2 q3 : Pos} {ar : Arg} {kk}
    (lk : K.lookup f = some ⟨oc, od, .func (PySem.W.ksFn name qual params [.Expr (.Call (.Attribute (.Call (.Name "super" p0) [] [] p1) "__init__" p2) [.JoinedStr [.Constant (.str lit) kk p3, .FormattedValue (.Name x p4) (-1) none p5] p6] [] p7) p8, .Assign [.Attribute (.Name "self" q0) fld q1] (.Name x q2) q3] scope dV kV doc pm an (.ref cda) ct cc), osl⟩)
    (hcd : PySem.W.codeIn K (.ref cda) qual = true) (S : SScope x scope) (T : Sup P K mg C cda cc fld) (hlit : lit.length ≤ 1000) (har : (params.posonlyargs ++ params.args).head? = some ar) (hself : ar.arg = "self")
    (hat : ∀ env : Env, ∃ pl : Sem Bool, eval (.Call (.Attribute (.Call (.Name "super" p0) [] [] p1) "__init__" p2) [.JoinedStr [.Constant (.str lit) kk p3, .FormattedValue (.Name x p4) (-1) none p5] p6] [] p7) env = (do
      let ov ← attributeBase (.Call (.Name "super" p0) [] [] p1) "__init__" env (eval (.Call (.Name "super" p0) [] [] p1) env)
      standAt p2.atName
      let (f, first) ← holding [ov] (getMethod ov "__init__" pl)
      callWith p7 f first (backTo p7 (starEach [.JoinedStr [.Constant (.str lit) kk p3, .FormattedValue (.Name x p4) (-1) none p5] p6] env)) []))
    (hsw1 : ∀ env : Env, swapsWith (.Call (.Attribute (.Call (.Name "super" p0) [] [] p1) "__init__" p2) [.JoinedStr [.Constant (.str lit) kk p3, .FormattedValue (.Name x p4) (-1) none p5] p6] [] p7) none p8.line env = pure false)
    (hsw2 : ∀ env : Env, swapsWith (.Name x q2) (some (.Attribute (.Name "self" q0) fld q1)) q3.line env = pure false) :
    FnOk P w K mg base CX (k + 1) f (PySem.W.ksFn name qual params [.Expr (.Call (.Attribute (.Call (.Name "super" p0) [] [] p1) "__init__" p2) [.JoinedStr [.Constant (.str lit) kk p3, .FormattedValue (.Name x p4) (-1) none p5] p6] [] p7) p8, .Assign [.Attribute (.Name "self" q0) fld q1] (.Name x q2) q3] scope dV kV doc pm an (.ref cda) ct cc) ["self", x] (spInit C fld) := by
  refine ⟨fun vs H Q E h => by obtain ⟨_, _, rfl, _⟩ := h; rfl, fun A outer s H args us vs Q E hr e0 hb r hsp => ?_⟩
  obtain ⟨a, y, rfl, ea, hy, hQ⟩ := hsp
  match us, r with
  | [u0, u1], .cons r0 (.cons r1 .nil) =>
  obtain rfl : u0 = Value.ref a := r0
  have KX : K.In s.heap := e0.mod.kin.keeps fun b o e => (e0.bs b o e).1
  have lim : s.heap.NoLimit := e0.mod.nolimit.keeps fun b o e => (e0.bs b o e).1
  refine ks_codeAny_call_defAt hr.depth (KX _ _ lk) rfl lim (PySem.W.codeRec_of KX hcd) rfl hb S.nocell (fun z hz => ?_) (fun h1 hns hk => ?_) S.co S.gen S.kind
  · rcases List.mem_cons.mp hz with e | e
    · rw [e]; exact S.self
    · rcases List.mem_cons.mp e with e | e
      · rw [e]; exact S.par
      · exact absurd e (by simp)
  show PySem.wpAt (model P w) (A.deeper (PySem.W.ksEnv qual scope s.heap.objs.size f (.ref cda) cc)) (.func _ (PySem.W.ksEnv qual scope s.heap.objs.size f (.ref cda) cc)) (execs _ (PySem.W.ksEnv qual scope s.heap.objs.size f (.ref cda) cc)) _ _ _
  have I : Inv (cxS CX P w K mg base ["self", x] qual scope f cda cc A outer s H E) [] [some (.ref a), some y] H { s with heap := h1, toks := s.toks + ((["self", x] : List Str).zip [Value.ref a, u1]).length } := sup_inv S T hr.hd e0 rfl r1 hns hk
  generalize hs1 : ({ s with heap := h1, toks := s.toks + ((["self", x] : List Str).zip [Value.ref a, u1]).length } : Shared) = s1 at I ⊢
  generalize hX : cxS CX P w K mg base ["self", x] qual scope f cda cc A outer s H E = X at I
  have pv : PE X (.Name x q2) (tVar 1) := by rw [← hX]; exact pe_var rfl (.inl S.par) S.nd S.nc
  have pv4 : PE X (.Name x p4) (tVar 1) := by rw [← hX]; exact pe_var rfl (.inl S.par) S.nd S.nc
  have ps : PE X (.Name "self" q0) (tVar 0) := by rw [← hX]; exact pe_var rfl (.inl S.self)
  have pj : PE X (.JoinedStr [.Constant (.str lit) kk p3, .FormattedValue (.Name x p4) (-1) none p5] p6) _ := pe_joined (.cons pe_str (.cons (pe_fmtN pv4) .nil))
  have po : PS X (.Assign [.Attribute (.Name "self" q0) fld q1] (.Name x q2) q3) _ := ps_ost ps pv (by rw [← hX]; exact hsw2 _)
  have pa : PA X [.JoinedStr [.Constant (.str lit) kk p3, .FormattedValue (.Name x p4) (-1) none p5] p6] _ := pa_cons pj pa_nil
  have hargs : (tCons (fun σ H Q => tJs [tC (.str lit), tFmtN (tVar 1)] Str.empty σ H fun out H1 => Q (.str out) H1) tNil) [some (.ref a), some y] H fun vs H1 => vs.length ≤ 1000 ∧ H1 a = some (exo a C none) ∧ H1 = H := by
    have a0 : (Str.empty ++ lit).length ≤ 1000 := by
      rw [PySem.Str.length_append]
      have : Str.empty.length = 0 := rfl
      omega
    refine ⟨lit, rfl, sup_sz (by omega), _, rfl, ?_⟩
    rcases hy with rfl | ⟨i, rfl, hi⟩
    · refine .inl ⟨rfl, _, rfl, ?_, by simp, ea, rfl⟩
      rw [PySem.Str.length_append]
      have : ("None" : Str).length = 4 := rfl
      exact sup_sz (by omega)
    · refine .inr ⟨i, rfl, sup_log hi, _, rfl, ?_, by simp, ea, rfl⟩
      rw [PySem.Str.length_append]
      have := sup_len hi
      exact sup_sz (by omega)
  subst hX
  obtain ⟨pl, hpl⟩ := hat (PySem.W.ksEnv qual scope s.heap.objs.size f (.ref cda) cc)
  refine ks_wpAt_execs_cons (ks_wpAt_Expr_any ?_ (by show (scope.kind == _ && _) = false; rw [S.kind]; rfl) (hsw1 _))
  refine ks_wpAt_mono (sup_call (X := cxS CX P w K mg base ["self", x] qual scope f cda cc A outer s H E) T S.sup S.cls S.self (by show List.lookup _ [(("__class__" : Str), cc)] = some cc; simp [List.lookup]) rfl rfl lk har hself I ea rfl rfl pa (hat := hpl) (h := hargs)) (fun _ s2 hq => ?_) (fun _ _ z => z)
  obtain ⟨H2, I2, rfl⟩ := hq
  have hrun := (pss_one po).run [] s2 [some (.ref a), some y] H2 { nx := fun _ H' => Q .non H', rt := Q } I2 ⟨y, rfl, .ref a, rfl, a, C, rfl, T.ex, T.nofld, .inl ⟨ea, fun dx n1 n2 => hQ dx n1 n2⟩⟩
  refine PySem.wpAt_of_wpAny (wpAny_mono hrun (fun fl s' hs => ?_) fun e s' hs => hs)
  cases fl with
  | ret u =>
    obtain ⟨v, σ', H', J, rv, q⟩ := hs
    exact ⟨v, H', J.os, J.bare, J.base, J.hok, rv, q⟩
  | next =>
    obtain ⟨σ', H', J, q⟩ := hs
    exact ⟨V.non, H', J.os, J.bare, J.base, J.hok, rfl, q⟩
  | brk =>
    obtain ⟨_, _, _, q⟩ := hs
    exact False.elim q
  | cont =>
    obtain ⟨_, _, _, q⟩ := hs
    exact False.elim q
end
end LT

namespace LT
open PySem PySem.Spec PyProof.Rows L2
section
open PySem.W
variable {prog : Program} {w : World} {A : Around} {E : Value → Shared → Prop} {s : Shared} {K : Frag} {x D : Addr} {ox : Obj} {od : Option Obj}
/-- a data descriptor of the class comes first, whatever the instance's own dict has -/
theorem findObj_dataD {C : Addr} {name : Str} {a g : Value} (hc : (clsIn K C).isSome = true) (ha : findIn K (.ref C) name = some (some a)) (hg : specialIn K a "__get__" = some (some g)) (ht : takesIn K a = some true) : findObj K C od name = some (.bind g a) := by
  obtain ⟨cd, hc⟩ := Option.isSome_iff_exists.mp hc
  unfold findObj
  rw [hc, Option.bind_some, ha, Option.bind_some]
  simp [hg, ht]
theorem kin_classD {Q : Option Value → Shared → Prop} (T : ExcC K D) (X : K.In s.heap) (I : InstAt s.heap x ox D od) (h : Q (some (.ref D)) { s with toks := s.toks + 1 }) : wpAny (model prog w) A (getAttr? (.ref x) "__class__") Q E s := by
  have hf : findObj K D od "__class__" = some (.bind (.builtin "getset_descriptor.__get__") (.builtin "object.__class__")) := findObj_dataD (by obtain ⟨cd, hc, _⟩ := any_some T.hd; rw [hc]; rfl) T.ha T.hn T.ht
  obtain ⟨hp, g, d, t, os⟩ := s
  have L0 := I.type (M := model prog w)
  have L1 := looks_findIn (M := model prog w) X T.hg
  have L2 := looks_findIn (M := model prog w) X T.hk
  have L3 := looks_find (M := model prog w) X I hf
  have sub : Looks (model prog w) hp (isInstance (.ref x) (.type "BaseException")) true := L0.andThen (looks_subIn X T.hs)
  have hx0 : (false && onTheHeap (Value.builtin "BaseException.__getattribute__")) = false := rfl
  have hx2 : (Value.builtin "BaseException.__getattribute__" == Value.builtin "object.__getattribute__") = false := by decide +kernel
  have hx1 : (onTheHeap (Value.ref D) && Value.builtin "BaseException.__getattribute__" == Value.builtin "object.__getattribute__") = false := by rw [hx2]; rfl
  unfold getAttr? getAttrBy? getAttrBy
  refine wpAny_bind (wpAny_mkText (wpAny_bind (wpAny_attempt (wpAny_holding (wpAny_bind (L0.at (wpAny_bind (L1.at ?_))))))))
  show wpAny _ _ (if (onTheHeap (Value.ref D) && Value.builtin "BaseException.__getattribute__" == Value.builtin "object.__getattribute__") = true then _ else _) _ _ _
  rw [hx1, if_neg Bool.false_ne_true]
  unfold getAttrByItsOwn hookBefore
  refine wpAny_bind ?_
  rw [if_pos (show onTheHeap (Value.ref D) = true from rfl)]
  refine L2.at ?_
  refine wpAny_bind (wpAny_attempt (wpAny_holding ?_))
  unfold callGetattribute
  rw [hx0, if_neg Bool.false_ne_true]
  unfold boundAndCalled
  rw [PySem.F.excAttr_ValueError.ga.bind (.ref x)]
  refine wpAny_bind (wpAny_pure ?_)
  show wpAny _ _ (call (.builtin "BaseException.__getattribute__") [.ref x, .str "__class__" t]) _ _ _
  refine wpAny_call (codeAny_call_builtin PySem.F.excAttr_ValueError.ga.plain PySem.F.entry_bexc_ga ?_)
  refine @check_slot (model prog w) _ _ ⟨hp, g, d, t + 1, os⟩ "BaseException.__getattribute__" "BaseException" "__getattribute__" (.ref x) [.str "__class__" t] [] _ (by decide +kernel) (by decide +kernel) sub (PySem.F.args_bexc_ga (.ref x) (.str "__class__" t)) ?_
  unfold Builtin.«object.__getattribute__»
  refine wpAny_bind (wpAny_of_eq (a := ((Value.ref x : Value), [Value.str "__class__" t])) (by first | rfl | (simp only [slotArgs]; rfl)) ?_)
  refine wpAny_bind (wpAny_pure (wpAny_bind (L0.at (wpAny_bind (L3.at ?_)))))
  show wpAny _ _ (holding [Value.builtin "object.__class__"] (call (.builtin "getset_descriptor.__get__") [.builtin "object.__class__", .ref x, .ref D]) >>= ret) _ _ _
  refine wpAny_bind (wpAny_holding (wpAny_call (class_get (s := ⟨hp, g, d, t + 1, os⟩) (ox := ox) (od := od) X I T.hm ?_)))
  refine wpAny_pure ?_
  show wpAny _ _ (handedOut (.ref D)) _ _ _
  rw [handedOut_of (v := .ref D) rfl]
  first
    | exact wpAny_pure (wpAny_pure h)
    | exact wpAny_pure h
    | exact wpAny_pure (wpAny_bind (wpAny_pure (wpAny_pure h)))
theorem kitx_excD (T : ExcC K D) : KitX K (.ref x) (.ref D) (fun h => InstAt h x ox D od) where
  ty := fun _ _ _ I => I.type
  it := fun _ _ X _ => by
    obtain ⟨cdD, hcD, _⟩ := any_some T.hd
    unfold clsIn at hcD
    split at hcD
    · rename_i c' d' cd' sl' ho
      intro A' Q' E' s' k q
      unfold isType loadHead
      exact wpAny_bind (wpAny_loadPart (k _ _ (X _ _ ho)) (wpAny_pure q))
    · cases hcD
  ne := fun h tp dd its n sl X htp => by
    obtain ⟨cdD, hcD, _⟩ := any_some T.hd
    refine Bool.eq_false_iff.mpr fun q => ?_
    have e : D = tp := Value.ref.inj (beq_iff_eq.mp q)
    subst e
    unfold clsIn at hcD
    split at hcD
    · rename_i c' d' cd' sl' ho
      have z := (X _ _ ho).symm.trans htp
      cases z
    · cases hcD
  ca := fun X I k => kin_classD T X I k
end
/-- at a an exception of the class C, and its fields, if any -/
def Exc (H : Hp) (a C : Addr) (fs : Option (List (Str × V))) : Prop := (fs = none ∧ H a = some (ExK (.ref C) none a)) ∨ ∃ (d : Addr) (l : List (Str × V)), fs = some l ∧ H a = some (ExK (.ref C) (some d) a) ∧ H d = some (.xd l)
theorem Exc.same {H H' : Hp} {a C : Addr} {fs : Option (List (Str × V))} (h : Exc H a C fs) (s : ∀ b o, H b = some o → H' b = some o) : Exc H' a C fs := by
  rcases h with ⟨e, h⟩ | ⟨d, l, e, h1, h2⟩
  · exact .inl ⟨e, s _ _ h⟩
  · exact .inr ⟨d, l, e, s _ _ h1, s _ _ h2⟩
section
variable {X : Cx} {pins : List (Addr × Obj)} {σ : L2.St} {H : Hp} {s : Shared}
theorem Exc.inst {a C : Addr} {fs : Option (List (Str × V))} (I : Inv X pins σ H s) (h : Exc H a C fs) : ∃ (ob : Obj) (od : Option Obj), PySem.W.InstAt s.heap a ob C od ∧ ∀ l, fs = some l → ∃ (o : Obj) (mA : Str → Option Value), od = some o ∧ (∀ n, PySem.W.lookIn n o = some (mA n)) ∧ ∀ n, RelO (l.lookup n) (mA n) := by
  rcases h with ⟨rfl, h⟩ | ⟨d, l, rfl, h1, h2⟩
  · obtain ⟨⟨ob, fs, hget, hz, hd⟩, _, _⟩ := I.hok a _ h
    obtain ⟨oc, od, oda, osl⟩ := ob
    obtain ⟨z1, z2⟩ := hz
    dsimp only at z1 z2 hd
    subst z1 z2 hd
    exact ⟨_, none, ⟨hget, rfl, rfl, trivial⟩, fun l e => nomatch e⟩
  · obtain ⟨⟨ob, fs, hget, hz, hd⟩, _, _⟩ := I.hok a _ h1
    have hx : ObjOk X.prog X.w H s.heap d (.xd l) := I.hok d _ h2
    obtain ⟨mA, hns, hr⟩ := hx
    obtain ⟨o, ho, hl⟩ := lookIn_ns hns
    obtain ⟨oc, od, oda, osl⟩ := ob
    obtain ⟨z1, z2⟩ := hz
    dsimp only at z1 z2 hd
    subst z1 z2 hd
    refine ⟨_, some o, ⟨hget, rfl, rfl, ho⟩, fun l' e => ?_⟩
    cases e
    exact ⟨o, mA, rfl, hl, hr⟩
end
section
variable {X : Cx}
/-- isinstance(e, c), e an exception that is held -/
def rIsX (K : PySem.W.Frag) : List V → Hp → VK → Prop := fun xs H Q => ∃ (a D : Addr) (fs : Option (List (Str × V))) (c : V) (cv : Value) (b : Bool), xs = [.ref a, c] ∧ Exc H a D fs ∧ ExcC K D ∧ (∀ u, RelV c u → u = cv) ∧ PySem.W.kitOne K (.ref D) cv = some b ∧ Q (.bl b) H
theorem call_isX : CallR X (.builtin "isinstance") (rIsX X.K) := by
  intro pins s σ H xs us Q I r h
  obtain ⟨a, D, fs, c, cv, b, rfl, ha, C, hcv, e, q⟩ := h
  obtain ⟨u1, us1, rfl, r1, r2⟩ : ∃ u us', us = u :: us' ∧ RelV (.ref a) u ∧ Vals [c] us' := by
    cases r with | cons h t => exact ⟨_, _, rfl, h, t⟩
  obtain ⟨u2, rfl, r3⟩ := vals1 r2
  cases r1
  have ec := hcv _ r3
  subst ec
  obtain ⟨ob, od, J, _⟩ := ha.inst I
  refine PySem.W.kia_one (kitx_excD C) I.kIn J e (fun z => nomatch z) ?_
  intro tk
  exact ⟨.bl b, H, I.kept (t' := tk) fun _ _ z => z, rfl, q⟩
/-- e.f, e an exception that is held -/
theorem pe_fldX {e : Expr} {te : TE} {pos : Pos} {n : Str} (he : PE X e te) (hb : attributeBase e n X.env (eval e X.env) = eval e X.env := by rfl) :
    PE X (.Attribute e n pos) (fun σ H Q => te σ H fun x H1 => ∃ (a C : Addr) (l : List (Str × V)) (v : V), x = .ref a ∧ Exc H1 a C (some l) ∧ XfC X.K C ∧ PySem.W.findIn X.K (.ref C) n = some none ∧ l.lookup n = some v ∧ Q v H1) := by
  refine ⟨fun pins s σ H Q I h => ?_⟩
  refine attr_of hb (thn (he.run pins s σ H _ I h) fun u s1 hh => ?_)
  obtain ⟨x, H1, I1, rx, a, C, l, v, rfl, hx, T, hno, hl, q⟩ := hh
  obtain rfl : u = Value.ref a := rx
  obtain ⟨ob, od, J, hf⟩ := hx.inst I1
  obtain ⟨o, mA, rfl, ho, hr⟩ := hf l rfl
  obtain ⟨u, hu, ru⟩ := RelO.some_of (v := v) (o := mA n) (by rw [← hl]; exact hr n)
  exact HandSPX.exc_get I1.kIn J T.ga T.gg T.exC (PySem.W.findObj_own T.hdC hno rfl (by rw [ho, hu])) (handed_of ru) ⟨v, H1, I1.tok _, ru, q⟩
end
/-- what the top says of an own class of errors whose __init__ keeps one field -/
structure SX (P : Program) (w : World) (K : PySem.W.Frag) (mg : Str → Option Value) (base : Heap) (x : Str) (C : Addr) (fld : Str) : Prop where
  g : mg x = some (.ref C)
  ex : OexC K C
  init : ∃ (fI : Addr) (fd : FuncData) (ps : List Str), PySem.W.findIn K (.ref C) "__init__" = some (some (.ref fI)) ∧ PySem.W.typeIn K (.ref fI) = some (.type "function") ∧ FnOk P w K mg base CX0 1 fI fd ps (spInit C fld) ∧ Binds K fd ps []
section
variable {X : Cx} {x fld : Str} {C : Addr} {e : Expr} {ta : TA} {p pos : Pos}
/-- what may be kept in the field: nothing, or a number that is not too great -/
def Held (y : V) : Prop := y = .non ∨ ∃ i : Int, y = .int i ∧ i.natAbs < 10 ^ 66
theorem pa_mono {es : List Expr} (ha : PA X es ta) : PA X es (fun σ H Q => ∃ Q1 : List V → Hp → Prop, ta σ H Q1 ∧ ∀ vs H1, Q1 vs H1 → Q vs H1) :=
  ⟨fun pos pins s σ H Q I ⟨Q1, h, m⟩ => thn (ha.run pos pins s σ H Q1 I h) fun us s' ⟨vs, H1, I1, r, q⟩ => ⟨vs, H1, I1, r, m vs H1 q⟩⟩
/-- raise C(e) -/
theorem pmk_sup (T : SX X.prog X.w X.K X.mg X.base x C fld) (hr : Room 2 X.A) (hg : Gl X x) (ha : PA X [e] ta) (hdb : (x == ("__debug__" : Str)) = false := by decide)
    (he : starEach [e] X.env = (false, eval e X.env) :: starEach [] X.env := by rfl) (hpl : (backTo pos (starEach [] X.env)).any (·.1) = false := by rfl) :
    PMk X (.Call (.Name x p) [e] [] pos) (fun σ H Q => ta σ H fun vs H1 => ∃ y, vs = [y] ∧ Held y ∧ ∀ d, H1 d = none → Q (.ref C) (some d) (upd H1 d (.xd [(fld, y)]))) := by
  obtain ⟨fI, fd, ps, i1, i2, F, B⟩ := T.init
  intro pins s σ H Q I h
  refine pmk_oex T.ex i1 i2 F hr B .nil pass0 hg T.g (pa_mono ha) hdb he hpl pins s σ H Q I ⟨_, h, fun vs H1 hh => ?_⟩
  obtain ⟨y, rfl, hy, hq⟩ := hh
  refine ⟨by simp, fun a na => ⟨a, y, rfl, upd_same, hy, fun dx n1 n2 => ⟨rfl, dx, [(fld, y)], upd_same, ?_, ?_, ?_⟩⟩⟩
  · rw [upd_ne n2, upd_same]
  · rw [upd_ne n2] at n1
    exact n1
  · rw [upd_ne n2] at n1
    have e : upd (del (upd (upd (upd H1 a (exo a C none)) dx (exd dx [(fld, y)])) a (exo a C (some dx))) a) dx (.xd [(fld, y)]) = upd H1 dx (.xd [(fld, y)]) := by
      funext b
      by_cases hb : b = dx
      · rw [hb, upd_same, upd_same]
      · rw [upd_ne hb, upd_ne hb]
        by_cases hc : b = a
        · rw [hc, del_same, na]
        · rw [del_ne hc, upd_ne hc, upd_ne hb, upd_ne hc]
    rw [e]
    exact hq dx n1
/-- C(e), as a value -/
theorem pe_sup (T : SX X.prog X.w X.K X.mg X.base x C fld) (hr : Room 2 X.A) (hg : Gl X x) (ha : PA X [e] ta) (hdb : (x == ("__debug__" : Str)) = false := by decide)
    (he : starEach [e] X.env = (false, eval e X.env) :: starEach [] X.env := by rfl) (hpl : (backTo pos (starEach [] X.env)).any (·.1) = false := by rfl) :
    PE X (.Call (.Name x p) [e] [] pos) (fun σ H Q => ta σ H fun vs H1 => ∃ y, vs = [y] ∧ Held y ∧ ∀ a d, H1 a = none → H1 d = none → d ≠ a → Q (.ref a) (upd (upd H1 d (.xd [(fld, y)])) a (ExK (.ref C) (some d) a))) := by
  refine ⟨fun pins s σ H Q I h => ?_⟩
  refine wpAny_mono (pmk_sup T hr hg (pa_mono ha) hdb he hpl pins s σ H (fun cls d G => ∃ H1 y dd, cls = .ref C ∧ d = some dd ∧ G = upd H1 dd (.xd [(fld, y)]) ∧ H1 dd = none ∧ ∀ a, H1 a = none → dd ≠ a → Q (.ref a) (upd (upd H1 dd (.xd [(fld, y)])) a (ExK (.ref C) (some dd) a))) I ?_) (fun u s' hu => ?_) fun _ _ z => z
  · refine ⟨_, h, fun vs H1 hh => ?_⟩
    obtain ⟨y, rfl, hy, hq⟩ := hh
    exact ⟨y, rfl, hy, fun d n => ⟨H1, y, d, rfl, rfl, rfl, n, fun a na ne => hq a d na n ne⟩⟩
  · obtain ⟨a, oe, vs, sI, G, cls, d, rfl, J, k, n0, ga, hz, hd, h1, na, os, bare, _, H1, y, dd, rfl, rfl, rfl, nd, q⟩ := hu
    have ne : dd ≠ a := fun z => by
      rw [z, upd_same] at na
      cases na
    have J2 := J.laidN (h' := s'.heap) (t' := s'.toks) k n0 na (exK_ok (cls := .ref C) (d := some dd) ga hz hd)
    rw [upd_ne (Ne.symm ne)] at na
    exact ⟨.ref a, _, ⟨J2.ok, os.trans J2.os, bare, J2.base, J2.loc, J2.cell, J2.free, J2.freeC, J2.pin, J2.hok, J2.len⟩, rfl, q a na ne⟩
/-- C(e), C without an __init__ of its own, as a value -/
theorem pe_exV {bmB : List Value} {B newId initId : String} {te : TE} (F : ExcBaseFacts B newId initId bmB) (q : PySem.W.excIn X.K C bmB newId = true) (gC : X.mg x = some (.ref C)) (kC : PySem.W.keepIn X.K (.ref C) = true) (hg : Gl X x)
    (he : PE X e te) (hs : starEach [e] X.env = (false, eval e X.env) :: starEach [] X.env := by rfl) (hdb : (x == ("__debug__" : Str)) = false := by decide) :
    PE X (.Call (.Name x p) [e] [] pos) (fun σ H Q => te σ H fun _ H1 => ∀ a, H1 a = none → Q (.ref a) (upd H1 a (ExK (.ref C) none a))) := by
  refine ⟨fun pins s σ H Q I h => ?_⟩
  refine wpAny_Call_Name_kw (ld_glob I hg gC ?_ hdb)
  refine PySem.W.callWith_K (h₀ := X.base) I.ok.mod.kin kC ?_ hs (by rfl)
  rw [hs]
  show wpAny _ _ (spliced ((false, eval e X.env) :: backTo pos (starEach [] X.env))) _ _ s
  refine Calls.spliced_cons (thn (he.run pins s σ H _ I h) fun u s1 ⟨v, H1, I1, r1, q1⟩ => ?_)
  refine Calls.spliced_nil ⟨I1.kIn, ?_⟩
  show wpAny _ _ (call (.ref C) [u]) _ _ _
  obtain ⟨bm, N, nm, qn, bs, hdct, sn, sub, ab, col, dd, k0, k1, k2, k3, k5, mN, hC, hN, hni, T⟩ := exc_obj I1.kIn q
  refine wpAny_call_exc_subT F T hC hN hni (fun h' a hm => ?_) (by show 1 ≤ sizeLine; rw [sizeLine_eq]; omega)
  have hn : H1 a = none := I1.hok.gone hm.new
  obtain ⟨t, ht, _, _⟩ := hm.there
  exact ⟨.ref a, upd H1 a (ExK (.ref C) none a), I1.laidN hm.keeps hm.new hn (exK_ok ht ⟨rfl, rfl⟩ rfl), rfl, q1 a hn⟩end
end LT

namespace LT
open PySem PySem.Spec PyProof.Rows L2
/-- what the top says of an own class of errors without an __init__ -/
structure XF (K : PySem.W.Frag) (mg : Str → Option Value) (x : Str) (C : Addr) : Prop where
  g : mg x = some (.ref C)
  k : PySem.W.keepIn K (.ref C) = true
  q : PySem.W.excIn K C [.type "ValueError", .type "Exception", .type "BaseException", .type "object"] "ValueError.__new__" = true
  b : PySem.W.subIn K (.ref C) (.type "BaseException") = some true
  t : PySem.W.typeIn K (.ref C) = some (.type "type")
end LT

namespace LT
open PySem PySem.Spec PyProof.Rows L2
section
variable {P : Program} {w : World} {K : PySem.W.Frag} {mg : Str → Option Value} {base : Heap}
def spWhole : Sp := fun vs H Q _ => ∃ i : Int, vs = [.int i] ∧ Q (.bl true) H
theorem ok_is_whole {f : Addr} {fd : FuncData} (F : Fun K "is_whole" "is_whole" sIsWhole f fd) (z_isinstance : mg "isinstance" = none) (z_int : mg "int" = none) (z_bool : mg "bool" = none) : FnOk P w K mg base CX0 1 f fd ["value"] spWhole := by
  refine F.ok scIsWhole (fun vs H Q E h => ?_) (fun cdv A outer s H vs Q E hr h => ?_)
  · obtain ⟨i, rfl, _⟩ := h
    rfl
  obtain ⟨i, rfl, q⟩ := h
  refine ⟨_, (pss_one (ps_ret (pe_and (pe_callB call_isi (by rfl) z_isinstance (by decide +kernel) (pa_cons (pv 0) (pa_cons (pe_bltn (v := .ty "int") (u := .type "int") (by rfl) z_int (by decide +kernel) rfl) pa_nil))) (pe_one (pe_not (pe_callB call_isi (by rfl) z_isinstance (by decide +kernel) (pa_cons (pv 0) (pa_cons (pe_bltn (v := .ty "bool") (u := .type "bool") (by rfl) z_bool (by decide +kernel) rfl) pa_nil)))))))), ?_⟩
  refine ⟨_, rfl, _, _, _, _, true, rfl, .ty "int", .base (.int i), kit_ty (by decide +kernel), true, rfl, ?_⟩
  refine ⟨_, rfl, _, _, _, _, false, rfl, .ty "bool", .base (.int i), kit_ty (by decide +kernel), false, rfl, ?_⟩
  exact q
def spBetween : Sp := fun vs H Q _ => ∃ v lo hi : Int, vs = [.int v, .int lo, .int hi] ∧ Q (.bl (decide (lo ≤ v) && decide (v ≤ hi))) H
theorem ok_is_between {f g : Addr} {fd gd : FuncData} (F : Fun K "is_between" "is_between" sIsBetween f fd) (GIsWhole : FnOk P w K mg base CX0 1 g gd ["value"] spWhole) (AIsWhole : At K mg "is_whole" g gd ["value"]) : FnOk P w K mg base CX0 2 f fd ["value", "low", "high"] spBetween := by
  refine F.ok scIsBetween (fun vs H Q E h => ?_) (fun cdv A outer s H vs Q E hr h => ?_)
  · obtain ⟨i, _, _, rfl, _⟩ := h
    rfl
  obtain ⟨v, lo, hi, rfl, q⟩ := h
  refine ⟨_, (pss_one (ps_ret (pe_and (pe_call GIsWhole (hr.mono (by decide)) rfl AIsWhole.m AIsWhole.kp AIsWhole.b .nil pass0 (pa_cons (pv 0) pa_nil)) (pe_one (pe_chain op_le op_le (pv 1) (pv 0) (pv 2)))))), ?_⟩
  refine ⟨_, rfl, v, rfl, true, rfl, ?_⟩
  refine ⟨_, rfl, _, rfl, _, _, rfl, rfl, _, rfl, ?_⟩
  by_cases h1 : lo ≤ v
  · rw [decide_eq_true h1] at q ⊢
    exact ⟨_, rfl, _, _, rfl, rfl, q⟩
  · rw [decide_eq_false h1] at q ⊢
    exact q
def spCheckSize : Sp := fun vs H Q _ => ∃ n : Int, vs = [.int n] ∧ 1 ≤ n ∧ n ≤ 10 ^ 30 ∧ Q .non H
theorem ok_check_size {f g : Addr} {fd gd : FuncData} {t : Tok} (F : Fun K "check_size" "check_size" sCheckSize f fd) (GIsBetween : FnOk P w K mg base CX0 2 g gd ["value", "low", "high"] spBetween) (AIsBetween : At K mg "is_between" g gd ["value", "low", "high"]) (g_MOST_ENTRIES : mg "MOST_ENTRIES" = some (.int 1000000000000000000000000000000 t)) : FnOk P w K mg base CX0 3 f fd ["size"] spCheckSize := by
  refine F.ok scCheckSize (fun vs H Q E h => ?_) (fun cdv A outer s H vs Q E hr h => ?_)
  · obtain ⟨i, rfl, _⟩ := h
    rfl
  obtain ⟨n, rfl, h1, h2, q⟩ := h
  refine ⟨_, (pss_one (ps_if (pt_not (pt_val (pe_call GIsBetween (hr.mono (by decide)) rfl AIsBetween.m AIsBetween.kp AIsBetween.b .nil pass0 (pa_cons (pv 0) (pa_cons pe_int (pa_cons (pe_glob (v := .int 1000000000000000000000000000000) rfl g_MOST_ENTRIES ⟨_, rfl⟩) pa_nil))))))
    (pss_one ps_never)
    pss_nil)), ?_⟩
  refine ⟨_, rfl, n, 1, 1000000000000000000000000000000, rfl, _, rfl, ?_⟩
  rw [decide_eq_true h1, decide_eq_true (show n ≤ 1000000000000000000000000000000 from h2)]
  exact q
end
end LT

namespace LT
open PySem PySem.Spec PyProof.Rows L2
/-- values of the plain kinds, with their types -/
inductive Pl (K : PySem.W.Frag) (H : Hp) : V → String → Prop
  | non : Pl K H .non "NoneType"
  | bl (b : Bool) : Pl K H (.bl b) "bool"
  | int (i : Int) : Pl K H (.int i) "int"
  | str (s : Str) : Pl K H (.str s) "str"
  | lst {a : Addr} {xs : List V} : H a = some (.lst xs) → Pl K H (.ref a) "list"
  | tup {a : Addr} {xs : List V} : H a = some (.tup xs) → Pl K H (.ref a) "tuple"
  | dict {a : Addr} {kvs : List (Key × V)} : H a = some (.dK kvs) → Pl K H (.ref a) "dict"
theorem Pl.ty {K : PySem.W.Frag} {H : Hp} {v : V} {t : String} (h : Pl K H v t) : TyX K H v (.type t) := by
  cases h with
  | non => exact .base .non
  | bl b => exact .base (.bl b)
  | int i => exact .base (.int i)
  | str s => exact .base (.str s)
  | lst e => exact .base (.lst e)
  | tup e => exact .base (.tup e)
  | dict e => exact .base (.dK e)
def isInt : V → Bool
  | .int _ => true
  | _ => false
def inRange (lo hi : Int) : V → Bool
  | .int i => decide (lo ≤ i) && decide (i ≤ hi)
  | _ => false
section
variable {P : Program} {w : World} {K : PySem.W.Frag} {mg : Str → Option Value} {base : Heap}
def spWholeV (K : PySem.W.Frag) : Sp := fun vs H Q _ => ∃ (v : V) (t : String), vs = [v] ∧ Pl K H v t ∧ Q (.bl (isInt v)) H
theorem ok_is_wholeV {f : Addr} {fd : FuncData} (F : Fun K "is_whole" "is_whole" sIsWhole f fd) (z_isinstance : mg "isinstance" = none) (z_int : mg "int" = none) (z_bool : mg "bool" = none) : FnOk P w K mg base CX0 1 f fd ["value"] (spWholeV K) := by
  refine F.ok scIsWhole (fun vs H Q E h => ?_) (fun cdv A outer s H vs Q E hr h => ?_)
  · obtain ⟨_, _, rfl, _⟩ := h
    rfl
  obtain ⟨v, t, rfl, hv, q⟩ := h
  refine ⟨_, (pss_one (ps_ret (pe_and (pe_callB call_isi (by rfl) z_isinstance (by decide +kernel) (pa_cons (pv 0) (pa_cons (pe_bltn (v := .ty "int") (u := .type "int") (by rfl) z_int (by decide +kernel) rfl) pa_nil))) (pe_one (pe_not (pe_callB call_isi (by rfl) z_isinstance (by decide +kernel) (pa_cons (pv 0) (pa_cons (pe_bltn (v := .ty "bool") (u := .type "bool") (by rfl) z_bool (by decide +kernel) rfl) pa_nil)))))))), ?_⟩
  cases hv with
  | non => exact ⟨_, rfl, _, _, _, _, false, rfl, .ty "int", (Pl.non (K := K) (H := H)).ty, kit_ty (by decide +kernel), false, rfl, q⟩
  | bl b => exact ⟨_, rfl, _, _, _, _, true, rfl, .ty "int", (Pl.bl (K := K) (H := H) b).ty, kit_ty (by decide +kernel), true, rfl, _, rfl, _, _, _, _, true, rfl, .ty "bool", (Pl.bl (K := K) (H := H) b).ty, kit_ty (by decide +kernel), true, rfl, q⟩
  | int i => exact ⟨_, rfl, _, _, _, _, true, rfl, .ty "int", (Pl.int (K := K) (H := H) i).ty, kit_ty (by decide +kernel), true, rfl, _, rfl, _, _, _, _, false, rfl, .ty "bool", (Pl.int (K := K) (H := H) i).ty, kit_ty (by decide +kernel), false, rfl, q⟩
  | str s => exact ⟨_, rfl, _, _, _, _, false, rfl, .ty "int", (Pl.str (K := K) (H := H) s).ty, kit_ty (by decide +kernel), false, rfl, q⟩
  | lst e => exact ⟨_, rfl, _, _, _, _, false, rfl, .ty "int", (Pl.lst (K := K) e).ty, kit_ty (by decide +kernel), false, rfl, q⟩
  | tup e => exact ⟨_, rfl, _, _, _, _, false, rfl, .ty "int", (Pl.tup (K := K) e).ty, kit_ty (by decide +kernel), false, rfl, q⟩
  | dict e => exact ⟨_, rfl, _, _, _, _, false, rfl, .ty "int", (Pl.dict (K := K) e).ty, kit_ty (by decide +kernel), false, rfl, q⟩
def spBetweenV (K : PySem.W.Frag) : Sp := fun vs H Q _ => ∃ (v : V) (t : String) (lo hi : Int), vs = [v, .int lo, .int hi] ∧ Pl K H v t ∧ Q (.bl (inRange lo hi v)) H
theorem ok_is_betweenV {f g : Addr} {fd gd : FuncData} (F : Fun K "is_between" "is_between" sIsBetween f fd) (GIsWhole : FnOk P w K mg base CX0 1 g gd ["value"] (spWholeV K)) (AIsWhole : At K mg "is_whole" g gd ["value"]) : FnOk P w K mg base CX0 2 f fd ["value", "low", "high"] (spBetweenV K) := by
  refine F.ok scIsBetween (fun vs H Q E h => ?_) (fun cdv A outer s H vs Q E hr h => ?_)
  · obtain ⟨_, _, _, _, rfl, _⟩ := h
    rfl
  obtain ⟨v, t, lo, hi, rfl, hv, q⟩ := h
  refine ⟨_, (pss_one (ps_ret (pe_and (pe_call GIsWhole (hr.mono (by decide)) rfl AIsWhole.m AIsWhole.kp AIsWhole.b .nil pass0 (pa_cons (pv 0) pa_nil)) (pe_one (pe_chain op_le op_le (pv 1) (pv 0) (pv 2)))))), ?_⟩
  refine ⟨_, rfl, v, t, rfl, hv, isInt v, rfl, ?_⟩
  cases v with
  | int i =>
    have q' : Q (.bl (decide (lo ≤ i) && decide (i ≤ hi))) H := q
    refine ⟨_, rfl, _, rfl, _, _, rfl, rfl, _, rfl, ?_⟩
    by_cases h1 : lo ≤ i
    · rw [decide_eq_true h1] at q' ⊢
      exact ⟨_, rfl, _, _, rfl, rfl, q'⟩
    · rw [decide_eq_false h1] at q' ⊢
      exact q'
  | non => exact q
  | bl _ => exact q
  | str _ => exact q
  | byt _ => exact q
  | flt _ => exact q
  | ref _ => exact q
  | ty _ => exact q
theorem whole_of {k : Nat} {f : Addr} {fd : FuncData} (F : FnOk P w K mg base CX0 k f fd ["value"] (spWholeV K)) : FnOk P w K mg base CX0 k f fd ["value"] spWhole :=
  F.imp fun vs H Q E h => by
    obtain ⟨i, rfl, q⟩ := h
    exact ⟨_, _, rfl, .int i, q⟩
theorem between_of {k : Nat} {f : Addr} {fd : FuncData} (F : FnOk P w K mg base CX0 k f fd ["value", "low", "high"] (spBetweenV K)) : FnOk P w K mg base CX0 k f fd ["value", "low", "high"] spBetween :=
  F.imp fun vs H Q E h => by
    obtain ⟨v, lo, hi, rfl, q⟩ := h
    exact ⟨_, _, _, _, rfl, .int v, q⟩
end
end LT

namespace LT
open PySem PySem.Spec PyProof.Rows L2
theorem bits_nat (k : Nat) : Builtin.Int.intBits (k : Int) = if k = 0 then 0 else k.log2 + 1 := by
  unfold Builtin.Int.intBits
  by_cases h : k = 0
  · subst h; rfl
  · rw [if_neg h, if_neg (by simpa using h)]
    rfl
theorem bits_lb {m : Nat} (h : 1 ≤ m) : Builtin.Int.intBits ((m - 1 : Nat) : Int) = lb m := by
  rw [bits_nat]
  unfold lb
  by_cases k : m ≤ 1
  · rw [if_pos k, if_pos (by omega)]
  · rw [if_neg k, if_neg (by omega)]
theorem lb100 {m : Nat} (h : m ≤ 10 ^ 30) : lb m ≤ 100 := lb_le (Nat.le_trans h (by decide))
theorem fmod_of_dvd {a b : Nat} (h : a ∣ b) : Int.fmod (b : Int) (a : Int) = 0 := by
  rw [Int.fmod_eq_emod_of_nonneg _ (Int.natCast_nonneg _)]
  exact Int.emod_eq_zero_of_dvd (Int.natCast_dvd_natCast.mpr h)
end LT

namespace LT
open PySem PySem.Spec PyProof.Rows L2
section
variable {P : Program} {w : World} {K : PySem.W.Frag} {mg : Str → Option Value} {base : Heap}
def spPower : Sp := fun vs H Q _ => ∃ (k : Nat), vs = [.int k] ∧ 1 ≤ k ∧ k ≤ 10 ^ 30 ∧ Q (.int ((2 ^ k.log2 : Nat) : Int)) H
theorem ok_power_within {f : Addr} {fd : FuncData} (F : Fun K "power_within" "power_within" sPowerWithin f fd) : FnOk P w K mg base CX0 1 f fd ["number"] spPower := by
  refine F.ok scPowerWithin (fun vs H Q E h => ?_) (fun cdv A outer s H vs Q E hr h => ?_)
  · obtain ⟨_, rfl, _⟩ := h
    rfl
  obtain ⟨k, rfl, h1, h30, q⟩ := h
  refine ⟨_, (pss_one (ps_ret (pe_op op_shl pe_int (pe_op op_sub (pe_bits (pv 0)) pe_int)))), ?_⟩
  refine ⟨_, rfl, _, rfl, _, _, rfl, rfl, ?_⟩
  dsimp only
  have e : ((Builtin.Int.intBits (k : Int) : Nat) : Int) - 1 = ((k.log2 : Nat) : Int) := by
    rw [bits_nat, if_neg (by omega)]
    omega
  rw [e]
  have l100 : k.log2 < 100 := (Nat.log2_lt (by omega)).mpr (Nat.lt_of_le_of_lt h30 (by decide))
  refine ⟨_, _, rfl, rfl, ⟨Int.natCast_nonneg _, by omega, by decide⟩, ?_⟩
  have e2 : (1 : Int) * 2 ^ ((k.log2 : Nat) : Int).toNat = ((2 ^ k.log2 : Nat) : Int) := by rw [Int.one_mul, Int.toNat_natCast]; exact (Int.natCast_pow 2 _).symm
  show Q (.int ((1 : Int) * 2 ^ ((k.log2 : Nat) : Int).toNat)) H
  rw [e2]
  exact q
end
end LT

namespace LT
/-- the nodes from (b, b + m) down, as the law lists them -/
def nodesF : Nat → Nat → Nat → List (Nat × Nat)
  | 0, _, _ => []
  | i + 1, b, m => if m ≤ 1 then [(b, b + m)] else (b, b + m) :: (nodesF i b (gp m) ++ nodesF i (b + gp m) (m - gp m))
theorem nodesF_one {i b m : Nat} (h : m ≤ 1) : nodesF (i + 1) b m = [(b, b + m)] := if_pos h
theorem nodesF_two {i b m : Nat} (h : ¬ m ≤ 1) : nodesF (i + 1) b m = (b, b + m) :: (nodesF i b (gp m) ++ nodesF i (b + gp m) (m - gp m)) := if_neg h
theorem gp_half {i m : Nat} (h : 2 ≤ m) (k : 2 * m ≤ 2 ^ (i + 1)) : 2 * gp m ≤ 2 ^ i ∧ 2 * (m - gp m) ≤ 2 ^ i := by
  have g1 := gp_lt h
  have g2 := gp_ge h
  have p := Nat.pow_succ (n := 2) (m := i)
  have : gp m < 2 ^ i := by omega
  unfold gp at this ⊢
  have e := (Nat.pow_lt_pow_iff_right (by decide : 1 < 2)).mp this
  have e2 : 2 ^ ((m - 1).log2 + 1) ≤ 2 ^ i := Nat.pow_le_pow_right (by decide) (by omega)
  rw [Nat.pow_succ] at e2
  unfold gp at g1 g2
  omega
theorem nodesF_len : ∀ (i b m : Nat), 1 ≤ m → 2 * m ≤ 2 ^ i → (nodesF i b m).length = 2 * m - 1
  | 0, b, m, h1, h2 => by simp at h2; omega
  | i + 1, b, m, h1, h2 => by
    by_cases c : m ≤ 1
    · rw [nodesF_one c]
      simp
      omega
    · rw [nodesF_two c, List.length_cons, List.length_append]
      have g1 := gp_lt (m := m) (by omega)
      have g3 := gp_pos m
      obtain ⟨k1, k2⟩ := gp_half (by omega) h2
      rw [nodesF_len i b (gp m) g3 k1, nodesF_len i (b + gp m) (m - gp m) (by omega) k2]
      omega
/-- a node of tree(n) -/
def isN (n : Nat) (x : Nat × Nat) : Prop := x.1 < x.2 ∧ x.2 ≤ n ∧ tree n x.1 (x.2 - x.1)
theorem mul_le_of_lt {R a b : Nat} (h1 : R ∣ a) (h2 : R ∣ b) (h : a < b) : a + R ≤ b := by
  obtain ⟨x, rfl⟩ := h1
  obtain ⟨y, rfl⟩ := h2
  have : x < y := Nat.lt_of_mul_lt_mul_left h
  calc R * x + R = R * (x + 1) := by rw [Nat.mul_succ]
    _ ≤ R * y := Nat.mul_le_mul_left R this
/-- a node within another one is it, or lies within one of its halves -/
theorem node_in {n b m : Nat} (h : 2 ≤ m) (t : tree n b m) (hn : b + m ≤ n) {x : Nat × Nat} (hx : isN n x) (h1 : b ≤ x.1) (h2 : x.2 ≤ b + m) : x = (b, b + m) ∨ x.2 ≤ b + gp m ∨ b + gp m ≤ x.1 := by
  obtain ⟨x1, x2⟩ := x
  obtain ⟨k1, k2, d, k3⟩ := hx
  simp only at k1 k2 d k3 h1 h2
  by_cases c1 : x2 ≤ b + gp m
  · exact .inr (.inl c1)
  by_cases c2 : b + gp m ≤ x1
  · exact .inr (.inr c2)
  left
  obtain ⟨td, tk⟩ := t
  have e := lb_gp h
  rw [e] at td tk
  have g1 := gp_lt h
  have g2 := gp_ge h
  have gR : gp m = 2 ^ Nat.log2 (m - 1) := rfl
  generalize hr : lb (x2 - x1) = r at d k3
  have ge := lb_ge (x2 - x1)
  rw [hr] at ge
  by_cases c : r ≤ Nat.log2 (m - 1)
  · -- small: a multiple of 2 ^ r below b + gp m ends there at most
    have dg : 2 ^ r ∣ gp m := by rw [gR]; exact Nat.pow_dvd_pow 2 c
    have db : 2 ^ r ∣ b := Nat.dvd_trans dg (Nat.dvd_trans (Nat.dvd_mul_left _ _) td)
    have := mul_le_of_lt d (Nat.dvd_add db dg) (by omega : x1 < b + gp m)
    omega
  · have dd : 2 * gp m ∣ 2 ^ r := by
      rw [gR, Nat.mul_comm, ← Nat.pow_succ]
      exact Nat.pow_dvd_pow 2 (by omega)
    have dx := Nat.dvd_trans dd d
    have ex : x1 = b := by
      by_cases z : b < x1
      · have := mul_le_of_lt td dx z
        omega
      · omega
    subst ex
    have le : 2 * gp m ≤ 2 ^ r := Nat.le_of_dvd (Nat.pow_pos (by decide)) dd
    have rl : r ≤ Nat.log2 (m - 1) + 1 := by
      rw [← hr]
      refine lb_le ?_
      rw [Nat.pow_succ, ← gR]
      omega
    have e2 : 2 ^ r ≤ 2 * gp m := by
      rw [gR, Nat.mul_comm, ← Nat.pow_succ]
      exact Nat.pow_le_pow_right (by decide) rl
    have : x2 = x1 + m := by
      rcases k3 with k3 | k3 <;> omega
    rw [this]
theorem mem_nodesF (n : Nat) (x : Nat × Nat) : ∀ (i b m : Nat), 1 ≤ m → 2 * m ≤ 2 ^ i → tree n b m → b + m ≤ n → (x ∈ nodesF i b m ↔ isN n x ∧ b ≤ x.1 ∧ x.2 ≤ b + m)
  | 0, b, m, h1, h2, _, _ => by simp at h2; omega
  | i + 1, b, m, h1, h2, t, hn => by
    by_cases c : m ≤ 1
    · have em : m = 1 := by omega
      subst em
      rw [nodesF_one (by omega), List.mem_singleton]
      constructor
      · rintro rfl
        exact ⟨⟨by simp, by simpa using hn, by simpa using t⟩, by simp, by simp⟩
      · rintro ⟨⟨k1, _⟩, k2, k3⟩
        have : x.1 = b ∧ x.2 = b + 1 := by omega
        exact Prod.ext this.1 this.2
    · rw [nodesF_two c, List.mem_cons, List.mem_append]
      have g1 := gp_lt (m := m) (by omega)
      have g3 := gp_pos m
      obtain ⟨k1, k2⟩ := gp_half (by omega) h2
      have e : b + gp m + (m - gp m) = b + m := by omega
      have il := mem_nodesF n x i b (gp m) g3 k1 (tree_low (by omega) t) (by omega)
      have ih := mem_nodesF n x i (b + gp m) (m - gp m) (by omega) k2 (tree_high (by omega) t) (by omega)
      rw [il, ih, e]
      constructor
      · rintro (rfl | ⟨p, q, r⟩ | ⟨p, q, r⟩)
        · exact ⟨⟨by simp; omega, by simpa using hn, by simpa using t⟩, by simp, by simp⟩
        · exact ⟨p, q, by omega⟩
        · exact ⟨p, by omega, r⟩
      · rintro ⟨p, q, r⟩
        rcases node_in (by omega) t hn p q r with z | z | z
        · exact .inl z
        · exact .inr (.inl ⟨p, q, z⟩)
        · exact .inr (.inr ⟨p, z, r⟩)
instance (n : Nat) (x : Nat × Nat) : Decidable (tree n x.1 (x.2 - x.1)) := by unfold tree; infer_instance
instance (n : Nat) (x : Nat × Nat) : Decidable (isN n x) := by unfold isN; infer_instance
end LT

namespace LT
/-! ### the greatest nodes within a stretch -/
theorem and_pred_odd (c : Nat) : (2 * c + 1) &&& (2 * c) = 2 * c := by
  apply Nat.eq_of_testBit_eq
  intro i
  rw [Nat.testBit_and]
  cases i with
  | zero => simp
  | succ i =>
    rw [Nat.testBit_succ, Nat.testBit_succ, show (2 * c + 1) / 2 = c by omega, show 2 * c / 2 = c by omega, Bool.and_self]
theorem and_pred_even (c : Nat) (h : 0 < c) : (2 * c) &&& (2 * c - 1) = 2 * (c &&& (c - 1)) := by
  apply Nat.eq_of_testBit_eq
  intro i
  rw [Nat.testBit_and]
  cases i with
  | zero => simp
  | succ i =>
    rw [Nat.testBit_succ, Nat.testBit_succ, Nat.testBit_succ, show 2 * c / 2 = c by omega, show (2 * c - 1) / 2 = c - 1 by omega, show 2 * (c &&& (c - 1)) / 2 = c &&& (c - 1) by omega, Nat.testBit_and]
def low (b : Nat) : Nat := b - (b &&& (b - 1))
theorem low_is : ∀ b : Nat, 0 < b → ∃ k, low b = 2 ^ k ∧ 2 ^ k ∣ b ∧ ¬ 2 ^ (k + 1) ∣ b := by
  intro b
  induction b using Nat.strongRecOn with
  | ind b ih =>
    intro hb
    rcases Nat.mod_two_eq_zero_or_one b with h | h
    · obtain ⟨c, rfl⟩ : ∃ c, b = 2 * c := ⟨b / 2, by omega⟩
      obtain ⟨k, e, d1, d2⟩ := ih c (by omega) (by omega)
      refine ⟨k + 1, ?_, ?_, ?_⟩
      · unfold low at e ⊢
        rw [and_pred_even c (by omega), Nat.pow_succ]
        omega
      · rw [Nat.pow_succ, Nat.mul_comm]
        exact Nat.mul_dvd_mul_left 2 d1
      · rw [Nat.pow_succ, Nat.mul_comm (2 ^ (k + 1)) 2]
        exact fun z => d2 (Nat.dvd_of_mul_dvd_mul_left (by decide) z)
    · obtain ⟨c, rfl⟩ : ∃ c, b = 2 * c + 1 := ⟨b / 2, by omega⟩
      refine ⟨0, ?_, Nat.one_dvd _, ?_⟩
      · unfold low
        rw [show 2 * c + 1 - 1 = 2 * c by omega, and_pred_odd]
        omega
      · intro z
        have := Nat.mod_eq_zero_of_dvd z
        omega
/-- the room of the greatest full node that begins at b, up to e -/
def rm (b e : Nat) : Nat := if b = 0 then 2 ^ (e - b).log2 else min (2 ^ (e - b).log2) (low b)
theorem rm_is {b e : Nat} (h : b < e) : ∃ k, rm b e = 2 ^ k ∧ 2 ^ k ∣ b ∧ b + 2 ^ k ≤ e ∧ (2 ^ (k + 1) ∣ b → e < b + 2 ^ (k + 1)) := by
  have l1 := Nat.log2_self_le (n := e - b) (by omega)
  have l2 := Nat.lt_log2_self (n := e - b)
  unfold rm
  by_cases c : b = 0
  · subst c
    rw [if_pos rfl]
    exact ⟨_, rfl, Nat.dvd_zero _, by omega, fun _ => by omega⟩
  · rw [if_neg c]
    obtain ⟨k, e1, d1, d2⟩ := low_is b (by omega)
    rw [e1]
    by_cases c2 : (e - b).log2 ≤ k
    · have := Nat.pow_le_pow_right (n := 2) (by decide) c2
      rw [Nat.min_eq_left this]
      exact ⟨_, rfl, Nat.dvd_trans (Nat.pow_dvd_pow 2 c2) d1, by omega, fun _ => by omega⟩
    · have := Nat.pow_le_pow_right (n := 2) (by decide) (show k ≤ (e - b).log2 by omega)
      rw [Nat.min_eq_right this]
      exact ⟨k, rfl, d1, by omega, fun z => absurd z d2⟩
def rw1 (n b e : Nat) : Nat := if isN n (b, e) then e - b else rm b e
def nwF (n : Nat) : Nat → Nat → Nat → List (Nat × Nat)
  | 0, _, _ => []
  | f + 1, b, e => if b < e then (b, b + rw1 n b e) :: nwF n f (b + rw1 n b e) e else []
def nw (n b e : Nat) : List (Nat × Nat) := nwF n (e - b) b e
theorem rw1_pos {n b e : Nat} (h : b < e) : 0 < rw1 n b e ∧ b + rw1 n b e ≤ e := by
  unfold rw1
  split
  · omega
  · obtain ⟨k, e1, _, e2, _⟩ := rm_is h
    have := Nat.pow_pos (a := 2) (n := k) (by decide)
    omega
theorem nwF_eq (n e : Nat) : ∀ (f g b : Nat), e - b ≤ f → e - b ≤ g → nwF n f b e = nwF n g b e
  | 0, 0, _, _, _ => rfl
  | 0, g + 1, b, h, _ => by
    show [] = if b < e then _ else _
    rw [if_neg (by omega)]
  | f + 1, 0, b, _, h => by
    show (if b < e then _ else _) = []
    rw [if_neg (by omega)]
  | f + 1, g + 1, b, h1, h2 => by
    show (if b < e then _ else _) = if b < e then _ else _
    by_cases c : b < e
    · have := rw1_pos (n := n) c
      rw [if_pos c, if_pos c, nwF_eq n e f g (b + rw1 n b e) (by omega) (by omega)]
    · rw [if_neg c, if_neg c]
theorem nw_nil {n b e : Nat} (h : e ≤ b) : nw n b e = [] := by
  unfold nw
  rw [show e - b = 0 by omega]
  rfl
theorem nw_step {n b e : Nat} (h : b < e) : nw n b e = (b, b + rw1 n b e) :: nw n (b + rw1 n b e) e := by
  have p := rw1_pos (n := n) h
  unfold nw
  rw [show e - b = (e - b - 1) + 1 by omega]
  show (if b < e then _ else _) = _
  rw [if_pos h, nwF_eq n e (e - b - 1) (e - (b + rw1 n b e)) (b + rw1 n b e) (by omega) (by omega)]
/-- induction over the nodes within -/
theorem nw_ind {n e : Nat} {p : Nat → Prop} (h0 : ∀ b, e ≤ b → p b) (h1 : ∀ b, b < e → p (b + rw1 n b e) → p b) (b : Nat) : p b := by
  have : ∀ (f b : Nat), e - b ≤ f → p b := by
    intro f
    induction f with
    | zero => exact fun b h => h0 b (by omega)
    | succ f ih =>
      intro b h
      by_cases c : b < e
      · have := rw1_pos (n := n) c
        exact h1 b c (ih _ (by omega))
      · exact h0 b (by omega)
  exact this _ b (Nat.le_refl _)
theorem nw_len2 {n e : Nat} : ∀ (L b : Nat), 2 ^ L ∣ b → e < b + 2 ^ L → (nw n b e).length ≤ L
  | 0, b, _, h => by rw [nw_nil (by simp at h; omega)]; exact Nat.zero_le _
  | L + 1, b, d, h => by
    have d' : 2 ^ L ∣ b := Nat.dvd_trans (Nat.pow_dvd_pow 2 (Nat.le_succ L)) d
    by_cases c : b < e
    · by_cases c2 : e < b + 2 ^ L
      · have := nw_len2 (n := n) (e := e) L b d' c2
        omega
      · rw [nw_step c, List.length_cons]
        unfold rw1
        split
        · rw [nw_nil (by omega)]
          simp
        · obtain ⟨k, e1, e2, e3, e4⟩ := rm_is c
          rw [e1]
          have kL : k = L := by
            by_cases z : k < L
            · have := e4 (Nat.dvd_trans (Nat.pow_dvd_pow 2 z) d')
              have := Nat.pow_le_pow_right (n := 2) (by decide) (show k + 1 ≤ L from z)
              omega
            · have : 2 ^ k < 2 ^ (L + 1) := by omega
              have := (Nat.pow_lt_pow_iff_right (by decide : 1 < 2)).mp this
              omega
          subst kL
          have := nw_len2 (n := n) (e := e) k (b + 2 ^ k) (Nat.dvd_add e2 (Nat.dvd_refl _)) (by rw [Nat.pow_succ] at h; omega)
          omega
    · rw [nw_nil (by omega)]
      exact Nat.zero_le _
theorem nw_len1 {n e L : Nat} : ∀ (t j b : Nat), j + t = L → 2 ^ j ∣ b → e < b + 2 ^ L → (nw n b e).length ≤ L + t
  | 0, j, b, hj, d, h => by
    have : j = L := by omega
    subst this
    exact nw_len2 j b d h
  | t + 1, j, b, hj, d, h => by
    by_cases c : b < e
    · by_cases d1 : 2 ^ (j + 1) ∣ b
      · have := nw_len1 (n := n) (e := e) (L := L) t (j + 1) b (by omega) d1 h
        omega
      · rw [nw_step c, List.length_cons]
        unfold rw1
        split
        · rw [nw_nil (by omega)]
          simp
          omega
        · obtain ⟨k, e1, e2, e3, e4⟩ := rm_is c
          rw [e1]
          by_cases z : k < j
          · have e5 := e4 (Nat.dvd_trans (Nat.pow_dvd_pow 2 z) d)
            have := nw_len2 (n := n) (e := e) k (b + 2 ^ k) (Nat.dvd_add e2 (Nat.dvd_refl _)) (by rw [Nat.pow_succ] at e5; omega)
            omega
          · have kj : k = j := by
              by_cases y : j < k
              · exact absurd (Nat.dvd_trans (Nat.pow_dvd_pow 2 y) e2) d1
              · omega
            subst kj
            have d2 : 2 ^ (k + 1) ∣ b + 2 ^ k := by
              obtain ⟨x, rfl⟩ := d
              rcases Nat.mod_two_eq_zero_or_one x with y | y
              · exact absurd (by rw [Nat.pow_succ]; exact Nat.mul_dvd_mul_left _ (Nat.dvd_of_mod_eq_zero y)) d1
              · refine ⟨x / 2 + 1, ?_⟩
                have : x = 2 * (x / 2) + 1 := by omega
                rw [Nat.pow_succ]
                generalize x / 2 = u at this
                subst this
                rw [Nat.mul_add, Nat.mul_add, Nat.mul_assoc (2 ^ k) 2 u]
                omega
            have p := Nat.pow_pos (a := 2) (n := k) (by decide)
            have := nw_len1 (n := n) (e := e) (L := L) t (k + 1) (b + 2 ^ k) (by omega) d2 (by omega)
            omega
    · rw [nw_nil (by omega)]
      exact Nat.zero_le _
theorem nw_len {n b e : Nat} (h : e ≤ 2 ^ 100) : (nw n b e).length ≤ 202 := by
  have := nw_len1 (n := n) (e := e) (L := 101) 101 0 b (by decide) (by simp) (by rw [Nat.pow_succ]; omega)
  omega
/-- nodes are nested or apart -/
theorem lam {n b m B M : Nat} (t : tree n b m) (hm : 1 ≤ m) (T : tree n B M) (hn : b + m ≤ n) (HN : B + M ≤ n) (h1 : b < B) (h2 : B < b + m) : B + M ≤ b + m := by
  obtain ⟨d, k⟩ := t
  obtain ⟨D, _⟩ := T
  have ge := lb_ge m
  have gE := lb_ge M
  by_cases c : lb m ≤ lb M
  · have := mul_le_of_lt d (Nat.dvd_trans (Nat.pow_dvd_pow 2 c) D) h1
    omega
  · have c1 : lb M ≤ lb m := by omega
    have := mul_le_of_lt D (Nat.dvd_add (Nat.dvd_trans (Nat.pow_dvd_pow 2 c1) d) (Nat.pow_dvd_pow 2 c1)) (show B < b + 2 ^ lb m by omega)
    rcases k with k | k
    · omega
    · omega
theorem isN_tree {n b e : Nat} (h : isN n (b, e)) : b < e ∧ e ≤ n ∧ tree n b (e - b) := h
theorem isN_of {n b m : Nat} (h1 : 1 ≤ m) (h2 : b + m ≤ n) (t : tree n b m) : isN n (b, b + m) := ⟨by show b < b + m; omega, h2, by show tree n b (b + m - b); rw [Nat.add_sub_cancel_left]; exact t⟩
theorem full_isN {n b k : Nat} (h2 : b + 2 ^ k ≤ n) (d : 2 ^ k ∣ b) : isN n (b, b + 2 ^ k) := isN_of (Nat.pow_pos (by decide)) h2 ⟨by rw [lb_pow]; exact d, .inl (by rw [lb_pow])⟩
theorem rw1_isN {n b e : Nat} (h : b < e) (hn : e ≤ n) : isN n (b, b + rw1 n b e) := by
  unfold rw1
  split
  · rename_i c
    rw [show b + (e - b) = e by omega]
    exact c
  · obtain ⟨k, e1, e2, e3, _⟩ := rm_is h
    rw [e1]
    exact full_isN (by omega) e2
/-- the first node is the greatest one that begins there -/
theorem rw1_max {n b e y : Nat} (hn : e ≤ n) (hy : isN n (b, y)) (h : y ≤ e) : y ≤ b + rw1 n b e := by
  have hb : b < y := hy.1
  unfold rw1
  split
  · omega
  · rename_i c
    obtain ⟨k, e1, e2, e3, e4⟩ := rm_is (show b < e by omega)
    rw [e1]
    obtain ⟨_, y1, d, t⟩ := isN_tree hy
    rcases t with t | t
    · by_cases z : k < lb (y - b)
      · have := e4 (Nat.dvd_trans (Nat.pow_dvd_pow 2 z) d)
        have := Nat.pow_le_pow_right (n := 2) (by decide) (show k + 1 ≤ lb (y - b) from z)
        omega
      · have := Nat.pow_le_pow_right (n := 2) (by decide) (show lb (y - b) ≤ k by omega)
        omega
    · have : y = e := by omega
      subst this
      exact absurd hy c
/-- a list of nodes one behind the other -/
def Ch (n : Nat) : Nat → Nat → List (Nat × Nat) → Prop
  | lo, hi, [] => lo = hi
  | lo, hi, x :: l => x.1 = lo ∧ isN n x ∧ x.2 ≤ hi ∧ Ch n x.2 hi l
theorem nw_ch {n e : Nat} (hn : e ≤ n) (b : Nat) : b ≤ e → Ch n b e (nw n b e) := by
  refine nw_ind (n := n) (e := e) (p := fun b => b ≤ e → Ch n b e (nw n b e)) (fun b h h2 => ?_) (fun b h ih _ => ?_) b
  · rw [nw_nil h]
    exact Nat.le_antisymm h2 h
  · rw [nw_step h]
    have := rw1_pos (n := n) h
    exact ⟨rfl, rw1_isN h hn, this.2, ih this.2⟩
/-- nothing greater in the stretch has one of them -/
def Mx (n lo hi : Nat) (l : List (Nat × Nat)) : Prop := ∀ x ∈ l, ∀ p, isN n p → lo ≤ p.1 → p.2 ≤ hi → p.1 ≤ x.1 → x.2 ≤ p.2 → p = x
theorem nw_mx {n lo e : Nat} (hn : e ≤ n) (b : Nat) : b ≤ e → lo ≤ b → (∀ p, isN n p → lo ≤ p.1 → p.2 ≤ e → p.1 < b → p.2 ≤ b) → Mx n lo e (nw n b e) := by
  refine nw_ind (n := n) (e := e) (p := fun b => b ≤ e → lo ≤ b → (∀ p, isN n p → lo ≤ p.1 → p.2 ≤ e → p.1 < b → p.2 ≤ b) → Mx n lo e (nw n b e)) (fun b h h2 _ _ => ?_) (fun b h ih h1 h2 h3 => ?_) b
  · rw [nw_nil h]
    exact fun x hx => by cases hx
  · have w := rw1_pos (n := n) h
    have wN := rw1_isN h hn
    have wM : ∀ p, isN n p → lo ≤ p.1 → p.2 ≤ e → p.1 = b → p.2 ≤ b + rw1 n b e := by
      rintro ⟨p1, p2⟩ k1 k2 k3 rfl
      exact rw1_max hn k1 k3
    rw [nw_step h]
    intro x hx
    rcases List.mem_cons.mp hx with rfl | hx
    · rintro ⟨p1, p2⟩ k1 k2 k3 k4 k5
      simp only at k2 k3 k4 k5
      by_cases c : p1 < b
      · have := h3 _ k1 k2 k3 c
        simp only at this
        omega
      · have : p1 = b := by omega
        subst this
        have := wM _ k1 k2 k3 rfl
        simp only at this
        exact Prod.ext rfl (by show p2 = _; omega)
    · refine ih w.2 (by omega) ?_ x hx
      rintro ⟨p1, p2⟩ k1 k2 k3 k4
      simp only at k2 k3 k4 ⊢
      by_cases c : p1 < b
      · have := h3 _ k1 k2 k3 c
        simp only at this
        omega
      · by_cases c2 : p1 = b
        · subst c2
          exact wM _ k1 k2 k3 rfl
        · obtain ⟨q1, q2, q3⟩ := isN_tree k1
          obtain ⟨u1, u2, u3⟩ := isN_tree wN
          have := lam (n := n) (b := b) (m := b + rw1 n b e - b) (B := p1) (M := p2 - p1) u3 (by omega) q3 (by omega) (by omega) (by omega) (by omega)
          omega
theorem nw_max {n b e : Nat} (hn : e ≤ n) (h : b ≤ e) : Mx n b e (nw n b e) := nw_mx hn b h (Nat.le_refl _) (fun p _ k1 _ k3 => by omega)
theorem Ch.mem {n : Nat} : ∀ {lo hi : Nat} {l : List (Nat × Nat)}, Ch n lo hi l → ∀ x ∈ l, isN n x ∧ lo ≤ x.1 ∧ x.2 ≤ hi
  | lo, hi, y :: l, ⟨h1, h2, h3, h4⟩, x, hx => by
    have k := h2.1
    rcases List.mem_cons.mp hx with rfl | hx
    · exact ⟨h2, by omega, h3⟩
    · obtain ⟨k1, k2, k3⟩ := Ch.mem h4 x hx
      exact ⟨k1, by omega, k3⟩
theorem Ch.le {n : Nat} : ∀ {lo hi : Nat} {l : List (Nat × Nat)}, Ch n lo hi l → lo ≤ hi
  | _, _, [], h => Nat.le_of_eq h
  | lo, hi, y :: l, ⟨h1, h2, h3, h4⟩ => by
    have k := h2.1
    omega
theorem Ch.app {n : Nat} : ∀ {lo mid hi : Nat} {l r : List (Nat × Nat)}, Ch n lo mid l → Ch n mid hi r → Ch n lo hi (l ++ r)
  | _, _, _, [], _, h, k => by
    have h : _ = _ := h
    subst h
    exact k
  | _, _, _, x :: l, r, ⟨h1, h2, h3, h4⟩, k => ⟨h1, h2, Nat.le_trans h3 k.le, Ch.app h4 k⟩
/-- each entry between is in one of them -/
theorem Ch.at {n : Nat} : ∀ {lo hi : Nat} {l : List (Nat × Nat)}, Ch n lo hi l → ∀ i, lo ≤ i → i < hi → ∃ x ∈ l, x.1 ≤ i ∧ i < x.2
  | lo, hi, [], h, i, h1, h2 => by
    have h : lo = hi := h
    omega
  | lo, hi, y :: l, ⟨h1, h2, h3, h4⟩, i, k1, k2 => by
    by_cases c : i < y.2
    · exact ⟨y, List.mem_cons_self, by omega, c⟩
    · obtain ⟨x, hx, r⟩ := Ch.at h4 i (by omega) k2
      exact ⟨x, List.mem_cons_of_mem _ hx, r⟩
theorem Ch.sum {n : Nat} : ∀ {lo hi : Nat} {l : List (Nat × Nat)}, Ch n lo hi l → (l.map fun x => x.2 - x.1).sum = hi - lo
  | lo, hi, [], h => by
    have h : lo = hi := h
    simp; omega
  | lo, hi, y :: l, ⟨h1, h2, h3, h4⟩ => by
    have := Ch.sum h4
    have k := h2.1
    have := h4.le
    rw [List.map_cons, List.sum_cons]
    omega
/-- any node within the stretch lies in one of them -/
theorem nw_in {n b e : Nat} (hn : e ≤ n) (h : b ≤ e) {p : Nat × Nat} (hp : isN n p) (h1 : b ≤ p.1) (h2 : p.2 ≤ e) : ∃ x ∈ nw n b e, x.1 ≤ p.1 ∧ p.2 ≤ x.2 := by
  have k := hp.1
  obtain ⟨x, hx, a1, a2⟩ := (nw_ch hn b h).at p.1 h1 (by omega)
  refine ⟨x, hx, a1, ?_⟩
  obtain ⟨x1, x2, x3⟩ := (nw_ch hn b h).mem x hx
  have kx := x1.1
  have kn := x1.2.1
  have pn := hp.2.1
  by_cases c : x.1 < p.1
  · have := lam (n := n) (b := x.1) (m := x.2 - x.1) (B := p.1) (M := p.2 - p.1) x1.2.2 (by omega) hp.2.2 (by omega) (by omega) c (by omega)
    omega
  · by_cases c2 : p.2 ≤ x.2
    · exact c2
    · have := nw_max hn h x hx p hp h1 h2 (by omega) (by omega)
      rw [this]
      exact Nat.le_refl _
/-- a list of nodes one behind the other, none within a greater one of the stretch, is that of the greatest ones -/
theorem nw_unique {n hi lo0 : Nat} (hn : hi ≤ n) : ∀ (l r : List (Nat × Nat)) (lo : Nat), lo0 ≤ lo → Ch n lo hi l → Ch n lo hi r → Mx n lo0 hi l → Mx n lo0 hi r → l = r
  | [], [], _, _, _, _, _, _ => rfl
  | [], y :: r, lo, _, h1, ⟨k1, k2, k3, k4⟩, _, _ => by
    have h1 : lo = hi := h1
    have := k2.1
    omega
  | x :: l, [], lo, _, ⟨k1, k2, k3, k4⟩, h1, _, _ => by
    have h1 : lo = hi := h1
    have := k2.1
    omega
  | x :: l, y :: r, lo, h0, ⟨k1, k2, k3, k4⟩, ⟨j1, j2, j3, j4⟩, m1, m2 => by
    have e : x = y := by
      by_cases c : x.2 ≤ y.2
      · exact (m1 x List.mem_cons_self y j2 (by omega) j3 (by omega) c).symm
      · exact m2 y List.mem_cons_self x k2 (by omega) k3 (by omega) (by omega)
    subst e
    have := k2.1
    rw [nw_unique hn l r x.2 (by omega) k4 j4 (fun z hz => m1 z (List.mem_cons_of_mem _ hz)) (fun z hz => m2 z (List.mem_cons_of_mem _ hz))]
end LT

namespace LT
/-! ### an entry's siblings, by side -/
def lft (b m e : Nat) : List (Nat × Nat) :=
  if h : m ≤ 1 then [] else
    if e < b + gp m then lft b (gp m) e
    else (b, b + gp m) :: lft (b + gp m) (m - gp m) e
termination_by m
decreasing_by
  · exact gp_lt (by omega)
  · have := gp_pos m; omega
theorem lft_one {b m e : Nat} (h : m ≤ 1) : lft b m e = [] := by rw [lft]; simp [h]
theorem lft_low {b m e : Nat} (h : 2 ≤ m) (k : e < b + gp m) : lft b m e = lft b (gp m) e := by
  rw [lft, dif_neg (by omega), if_pos k]
theorem lft_high {b m e : Nat} (h : 2 ≤ m) (k : ¬ e < b + gp m) : lft b m e = (b, b + gp m) :: lft (b + gp m) (m - gp m) e := by
  rw [lft, dif_neg (by omega), if_neg k]
def rgt (b m e : Nat) : List (Nat × Nat) :=
  if h : m ≤ 1 then [] else
    if e < b + gp m then rgt b (gp m) e ++ [(b + gp m, b + m)]
    else rgt (b + gp m) (m - gp m) e
termination_by m
decreasing_by
  · exact gp_lt (by omega)
  · have := gp_pos m; omega
theorem rgt_one {b m e : Nat} (h : m ≤ 1) : rgt b m e = [] := by rw [rgt]; simp [h]
theorem rgt_low {b m e : Nat} (h : 2 ≤ m) (k : e < b + gp m) : rgt b m e = rgt b (gp m) e ++ [(b + gp m, b + m)] := by
  rw [rgt, dif_neg (by omega), if_pos k]
theorem rgt_high {b m e : Nat} (h : 2 ≤ m) (k : ¬ e < b + gp m) : rgt b m e = rgt (b + gp m) (m - gp m) e := by
  rw [rgt, dif_neg (by omega), if_neg k]
/-- induction down the way to an entry -/
theorem way_ind {n e : Nat} {p : Nat → Nat → Prop} (h1 : ∀ b m, m ≤ 1 → b ≤ e → e < b + m → b + m ≤ n → p b m)
    (h2 : ∀ b m, 2 ≤ m → tree n b m → b ≤ e → e < b + gp m → b + m ≤ n → p b (gp m) → p b m)
    (h3 : ∀ b m, 2 ≤ m → tree n b m → b ≤ e → ¬ e < b + gp m → e < b + m → b + m ≤ n → p (b + gp m) (m - gp m) → p b m) :
    ∀ (m b : Nat), tree n b m → b ≤ e → e < b + m → b + m ≤ n → p b m := by
  intro m
  induction m using Nat.strongRecOn with
  | ind m ih =>
    intro b t k1 k2 k3
    by_cases c : m ≤ 1
    · exact h1 b m c k1 k2 k3
    · have m2 : 2 ≤ m := by omega
      have g1 := gp_lt m2
      have g3 := gp_pos m
      by_cases k : e < b + gp m
      · exact h2 b m m2 t k1 k k3 (ih _ g1 b (tree_low m2 t) k1 k (by omega))
      · exact h3 b m m2 t k1 k k2 k3 (ih _ (by omega) _ (tree_high m2 t) (by omega) (by omega) (by omega))
theorem sides_len {n e : Nat} : ∀ (m b : Nat), tree n b m → b ≤ e → e < b + m → b + m ≤ n → (lft b m e).length + (rgt b m e).length = (sib b m e).length := by
  refine way_ind (fun b m h _ _ _ => ?_) (fun b m h _ _ k _ ih => ?_) (fun b m h _ _ k _ _ ih => ?_)
  · rw [lft_one h, rgt_one h, sib_one h]; rfl
  · rw [lft_low h k, rgt_low h k, sib_low h k]; simp only [List.length_append, List.length_cons, List.length_nil]; omega
  · rw [lft_high h k, rgt_high h k, sib_high h k, List.length_cons, List.length_cons]; omega
theorem half_low_isN {n b m : Nat} (h : 2 ≤ m) (t : tree n b m) (hn : b + m ≤ n) : isN n (b, b + gp m) := isN_of (gp_pos m) (by have := gp_lt h; omega) (tree_low h t)
theorem half_high_isN {n b m : Nat} (h : 2 ≤ m) (t : tree n b m) (hn : b + m ≤ n) : isN n (b + gp m, b + m) := by
  have g := gp_lt h
  have := isN_of (n := n) (b := b + gp m) (m := m - gp m) (by omega) (by omega) (tree_high h t)
  rw [show b + gp m + (m - gp m) = b + m by omega] at this
  exact this
theorem lft_ch {n e : Nat} : ∀ (m b : Nat), tree n b m → b ≤ e → e < b + m → b + m ≤ n → Ch n b e (lft b m e) := by
  refine way_ind (fun b m h _ _ _ => ?_) (fun b m h _ _ k _ ih => ?_) (fun b m h t _ k k2 hn ih => ?_)
  · rw [lft_one h]; show b = e; omega
  · rw [lft_low h k]; exact ih
  · rw [lft_high h k]
    exact ⟨rfl, half_low_isN h t hn, by show b + gp m ≤ e; omega, ih⟩
theorem rgt_ch {n e : Nat} : ∀ (m b : Nat), tree n b m → b ≤ e → e < b + m → b + m ≤ n → Ch n (e + 1) (b + m) (rgt b m e) := by
  refine way_ind (fun b m h _ _ _ => ?_) (fun b m h t _ k hn ih => ?_) (fun b m h _ _ k _ _ ih => ?_)
  · rw [rgt_one h]; show e + 1 = b + m; omega
  · rw [rgt_low h k]
    refine ih.app ⟨rfl, half_high_isN h t hn, Nat.le_refl _, rfl⟩
  · rw [rgt_high h k]
    have := gp_lt h
    rw [show b + gp m + (m - gp m) = b + m by omega] at ih
    exact ih
theorem lft_mx {n e : Nat} (he : e < n) : ∀ (m b : Nat), tree n b m → b ≤ e → e < b + m → b + m ≤ n → Mx n 0 e (lft b m e) := by
  refine way_ind (fun b m h _ _ _ => ?_) (fun b m h _ _ k _ ih => ?_) (fun b m h t _ k k2 hn ih => ?_)
  · rw [lft_one h]; exact fun x hx => by cases hx
  · rw [lft_low h k]; exact ih
  · rw [lft_high h k]
    intro x hx
    rcases List.mem_cons.mp hx with rfl | hx
    · rintro ⟨p1, p2⟩ hp _ q2 q3 q4
      simp only at q2 q3 q4
      have g := gp_pos m
      obtain ⟨a1, a2, a3⟩ := isN_tree hp
      by_cases c : p1 < b
      · have := lam (n := n) (b := p1) (m := p2 - p1) (B := b) (M := m) a3 (by omega) t (by omega) hn c (by omega)
        omega
      · have e1 : p1 = b := by omega
        subst e1
        rcases node_in h t hn hp (Nat.le_refl _) (by show p2 ≤ p1 + m; omega) with z | z | z
        · have : p2 = p1 + m := congrArg Prod.snd z
          omega
        · simp only at z
          exact Prod.ext rfl (by show p2 = _; omega)
        · simp only at z
          omega
    · exact ih x hx
theorem rgt_mx {n e : Nat} : ∀ (m b : Nat), tree n b m → b ≤ e → e < b + m → b + m ≤ n → Mx n (e + 1) n (rgt b m e) := by
  refine way_ind (fun b m h _ _ _ => ?_) (fun b m h t hb k hn ih => ?_) (fun b m h _ _ k _ _ ih => ?_)
  · rw [rgt_one h]; exact fun x hx => by cases hx
  · rw [rgt_low h k]
    intro x hx
    rcases List.mem_append.mp hx with hx | hx
    · exact ih x hx
    · rw [List.mem_singleton] at hx
      subst hx
      rintro ⟨p1, p2⟩ hp q1 q2 q3 q4
      simp only at q1 q2 q3 q4
      have g := gp_lt h
      obtain ⟨a1, a2, a3⟩ := isN_tree hp
      have := lam (n := n) (b := b) (m := m) (B := p1) (M := p2 - p1) t (by omega) a3 hn (by omega) (by omega) (by omega)
      have e2 : p2 = b + m := by omega
      rcases node_in h t hn hp (by show b ≤ p1; omega) (by show p2 ≤ b + m; omega) with z | z | z
      · have : p1 = b := congrArg Prod.fst z
        omega
      · simp only at z
        omega
      · simp only at z
        exact Prod.ext (by show p1 = _; omega) (by show p2 = _; omega)
  · rw [rgt_high h k]; exact ih
/-- what lies ahead of an entry, and behind it -/
theorem nw_lft {n e : Nat} (h : e < n) : nw n 0 e = lft 0 n e := by
  have r := tree_root n
  exact nw_unique (n := n) (hi := e) (lo0 := 0) (by omega) _ _ 0 (Nat.le_refl _) (nw_ch (by omega) 0 (by omega)) (lft_ch n 0 r (by omega) (by omega) (by omega)) (nw_max (by omega) (by omega)) (lft_mx h n 0 r (by omega) (by omega) (by omega))
theorem nw_rgt {n e : Nat} (h : e < n) : nw n (e + 1) n = rgt 0 n e := by
  have r := tree_root n
  have c := rgt_ch (e := e) n 0 r (by omega) (by omega) (by omega)
  rw [Nat.zero_add] at c
  exact nw_unique (n := n) (hi := n) (lo0 := e + 1) (Nat.le_refl _) _ _ (e + 1) (Nat.le_refl _) (nw_ch (Nat.le_refl _) (e + 1) (by omega)) c (nw_max (Nat.le_refl _) (by omega)) (rgt_mx n 0 r (by omega) (by omega) (by omega))
theorem nw_single {n e : Nat} (h : e < n) : (nw n 0 e).length + (nw n (e + 1) n).length = (sib 0 n e).length := by
  rw [nw_lft h, nw_rgt h]
  exact sides_len n 0 (tree_root n) (by omega) (by omega) (by omega)
/-! ### peaks -/
theorem pk_ch {n e : Nat} (he : e ≤ n) : ∀ (i b : Nat), 2 ^ i ∣ b → b + e % 2 ^ i = e → Ch n b e ((pk i e b).map full)
  | 0, b, _, h => by rw [Nat.pow_zero, Nat.mod_one] at h; exact h
  | i + 1, b, d, h => by
    rw [mod_succ] at h
    have d' : 2 ^ i ∣ b := Nat.dvd_trans (Nat.pow_dvd_pow 2 (Nat.le_succ i)) d
    show Ch n b e ((if e.testBit i = true then (b, i) :: pk i e (b + 2 ^ i) else pk i e b).map full)
    by_cases t : e.testBit i = true
    · rw [if_pos t] at h ⊢
      refine ⟨rfl, (show isN n (b, b + 2 ^ i) from full_isN (by omega) d'), ?_, pk_ch he i (b + 2 ^ i) (Nat.dvd_add d' (Nat.dvd_refl _)) (by omega)⟩
      show b + 2 ^ i ≤ e
      omega
    · rw [if_neg t] at h ⊢
      exact pk_ch he i b d' (by omega)
theorem pk_mx {n e : Nat} (he : e < n) : ∀ (i b : Nat), 2 ^ i ∣ b → b + e % 2 ^ i = e → Mx n 0 e ((pk i e b).map full)
  | 0, b, _, h => fun x hx => by cases hx
  | i + 1, b, d, h => by
    have ml := Nat.mod_lt e (Nat.pow_pos (a := 2) (n := i + 1) (by decide))
    have hh := h
    rw [mod_succ] at h
    have d' : 2 ^ i ∣ b := Nat.dvd_trans (Nat.pow_dvd_pow 2 (Nat.le_succ i)) d
    show Mx n 0 e ((if e.testBit i = true then (b, i) :: pk i e (b + 2 ^ i) else pk i e b).map full)
    by_cases t : e.testBit i = true
    · rw [if_pos t] at h ⊢
      intro x hx
      rw [List.map_cons] at hx
      rcases List.mem_cons.mp hx with rfl | hx
      · rintro ⟨p1, p2⟩ hp _ q2 q3 q4
        have q3 : p1 ≤ b := q3
        have q4 : b + 2 ^ i ≤ p2 := q4
        simp only at q2
        have pz := Nat.pow_pos (a := 2) (n := i) (by decide)
        obtain ⟨a1, a2, a3, a4⟩ := isN_tree hp
        have a5 : p2 - p1 = 2 ^ lb (p2 - p1) := by
          rcases a4 with a4 | a4
          · exact a4
          · omega
        by_cases c : i < lb (p2 - p1)
        · have m1 := Nat.pow_le_pow_right (n := 2) (by decide) (show i + 1 ≤ lb (p2 - p1) from c)
          have m2 := mul_le_of_lt (R := 2 ^ (i + 1)) d (Nat.dvd_add (Nat.dvd_trans (Nat.pow_dvd_pow 2 (show i + 1 ≤ lb (p2 - p1) from c)) a3) (Nat.pow_dvd_pow 2 (show i + 1 ≤ lb (p2 - p1) from c))) (show b < p1 + 2 ^ lb (p2 - p1) by omega)
          omega
        · have m1 := Nat.pow_le_pow_right (n := 2) (by decide) (show lb (p2 - p1) ≤ i by omega)
          exact Prod.ext (by show p1 = b; omega) (by show p2 = b + 2 ^ i; omega)
      · exact pk_mx he i (b + 2 ^ i) (Nat.dvd_add d' (Nat.dvd_refl _)) (by omega) x hx
    · rw [if_neg t] at h ⊢
      exact pk_mx he i b d' (by omega)
theorem nw_pk {n e : Nat} (h : e < n) (h100 : e < 2 ^ 101) : nw n 0 e = (pk 101 e 0).map full := by
  have em : 0 + e % 2 ^ 101 = e := by rw [Nat.mod_eq_of_lt h100, Nat.zero_add]
  exact nw_unique (n := n) (hi := e) (lo0 := 0) (by omega) _ _ 0 (Nat.le_refl _) (nw_ch (by omega) 0 (by omega)) (pk_ch (by omega) 101 0 (Nat.dvd_zero _) em) (nw_max (by omega) (by omega)) (pk_mx h 101 0 (Nat.dvd_zero _) em)
theorem pk_even : ∀ (i c b b' : Nat), (pk (i + 1) (2 * c) b).length = (pk i c b').length
  | 0, c, b, b' => by
    show (if (2 * c).testBit 0 = true then _ else _ : List (Nat × Nat)).length = 0
    have : (2 * c).testBit 0 = false := by simp
    rw [this]
    rfl
  | i + 1, c, b, b' => by
    show (if (2 * c).testBit (i + 1) = true then (b, i + 1) :: pk (i + 1) (2 * c) (b + 2 ^ (i + 1)) else pk (i + 1) (2 * c) b).length = (if c.testBit i = true then (b', i) :: pk i c (b' + 2 ^ i) else pk i c b').length
    rw [Nat.testBit_succ, show 2 * c / 2 = c by omega]
    by_cases t : c.testBit i = true
    · rw [if_pos t, if_pos t, List.length_cons, List.length_cons, pk_even i c _ (b' + 2 ^ i)]
    · rw [if_neg t, if_neg t, pk_even i c b b']
theorem pk_odd : ∀ (i c b b' : Nat), (pk (i + 1) (2 * c + 1) b).length = (pk i c b').length + 1
  | 0, c, b, b' => by
    show (if (2 * c + 1).testBit 0 = true then (b, 0) :: ([] : List (Nat × Nat)) else []).length = 0 + 1
    have : (2 * c + 1).testBit 0 = true := by simp
    rw [this]
    rfl
  | i + 1, c, b, b' => by
    show (if (2 * c + 1).testBit (i + 1) = true then (b, i + 1) :: pk (i + 1) (2 * c + 1) (b + 2 ^ (i + 1)) else pk (i + 1) (2 * c + 1) b).length = (if c.testBit i = true then (b', i) :: pk i c (b' + 2 ^ i) else pk i c b').length + 1
    rw [Nat.testBit_succ, show (2 * c + 1) / 2 = c by omega]
    by_cases t : c.testBit i = true
    · rw [if_pos t, if_pos t, List.length_cons, List.length_cons, pk_odd i c _ (b' + 2 ^ i)]
    · rw [if_neg t, if_neg t, pk_odd i c b b']
theorem pow_dvd_odd {k c : Nat} (h : 2 ^ k ∣ 2 * c + 1) : k = 0 := by
  cases k with
  | zero => rfl
  | succ k =>
    have := Nat.dvd_trans (⟨2 ^ k, by rw [Nat.pow_succ, Nat.mul_comm]⟩ : 2 ∣ 2 ^ (k + 1)) h
    omega
theorem pk_pred : ∀ (i e k b b' : Nat), 0 < e → e < 2 ^ i → 2 ^ k ∣ e → ¬ 2 ^ (k + 1) ∣ e → (pk i e b).length + k = (pk i (e - 1) b').length + 1
  | 0, e, k, _, _, h, h2, _, _ => by simp at h2; omega
  | i + 1, e, k, b, b', h, h2, d1, d2 => by
    rcases Nat.mod_two_eq_zero_or_one e with z | z
    · obtain ⟨c, rfl⟩ : ∃ c, e = 2 * c := ⟨e / 2, by omega⟩
      have kp : k ≠ 0 := fun y => d2 (by rw [y]; exact ⟨c, by simp⟩)
      obtain ⟨j, rfl⟩ : ∃ j, k = j + 1 := ⟨k - 1, by omega⟩
      rw [Nat.pow_succ] at h2
      have ih := pk_pred i c j 0 0 (by omega) (by omega) (by rw [Nat.pow_succ, Nat.mul_comm] at d1; exact Nat.dvd_of_mul_dvd_mul_left (by decide) d1) (fun y => d2 (by rw [Nat.pow_succ, Nat.mul_comm]; exact Nat.mul_dvd_mul_left 2 y))
      rw [show 2 * c - 1 = 2 * (c - 1) + 1 by omega, pk_even i c b 0, pk_odd i (c - 1) b' 0]
      omega
    · obtain ⟨c, rfl⟩ : ∃ c, e = 2 * c + 1 := ⟨e / 2, by omega⟩
      have := pow_dvd_odd d1
      subst this
      rw [show 2 * c + 1 - 1 = 2 * c by omega, pk_odd i c b 0, pk_even i c b' 0]
theorem lb_big {n : Nat} (h : 2 ≤ n) : lb n = Nat.log2 (n - 1) + 1 := by unfold lb; rw [if_neg (by omega)]
end LT

namespace LT
open PySem PySem.Spec PyProof.Rows L2
/-! ### lists of ints as data -/
theorem ints_lay : ∀ ns : List Int, PyData.canLayAll0 (ns.map PyData.int) = true
  | [] => by simp [PyData.canLayAll0]
  | n :: ns => by simp [PyData.canLayAll0, PyData.canLay0, ints_lay ns]
theorem ints_depth : ∀ ns : List Int, PyData.depthAll (ns.map PyData.int) ≤ 1
  | [] => by simp [PyData.depthAll]
  | n :: ns => by
    have := ints_depth ns
    simp only [List.map_cons, PyData.depthAll, PyData.depth]
    omega
theorem ints_shaped (ns : List Int) : SeqAt.shaped (.list (ns.map PyData.int)) = true := by
  have h := ints_depth ns
  have h2 : PyData.depth (.list (ns.map PyData.int)) ≤ 64 := by
    simp only [PyData.depth]
    omega
  show (PyData.canLay0 (.list (ns.map PyData.int)) && decide (PyData.depth (.list (ns.map PyData.int)) ≤ 64)) = true
  rw [Bool.and_eq_true]
  exact ⟨by simp only [PyData.canLay0]; exact ints_lay ns, decide_eq_true h2⟩
theorem ints_dp {K : PySem.W.Frag} {H : Hp} : ∀ ns : List Int, DpAll K H (ns.map V.int) (ns.map PyData.int)
  | [] => .nil
  | n :: ns => .cons (.int n) (ints_dp ns)
theorem ints_nil : ∀ ns : List Int, PyData.eqv (.list (ns.map PyData.int)) (.list []) = ns.isEmpty
  | [] => by simp only [List.map_nil, PyData.eqv, PyData.eqvAll, List.isEmpty_nil]
  | n :: ns => by simp only [List.map_cons, PyData.eqv, PyData.eqvAll, List.isEmpty_cons]
theorem nil_shaped : SeqAt.shaped (.list []) = true := ints_shaped []
end LT

namespace LT
open PySem PySem.Spec PyProof.Rows L2
def nd (x : Nat × Nat) : PyData := .tuple [.int x.1, .int x.2]
theorem nds_lay : ∀ l : List (Nat × Nat), PyData.canLayAll0 (l.map nd) = true
  | [] => by simp [PyData.canLayAll0]
  | x :: l => by simp [PyData.canLayAll0, nd, PyData.canLay0, nds_lay l]
theorem nds_depth : ∀ l : List (Nat × Nat), PyData.depthAll (l.map nd) ≤ 2
  | [] => by simp [PyData.depthAll]
  | x :: l => by
    have := nds_depth l
    simp only [List.map_cons, PyData.depthAll, nd, PyData.depth]
    omega
theorem nds_shaped (l : List (Nat × Nat)) : SeqAt.shaped (.list (l.map nd)) = true := by
  have h := nds_depth l
  have h2 : PyData.depth (.list (l.map nd)) ≤ 64 := by
    simp only [PyData.depth]
    omega
  show (PyData.canLay0 (.list (l.map nd)) && decide (PyData.depth (.list (l.map nd)) ≤ 64)) = true
  rw [Bool.and_eq_true]
  exact ⟨by simp only [PyData.canLay0]; exact nds_lay l, decide_eq_true h2⟩
theorem nds_dp {K : PySem.W.Frag} {H : Hp} : ∀ {vs : List V} {l : List (Nat × Nat)}, All2 (Nd H) vs l → DpAll K H vs (l.map nd)
  | _, _, .nil => .nil
  | _, _, .cons h t => .cons h.dp (nds_dp t)
theorem nds_any (l : List (Nat × Nat)) (x : Nat × Nat) : (l.map nd).any (fun z => PyData.eqv z (.tuple [.int x.1, .int x.2])) = decide (x ∈ l) := by
  induction l with
  | nil => simp
  | cons y l ih =>
    rw [List.map_cons, List.any_cons, ih]
    show (PyData.eqv (.tuple [.int y.1, .int y.2]) _ || _) = _
    rw [nd_eqv]
    by_cases c : x = y
    · subst c
      simp
    · have e : (decide ((y.1 : Int) = (x.1 : Int)) && decide ((y.2 : Int) = (x.2 : Int))) = false := by
        rw [Bool.and_eq_false_iff]
        by_cases c1 : y.1 = x.1
        · right
          refine decide_eq_false (fun z => c (Prod.ext c1.symm ?_))
          omega
        · left
          exact decide_eq_false (fun z => c1 (by omega))
      rw [e, Bool.false_or]
      simp [c]
end LT

namespace LT
open PySem PySem.Spec PyProof.Rows L2
theorem ndt_shaped (l : List (Nat × Nat)) : SeqAt.shaped (.tuple (l.map nd)) = true := by
  have h := nds_depth l
  have h2 : PyData.depth (.tuple (l.map nd)) ≤ 64 := by
    simp only [PyData.depth]
    omega
  show (PyData.canLay0 (.tuple (l.map nd)) && decide (PyData.depth (.tuple (l.map nd)) ≤ 64)) = true
  rw [Bool.and_eq_true]
  exact ⟨by simp only [PyData.canLay0]; exact nds_lay l, decide_eq_true h2⟩
theorem tup_dp {K : PySem.W.Frag} {H : Hp} {p : Addr} {vs : List V} {l : List (Nat × Nat)} (h : H p = some (.tup vs)) (k : All2 (Nd H) vs l) : Dp K H (.ref p) (.tuple (l.map nd)) := .tup (SqT.of h) (nds_dp k)
theorem lst_dp {K : PySem.W.Frag} {H : Hp} {p : Addr} {vs : List V} {l : List (Nat × Nat)} (h : H p = some (.lst vs)) (k : All2 (Nd H) vs l) : Dp K H (.ref p) (.list (l.map nd)) := .lst (SqL.of h) (nds_dp k)
end LT

namespace LT
open PySem PySem.Spec PyProof.Rows L2
theorem log2_is {r h : Nat} (h1 : 2 ^ h ≤ r) (h2 : r < 2 ^ (h + 1)) : r.log2 = h := (Nat.log2_eq_iff (by have := Nat.pow_pos (a := 2) (n := h) (by decide); omega)).mpr ⟨h1, h2⟩
theorem pk_step : ∀ (i n b : Nat), n % 2 ^ i ≠ 0 → ∃ h, h < i ∧ pk i n b = (b, h) :: pk h n (b + 2 ^ h) ∧ n % 2 ^ i = 2 ^ h + n % 2 ^ h
  | 0, n, b, hr => by simp [Nat.mod_one] at hr
  | i + 1, n, b, hr => by
    rw [mod_succ] at hr
    by_cases t : n.testBit i = true
    · refine ⟨i, Nat.lt_succ_self i, ?_, by rw [mod_succ, if_pos t]⟩
      show (if n.testBit i = true then _ else _) = _
      rw [if_pos t]
    · rw [if_neg t, Nat.zero_add] at hr
      obtain ⟨h, h1, h2, h3⟩ := pk_step i n b hr
      refine ⟨h, by omega, ?_, by rw [mod_succ, if_neg t, Nat.zero_add]; exact h3⟩
      show (if n.testBit i = true then _ else _) = _
      rw [if_neg t]
      exact h2
section
variable {P : Program} {w : World} {K : PySem.W.Frag} {mg : Str → Option Value} {base : Heap}
def spTops : Sp := fun vs H Q _ => ∃ (n : Nat), vs = [.int n] ∧ 1 ≤ n ∧ n ≤ 10 ^ 30 ∧ ∀ (H' : Hp) (p : Addr) (xs : List V), Same H H' → H p = none → H' p = some (.lst xs) → All2 (Nd H') xs ((pk 101 n 0).map full) → Q (.ref p) H'
theorem ok_peaks {f g1 g2 : Addr} {fd d1 d2 : FuncData} (F : Fun K "peaks" "peaks" sPeaks f fd) (GCheckSize : FnOk P w K mg base CX0 3 g1 d1 ["size"] spCheckSize) (ACheckSize : At K mg "check_size" g1 d1 ["size"])
    (GPowerWithin : FnOk P w K mg base CX0 1 g2 d2 ["number"] spPower) (APowerWithin : At K mg "power_within" g2 d2 ["number"]) : FnOk P w K mg base CX0 4 f fd ["size"] spTops := by
  refine F.ok scPeaks (fun vs H Q E h => ?_) (fun cdv A outer s H vs Q E hr h => ?_)
  · obtain ⟨_, rfl, _⟩ := h
    rfl
  obtain ⟨n, rfl, h1, h30, q⟩ := h
  refine ⟨_, (pss_cons (ps_expr (pe_call GCheckSize (hr.mono (by decide)) rfl ACheckSize.m ACheckSize.kp ACheckSize.b .nil pass0 (pa_cons (pv 0) pa_nil)))
    (pss_cons (ps_set (i := 1) scPeaks.nd rfl (Or.inl rfl) (pe_lst pa_nil))
    (pss_cons (ps_set (i := 2) scPeaks.nd rfl (Or.inl rfl) pe_int)
    (pss_cons (ps_while PassesOwn.never (pt_cmpR op_lt (pv 2) (pv 0) (nomark _))
    (pss_cons (ps_set (i := 3) scPeaks.nd rfl (Or.inl rfl) (pe_op op_add (pv 2) (pe_call GPowerWithin (hr.mono (by decide)) rfl APowerWithin.m APowerWithin.kp APowerWithin.b .nil pass0 (pa_cons (pe_op op_sub (pv 0) (pv 2)) pa_nil))))
    (pss_cons (ps_expr (pe_bm PySem.F.plainAttrs_list PySem.F.slot_list_append PySem.F.type_list_append mt_append (pv 1) (pa_cons (pe_tup (pa_cons (pv 2) (pa_cons (pv 3) pa_nil))) pa_nil)))
    (pss_one (ps_set (i := 2) scPeaks.nd rfl (Or.inl rfl) (pv 3))))))
    (pss_one (ps_ret (pv 1))))))), ?_⟩
  refine ⟨_, rfl, n, rfl, by omega, by omega, ?_⟩
  refine ⟨Nat.zero_le _, fun fa nf => ?_⟩
  have nm : n % 2 ^ 101 = n := Nat.mod_eq_of_lt (Nat.lt_of_le_of_lt h30 (by decide))
  refine ⟨fun mu σ H' => ∃ (i b : Nat) (v3 : Option V) (xs : List V) (done : List (Nat × Nat)), σ = [some (.int n), some (.ref fa), some (.int b), v3] ∧ Same H H' ∧ H' fa = some (.lst xs) ∧ All2 (Nd H') xs (done.map full) ∧ done ++ pk i n b = pk 101 n 0 ∧ b + n % 2 ^ i = n ∧ mu = n - b,
    ⟨n, 101, 0, none, [], [], rfl, same_upd nf, upd_same, .nil, rfl, by omega, by omega⟩, ?_⟩
  rintro m σ H1 ⟨i, b, v3, xs, done, rfl, sm, hf, hx, hd, hb, rfl⟩
  refine ⟨_, rfl, _, rfl, _, _, rfl, rfl, _, rfl, ite2 (fun c => ?_) (fun c => ?_)⟩
  · have c1 : (b : Int) < (n : Int) := of_decide_eq_true c
    obtain ⟨h, hi, hp, hm⟩ := pk_step i n b (by omega)
    have ph := Nat.pow_pos (a := 2) (n := h) (by decide)
    have lh : (n - b).log2 = h := log2_is (by omega) (by have := Nat.mod_lt n ph; rw [Nat.pow_succ]; omega)
    have dl : done.length ≤ 101 := by
      have k1 := congrArg List.length hd
      rw [List.length_append] at k1
      have k2 := pk_len 101 n 0
      omega
    refine ⟨fun σ' H' => ∃ mu, mu < n - b ∧ ∃ (i b : Nat) (v3 : Option V) (xs : List V) (done : List (Nat × Nat)), σ' = [some (.int n), some (.ref fa), some (.int b), v3] ∧ Same H H' ∧ H' fa = some (.lst xs) ∧ All2 (Nd H') xs (done.map full) ∧ done ++ pk i n b = pk 101 n 0 ∧ b + n % 2 ^ i = n ∧ mu = n - b, fun σ' H' h => h, ?_⟩
    have e1 : (n : Int) - (b : Int) = ((n - b : Nat) : Int) := by omega
    refine ⟨_, rfl, _, rfl, _, rfl, _, _, rfl, rfl, n - b, congrArg (fun z => [V.int z]) e1, by omega, by omega, _, _, rfl, rfl, ?_⟩
    have e2 : (b : Int) + ((2 ^ (n - b).log2 : Nat) : Int) = ((b + 2 ^ h : Nat) : Int) := by rw [lh]; omega
    dsimp only
    rw [e2]
    refine ⟨_, rfl, .inl ⟨rfl, _, SqL.of hf⟩, _, rfl, _, rfl, (by show 2 ≤ sizeLine; decide), fun t nt => ?_⟩
    have s1 := same_upd (o := .tup [.int (b : Int), .int ((b + 2 ^ h : Nat) : Int)]) nt
    have hf1 := s1 _ _ hf
    refine ⟨fa, _, _, rfl, rfl, hf1, szlt (by rw [hx.len, List.length_map]; omega), ?_⟩
    refine ⟨_, rfl, ?_⟩
    refine ⟨n - (b + 2 ^ h), by omega, h, b + 2 ^ h, _, xs ++ [.ref t], done ++ [(b, h)], rfl, ?_, upd_same, ?_, ?_, by omega, rfl⟩
    · exact fun a o k => by rw [upd_ne (ne_of_none k nf)]; exact s1 _ _ (sm _ _ k)
    · rw [List.map_append]
      refine (hx.mono (fun v x (k : Nd H1 v x) => (k.same s1).upd hf1)).app (.cons ?_ .nil)
      exact Nd.upd (x := full (b, h)) ⟨t, rfl, upd_same⟩ hf1
    · rw [← hd, hp, List.append_assoc]
      rfl
  · have c1 : ¬ (b : Int) < (n : Int) := of_decide_eq_false (Bool.eq_false_iff.mpr c)
    rw [pk_nil i n b (by omega), List.append_nil] at hd
    rw [hd] at hx
    exact ⟨_, rfl, q H1 fa xs sm nf hf hx⟩
end
end LT

namespace LT
open PySem PySem.Spec PyProof.Rows L2
theorem cut_last (xs : List V) : cutV xs none (some (-1)) = xs.dropLast := by
  unfold cutV
  have e : HT.sIx xs.length xs.length (some (-1)) = xs.length - 1 := by
    show (if (-1 : Int) < 0 then ((-1 : Int) + (xs.length : Int)).toNat else min (-1 : Int).toNat xs.length) = _
    rw [if_pos (by decide)]
    omega
  rw [e, HT.sIx_none, List.drop_zero, Nat.sub_zero, List.dropLast_eq_take]
theorem All2.droplast {α : Type} {R : V → α → Prop} : ∀ {vs : List V} {xs : List α}, All2 R vs xs → All2 R vs.dropLast xs.dropLast
  | _, _, .nil => .nil
  | _, _, .cons _ .nil => .nil
  | _, _, .cons h (.cons k t) => .cons h (All2.droplast (.cons k t))
section
variable {P : Program} {w : World} {K : PySem.W.Frag} {mg : Str → Option Value} {base : Heap}
def spEdges : Sp := fun vs H Q _ => ∃ (n : Nat), vs = [.int n] ∧ 1 ≤ n ∧ n ≤ 10 ^ 30 ∧ ∀ (H' : Hp) (p : Addr) (xs : List V), Same H H' → H p = none → H' p = some (.lst xs) → All2 (Nd H') xs (((pk 101 n 0).map full).dropLast.map fun x => (x.1, n)) → Q (.ref p) H'
theorem ok_edges {f g1 : Addr} {fd d1 : FuncData} (F : Fun K "edges" "edges" sEdges f fd) (GPeaks : FnOk P w K mg base CX0 4 g1 d1 ["size"] spTops) (APeaks : At K mg "peaks" g1 d1 ["size"]) : FnOk P w K mg base CX0 5 f fd ["size"] spEdges := by
  refine F.ok scEdges (fun vs H Q E h => ?_) (fun cdv A outer s H vs Q E hr h => ?_)
  · obtain ⟨_, rfl, _⟩ := h
    rfl
  obtain ⟨n, rfl, h1, h30, q⟩ := h
  refine ⟨_, (pss_one (ps_ret (pe_lc (own := [("begin", 1), ("_", 2)]) rfl scEdges.nd (pi_list (pe_slice sl_list (pe_call GPeaks (hr.mono (by decide)) rfl APeaks.m APeaks.kp APeaks.b .nil pass0 (pa_cons (pv 0) pa_nil)) po_none (po_some (pe_un un_neg pe_int)))) (blkOk_by (N := ["size", "begin", "_"]) (sc := defScope sEdges) (by decide +kernel)) (fun _ _ _ _ _ => (pg_tupB (n := 2) rfl (pgs_cons (pg_name (i := 1) scEdges.nd rfl (Or.inl rfl)) (pgs_cons (pg_name (i := 2) scEdges.nd rfl (Or.inl rfl)) pgs_nil)))) (fun _ _ _ _ _ => pts_nil) (fun _ _ _ _ _ => (pe_tup (pa_cons (pv 1) (pa_cons (pv 0) pa_nil))))))), ?_⟩
  refine ⟨_, rfl, n, rfl, h1, h30, fun H1 p xs sm np hp hx => ?_⟩
  have L101 : ((pk 101 n 0).map full).length ≤ 101 := by rw [List.length_map]; exact pk_len 101 n 0
  generalize (pk 101 n 0).map full = L at q hx L101
  refine ⟨1, rfl, -1, rfl, p, _, rfl, SqL.of hp, fun c nc => ?_⟩
  have sc := same_upd (o := .lst (cutV xs none (some (-1)))) nc
  have hc : (upd H1 c (.lst (cutV xs none (some (-1))))) c = some (.lst xs.dropLast) := by rw [upd_same, cut_last]
  have hx1 := (hx.mono (fun v x (k : Nd H1 v x) => k.same sc)).droplast
  generalize upd H1 c (.lst (cutV xs none (some (-1)))) = H2 at hc hx1 sc
  refine ⟨c, rfl, ⟨_, SqL.of hc⟩, fun D nD => lc_list (xs := xs.dropLast) (fun i H' => ∃ ys : List V, Same H2 H' ∧ H' D = some (.lst ys) ∧ All2 (Nd H') ys ((L.dropLast.take i).map fun x => (x.1, n))) ⟨[], same_upd nD, upd_same, .nil⟩ (fun i H' _ ⟨_, k, _⟩ => SqL.of (k _ _ hc)) ?_ ?_⟩
  · rintro i x H3 hi ⟨ys, s3, hD, hy3⟩
    obtain ⟨y, hy, xp, rfl, hxp⟩ := hx1.nth hi
    have il : i < L.dropLast.length := (List.getElem?_eq_some_iff.mp hy).1
    rw [List.length_dropLast] at il
    refine ⟨xp, _, rfl, SqT.of (s3 _ _ hxp), rfl, _, _, rfl, _, _, rfl, rfl, rfl, ?_⟩
    refine ⟨_, rfl, _, rfl, (by show 2 ≤ sizeLine; decide), fun t nt => ?_⟩
    have st := same_upd (o := .tup [.int (y.1 : Int), .int (n : Int)]) nt
    refine ⟨ys, st _ _ hD, szlt (by rw [hy3.len, List.length_map, List.length_take, List.length_dropLast]; omega), ys ++ [.ref t], ?_, upd_same, ?_⟩
    · exact fun a o k => by rw [upd_ne (ne_of_none k nD)]; exact st _ _ (s3 _ _ k)
    · rw [take_more hy, List.map_append]
      exact (hy3.mono (fun v x (k : Nd H3 v x) => (k.same st).upd (st _ _ hD))).app (.cons (Nd.upd (x := (y.1, n)) ⟨t, rfl, upd_same⟩ (st _ _ hD)) .nil)
  rintro H3 ⟨ys, s3, hD, hy3⟩
  have et : L.dropLast.take xs.dropLast.length = L.dropLast := List.take_of_length_le (by rw [hx1.len]; exact Nat.le_refl _)
  rw [et] at hy3
  refine q H3 D ys (sm.trans (sc.trans s3)) ?_ hD hy3
  exact (sm.trans sc).free nD
end
end LT

namespace LT
open PySem PySem.Spec PyProof.Rows L2
/-- the digits 1 -/
def ones (n : Nat) : Nat := if h : n = 0 then 0 else n % 2 + ones (n / 2)
termination_by n
decreasing_by omega
theorem ones_zero : ones 0 = 0 := by rw [ones]; rfl
theorem ones_step (n : Nat) : ones n = n % 2 + ones (n / 2) := by
  by_cases h : n = 0
  · subst h; rw [Nat.zero_mod, Nat.zero_div, ones_zero]
  · rw [ones, dif_neg h]
theorem ones_one : ones 1 = 1 := by rw [ones_step]; show 1 + ones 0 = 1; rw [ones_zero]
theorem ones_dbl (n : Nat) : ones (2 * n) = ones n := by rw [ones_step, Nat.mul_mod_right, Nat.zero_add, Nat.mul_div_cancel_left _ (by decide)]
theorem ones_dbl1 (n : Nat) : ones (2 * n + 1) = ones n + 1 := by
  rw [ones_step, show (2 * n + 1) % 2 = 1 by omega, show (2 * n + 1) / 2 = n by omega]; omega
theorem ones_pos {n : Nat} (h : 1 ≤ n) : 1 ≤ ones n := by
  induction n using Nat.strongRecOn with
  | ind n ih =>
    rw [ones_step]
    by_cases c : n % 2 = 1
    · omega
    · have := ih (n / 2) (by omega) (by omega)
      omega
theorem ones_split : ∀ (i a r : Nat), r < 2 ^ i → ones (2 ^ i * a + r) = ones a + ones r
  | 0, a, r, h => by
    have : r = 0 := by simp at h; omega
    subst this
    rw [Nat.pow_zero, Nat.one_mul, Nat.add_zero, ones_zero, Nat.add_zero]
  | i + 1, a, r, h => by
    rw [Nat.pow_succ] at h
    have e : 2 ^ (i + 1) * a + r = 2 * (2 ^ i * a + r / 2) + r % 2 := by
      rw [Nat.pow_succ, Nat.mul_right_comm]
      omega
    have ih := ones_split i a (r / 2) (by omega)
    have s := ones_step r
    have c : r % 2 = 0 ∨ r % 2 = 1 := by omega
    rcases c with c | c
    · rw [e, c, Nat.add_zero, ones_dbl, ih]; omega
    · rw [e, c, ones_dbl1, ih]; omega
theorem ones_pow (i : Nat) : ones (2 ^ i) = 1 := by
  have := ones_split i 1 0 (Nat.pow_pos (by decide))
  rw [Nat.mul_one, Nat.add_zero, ones_one, ones_zero] at this
  exact this
theorem ones_le (i n : Nat) (h : n < 2 ^ i) : ones n ≤ i := by
  induction i generalizing n with
  | zero => have : n = 0 := by simp at h; omega
            subst this; rw [ones_zero]; exact Nat.le_refl _
  | succ i ih =>
    rw [Nat.pow_succ] at h
    have := ih (n / 2) (by omega)
    rw [ones_step]
    omega
theorem ones_le_self (n : Nat) : ones n ≤ n := by
  induction n using Nat.strongRecOn with
  | ind n ih =>
    by_cases c : n = 0
    · subst c; rw [ones_zero]; exact Nat.le_refl _
    · have := ih (n / 2) (by omega)
      rw [ones_step]
      omega
theorem pk_ones : ∀ (i n b : Nat), (pk i n b).length = ones (n % 2 ^ i)
  | 0, n, b => by rw [Nat.pow_zero, Nat.mod_one, ones_zero]; rfl
  | i + 1, n, b => by
    rw [mod_succ]
    have ml := Nat.mod_lt n (Nat.pow_pos (a := 2) (n := i) (by decide))
    by_cases t : n.testBit i = true
    · show (if n.testBit i = true then (b, i) :: pk i n (b + 2 ^ i) else pk i n b).length = _
      rw [if_pos t, if_pos t, List.length_cons, pk_ones i n _]
      have := ones_split i 1 (n % 2 ^ i) ml
      rw [Nat.mul_one, ones_one] at this
      omega
    · show (if n.testBit i = true then (b, i) :: pk i n (b + 2 ^ i) else pk i n b).length = _
      rw [if_neg t, if_neg t, pk_ones i n _, Nat.zero_add]
end LT

namespace LT
open PySem PySem.Spec PyProof.Rows L2
theorem npk_ones {n : Nat} (h : n ≤ 10 ^ 30) : (pk 101 n 0).length = ones n := by rw [pk_ones, Nat.mod_eq_of_lt (Nat.lt_of_le_of_lt h (by decide))]
section
variable {P : Program} {w : World} {K : PySem.W.Frag} {mg : Str → Option Value} {base : Heap}
def spRootSums : Sp := fun vs H Q _ => ∃ (n : Nat), vs = [.int n] ∧ 1 ≤ n ∧ n ≤ 10 ^ 30 ∧ ∀ (H' : Hp), Same H H' → Q (.int ((ones n - 1 : Nat) : Int)) H'
theorem ok_root_sums {f g1 : Addr} {fd d1 : FuncData} (F : Fun K "root_sums" "root_sums" sRootSums f fd) (GEdges : FnOk P w K mg base CX0 5 g1 d1 ["size"] spEdges) (AEdges : At K mg "edges" g1 d1 ["size"]) (z_len : mg "len" = none) : FnOk P w K mg base CX0 6 f fd ["size"] spRootSums := by
  refine F.ok scRootSums (fun vs H Q E h => ?_) (fun cdv A outer s H vs Q E hr h => ?_)
  · obtain ⟨_, rfl, _⟩ := h
    rfl
  obtain ⟨n, rfl, h1, h30, q⟩ := h
  refine ⟨_, (pss_one (ps_ret (pe_callB call_len_seq (by rfl) z_len PySem.boot_len (pa_cons (pe_call GEdges (hr.mono (by decide)) rfl AEdges.m AEdges.kp AEdges.b .nil pass0 (pa_cons (pv 0) pa_nil)) pa_nil)))), ?_⟩
  refine ⟨_, rfl, n, rfl, h1, h30, fun H1 p xs sm np hp hx => ⟨p, xs, rfl, .inl (SqL.of hp), ?_⟩⟩
  dsimp only
  rw [hx.len, List.length_map, List.length_dropLast, List.length_map, npk_ones h30]
  exact q H1 sm
end
end LT

namespace LT
open PySem PySem.Spec PyProof.Rows L2
section
variable {P : Program} {w : World} {K : PySem.W.Frag} {mg : Str → Option Value} {base : Heap}
def spNumberBetween : Sp := fun vs H Q _ => ∃ n l h : Int, vs = [.int n, .int l, .int h] ∧ l ≤ n ∧ n ≤ h ∧ Q .non H
theorem ok_check_number_between {f g : Addr} {fd gd : FuncData} (F : Fun K "check_number_between" "check_number_between" sCheckNumberBetween f fd) (GIsBetween : FnOk P w K mg base CX0 2 g gd ["value", "low", "high"] spBetween) (AIsBetween : At K mg "is_between" g gd ["value", "low", "high"]) : FnOk P w K mg base CX0 3 f fd ["number", "least", "most"] spNumberBetween := by
  refine F.ok scCheckNumberBetween (fun vs H Q E h => ?_) (fun cdv A outer s H vs Q E hr h => ?_)
  · obtain ⟨_, _, _, rfl, _⟩ := h
    rfl
  obtain ⟨n, l, h, rfl, h1, h2, q⟩ := h
  refine ⟨_, (pss_one (ps_if (pt_not (pt_val (pe_call GIsBetween (hr.mono (by decide)) rfl AIsBetween.m AIsBetween.kp AIsBetween.b .nil pass0 (pa_cons (pv 0) (pa_cons (pv 1) (pa_cons (pv 2) pa_nil))))))
    (pss_one ps_never)
    pss_nil)), ?_⟩
  refine ⟨_, rfl, _, rfl, _, rfl, n, l, h, rfl, _, rfl, ?_⟩
  rw [decide_eq_true h1, decide_eq_true h2]
  exact q
def spMade : Sp := fun vs H Q _ => ∃ (n : Nat), vs = [.int n] ∧ 1 ≤ n ∧ n ≤ 10 ^ 30 ∧ ∀ (H' : Hp), Same H H' → Q (.int ((n - ones n : Nat) : Int)) H'
theorem ok_made_sums {f g1 : Addr} {fd d1 : FuncData} (F : Fun K "_made_sums" "_made_sums" sMadeSums f fd) (GRootSums : FnOk P w K mg base CX0 6 g1 d1 ["size"] spRootSums) (ARootSums : At K mg "root_sums" g1 d1 ["size"]) : FnOk P w K mg base CX0 7 f fd ["size"] spMade := by
  refine F.ok scMadeSums (fun vs H Q E h => ?_) (fun cdv A outer s H vs Q E hr h => ?_)
  · obtain ⟨_, rfl, _⟩ := h
    rfl
  obtain ⟨n, rfl, n1, n30, q⟩ := h
  refine ⟨_, (pss_one (ps_ret (pe_op op_sub (pe_op op_sub (pv 0) (pe_call GRootSums (hr.mono (by decide)) rfl ARootSums.m ARootSums.kp ARootSums.b .nil pass0 (pa_cons (pv 0) pa_nil))) pe_int))), ?_⟩
  have o1 := ones_pos n1
  have o2 := ones_le_self n
  refine ⟨_, rfl, _, rfl, n, rfl, n1, n30, fun H1 s1 => ⟨_, _, rfl, rfl, _, _, rfl, rfl, ?_⟩⟩
  dsimp only
  rw [show (n : Int) - ((ones n - 1 : Nat) : Int) - 1 = ((n - ones n : Nat) : Int) by omega]
  exact q H1 s1
def spAppend : Sp := fun vs H Q _ => ∃ (n m : Nat), vs = [.int n, .int m] ∧ 1 ≤ n ∧ n + m ≤ 10 ^ 30 ∧ ∀ (H' : Hp), Same H H' → Q (.int ((m : Int) - ((ones (n + m) : Nat) : Int) + ((ones n : Nat) : Int))) H'
theorem ok_append_sums {f g1 g2 g3 : Addr} {fd d1 d2 d3 : FuncData} {t : Tok} (F : Fun K "append_sums" "append_sums" sAppendSums f fd) (GCheckSize : FnOk P w K mg base CX0 3 g1 d1 ["size"] spCheckSize) (ACheckSize : At K mg "check_size" g1 d1 ["size"])
    (GCheckNumberBetween : FnOk P w K mg base CX0 3 g2 d2 ["number", "least", "most"] spNumberBetween) (ACheckNumberBetween : At K mg "check_number_between" g2 d2 ["number", "least", "most"])
    (GMadeSums : FnOk P w K mg base CX0 7 g3 d3 ["size"] spMade) (AMadeSums : At K mg "_made_sums" g3 d3 ["size"]) (g_MOST_ENTRIES : mg "MOST_ENTRIES" = some (.int 1000000000000000000000000000000 t)) : FnOk P w K mg base CX0 8 f fd ["size", "number"] spAppend := by
  refine F.ok scAppendSums (fun vs H Q E h => ?_) (fun cdv A outer s H vs Q E hr h => ?_)
  · obtain ⟨_, _, rfl, _⟩ := h
    rfl
  obtain ⟨n, m, rfl, n1, n30, q⟩ := h
  refine ⟨_, (pss_cons (ps_expr (pe_call GCheckSize (hr.mono (by decide)) rfl ACheckSize.m ACheckSize.kp ACheckSize.b .nil pass0 (pa_cons (pv 0) pa_nil)))
    (pss_cons (ps_expr (pe_call GCheckNumberBetween (hr.mono (by decide)) rfl ACheckNumberBetween.m ACheckNumberBetween.kp ACheckNumberBetween.b .nil pass0 (pa_cons (pv 1) (pa_cons pe_int (pa_cons (pe_op op_sub (pe_glob (v := .int 1000000000000000000000000000000) rfl g_MOST_ENTRIES ⟨_, rfl⟩) (pv 0)) pa_nil)))))
    (pss_one (ps_ret (pe_op op_sub (pe_call GMadeSums (hr.mono (by decide)) rfl AMadeSums.m AMadeSums.kp AMadeSums.b .nil pass0 (pa_cons (pe_op op_add (pv 0) (pv 1)) pa_nil)) (pe_call GMadeSums (hr.mono (by decide)) rfl AMadeSums.m AMadeSums.kp AMadeSums.b .nil pass0 (pa_cons (pv 0) pa_nil))))))), ?_⟩
  refine ⟨_, rfl, _, rfl, by omega, by omega, ?_⟩
  refine ⟨_, rfl, _, rfl, _, _, rfl, rfl, _, _, _, rfl, by omega, by omega, ?_⟩
  have o1 := ones_le_self (n + m)
  have o2 := ones_le_self n
  refine ⟨_, rfl, _, rfl, _, _, rfl, rfl, n + m, rfl, by omega, by omega, fun H1 s1 => ⟨_, rfl, n, rfl, n1, by omega, fun H2 s2 => ⟨_, _, rfl, rfl, ?_⟩⟩⟩
  dsimp only
  rw [show ((n + m - ones (n + m) : Nat) : Int) - ((n - ones n : Nat) : Int) = (m : Int) - ((ones (n + m) : Nat) : Int) + ((ones n : Nat) : Int) by omega]
  exact q H2 (s1.trans s2)
end
end LT

namespace LT
open PySem PySem.Spec PyProof.Rows L2
section
variable {P : Program} {w : World} {K : PySem.W.Frag} {mg : Str → Option Value} {base : Heap}
def spCheckOlder : Sp := fun vs H Q _ => ∃ n e : Int, vs = [.int n, .int e] ∧ 1 ≤ e ∧ e ≤ n ∧ Q .non H
theorem ok_check_older {f g : Addr} {fd gd : FuncData} (F : Fun K "check_older" "check_older" sCheckOlder f fd) (GIsBetween : FnOk P w K mg base CX0 2 g gd ["value", "low", "high"] spBetween) (AIsBetween : At K mg "is_between" g gd ["value", "low", "high"]) : FnOk P w K mg base CX0 3 f fd ["size", "older"] spCheckOlder := by
  refine F.ok scCheckOlder (fun vs H Q E h => ?_) (fun cdv A outer s H vs Q E hr h => ?_)
  · obtain ⟨_, _, rfl, _⟩ := h
    rfl
  obtain ⟨n, e, rfl, h1, h2, q⟩ := h
  refine ⟨_, (pss_one (ps_if (pt_not (pt_val (pe_call GIsBetween (hr.mono (by decide)) rfl AIsBetween.m AIsBetween.kp AIsBetween.b .nil pass0 (pa_cons (pv 1) (pa_cons pe_int (pa_cons (pv 0) pa_nil))))))
    (pss_one ps_never)
    pss_nil)), ?_⟩
  refine ⟨_, rfl, _, rfl, e, 1, n, rfl, _, rfl, ?_⟩
  rw [decide_eq_true h1, decide_eq_true h2]
  exact q
end
end LT

namespace LT
open PySem PySem.Spec PyProof.Rows L2
def natsV (l : List Nat) : List V := l.map fun x : Nat => V.int (x : Int)
/-! ### logs that grow: what a state is, and what the calls make of it -/
abbrev LS := Nat × List Nat × Int
inductive LOp where
  | app (k : Nat)
  | mark
  | cut (k : Nat)
def StAt (H : Hp) (v : V) (x : LS) : Prop := ∃ t m : Addr, v = .ref t ∧ H t = some (.tup [.int (x.1 : Int), .ref m, .int x.2.2]) ∧ H m = some (.tup (natsV x.2.1))
def OpAt (H : Hp) (v : V) : LOp → Prop
  | .app k => ∃ t : Addr, v = .ref t ∧ H t = some (.tup [.str "append", .int (k : Int)])
  | .mark => ∃ t : Addr, v = .ref t ∧ H t = some (.tup [.str "mark"])
  | .cut k => ∃ t : Addr, v = .ref t ∧ H t = some (.tup [.str "cut", .int (k : Int)])
def CallAt (H : Hp) (v : V) (x : LOp × LS) : Prop := ∃ (t : Addr) (o s : V), v = .ref t ∧ H t = some (.tup [o, s]) ∧ OpAt H o x.1 ∧ StAt H s x.2
def lok (x : LS) : LOp → Prop
  | .app k => 1 ≤ k ∧ x.1 + k ≤ 10 ^ 30
  | .mark => True
  | .cut k => 1 ≤ k ∧ k ≤ x.1
def acost (n k : Nat) : Int := (k : Int) - ((ones (n + k) : Nat) : Int) + ((ones n : Nat) : Int)
def lafter (x : LS) : LOp → LS
  | .app k => (x.1 + k, x.2.1, x.2.2 + acost x.1 k)
  | .mark => if x.1 ∈ x.2.1 then x else (x.1, x.2.1 ++ [x.1], x.2.2 + ((ones x.1 - 1 : Nat) : Int))
  | .cut k => (k, x.2.1.filter (fun m => decide (m ≤ k)), x.2.2)
theorem StAt.same {H H' : Hp} {v : V} {x : LS} (h : StAt H v x) (s : Same H H') : StAt H' v x := by
  obtain ⟨t, m, e, a, b⟩ := h
  exact ⟨t, m, e, s _ _ a, s _ _ b⟩
theorem OpAt.same {H H' : Hp} {v : V} {o : LOp} (h : OpAt H v o) (s : Same H H') : OpAt H' v o := by
  cases o <;> (obtain ⟨t, e, a⟩ := h; exact ⟨t, e, s _ _ a⟩)
theorem CallAt.same {H H' : Hp} {v : V} {x : LOp × LS} (h : CallAt H v x) (s : Same H H') : CallAt H' v x := by
  obtain ⟨t, o, s', e, a, b, c⟩ := h
  exact ⟨t, o, s', e, s _ _ a, b.same s, c.same s⟩
/-- tuples stay -/
def Tups (H H' : Hp) : Prop := ∀ (a : Addr) (xs : List V), H a = some (.tup xs) → H' a = some (.tup xs)
theorem Tups.trans {H H1 H2 : Hp} (a : Tups H H1) (b : Tups H1 H2) : Tups H H2 := fun p xs h => b p xs (a p xs h)
theorem Same.tups {H H' : Hp} (s : Same H H') : Tups H H' := fun a xs h => s a _ h
theorem StAt.tups {H H' : Hp} {v : V} {x : LS} (h : StAt H v x) (s : Tups H H') : StAt H' v x := by
  obtain ⟨t, m, e, a, b⟩ := h
  exact ⟨t, m, e, s _ _ a, s _ _ b⟩
theorem OpAt.tups {H H' : Hp} {v : V} {o : LOp} (h : OpAt H v o) (s : Tups H H') : OpAt H' v o := by
  cases o <;> (obtain ⟨t, e, a⟩ := h; exact ⟨t, e, s _ _ a⟩)
theorem CallAt.tups {H H' : Hp} {v : V} {x : LOp × LS} (h : CallAt H v x) (s : Tups H H') : CallAt H' v x := by
  obtain ⟨t, o, s', e, a, b, c⟩ := h
  exact ⟨t, o, s', e, s _ _ a, b.tups s, c.tups s⟩
/-! ### the object -/
theorem stca : ¬ (("_state" : Str) = "_calls") := by decide +kernel
def fldsL (s : V) (c : Addr) : List (Str × V) := putF "_calls" (.ref c) (putF "_state" s [])
theorem fldsL_eq (s : V) (c : Addr) : fldsL s c = ([("_state", s), ("_calls", V.ref c)] : List (Str × V)) := by
  show (if ("_state" : Str) = "_calls" then [(("_state" : Str), V.ref c)] else (("_state" : Str), s) :: putF "_calls" (V.ref c) []) = ([("_state", s), ("_calls", V.ref c)] : List (Str × V))
  rw [if_neg stca]
  rfl
theorem fldsL_state (s : V) (c : Addr) : (fldsL s c).lookup ("_state" : Str) = some s := by
  unfold fldsL
  rw [lookup_putF, if_neg stca, lookup_putF, if_pos rfl]
theorem fldsL_calls (s : V) (c : Addr) : (fldsL s c).lookup ("_calls" : Str) = some (.ref c) := by
  unfold fldsL
  rw [lookup_putF, if_pos rfl]
theorem fldsL_no (s : V) (c : Addr) {m : Str} (h1 : ¬ m = "_calls") (h2 : ¬ m = "_state") : (fldsL s c).lookup m = none := by
  unfold fldsL
  rw [lookup_putF, if_neg h1, lookup_putF, if_neg h2]
  rfl
theorem fldsL_put (s s' : V) (c : Addr) : putF "_state" s' (fldsL s c) = fldsL s' c := by
  rw [fldsL_eq, fldsL_eq]
  show (if ("_state" : Str) = "_state" then [(("_state" : Str), s'), (("_calls" : Str), V.ref c)] else (("_state" : Str), s) :: putF "_state" s' [(("_calls" : Str), V.ref c)]) = ([("_state", s'), ("_calls", V.ref c)] : List (Str × V))
  rw [if_pos rfl]
/-- a log at p with its list of calls at c -/
def LogAt (C : Addr) (H : Hp) (p c : Addr) (x : LS) (cs : List (LOp × LS)) : Prop := ∃ (dx : Addr) (s : V) (vs : List V), H p = some (.ins C dx (fldsL s c)) ∧ StAt H s x ∧ H c = some (.lst vs) ∧ All2 (CallAt H) vs cs
theorem LogAt.same {C : Addr} {H H' : Hp} {p c : Addr} {x : LS} {cs : List (LOp × LS)} (h : LogAt C H p c x cs) (s : Same H H') : LogAt C H' p c x cs := by
  obtain ⟨dx, v, vs, a, b, d, e⟩ := h
  exact ⟨dx, v, vs, s _ _ a, b.same s, s _ _ d, e.mono fun v x (k : CallAt H v x) => k.same s⟩
/-- all but the log stays -/
def ButL (p c : Addr) (H H' : Hp) : Prop := ∀ b o, H b = some o → b ≠ p → b ≠ c → H' b = some o
theorem ButL.refl (p c : Addr) (H : Hp) : ButL p c H H := fun _ _ h _ _ => h
theorem ButL.trans {p c : Addr} {H H1 H2 : Hp} (a : ButL p c H H1) (b : ButL p c H1 H2) : ButL p c H H2 := fun q o h n m => b q o (a q o h n m) n m
theorem ButL.of {p c : Addr} {H H' : Hp} (s : Same H H') : ButL p c H H' := fun b o h _ _ => s b o h
theorem LogAt.ne {C : Addr} {H : Hp} {p c : Addr} {x : LS} {cs : List (LOp × LS)} (h : LogAt C H p c x cs) : p ≠ c := by
  obtain ⟨_, _, _, a, _, b, _⟩ := h
  exact ne_of a b (fun z => by cases z)
theorem ButL.tups {C : Addr} {H H' : Hp} {p c : Addr} {x : LS} {cs : List (LOp × LS)} (B : ButL p c H H') (h : LogAt C H p c x cs) : Tups H H' := by
  obtain ⟨_, _, _, a, _, b, _⟩ := h
  exact fun q xs e => B q _ e (ne_of e a (fun z => by cases z)) (ne_of e b (fun z => by cases z))
/-- what the top tells of the class -/
structure TLog (K : PySem.W.Frag) (C : Addr) : Prop where
  cl : Cls K C
  nS : NoAttr K C "_state"
  nC : NoAttr K C "_calls"
end LT

namespace LT
open PySem PySem.Spec PyProof.Rows L2
/-! ### super().m(a, b) in a method of an own class over an own class: OWN RULE -/
structure SScope3 (sc : Scope) : Prop where
  kind : sc.kind = .function
  co : sc.isCoroutine = false
  gen : sc.isGenerator = false
  l0 : sc.names.lookup ("self" : Str) = some .local
  l1 : sc.names.lookup ("state" : Str) = some .local
  l2 : sc.names.lookup ("operation" : Str) = some .local
  l3 : sc.names.lookup ("told" : Str) = some .local
  cls : sc.names.lookup ("__class__" : Str) = some .free
  sup : sc.names.lookup ("super" : Str) = some .globalImplicit
  nocell : ∀ y ∈ sc.names, y.2 ≠ .cell
  free : ∀ y ∈ sc.names, y.2 = .free → y.1 = "__class__"
abbrev N62 : List Str := ["self", "state", "operation", "told"]
/-- what the top says of a method that says super().m(..) -/
structure Sup3 (P : Program) (K : PySem.W.Frag) (mg : Str → Option Value) (C cda cc fL : Addr) (m : Str) : Prop where
  cls : PySem.W.isClsIn K C = true
  sup : PySem.W.ks_superIn K C C m = some (some (.ref fL))
  fn : PySem.W.fnIn K fL = true
  ty : PySem.W.typeIn K (.ref fL) = some (.type "function")
  own : PySem.W.mroIn K C (.ref C) = some true
  opq : PySem.W.nsIn K cStatics "thirdparty.any" = some none
  cell : ∃ cl cld csl, K.lookup cc = some ⟨cl, cld, .cell (some (.ref C)), csl⟩
  code : ∃ ccl cdd ccs, ∃ vs : Array Value, ∃ (file : Str) (tf : Tok), K.lookup cda = some ⟨ccl, cdd, .fields vs, ccs⟩ ∧ vs[2]? = some (.str file tf) ∧ ((P.main.file : Str) == file) = true
  top : (P.main.scope.names.lookup ("super" : Str)).isSome = false
  z : mg "super" = none
section
variable {CX : CXT} {P : Program} {w : World} {K : PySem.W.Frag} {mg : Str → Option Value} {base : Heap} {k : Nat}
theorem sup_inv3 {qual : Str} {scope : Scope} {f cda cc C fL : Addr} {m : Str} {A : Around} {outer : List Env} {s : Shared} {H : Hp} {E : XK} {h1 : Heap} {tk : Nat} {u0 u1 u2 : Value} {v0 v1 v2 : V} (S : SScope3 scope) (T : Sup3 P K mg C cda cc fL m) (hd : A.handled = none)
    (e0 : Env0 P w K mg base A outer s H) (r0 : RelV v0 u0) (r1 : RelV v1 u1) (r2 : RelV v2 u2) (hns : h1.Ns s.heap.objs.size (fun y => ([("operation", u2), ("state", u1), ("self", u0)] : List (Str × Value)).lookup y)) (hk : ∀ b o, s.heap.get? b = some o → h1.get? b = some o) :
    Inv (cxS CX P w K mg base N62 qual scope f cda cc A outer s H E) [] [some v0, some v1, some v2, none] H { s with heap := h1, toks := tk } := by
  have noA : ∀ b : Addr, b ∉ (cxS CX P w K mg base N62 qual scope f cda cc A outer s H E).ex := fun b z => absurd (show b ∈ ([] : List Addr) from z) (by simp)
  have cl : ∀ {y : Str} {c : Addr}, (cxS CX P w K mg base N62 qual scope f cda cc A outer s H E).env.cells.lookup y = some c → y = "__class__" ∧ c = cc := by
    intro y c h
    have h' : List.lookup y [(("__class__" : Str), cc)] = some c := h
    by_cases hy : y = "__class__"
    · subst hy
      simp [List.lookup] at h'
      exact ⟨rfl, h'.symm⟩
    · have : (y == ("__class__" : Str)) = false := by simpa using hy
      simp [List.lookup, this] at h'
  have n1 : (("self" : Str) == ("operation" : Str)) = false := by decide +kernel
  have n2 : (("self" : Str) == ("state" : Str)) = false := by decide +kernel
  have n3 : (("state" : Str) == ("operation" : Str)) = false := by decide +kernel
  obtain ⟨ccl, ccd, ccs, hcc⟩ := T.cell
  have hbc := e0.mod.kin _ _ hcc
  refine ⟨⟨e0.mod, S.kind, rfl, rfl, Nat.le_refl _, fun y z c a b => ?_, fun y hy => ?_, fun y c hy a => ?_, fun _ => hd, Around.frames_deeper e0.frames, .inr ⟨rfl, rfl⟩, fun b z => absurd z (noA b), e0.bs, e0.bsz, fun b _ _ => noA b, fun b z => absurd z (noA b), e0.funs, e0.frf⟩,
    rfl, e0.bare, Un.kept hk, ⟨_, hns, fun i y v a b c => ?_⟩, fun y c a => ?_, e0.hok.fresh (Nat.le_refl _), fun y c a => ?_, fun p hp => absurd (show p ∈ ([] : List (Addr × Obj)) from hp) (by simp), e0.hok.kept hk, rfl⟩
  · rw [(cl a).1, (cl b).1]
  · have hy : scope.names.lookup y = some .cell ∨ scope.names.lookup y = some .free := hy
    rcases hy with hy | hy
    · exact absurd rfl (S.nocell _ (PySem.mem_of_lookup hy))
    · have e := S.free _ (PySem.mem_of_lookup hy) rfl
      have e : y = "__class__" := e
      subst e
      exact ⟨cc, by show List.lookup _ [(("__class__" : Str), cc)] = some cc; simp [List.lookup]⟩
  · rw [(cl a).1] at hy
    exact absurd (show (("__class__" : Str) != "__class__") = true from hy) (by simp)
  · match i, a, b with
    | 0, a, b =>
      have ey : "self" = y := Option.some.inj a
      have ev : v0 = v := Option.some.inj (Option.some.inj b)
      subst ey; subst ev
      exact ⟨u0, r0, .inl ⟨S.l0, by simp [List.lookup, n1, n2]⟩⟩
    | 1, a, b =>
      have ey : "state" = y := Option.some.inj a
      have ev : v1 = v := Option.some.inj (Option.some.inj b)
      subst ey; subst ev
      exact ⟨u1, r1, .inl ⟨S.l1, by simp [List.lookup, n3]⟩⟩
    | 2, a, b =>
      have ey : "operation" = y := Option.some.inj a
      have ev : v2 = v := Option.some.inj (Option.some.inj b)
      subst ey; subst ev
      exact ⟨u2, r2, .inl ⟨S.l2, by simp [List.lookup]⟩⟩
    | 3, a, b => exact absurd b (by show ¬ some (none : Option V) = some (some v); simp)
    | i + 4, a, b => exact absurd a (by show ¬ ([] : List Str)[i]? = some y; simp)
  · rw [(cl a).2]
    exact ⟨_, _, hk _ _ ((e0.bs _ _ hbc).1), rfl⟩
  · rw [(cl a).2]
    exact (e0.bs _ _ hbc).2
/-- super().m(e, ..): the method of the class above, bound to self -/
theorem sup_call3 {X : Cx} {body : List Stmt} {f cda cc C fL a dx : Addr} {fs : List (Str × V)} {m : Str} {fd fdL : FuncData} {kk : Nat} {ps : List Str} {sp : Sp} {ar : Arg} {oc : Value} {od : Option Addr} {osl : Array (Option Value)} {e : Expr} {es : List Expr} {ta : TA} {p0 p1 p2 p7 : Pos} {σ : L2.St} {H : Hp} {s1 : Shared} {Q : VK} {E1 : XK} {CX1 : CXT} {pl : Sem Bool}
    (T : Sup3 X.prog X.K X.mg C cda cc fL m) (hm : (m == ("__class__" : Str)) = false) (hks : X.env.kindOf "super" = some .globalImplicit) (hkc : X.env.kindOf "__class__" = some .free) (hka : X.env.kindOf "self" = some .local) (hcell : X.env.cells.lookup ("__class__" : Str) = some cc) (hfu : X.env.func = some f) (hco : X.env.code = .ref cda)
    (lk : X.K.lookup f = some ⟨oc, od, .func fd, osl⟩) (har : (fd.params.posonlyargs ++ fd.params.args).head? = some ar) (hself : ar.arg = "self") (I : Inv X [] σ H s1) (ea : H a = some (.ins C dx fs)) (hN : X.N[0]? = some ("self" : Str)) (hσ : σ[0]? = some (some (V.ref a)))
    (FL : FnOk X.prog X.w X.K X.mg X.base CX1 kk fL fdL ps sp) (hr : Room (kk + 1) X.A) (hb : Binds X.K fdL ps []) (hx : Passes CX1 X E1)
    (ha : PA X (e :: es) ta)
    (hat : eval (.Call (.Attribute (.Call (.Name "super" p0) [] [] p1) m p2) (e :: es) [] p7) X.env = (do
      let ov ← attributeBase (.Call (.Name "super" p0) [] [] p1) m X.env (eval (.Call (.Name "super" p0) [] [] p1) X.env)
      standAt p2.atName
      let (f, first) ← holding [ov] (getMethod ov m pl)
      callWith p7 f first (backTo p7 (starEach (e :: es) X.env)) []) := by rfl)
    (he : starEach (e :: es) X.env = (false, eval e X.env) :: starEach es X.env := by rfl) (hpl : (backTo p7 (starEach es X.env)).any (·.1) = false := by rfl)
    (h : ta σ H fun vs H1 => sp (.ref a :: vs) H1 Q E1) :
    PySem.wpAt (model X.prog X.w) X.A (.func body X.env) (eval (.Call (.Attribute (.Call (.Name "super" p0) [] [] p1) m p2) (e :: es) [] p7) X.env) (EP X [] σ Q) X.xe s1 := by
  have KX := I.kIn
  obtain ⟨cd, hcl⟩ : ∃ cd, PySem.W.clsIn X.K C = some cd := Option.isSome_iff_exists.mp T.cls
  obtain ⟨cl, cld, csl, hcc⟩ := T.cell
  obtain ⟨ccl, cdd, ccs, vs, file, tf, hcode, hvs, hfile⟩ := T.code
  obtain ⟨mA, O, _⟩ := ins_get I.hok ea
  have ho := O.obj
  obtain ⟨mm, hns, hl⟩ := I.loc
  obtain ⟨u, ru, hu⟩ := hl 0 "self" (.ref a) hN hσ (.inl hka)
  obtain rfl : u = Value.ref a := ru
  have hm1 : mm ("self" : Str) = some (Value.ref a) := by
    rcases hu with ⟨_, e⟩ | ⟨e, _⟩
    · exact e
    · rcases e with e | e <;> rw [hka] at e <;> cases e
  obtain ⟨oC, hCs, hCd⟩ : ∃ oC : Obj, s1.heap.get? C = some oC ∧ oC.data = .cls cd := by
    unfold PySem.W.clsIn at hcl
    split at hcl
    · rename_i z
      cases hcl
      exact ⟨_, KX _ _ z, rfl⟩
    · cases hcl
  obtain ⟨oF, hFs, hFt⟩ : ∃ oF : Obj, X.K.lookup fL = some oF ∧ oF.cls = .type "function" := by
    have z := T.ty
    cases e : X.K.lookup fL with
    | none => simp [PySem.W.typeIn, e] at z
    | some o => exact ⟨o, rfl, by simpa [PySem.W.typeIn, e] using z⟩
  refine ks_wpAt_MethodCall (pl := pl) ?_ hat
  refine ks_wpAt_super_base hks hkc hm hfu (KX _ _ lk) rfl har hco (KX _ _ hcode) rfl hvs hfile T.top ?_
  obtain ⟨mb, hb1, hb2⟩ := I.mod.blt
  refine PySem.W.ks_loadName_global I.ok.kind hks (Calls.loadGlobal_builtin (by rw [I.ok.glob]; exact I.mod.glob.keeps I.bk) T.z (by rw [I.ok.blt]; exact hb1.keeps I.bk) ((hb2 "super" (by decide)).trans (by rfl)) ⟨rfl, ?_⟩)
  refine wpAny_loadName_free I.ok.kind hkc hcell ⟨_, KX _ _ hcc, rfl⟩ ?_
  rw [hself]
  refine wpAny_loadName_local I.ok.kind hka hns hm1 ?_
  obtain ⟨hh, g, d, t, os⟩ := s1
  refine ks_wpAny_isType_cls hCs hCd ⟨rfl, ?_⟩
  refine ks_wpAny_call_super hCs hCd ho rfl (fun c => by intro z; cases z) (PySem.W.looks_mroIn KX T.own) (fun h' e1 k1 => ?_)
  have KX' : X.K.In h' := KX.keeps k1
  have hmr : PySem.W.Looks (model X.prog X.w) h' (mroOf (.ref C)) cd.mro := (PySem.W.looks_clsIn KX' hcl).andThen .now
  have hal : PySem.W.alongIn X.K m ((cd.mro.dropWhile (· != .ref C)).drop 1) = some (some (.ref fL)) := by
    have z := T.sup
    unfold PySem.W.ks_superIn at z
    rw [hcl] at z
    exact z
  have hne : a ≠ C := fun z => by
    rw [z, hCs] at ho
    have := Option.some.inj ho
    rw [this] at hCd
    cases hCd
  refine ks_wpAny_getMethod_super e1 (PySem.W.looks_opaque KX' T.opq) hmr rfl KX' hal (KX' _ _ hFs) hFt hne hm ?_
  have kk : ∀ b o, hh.get? b = some o → (h'.push (PySem.W.methodObj (.ref fL) (.ref a))).get? b = some o := fun b o z => Heap.get?_push_of_some _ (k1 _ _ z)
  have sz : hh.objs.size ≤ h'.objs.size := Nat.le_of_lt (Heap.lt_size e1)
  have I2 : Inv X [(h'.objs.size, PySem.W.methodObj (.ref fL) (.ref a))] σ H ⟨h'.push (PySem.W.methodObj (.ref fL) (.ref a)), g, d, t + 1, os⟩ :=
    ClX.pin_new (t' := t + 1) I kk sz (Heap.get?_push_size _ rfl) (fun v => by intro z; cases z)
  show wpAny _ _ (callWith p7 (Value.ref h'.objs.size) [] (backTo p7 (starEach (e :: es) X.env)) []) _ _ _
  have hA := ha.run p7 _ _ σ H _ I2 h
  rw [he] at hA ⊢
  refine PySem.W.callWith_of (by show ((false || (backTo p7 (starEach es X.env)).any (·.1)) || false) = false; rw [hpl]; rfl) (PySem.W.keeps_M (q := h'.objs.size) (self := .ref a) T.fn) (Calls.evalArgs_plain (thn hA fun us s2 ⟨vs2, H1, I3, rv, q⟩ => ?_))
  have hpin := ClX.pin_at I3
  refine ⟨⟨hpin, I3.kIn⟩, ?_⟩
  have J := ClX.unpin I3
  have r2 : Vals (.ref a :: vs2) (.ref a :: us) := .cons rfl rv
  have hlen : ((Value.ref a :: us) ++ []).length = ps.length := by
    rw [List.append_nil, ← r2.length]
    exact FL.len _ _ _ _ q
  refine wpAny_call (ks_codeAny_call_bound hpin (codeAny_mono (FL.run X.A X.stack s2 H1 ⟨.ref a :: us, []⟩ (.ref a :: us) (.ref a :: vs2) Q E1 (hr.mono (Nat.le_succ _)) J.env0 (by have := hb s2 (.ref a :: us) J.kIn hlen; rwa [List.append_nil] at this) r2 q) fun r s' hq => ?_))
  cases r with
  | error e => exact hx [] σ H1 s2 e s' J hq
  | ok fl =>
    cases fl with
    | ret u => exact J.after hq
    | next => exact False.elim hq
    | brk => exact False.elim hq
    | cont => exact False.elim hq
end
end LT

namespace LT
open PySem PySem.Spec PyProof.Rows L2
section
variable {CX : CXT} {P : Program} {w : World} {K : PySem.W.Frag} {mg : Str → Option Value} {base : Heap} {k : Nat}
/-- a def of self, state, operation that begins with told = super().m(state, operation) -/
theorem ok_super3 {name qual m : Str} {params : Arguments} {scope : Scope} {rest : List Stmt} {dV kV doc pm ct oc : Value} {an od : Option Addr} {osl : Array (Option Value)} {f cda cc C fL : Addr} {fdL : FuncData} {kl : Nat} {spL sp : Sp} {p0 p1 p2 p3 p4 p7 q0 q1 : Pos} {ar : Arg}
    (lk : K.lookup f = some ⟨oc, od, .func (PySem.W.ksFn name qual params (.Assign [.Name "told" q0] (.Call (.Attribute (.Call (.Name "super" p0) [] [] p1) m p2) [.Name "state" p3, .Name "operation" p4] [] p7) q1 :: rest) scope dV kV doc pm an (.ref cda) ct cc), osl⟩)
    (hcd : PySem.W.codeIn K (.ref cda) qual = true) (S : SScope3 scope) (T : Sup3 P K mg C cda cc fL m) (hm : (m == ("__class__" : Str)) = false) (har : (params.posonlyargs ++ params.args).head? = some ar) (hself : ar.arg = "self")
    (FL : FnOk P w K mg base CX kl fL fdL ["self", "state", "operation"] spL) (hbL : Binds K fdL ["self", "state", "operation"] []) (hk : kl + 1 ≤ k)
    (hat : ∀ env : Env, ∃ pl : Sem Bool, eval (.Call (.Attribute (.Call (.Name "super" p0) [] [] p1) m p2) [.Name "state" p3, .Name "operation" p4] [] p7) env = (do
      let ov ← attributeBase (.Call (.Name "super" p0) [] [] p1) m env (eval (.Call (.Name "super" p0) [] [] p1) env)
      standAt p2.atName
      let (f, first) ← holding [ov] (getMethod ov m pl)
      callWith p7 f first (backTo p7 (starEach [.Name "state" p3, .Name "operation" p4] env)) []))
    (hsw1 : ∀ env : Env, swapsWith (.Call (.Attribute (.Call (.Name "super" p0) [] [] p1) m p2) [.Name "state" p3, .Name "operation" p4] [] p7) (some (.Name "told" q0)) q1.line env = pure false)
    (len : ∀ vs H Q E, sp vs H Q E → vs.length = 3)
    (hbody : ∀ (A : Around) (outer : List Env) (s : Shared) (H : Hp) (vs : List V) (Q : VK) (E : XK), Room k (A.deeper (PySem.W.ksEnv qual scope s.heap.objs.size f (.ref cda) cc)) → sp vs H Q E →
      ∃ (a dx : Addr) (fs : List (Str × V)) (v u : V) (t : TS) (E1 : XK), vs = [.ref a, v, u] ∧ H a = some (.ins C dx fs) ∧ Passes CX (cxS CX P w K mg base N62 qual scope f cda cc A outer s H E) E1 ∧ PSs (cxS CX P w K mg base N62 qual scope f cda cc A outer s H E) rest t ∧
        spL [.ref a, v, u] H (fun r H' => t { nx := fun _ H' => Q .non H', rt := Q } [some (.ref a), some v, some u, some r] H') E1) :
    FnOk P w K mg base CX (k + 1) f (PySem.W.ksFn name qual params (.Assign [.Name "told" q0] (.Call (.Attribute (.Call (.Name "super" p0) [] [] p1) m p2) [.Name "state" p3, .Name "operation" p4] [] p7) q1 :: rest) scope dV kV doc pm an (.ref cda) ct cc) ["self", "state", "operation"] sp := by
  refine ⟨len, fun A outer s H args us vs Q E hr e0 hb r hsp => ?_⟩
  obtain ⟨a, dx, fs, v, u, t, E1, rfl, ea, hps, hrest, hq⟩ := hbody A outer s H vs Q E (hr.deeper _) hsp
  match us, r with
  | [u0, u1, u2], .cons r0 (.cons r1 (.cons r2 .nil)) =>
  obtain rfl : u0 = Value.ref a := r0
  have KX : K.In s.heap := e0.mod.kin.keeps fun b o e => (e0.bs b o e).1
  have lim : s.heap.NoLimit := e0.mod.nolimit.keeps fun b o e => (e0.bs b o e).1
  refine ks_codeAny_call_defAt hr.depth (KX _ _ lk) rfl lim (PySem.W.codeRec_of KX hcd) rfl hb S.nocell (fun z hz => ?_) (fun h1 hns hk1 => ?_) S.co S.gen S.kind
  · rcases List.mem_cons.mp hz with e | e
    · rw [e]; exact S.l0
    · rcases List.mem_cons.mp e with e | e
      · rw [e]; exact S.l1
      · rcases List.mem_cons.mp e with e | e
        · rw [e]; exact S.l2
        · exact absurd e (by simp)
  show PySem.wpAt (model P w) (A.deeper (PySem.W.ksEnv qual scope s.heap.objs.size f (.ref cda) cc)) (.func _ (PySem.W.ksEnv qual scope s.heap.objs.size f (.ref cda) cc)) (execs _ (PySem.W.ksEnv qual scope s.heap.objs.size f (.ref cda) cc)) _ _ _
  have I : Inv (cxS CX P w K mg base N62 qual scope f cda cc A outer s H E) [] [some (.ref a), some v, some u, none] H { s with heap := h1, toks := s.toks + ((["self", "state", "operation"] : List Str).zip [Value.ref a, u1, u2]).length } := sup_inv3 S T hr.hd e0 rfl r1 r2 hns hk1
  generalize hs1 : ({ s with heap := h1, toks := s.toks + ((["self", "state", "operation"] : List Str).zip [Value.ref a, u1, u2]).length } : Shared) = s1 at I ⊢
  have d1 : (("state" : Str) == ("__debug__" : Str)) = false := by decide +kernel
  have d2 : (("state" : Str) == ("__classdict__" : Str)) = false := by decide +kernel
  have d3 : (("operation" : Str) == ("__debug__" : Str)) = false := by decide +kernel
  have d4 : (("operation" : Str) == ("__classdict__" : Str)) = false := by decide +kernel
  have pv1 : PE (cxS CX P w K mg base N62 qual scope f cda cc A outer s H E) (.Name "state" p3) (tVar 1) := pe_var rfl (.inl S.l1) d1 d2
  have pv2 : PE (cxS CX P w K mg base N62 qual scope f cda cc A outer s H E) (.Name "operation" p4) (tVar 2) := pe_var rfl (.inl S.l2) d3 d4
  have pa : PA (cxS CX P w K mg base N62 qual scope f cda cc A outer s H E) [.Name "state" p3, .Name "operation" p4] (tCons (tVar 1) (tCons (tVar 2) tNil)) := pa_cons pv1 (pa_cons pv2 pa_nil)
  obtain ⟨pl, hpl⟩ := hat (PySem.W.ksEnv qual scope s.heap.objs.size f (.ref cda) cc)
  have nod : N62.Nodup := by decide +kernel
  refine ks_wpAt_execs_cons (ks_wpAt_Assign_Name ?_ (hsw1 _))
  refine ks_wpAt_mono (sup_call3 (X := cxS CX P w K mg base N62 qual scope f cda cc A outer s H E) (Q := fun r H' => t { nx := fun _ H' => Q .non H', rt := Q } [some (.ref a), some v, some u, some r] H') T hm S.sup S.cls S.l0 (by show List.lookup _ [(("__class__" : Str), cc)] = some cc; simp [List.lookup]) rfl rfl lk har hself I ea rfl rfl FL ((hr.deeper _).mono hk) hbL hps pa (hat := hpl) (h := ⟨_, rfl, _, rfl, hq⟩)) (fun x s2 hx => ?_) (fun _ _ z => z)
  obtain ⟨rv, H2, I2, rr, hq2⟩ := hx
  refine store_ok (i := 3) I2 nod rfl (.inl S.l3) rr ?_ (.inr S.l3)
  intro s3 I3
  have hrun := hrest.run [] s3 _ H2 { nx := fun _ H' => Q .non H', rt := Q } I3 hq2
  refine PySem.wpAt_of_wpAny (wpAny_mono hrun (fun fl s' hs => ?_) fun e s' hs => hs)
  cases fl with
  | ret u =>
    obtain ⟨v, σ', H', J, rv, q⟩ := hs
    exact ⟨v, H', J.os, J.bare, J.base, J.hok, rv, q⟩
  | next =>
    obtain ⟨σ', H', J, q⟩ := hs
    exact ⟨V.non, H', J.os, J.bare, J.base, J.hok, rfl, q⟩
  | brk =>
    obtain ⟨_, _, _, q⟩ := hs
    exact False.elim q
  | cont =>
    obtain ⟨_, _, _, q⟩ := hs
    exact False.elim q
end
end LT

namespace LT
open PySem PySem.Spec PyProof.Rows L2
/-! ### o.m(..) of a method that may raise -/
section
variable {X : Cx} {CX : CXT} {k : Nat} {f C : Addr} {fd : FuncData} {ps : List Str} {sp : Sp} {E : L2.St → XK} {m : Str} {pos apos : Pos} {e o : Expr} {es : List Expr} {ta : TE} {t : TA}
def tMethS (C : Addr) (m : Str) (sp : Sp) (E : L2.St → XK) (ta : TE) (t : TA) : TE := fun σ H Q => ta σ H fun x H1 => ∃ a dx fs, x = .ref a ∧ H1 a = some (.ins C dx fs) ∧ fs.lookup m = none ∧ t σ H1 fun vs H2 => sp (x :: vs) H2 Q (E σ)
theorem pe_methS {pl : Sem Bool} (he : PE X o ta) (c : Cls X.K C) (hm : Meth X.K C m f) (F : FnOk X.prog X.w X.K X.mg X.base CX k f fd ps sp) (hr : Room k X.A) (hb : Binds X.K fd ps []) (hx : ∀ σ, PassesAt CX X σ (E σ)) (ha : PA X (e :: es) t)
    (hst : starEach (e :: es) X.env = (false, eval e X.env) :: starEach es X.env := by rfl) (hpl : (backTo pos (starEach es X.env)).any (·.1) = false := by rfl)
    (ht : eval (.Call (.Attribute o m apos) (e :: es) [] pos) X.env = (do
      let ov ← eval o X.env
      standAt apos.atName
      let (f, first) ← holding [ov] (getMethod ov m pl)
      callWith pos f first (backTo pos (starEach (e :: es) X.env)) (backToKw pos (keywordEach [] X.env))) := by rfl) :
    PE X (.Call (.Attribute o m apos) (e :: es) [] pos) (tMethS C m sp E ta t) := by
  refine ⟨fun pins s σ H Q I h => ?_⟩
  refine PySem.W.methodCall_KW (pl := pl) (thn (he.run pins s σ H _ I h) fun u s1 ⟨x, H1, I1, rx, a, dx, fs, ex, ea, l, q⟩ => ?_) ht
  subst ex
  obtain rfl : u = Value.ref a := rx
  refine getmeth_ok I1 ea c hm l ?_
  refine PySem.W.callWith_K (first := [.ref a]) (h₀ := X.base) I1.ok.mod.kin hm.kp (thn (ha.run pos pins s1 σ H1 _ I1 q) fun us s2 ⟨vs, H2, I2, r, q2⟩ => ⟨I2.kIn, ?_⟩) hst hpl
  exact run_fnS (us := .ref a :: us) (vs := .ref a :: vs) F hr hb (hx σ) I2 (.cons rfl r) q2
theorem pe_methS0 {pl : Sem Bool} (he : PE X o ta) (c : Cls X.K C) (hm : Meth X.K C m f) (F : FnOk X.prog X.w X.K X.mg X.base CX k f fd ps sp) (hr : Room k X.A) (hb : Binds X.K fd ps []) (hx : ∀ σ, PassesAt CX X σ (E σ))
    (ht : eval (.Call (.Attribute o m apos) [] [] pos) X.env = (do
      let ov ← eval o X.env
      standAt apos.atName
      let (f, first) ← holding [ov] (getMethod ov m pl)
      callWith pos f first (backTo pos (starEach [] X.env)) (backToKw pos (keywordEach [] X.env))) := by rfl) :
    PE X (.Call (.Attribute o m apos) [] [] pos) (tMethS C m sp E ta tNil) := by
  refine ⟨fun pins s σ H Q I h => ?_⟩
  refine PySem.W.methodCall_KW (pl := pl) (thn (he.run pins s σ H _ I h) fun u s1 ⟨x, H1, I1, rx, a, dx, fs, ex, ea, l, q⟩ => ?_) ht
  subst ex
  obtain rfl : u = Value.ref a := rx
  refine getmeth_ok I1 ea c hm l ?_
  exact PySem.W.callWith_K0 (first := [.ref a]) I1.kIn hm.kp (run_fnS (us := [.ref a]) (vs := [.ref a]) F hr hb (hx σ) I1 (.cons rfl .nil) q)
end
end LT

namespace LT
open PySem PySem.Spec PyProof.Rows L2
theorem ne_cut : ¬ ("cut" : Str) = "append" := by decide +kernel
theorem ne_mark : ¬ ("mark" : Str) = "append" := by decide +kernel
theorem ne_mark2 : ¬ ("mark" : Str) = "cut" := by decide +kernel
theorem str_no {a b : Str} (h : ¬ a = b) : V.bl (decide (V.str a = V.str b)) = V.bl false := by rw [decide_eq_false fun z => h (V.str.inj z)]
theorem natsV_flat : ∀ ms : List Nat, (natsV ms).all flatV = true
  | [] => rfl
  | m :: ms => by
    show (flatV (V.int _) && (natsV ms).all flatV) = true
    rw [natsV_flat ms]
    rfl
theorem natsV_in (n : Nat) : ∀ ms : List Nat, inV (.int (n : Int)) (natsV ms) = decide (n ∈ ms)
  | [] => rfl
  | m :: ms => by
    have ih := natsV_in n ms
    unfold inV at ih ⊢
    show (eqV (V.int (m : Int)) (V.int (n : Int)) || (natsV ms).any _) = _
    rw [ih]
    have : eqV (V.int (m : Int)) (V.int (n : Int)) = decide (n = m) := by
      show ((m : Int) == (n : Int)) = _
      rw [Bool.eq_iff_iff, beq_iff_eq, decide_eq_true_eq]
      omega
    rw [this, Bool.eq_iff_iff, Bool.or_eq_true, decide_eq_true_eq, decide_eq_true_eq, decide_eq_true_eq, List.mem_cons]
theorem natsV_take {ms : List Nat} {j : Nat} {v : V} (h : (natsV ms)[j]? = some v) : ∃ m, ms[j]? = some m ∧ v = .int (m : Int) := by
  unfold natsV at h
  rw [List.getElem?_map] at h
  obtain ⟨m, a, b⟩ := Option.map_eq_some_iff.mp h
  exact ⟨m, a, b.symm⟩
theorem natsV_len (ms : List Nat) : (natsV ms).length = ms.length := by unfold natsV; rw [List.length_map]
theorem natsV_app (a b : List Nat) : natsV (a ++ b) = natsV a ++ natsV b := by unfold natsV; rw [List.map_append]
section
variable {P : Program} {w : World} {K : PySem.W.Frag} {mg : Str → Option Value} {base : Heap}
def spLogInit (C : Addr) : Sp := fun vs H Q _ => ∃ (p dx : Addr) (n : Nat), vs = [.ref p, .int n] ∧ H p = some (.ins C dx []) ∧ 1 ≤ n ∧ n ≤ 10 ^ 30 ∧
  ∀ (c : Addr) (H' : Hp), H c = none → LogAt C H' p c (n, [], 0) [] → (∀ b o, H b = some o → b ≠ p → H' b = some o) → Q .non H'
theorem ok_log_init {f g1 C : Addr} {fd d1 : FuncData} (F : Fun K "__init__" "LiveLog.__init__" sLiveLogInit f fd) (T : TLog K C)
    (GCheckSize : FnOk P w K mg base CX0 3 g1 d1 ["size"] spCheckSize) (ACheckSize : At K mg "check_size" g1 d1 ["size"]) : FnOk P w K mg base CX0 4 f fd ["self", "size"] (spLogInit C) := by
  refine F.ok scLiveLogInit (fun vs H Q E h => ?_) (fun cdv A outer s H vs Q E hr h => ?_)
  · obtain ⟨_, _, _, rfl, _⟩ := h
    rfl
  obtain ⟨p, dx, n, rfl, hp, n1, n30, q⟩ := h
  refine ⟨_, (pss_cons (ps_expr (pe_call GCheckSize (hr.mono (by decide)) rfl ACheckSize.m ACheckSize.kp ACheckSize.b .nil pass0 (pa_cons (pv 1) pa_nil)))
    (pss_cons (ps_fld (pv 0) (pe_tup (pa_cons (pv 1) (pa_cons (pe_tup pa_nil) (pa_cons pe_int pa_nil)))) rfl)
    (pss_one (ps_fld (pv 0) (pe_lst pa_nil) rfl)))), ?_⟩
  refine ⟨_, rfl, _, rfl, by omega, by omega, ?_⟩
  have three : 3 ≤ sizeLine := by decide
  refine ⟨_, rfl, Nat.zero_le _, fun m nm => ⟨three, fun t nt => ⟨_, rfl, p, C, dx, [], rfl, ?_, T.cl, T.nS, (by show 0 < 1000; decide), Nat.zero_le _, fun c nc => ⟨_, rfl, p, C, dx, putF "_state" (.ref t) [], rfl, ?_, T.cl, T.nC, (by show 1 < 1000; decide), ?_⟩⟩⟩⟩
  all_goals
    have w1 := same_upd (o := .tup []) nm
    have w2 := same_upd (o := .tup [.int (n : Int), .ref m, .int 0]) nt
    have s2 := w1.trans w2
  · exact s2 _ _ hp
  · have pc : p ≠ c := fun z => by rw [← z, upd_same] at nc; cases nc
    rw [upd_ne pc]
    exact upd_same
  · have ht : (upd (upd H m (.tup [])) t (.tup [.int (n : Int), .ref m, .int 0])) t = some (.tup [.int (n : Int), .ref m, .int 0]) := upd_same
    have hm : (upd (upd H m (.tup [])) t (.tup [.int (n : Int), .ref m, .int 0])) m = some (.tup []) := w2 _ _ upd_same
    have hp2 := s2 _ _ hp
    generalize upd (upd H m (.tup [])) t (.tup [.int (n : Int), .ref m, .int 0]) = H2 at nc ht hm hp2 s2 ⊢
    dsimp only at nc ⊢
    have pc : p ≠ c := fun z => by rw [← z, upd_same] at nc; cases nc
    have nc2 : H2 c = none := by rw [upd_ne (fun z => pc z.symm)] at nc; exact nc
    have tp : t ≠ p := ne_of ht hp2 (fun z => by cases z)
    have mp : m ≠ p := ne_of hm hp2 (fun z => by cases z)
    have tc : t ≠ c := ne_of_none ht nc2
    have mc : m ≠ c := ne_of_none hm nc2
    refine q c _ (s2.free nc2) ⟨dx, .ref t, [], upd_same, ⟨t, m, rfl, ?_, ?_⟩, ?_, .nil⟩ fun b o k nb => ?_
    · rw [upd_ne tp, upd_ne tc, upd_ne tp]; exact ht
    · rw [upd_ne mp, upd_ne mc, upd_ne mp]; exact hm
    · rw [upd_ne (fun z => pc z.symm)]; exact upd_same
    · have k2 := s2 _ _ k
      rw [upd_ne nb, upd_ne (ne_of_none k2 nc2), upd_ne nb]
      exact k2
def spPresent (C : Addr) : Sp := fun vs H Q _ => ∃ (p c : Addr) (x : LS) (cs : List (LOp × LS)), vs = [.ref p] ∧ LogAt C H p c x cs ∧ Q (.int (x.1 : Int)) H
theorem ok_log_present {f C : Addr} {fd : FuncData} (F : Fun K "present" "LiveLog.present" sLiveLogPresent f fd) (T : TLog K C) : FnOk P w K mg base CX0 1 f fd ["self"] (spPresent C) := by
  refine F.ok scLiveLogPresent (fun vs H Q E h => ?_) (fun cdv A outer s H vs Q E hr h => ?_)
  · obtain ⟨_, _, _, _, rfl, _⟩ := h
    rfl
  obtain ⟨p, c, x, cs, rfl, ⟨dx, _, vs, hp, ⟨t, m, rfl, ht, hm⟩, hc, hcs⟩, q⟩ := h
  refine ⟨_, (pss_one (ps_ret (pe_ix ix_tup (pe_fld (pv 0) rfl) pe_int (fun _ _ => rfl)))), ?_⟩
  exact ⟨_, rfl, p, C, dx, _, _, rfl, hp, T.cl, T.nS, fldsL_state _ _, t, _, _, _, rfl, rfl, SqT.of ht, atI_nat (j := 0) rfl, q⟩
def spMarks (C : Addr) : Sp := fun vs H Q _ => ∃ (p c : Addr) (x : LS) (cs : List (LOp × LS)), vs = [.ref p] ∧ LogAt C H p c x cs ∧ ∀ (H' : Hp) (r : Addr), Same H H' → H r = none → H' r = some (.lst (natsV x.2.1)) → Q (.ref r) H'
theorem ok_log_marks {f C : Addr} {fd : FuncData} (F : Fun K "marks" "LiveLog.marks" sLiveLogMarks f fd) (T : TLog K C) (z_list : mg "list" = none) : FnOk P w K mg base CX0 1 f fd ["self"] (spMarks C) := by
  refine F.ok scLiveLogMarks (fun vs H Q E h => ?_) (fun cdv A outer s H vs Q E hr h => ?_)
  · obtain ⟨_, _, _, _, rfl, _⟩ := h
    rfl
  obtain ⟨p, c, x, cs, rfl, ⟨dx, _, vs, hp, ⟨t, m, rfl, ht, hm⟩, hc, hcs⟩, q⟩ := h
  refine ⟨_, (pss_one (ps_ret (pe_callTy call_list_of (by rfl) z_list (by decide +kernel) (pa_cons (pe_ix ix_tup (pe_fld (pv 0) rfl) pe_int (fun _ _ => rfl)) pa_nil)))), ?_⟩
  exact ⟨_, rfl, p, C, dx, _, _, rfl, hp, T.cl, T.nS, fldsL_state _ _, t, _, _, _, rfl, rfl, SqT.of ht, atI_nat (j := 1) rfl, m, _, rfl, .inr (SqT.of hm), fun r nr => q _ r (same_upd nr) nr upd_same⟩
def lgood (x : LS) : Prop := 1 ≤ x.1 ∧ x.1 ≤ 10 ^ 30 ∧ x.2.1.length ≤ 1000
def spBehind : Sp := fun vs H Q _ => ∃ (z v u : V) (x : LS) (o : LOp), vs = [z, v, u] ∧ StAt H v x ∧ OpAt H u o ∧ lgood x ∧ lok x o ∧ ∀ (H' : Hp) (r : V), Same H H' → StAt H' r (lafter x o) → Q r H'
theorem ok_log_behind {f g1 g2 g3 g4 : Addr} {fd d1 d2 d3 d4 : FuncData} {t : Tok} (F : Fun K "_behind" "LiveLog._behind" sLiveLogBehind f fd)
    (GCheckNumberBetween : FnOk P w K mg base CX0 3 g1 d1 ["number", "least", "most"] spNumberBetween) (ACheckNumberBetween : At K mg "check_number_between" g1 d1 ["number", "least", "most"])
    (GAppendSums : FnOk P w K mg base CX0 8 g2 d2 ["size", "number"] spAppend) (AAppendSums : At K mg "append_sums" g2 d2 ["size", "number"])
    (GCheckOlder : FnOk P w K mg base CX0 3 g3 d3 ["size", "older"] spCheckOlder) (ACheckOlder : At K mg "check_older" g3 d3 ["size", "older"])
    (GRootSums : FnOk P w K mg base CX0 6 g4 d4 ["size"] spRootSums) (ARootSums : At K mg "root_sums" g4 d4 ["size"])
    (g_MOST_ENTRIES : mg "MOST_ENTRIES" = some (.int 1000000000000000000000000000000 t)) (z_tuple : mg "tuple" = none) : FnOk P w K mg base CX0 9 f fd ["self", "state", "operation"] spBehind := by
  refine F.ok scLiveLogBehind (fun vs H Q E h => ?_) (fun cdv A outer s H vs Q E hr h => ?_)
  · obtain ⟨_, _, _, _, _, rfl, _⟩ := h
    rfl
  obtain ⟨z, v, u, ⟨n, ms, sp⟩, o, rfl, ⟨t, m, rfl, ht, hm⟩, hu, ⟨n1, n30, ml⟩, hok, q⟩ := h
  refine ⟨_, (pss_cons (ps_asg (pv 1) (pg_tup (by rfl) (pgs_cons (pg_name (i := 3) scLiveLogBehind.nd rfl (Or.inl rfl)) (pgs_cons (pg_name (i := 4) scLiveLogBehind.nd rfl (Or.inl rfl)) (pgs_cons (pg_name (i := 5) scLiveLogBehind.nd rfl (Or.inl rfl)) pgs_nil)))))
    (pss_cons (ps_if (pt_cmpR op_eq (pe_ix ix_tup (pv 2) pe_int (fun _ _ => rfl)) pe_str (nomark _))
    (pss_cons (ps_set (i := 6) scLiveLogBehind.nd rfl (Or.inl rfl) (pe_ix ix_tup (pv 2) pe_int (fun _ _ => rfl)))
    (pss_cons (ps_expr (pe_call GCheckNumberBetween (hr.mono (by decide)) rfl ACheckNumberBetween.m ACheckNumberBetween.kp ACheckNumberBetween.b .nil pass0 (pa_cons (pv 6) (pa_cons pe_int (pa_cons (pe_op op_sub (pe_glob (v := .int 1000000000000000000000000000000) rfl g_MOST_ENTRIES ⟨_, rfl⟩) (pv 3)) pa_nil)))))
    (pss_one (ps_ret (pe_tup (pa_cons (pe_op op_add (pv 3) (pv 6)) (pa_cons (pv 4) (pa_cons (pe_op op_add (pv 5) (pe_call GAppendSums (hr.mono (by decide)) rfl AAppendSums.m AAppendSums.kp AAppendSums.b .nil pass0 (pa_cons (pv 3) (pa_cons (pv 6) pa_nil)))) pa_nil))))))))
    pss_nil)
    (pss_cons (ps_if (pt_cmpR op_eq (pe_ix ix_tup (pv 2) pe_int (fun _ _ => rfl)) pe_str (nomark _))
    (pss_cons (ps_set (i := 7) scLiveLogBehind.nd rfl (Or.inr rfl) (pe_ix ix_tup (pv 2) pe_int (fun _ _ => rfl)))
    (pss_cons (ps_expr (pe_call GCheckOlder (hr.mono (by decide)) rfl ACheckOlder.m ACheckOlder.kp ACheckOlder.b .nil pass0 (pa_cons (pv 3) (pa_cons (pv 7) pa_nil))))
    (pss_one (ps_ret (pe_tup (pa_cons (pv 7) (pa_cons (pe_callTy call_tuple_of (by rfl) z_tuple (by decide +kernel) (pa_cons (pe_lc (own := [("mark", 8)]) rfl scLiveLogBehind.nd (pi_tup (pv 4)) (blkOk_by (N := ["self", "state", "operation", "present", "marks", "spent", "number", "size", "mark"]) (sc := defScope sLiveLogBehind) (by decide +kernel)) (fun _ _ _ _ _ => (pg_name (i := 8) scLiveLogBehind.nd rfl (Or.inl rfl))) (fun _ _ _ _ _ => pts_one (pt_cmpR op_le (pv 8) (pv 7) (nomark _))) (fun _ _ _ _ _ => (pv 8))) pa_nil)) (pa_cons (pv 5) pa_nil))))))))
    pss_nil)
    (pss_cons (ps_if (pt_cmpR op_in_seq (pv 3) (pv 4) (by rfl))
    (pss_one (ps_ret (pv 1)))
    pss_nil)
    (pss_one (ps_ret (pe_tup (pa_cons (pv 3) (pa_cons (pe_op op_catA (pv 4) (pe_tup (pa_cons (pv 3) pa_nil))) (pa_cons (pe_op op_add (pv 5) (pe_call GRootSums (hr.mono (by decide)) rfl ARootSums.m ARootSums.kp ARootSums.b .nil pass0 (pa_cons (pv 3) pa_nil))) pa_nil)))))))))), ?_⟩
  dsimp only at ht hm n1 n30 ml
  have three : 3 ≤ sizeLine := by decide
  have one1 : 1 ≤ sizeLine := by decide
  refine ⟨_, rfl, t, _, rfl, SqT.of ht, rfl, _, _, rfl, _, _, rfl, _, _, rfl, rfl, ?_⟩
  cases o with
  | app k =>
    obtain ⟨ot, rfl, hot⟩ := hu
    obtain ⟨k1, k30⟩ := hok
    dsimp only at k30
    refine ⟨_, rfl, ot, _, _, _, rfl, rfl, SqT.of hot, atI_nat (j := 0) rfl, rfl, true, rfl, ?_⟩
    refine ⟨_, rfl, ot, _, _, _, rfl, rfl, SqT.of hot, atI_nat (j := 1) rfl, ?_⟩
    refine ⟨_, rfl, _, rfl, _, _, rfl, rfl, (k : Int), 1, _, rfl, by omega, by omega, ?_⟩
    refine ⟨_, rfl, _, rfl, _, _, rfl, rfl, _, rfl, _, rfl, _, rfl, _, rfl, n, k, rfl, n1, k30, fun H1 s1 => ⟨_, _, rfl, rfl, three, fun r nr => ?_⟩⟩
    have wr := same_upd (o := .tup [.int ((n : Int) + (k : Int)), .ref m, .int (sp + ((k : Int) - ((ones (n + k) : Nat) : Int) + ((ones n : Nat) : Int)))]) nr
    exact q _ (.ref r) (s1.trans wr) ⟨r, m, rfl, upd_same, wr _ _ (s1 _ _ hm)⟩
  | cut k =>
    obtain ⟨ot, rfl, hot⟩ := hu
    obtain ⟨k1, kn⟩ := hok
    dsimp only at kn
    refine ⟨_, rfl, ot, _, _, _, rfl, rfl, SqT.of hot, atI_nat (j := 0) rfl, rfl, false, str_no ne_cut, ?_⟩
    refine ⟨_, rfl, ot, _, _, _, rfl, rfl, SqT.of hot, atI_nat (j := 0) rfl, rfl, true, rfl, ?_⟩
    refine ⟨_, rfl, ot, _, _, _, rfl, rfl, SqT.of hot, atI_nat (j := 1) rfl, ?_⟩
    refine ⟨_, rfl, _, rfl, (n : Int), (k : Int), rfl, by omega, by omega, ?_⟩
    refine ⟨_, rfl, _, rfl, m, rfl, ⟨_, SqT.of hm⟩, fun D nD => ?_⟩
    refine lc_tup (K := K) (a := m) (xs := natsV ms) (fun j H' => Same H H' ∧ H' D = some (.lst (natsV ((ms.take j).filter fun m => decide (m ≤ k))))) ⟨same_upd nD, upd_same⟩ (fun j H' _ ⟨s5, _⟩ => SqT.of (s5 _ _ hm)) ?_ ?_
    · rintro j v H3 hj ⟨s3, hD⟩
      obtain ⟨y, hyj, rfl⟩ := natsV_take hj
      have jl := (List.getElem?_eq_some_iff.mp hyj).1
      refine ⟨rfl, ?_⟩
      rw [take_more hyj, List.filter_append]
      by_cases c : y ≤ k
      · have ef : [y].filter (fun m => decide (m ≤ k)) = [y] := by simp [c]
        rw [ef]
        refine ⟨_, rfl, _, rfl, _, _, rfl, rfl, true, congrArg V.bl (decide_eq_true (by omega)), ?_⟩
        refine ⟨_, rfl, _, hD, szlt (by
          rw [natsV_len]
          have := List.length_filter_le (fun m => decide (m ≤ k)) (ms.take j)
          rw [List.length_take] at this
          omega), ?_, ?_⟩
        · exact fun a o k => by rw [upd_ne (ne_of_none k nD)]; exact s3 _ _ k
        · rw [natsV_app]
          exact upd_same
      · have ef : [y].filter (fun m => decide (m ≤ k)) = [] := by simp [c]
        rw [ef, List.append_nil]
        exact ⟨_, rfl, _, rfl, _, _, rfl, rfl, false, congrArg V.bl (decide_eq_false (by omega)), s3, hD⟩
    rintro H3 ⟨s3, hD⟩
    rw [natsV_len, List.take_length] at hD
    refine ⟨D, _, rfl, .inl ⟨SqL.of hD, fun l nl => ?_⟩⟩
    have wl := same_upd (o := .tup (natsV (ms.filter fun m => decide (m ≤ k)))) nl
    refine ⟨_, rfl, three, fun r nr => ?_⟩
    have wr := same_upd (o := .tup [.int (k : Int), .ref l, .int sp]) nr
    exact q _ (.ref r) (s3.trans (wl.trans wr)) ⟨r, l, rfl, upd_same, wr _ _ upd_same⟩
  | mark =>
    obtain ⟨ot, rfl, hot⟩ := hu
    refine ⟨_, rfl, ot, _, _, _, rfl, rfl, SqT.of hot, atI_nat (j := 0) rfl, rfl, false, str_no ne_mark, ?_⟩
    refine ⟨_, rfl, ot, _, _, _, rfl, rfl, SqT.of hot, atI_nat (j := 0) rfl, rfl, false, str_no ne_mark2, ?_⟩
    refine ⟨_, rfl, _, rfl, m, _, rfl, .inr (SqT.of hm), rfl, natsV_flat ms, ?_⟩
    have eI : (if false = true then !inV (V.int (n : Int)) (natsV ms) else inV (V.int (n : Int)) (natsV ms)) = decide (n ∈ ms) := natsV_in n ms
    rw [eI]
    by_cases c : n ∈ ms
    · rw [decide_eq_true c]
      refine ⟨true, rfl, _, rfl, q H _ (Same.refl H) ?_⟩
      have e : lafter (n, ms, sp) .mark = (n, ms, sp) := if_pos c
      rw [e]
      exact ⟨t, m, rfl, ht, hm⟩
    · rw [decide_eq_false c]
      have e : lafter (n, ms, sp) .mark = (n, ms ++ [n], sp + ((ones n - 1 : Nat) : Int)) := if_neg c
      rw [e] at q
      refine ⟨false, rfl, _, rfl, _, rfl, _, rfl, one1, fun t1 nt1 => ?_⟩
      have w1 := same_upd (o := .tup [.int (n : Int)]) nt1
      have ht1 : (upd H t1 (.tup [.int (n : Int)])) t1 = some (.tup [.int (n : Int)]) := upd_same
      generalize upd H t1 (.tup [.int (n : Int)]) = H1 at w1 ht1 ⊢
      refine ⟨m, t1, natsV ms, [.int (n : Int)], rfl, rfl, SqT.of (w1 _ _ hm), SqT.of ht1, szle (by rw [natsV_len, List.length_singleton]; omega), fun e => ?_, fun _ e => ?_, fun _ _ p np => ?_⟩
      · have e0 : ms = [] := List.map_eq_nil_iff.mp e
        subst e0
        refine ⟨_, rfl, _, rfl, n, rfl, n1, n30, fun H2 s2 => ⟨_, _, rfl, rfl, three, fun r nr => ?_⟩⟩
        have wr := same_upd (o := .tup [.int (n : Int), .ref t1, .int (sp + ((ones n - 1 : Nat) : Int))]) nr
        exact q _ (.ref r) (w1.trans (s2.trans wr)) ⟨r, t1, rfl, upd_same, wr _ _ (s2 _ _ ht1)⟩
      · cases e
      · have wp := same_upd (o := .tup (natsV ms ++ [.int (n : Int)])) np
        refine ⟨_, rfl, _, rfl, n, rfl, n1, n30, fun H2 s2 => ⟨_, _, rfl, rfl, three, fun r nr => ?_⟩⟩
        have wr := same_upd (o := .tup [.int (n : Int), .ref p, .int (sp + ((ones n - 1 : Nat) : Int))]) nr
        exact q _ (.ref r) (w1.trans (wp.trans (s2.trans wr))) ⟨r, p, rfl, upd_same, by rw [natsV_app]; exact wr _ _ (s2 _ _ upd_same)⟩
def spPerform (C : Addr) : Sp := fun vs H Q _ => ∃ (p c : Addr) (x : LS) (cs : List (LOp × LS)) (v : V) (o : LOp), vs = [.ref p, v] ∧ LogAt C H p c x cs ∧ OpAt H v o ∧ lgood x ∧ lok x o ∧ cs.length ≤ 1000 ∧
  ∀ (H' : Hp), ButL p c H H' → LogAt C H' p c (lafter x o) (cs ++ [(o, x)]) → Q .non H'
theorem no_behind : ¬ ("_behind" : Str) = "_calls" ∧ ¬ ("_behind" : Str) = "_state" := by decide +kernel
theorem no_perform : ¬ ("_perform" : Str) = "_calls" ∧ ¬ ("_perform" : Str) = "_state" := by decide +kernel
theorem ok_log_perform {f g1 C : Addr} {fd d1 : FuncData} (F : Fun K "_perform" "LiveLog._perform" sLiveLogPerform f fd) (TLiveLog : TLog K C)
    (GLiveLogBehind : FnOk P w K mg base CX0 9 g1 d1 ["self", "state", "operation"] spBehind) (MLiveLogBehind : Meth K C "_behind" g1) (BLiveLogBehind : Binds K d1 ["self", "state", "operation"] []) : FnOk P w K mg base CX0 10 f fd ["self", "operation"] (spPerform C) := by
  refine F.ok scLiveLogPerform (fun vs H Q E h => ?_) (fun cdv A outer s H vs Q E hr h => ?_)
  · obtain ⟨_, _, _, _, _, _, rfl, _⟩ := h
    rfl
  obtain ⟨p, c, x, cs, v, o, rfl, hL, ho, hg, hok, hl, q⟩ := h
  refine ⟨_, (pss_cons (ps_set (i := 2) scLiveLogPerform.nd rfl (Or.inl rfl) (pe_meth (pv 0) TLiveLog.cl MLiveLogBehind GLiveLogBehind (hr.mono (by decide)) BLiveLogBehind .nil pass0 (pa_cons (pe_fld (pv 0) rfl) (pa_cons (pv 1) pa_nil))))
    (pss_cons (ps_expr (pe_bm PySem.F.plainAttrs_list PySem.F.slot_list_append PySem.F.type_list_append mt_append (pe_fld (pv 0) rfl) (pa_cons (pe_tup (pa_cons (pv 1) (pa_cons (pe_fld (pv 0) rfl) pa_nil))) pa_nil)))
    (pss_one (ps_fld (pv 0) (pv 2) rfl)))), ?_⟩
  have two : 2 ≤ sizeLine := by decide
  obtain ⟨dx, sv, vs, hp, hst, hc, hcs⟩ := id hL
  refine ⟨_, rfl, p, dx, _, rfl, hp, fldsL_no _ _ no_behind.1 no_behind.2, ?_⟩
  refine ⟨_, rfl, p, C, dx, _, _, rfl, hp, TLiveLog.cl, TLiveLog.nS, fldsL_state _ _, _, rfl, _, sv, v, x, o, rfl, hst, ho, hg, hok, fun H1 r s1 hr1 => ?_⟩
  have hp1 := s1 _ _ hp
  have hc1 := s1 _ _ hc
  have hcs1 := hcs.mono fun v x (k : CallAt H v x) => k.same s1
  have hst1 := hst.same s1
  have ho1 := ho.same s1
  have cl := hcs.len
  refine ⟨_, rfl, p, C, dx, _, _, rfl, hp1, TLiveLog.cl, TLiveLog.nC, fldsL_calls _ _, .inl ⟨rfl, _, SqL.of hc1⟩, _, rfl, _, rfl, p, C, dx, _, _, rfl, hp1, TLiveLog.cl, TLiveLog.nS, fldsL_state _ _, two, fun t nt => ⟨c, _, _, rfl, rfl, same_upd nt _ _ hc1, szlt (by omega), ?_⟩⟩
  have wt := same_upd (o := .tup [v, sv]) nt
  have htt : (upd H1 t (.tup [v, sv])) t = some (.tup [v, sv]) := upd_same
  have hp2 := wt _ _ hp1
  have hc2 := wt _ _ hc1
  have hr2 := hr1.same wt
  have hcs2 : All2 (CallAt (upd H1 t (.tup [v, sv]))) (vs ++ [.ref t]) (cs ++ [(o, x)]) := (hcs1.mono fun v x (k : CallAt H1 v x) => k.same wt).app (.cons ⟨t, v, sv, rfl, htt, ho1.same wt, hst1.same wt⟩ .nil)
  have s2 := s1.trans wt
  generalize upd H1 t (.tup [v, sv]) = H2 at htt hp2 hc2 hr2 hcs2 s2 ⊢
  have pc : p ≠ c := hL.ne
  have hp3 : (upd H2 c (.lst (vs ++ [.ref t]))) p = some (.ins C dx (fldsL sv c)) := by rw [upd_ne pc]; exact hp2
  refine ⟨_, rfl, _, rfl, p, C, dx, _, rfl, hp3, TLiveLog.cl, TLiveLog.nS, (by rw [fldsL_eq]; show 2 < 1000; decide), ?_⟩
  rw [fldsL_put]
  have T3 : Tups H2 (upd (upd H2 c (.lst (vs ++ [.ref t]))) p (.ins C dx (fldsL r c))) := fun a xs k => by
    rw [upd_ne (ne_of k hp2 (fun z => by cases z)), upd_ne (ne_of k hc2 (fun z => by cases z))]
    exact k
  refine q _ (fun b ob k nb nc => ?_) ⟨dx, r, vs ++ [.ref t], upd_same, hr2.tups T3, ?_, hcs2.mono fun v x (k : CallAt H2 v x) => k.tups T3⟩
  · rw [upd_ne nb, upd_ne nc]
    exact s2 _ _ k
  · rw [upd_ne (fun z => pc z.symm)]
    exact upd_same
def spCallL (C : Addr) (mkop : Nat → LOp) (few : Bool) : Sp := fun vs H Q _ => ∃ (p c : Addr) (x : LS) (cs : List (LOp × LS)) (k : Nat), vs = (if few then [.ref p] else [.ref p, .int (k : Int)]) ∧ LogAt C H p c x cs ∧ lgood x ∧ lok x (mkop k) ∧ cs.length ≤ 1000 ∧
  ∀ (H' : Hp), ButL p c H H' → LogAt C H' p c (lafter x (mkop k)) (cs ++ [(mkop k, x)]) → Q .non H'
theorem ok_log_append {f g1 C : Addr} {fd d1 : FuncData} (F : Fun K "append" "LiveLog.append" sLiveLogAppend f fd) (TLiveLog : TLog K C)
    (GLiveLogPerform : FnOk P w K mg base CX0 10 g1 d1 ["self", "operation"] (spPerform C)) (MLiveLogPerform : Meth K C "_perform" g1) (BLiveLogPerform : Binds K d1 ["self", "operation"] []) : FnOk P w K mg base CX0 11 f fd ["self", "number"] (spCallL C .app false) := by
  refine F.ok scLiveLogAppend (fun vs H Q E h => ?_) (fun cdv A outer s H vs Q E hr h => ?_)
  · obtain ⟨_, _, _, _, _, rfl, _⟩ := h
    rfl
  obtain ⟨p, c, x, cs, k, rfl, hL, hg, hok, hl, q⟩ := h
  refine ⟨_, (pss_one (ps_expr (pe_meth (pv 0) TLiveLog.cl MLiveLogPerform GLiveLogPerform (hr.mono (by decide)) BLiveLogPerform .nil pass0 (pa_cons (pe_tup (pa_cons pe_str (pa_cons (pv 1) pa_nil))) pa_nil)))), ?_⟩
  have two : 2 ≤ sizeLine := by decide
  obtain ⟨dx, sv, vs, hp, _⟩ := id hL
  refine ⟨_, rfl, p, dx, _, rfl, hp, fldsL_no _ _ no_perform.1 no_perform.2, _, rfl, two, fun t nt => ?_⟩
  have wt := same_upd (o := .tup [.str "append", .int (k : Int)]) nt
  exact ⟨p, c, x, cs, .ref t, .app k, rfl, hL.same wt, ⟨t, rfl, upd_same⟩, hg, hok, hl, fun H' B hL' => q H' ((ButL.of wt).trans B) hL'⟩
theorem ok_log_mark {f g1 C : Addr} {fd d1 : FuncData} (F : Fun K "mark" "LiveLog.mark" sLiveLogMark f fd) (TLiveLog : TLog K C)
    (GLiveLogPerform : FnOk P w K mg base CX0 10 g1 d1 ["self", "operation"] (spPerform C)) (MLiveLogPerform : Meth K C "_perform" g1) (BLiveLogPerform : Binds K d1 ["self", "operation"] []) : FnOk P w K mg base CX0 11 f fd ["self"] (spCallL C (fun _ => .mark) true) := by
  refine F.ok scLiveLogMark (fun vs H Q E h => ?_) (fun cdv A outer s H vs Q E hr h => ?_)
  · obtain ⟨_, _, _, _, _, rfl, _⟩ := h
    rfl
  obtain ⟨p, c, x, cs, k, rfl, hL, hg, hok, hl, q⟩ := h
  refine ⟨_, (pss_one (ps_expr (pe_meth (pv 0) TLiveLog.cl MLiveLogPerform GLiveLogPerform (hr.mono (by decide)) BLiveLogPerform .nil pass0 (pa_cons (pe_tup (pa_cons pe_str pa_nil)) pa_nil)))), ?_⟩
  have one1 : 1 ≤ sizeLine := by decide
  obtain ⟨dx, sv, vs, hp, _⟩ := id hL
  refine ⟨_, rfl, p, dx, _, rfl, hp, fldsL_no _ _ no_perform.1 no_perform.2, one1, fun t nt => ?_⟩
  have wt := same_upd (o := .tup [.str "mark"]) nt
  exact ⟨p, c, x, cs, .ref t, .mark, rfl, hL.same wt, ⟨t, rfl, upd_same⟩, hg, hok, hl, fun H' B hL' => q H' ((ButL.of wt).trans B) hL'⟩
end
end LT

namespace LT
open PySem PySem.Spec PyProof.Rows L2
/-! ### what is shown fits -/
def small (x : Nat × Nat) : Prop := x.1 ≤ 1000 ∧ x.2 ≤ 1000
theorem int_short {a : Nat} (h : a ≤ 1000000) : (PyData.shown (.int ((a : Nat) : Int))).length ≤ 13 := PyData.shown_int_le (by show a < 10 ^ 12; omega)
theorem int_weight {a : Nat} (h : a ≤ 1000000) : PyData.weight (.int ((a : Nat) : Int)) ≤ 20 := by
  show (if ((a : Nat) : Int) == 0 then 0 else ((a : Nat) : Int).natAbs.log2 + 1) ≤ 20
  split
  · omega
  · rename_i z
    have : ((a : Nat) : Int).natAbs = a := rfl
    rw [this]
    have a0 : a ≠ 0 := fun e => z (by subst e; rfl)
    have := (Nat.log2_lt (k := 20) a0).mpr (by omega)
    omega
theorem nds_short : ∀ l : List (Nat × Nat), (∀ x ∈ l, small x) → PyData.intsShortAll 13 (l.map nd) = true
  | [], _ => rfl
  | x :: l, h => by
    have hx := h x List.mem_cons_self
    simp only [List.map_cons, PyData.intsShortAll, nd, PyData.intsShort, Bool.and_eq_true, decide_eq_true_eq, Bool.and_true]
    exact ⟨⟨int_short (by have := hx.1; omega), int_short (by have := hx.2; omega)⟩, nds_short l fun y hy => h y (List.mem_cons_of_mem _ hy)⟩
theorem nds_weight : ∀ l : List (Nat × Nat), (∀ x ∈ l, small x) → PyData.weightAll (l.map nd) ≤ 43 * l.length
  | [], _ => Nat.le_refl _
  | x :: l, h => by
    have hx := h x List.mem_cons_self
    have ih := nds_weight l fun y hy => h y (List.mem_cons_of_mem _ hy)
    have w1 := int_weight (a := x.1) (by have := hx.1; omega)
    have w2 := int_weight (a := x.2) (by have := hx.2; omega)
    have e : PyData.weightAll ((x :: l).map nd) = (PyData.weight (.int ((x.1 : Nat) : Int)) + 1 + (PyData.weight (.int ((x.2 : Nat) : Int)) + 1 + 0)) + 1 + PyData.weightAll (l.map nd) := by
      simp only [List.map_cons, PyData.weightAll, nd, PyData.weight]
    rw [e, List.length_cons]
    omega
theorem nds_fits (l : List (Nat × Nat)) (h : ∀ x ∈ l, small x) (hl : l.length ≤ 1000) : (PyData.list (l.map nd)).shown.length ≤ sizeLine := by
  have w := nds_weight l h
  refine PyData.shown_fits (B := 13) (by decide) (by decide) (PyData.leavesShort_of_canLay0 13 _ ?_ ?_) ?_
  · simp only [PyData.canLay0]
    exact nds_lay l
  · simp only [PyData.intsShort]
    exact nds_short l h
  · show PyData.weightAll (l.map nd) ≤ 2 ^ 20
    omega
theorem nds_showable : ∀ l : List (Nat × Nat), (∀ x ∈ l, small x) → PyData.showableAll (l.map nd) = true
  | [], _ => rfl
  | x :: l, h => by
    have hx := h x List.mem_cons_self
    simp only [List.map_cons, PyData.showableAll, nd, PyData.showable, Bool.and_eq_true, Bool.and_true]
    exact ⟨⟨decide_eq_true (Nat.lt_of_le_of_lt (Nat.log2_le_self _) (by have := hx.1; show ((x.1 : Nat) : Int).natAbs < 1920; omega)), decide_eq_true (Nat.lt_of_le_of_lt (Nat.log2_le_self _) (by have := hx.2; show ((x.2 : Nat) : Int).natAbs < 1920; omega))⟩, nds_showable l fun y hy => h y (List.mem_cons_of_mem _ hy)⟩
def nats (l : List Nat) : List PyData := l.map fun a => .int ((a : Nat) : Int)
theorem nats_short : ∀ l : List Nat, (∀ x ∈ l, x ≤ 1000) → PyData.intsShortAll 13 (nats l) = true
  | [], _ => rfl
  | x :: l, h => by
    have hx := h x List.mem_cons_self
    simp only [nats, List.map_cons, PyData.intsShortAll, PyData.intsShort, Bool.and_eq_true, decide_eq_true_eq]
    exact ⟨int_short (by omega), nats_short l fun y hy => h y (List.mem_cons_of_mem _ hy)⟩
theorem nats_weight : ∀ l : List Nat, (∀ x ∈ l, x ≤ 1000) → PyData.weightAll (nats l) ≤ 21 * l.length
  | [], _ => Nat.le_refl _
  | x :: l, h => by
    have hx := h x List.mem_cons_self
    have ih := nats_weight l fun y hy => h y (List.mem_cons_of_mem _ hy)
    have w1 := int_weight (a := x) (by omega)
    have e : PyData.weightAll (nats (x :: l)) = PyData.weight (.int ((x : Nat) : Int)) + 1 + PyData.weightAll (nats l) := by
      simp only [nats, List.map_cons, PyData.weightAll]
    rw [e, List.length_cons]
    omega
theorem nats_lay (l : List Nat) : PyData.canLayAll0 (nats l) = true := by
  unfold nats
  have := ints_lay (l.map fun a => ((a : Nat) : Int))
  rw [List.map_map] at this
  exact this
theorem nats_shaped (l : List Nat) : SeqAt.shaped (.list (nats l)) = true := by
  have := ints_shaped (l.map fun a => ((a : Nat) : Int))
  rw [List.map_map] at this
  exact this
theorem nats_dp {K : PySem.W.Frag} {H : Hp} (l : List Nat) : DpAll K H (l.map fun a => V.int ((a : Nat) : Int)) (nats l) := by
  have := ints_dp (K := K) (H := H) (l.map fun a => ((a : Nat) : Int))
  rw [List.map_map, List.map_map] at this
  exact this
theorem nats_fits (l : List Nat) (h : ∀ x ∈ l, x ≤ 1000) (hl : l.length ≤ 1000) : (PyData.list (nats l)).shown.length ≤ sizeLine := by
  have w := nats_weight l h
  refine PyData.shown_fits (B := 13) (by decide) (by decide) (PyData.leavesShort_of_canLay0 13 _ ?_ ?_) ?_
  · simp only [PyData.canLay0]
    exact nats_lay l
  · simp only [PyData.intsShort]
    exact nats_short l h
  · show PyData.weightAll (nats l) ≤ 2 ^ 20
    omega
theorem nats_showable : ∀ l : List Nat, (∀ x ∈ l, x ≤ 1000) → PyData.showableAll (nats l) = true
  | [], _ => rfl
  | x :: l, h => by
    have hx := h x List.mem_cons_self
    simp only [nats, List.map_cons, PyData.showableAll, PyData.showable, Bool.and_eq_true]
    exact ⟨decide_eq_true (Nat.lt_of_le_of_lt (Nat.log2_le_self _) (by show ((x : Nat) : Int).natAbs < 1920; omega)), nats_showable l fun y hy => h y (List.mem_cons_of_mem _ hy)⟩
/-- a whole number and a pair of them -/
def numPair (a b c : Nat) : PyData := .list [.int ((a : Nat) : Int), .tuple [.int ((b : Nat) : Int), .int ((c : Nat) : Int)]]
theorem numPair_shaped (a b c : Nat) : SeqAt.shaped (numPair a b c) = true := by
  show (PyData.canLay0 _ && decide (PyData.depth _ ≤ 64)) = true
  simp [numPair, PyData.canLay0, PyData.canLayAll0, PyData.depth, PyData.depthAll]
theorem numPair_showable {a b c : Nat} (h1 : a ≤ 1000000) (h2 : b ≤ 1000) (h3 : c ≤ 1000) : (numPair a b c).showable = true := by
  simp only [numPair, PyData.showable, PyData.showableAll, Bool.and_eq_true, Bool.and_true]
  have big : ∀ x : Nat, x ≤ 1000000 → decide (((x : Nat) : Int).natAbs.log2 < 1920) = true := fun x hx => decide_eq_true (by
    show x.log2 < 1920
    by_cases z : x = 0
    · subst z; decide
    · have := (Nat.log2_lt (k := 20) z).mpr (by omega)
      omega)
  exact ⟨big a h1, big b (by omega), big c (by omega)⟩
theorem numPair_fits {a b c : Nat} (h1 : a ≤ 1000000) (h2 : b ≤ 1000) (h3 : c ≤ 1000) : (numPair a b c).shown.length ≤ sizeLine := by
  have w1 := int_weight h1
  have w2 := int_weight (a := b) (by omega)
  have w3 := int_weight (a := c) (by omega)
  refine PyData.shown_fits (B := 13) (by decide) (by decide) (PyData.leavesShort_of_canLay0 13 _ ?_ ?_) ?_
  · simp [numPair, PyData.canLay0, PyData.canLayAll0]
  · simp only [numPair, PyData.intsShort, PyData.intsShortAll, Bool.and_eq_true, decide_eq_true_eq, Bool.and_true]
    exact ⟨int_short h1, int_short (by omega), int_short (by omega)⟩
  · have e : (numPair a b c).weight = PyData.weight (.int ((a : Nat) : Int)) + 1 + ((PyData.weight (.int ((b : Nat) : Int)) + 1 + (PyData.weight (.int ((c : Nat) : Int)) + 1 + 0)) + 1 + 0) := by
      simp only [numPair, PyData.weight, PyData.weightAll]
    rw [e]
    omega
/-! ### repr of single values -/
def reprS : V → Str
  | .int i => toString i
  | .bl b => if b then "True" else "False"
  | _ => "None"
def reprOk : V → Prop
  | .int i => i.natAbs.log2 < 1920
  | .bl _ => True
  | .non => True
  | _ => False
theorem call_reprS {X : Cx} : CallR X (.builtin "repr") (fun xs H Q => ∃ v, xs = [v] ∧ reprOk v ∧ Q (.str (reprS v)) H) := by
  intro pins s σ H xs us Q I r h
  obtain ⟨v, rfl, ok, q⟩ := h
  cases v with
  | int i =>
    obtain ⟨u, rfl, t, rfl⟩ := vals1 r
    exact PySem.P.repr_of_int ok ⟨.str _, H, I.tok _, ⟨_, rfl⟩, q⟩
  | bl b =>
    obtain ⟨u, rfl, e⟩ := vals1 r
    cases (show u = Value.bool b from e)
    exact PySem.P.repr_of_bool ⟨.str _, H, I.tok _, ⟨_, rfl⟩, q⟩
  | non =>
    obtain ⟨u, rfl, e⟩ := vals1 r
    cases (show u = Value.none from e)
    exact PySem.P.repr_of_none ⟨.str _, H, I.tok _, ⟨_, rfl⟩, q⟩
  | str _ => exact ok.elim
  | byt _ => exact ok.elim
  | flt _ => exact ok.elim
  | ref _ => exact ok.elim
  | ty _ => exact ok.elim
end LT

namespace LT
open PySem PySem.Spec PyProof.Rows L2
section
variable {X : Cx} {o : Expr} {f : Str} {pos : Pos} {to : TE}
/-- an attribute as a target within others -/
def gFld (K : PySem.W.Frag) (to : TE) (f : Str) : TG := fun v σ H Q => to σ H fun x H1 => ∃ (a C dx : Addr) (fs : List (Str × V)), x = .ref a ∧ H1 a = some (.ins C dx fs) ∧ Cls K C ∧ NoAttr K C f ∧ fs.length < 1000 ∧ Q σ (upd H1 a (.ins C dx (putF f v fs)))
theorem pg_fld (ho : PE X o to) : PG X (.Attribute o f pos) (gFld X.K to f) := by
  refine ⟨fun pins s σ H v u Q I r h => ?_⟩
  rw [assign_Attribute]
  refine wpAny_bind (wpAny_holding (thn (ho.run pins s σ H _ I h) fun ov s1 ⟨x, H1, I1, r1, q1⟩ => ?_))
  obtain ⟨a, C, dx, fs, ex, ea, c, n, l, q2⟩ := q1
  subst ex
  obtain rfl : ov = Value.ref a := r1
  refine wpAny_bind (wpAny_standAt (wpAny_bind (wpAny_holding (setattr_ok I1 ea c n l r fun s2 I2 => ?_))))
  exact wpAny_release ⟨σ, _, I2, q2⟩
end
end LT

namespace LT
open PySem PySem.Spec PyProof.Rows L2
/-- what the top tells of the classes for isinstance -/
structure TIs (K : PySem.W.Frag) (C D : Addr) : Prop where
  ha : PySem.W.findIn K (.ref C) "__class__" = some (some (.builtin "object.__class__"))
  hn : PySem.W.specialIn K (.builtin "object.__class__") "__get__" = some (some (.builtin "getset_descriptor.__get__"))
  htk : PySem.W.takesIn K (.builtin "object.__class__") = some true
  hm : PySem.W.mroIn K C (.type "object") = some true
  kC : PySem.W.kitOne K (.ref C) (.ref C) = some true
  kD : PySem.W.kitOne K (.ref C) (.ref D) = some false
def stD (x : LS) : PyData := .tuple [.int (x.1 : Int), .tuple (nats x.2.1), .int x.2.2]
theorem stD_shaped (x : LS) : SeqAt.shaped (stD x) = true := by
  have a := nats_lay x.2.1
  have b : PyData.depthAll (nats x.2.1) ≤ 1 := by
    have := ints_depth (x.2.1.map fun a => ((a : Nat) : Int))
    rw [List.map_map] at this
    exact this
  show (PyData.canLay0 _ && decide (PyData.depth _ ≤ 64)) = true
  rw [Bool.and_eq_true]
  refine ⟨by simp only [stD, PyData.canLay0, PyData.canLayAll0, a, Bool.and_true, Bool.true_and], decide_eq_true ?_⟩
  simp only [stD, PyData.depth, PyData.depthAll]
  omega
theorem nats_reflA : ∀ l : List Nat, PyData.eqvAll (nats l) (nats l) = true := by
  intro l
  induction l with
  | nil => simp only [nats, List.map_nil, PyData.eqvAll]
  | cons a t ih =>
    unfold nats at ih ⊢
    simp only [List.map_cons, PyData.eqvAll, PyData.eqv, ih, Bool.and_true, beq_self_eq_true]
theorem stD_refl (x : LS) : PyData.eqv (stD x) (stD x) = true := by
  simp only [stD, PyData.eqv, PyData.eqvAll, nats_reflA, beq_self_eq_true, Bool.and_true]
theorem StAt.dp {K : PySem.W.Frag} {H : Hp} {v : V} {x : LS} (h : StAt H v x) : Dp K H v (stD x) := by
  obtain ⟨t, m, rfl, a, b⟩ := h
  exact .tup (SqT.of a) (.cons (.int _) (.cons (.tup (SqT.of b) (nats_dp x.2.1)) (.cons (.int _) .nil)))
theorem LogAt.lst {C : Addr} {H : Hp} {p c : Addr} {x : LS} {cs : List (LOp × LS)} (h : LogAt C H p c x cs) : ∃ dx fs, H p = some (.ins C dx fs) ∧ (∀ m : Str, (¬ m = "_calls" ∧ ¬ m = "_state") → fs.lookup m = none) ∧ ∃ vs, H c = some (.lst vs) := by
  obtain ⟨dx, v, vs, a, b, d, e⟩ := h
  exact ⟨dx, _, a, fun m k => fldsL_no _ _ k.1 k.2, vs, d⟩
theorem LogAt.off {C : Addr} {H H' : Hp} {p c q : Addr} {x : LS} {cs : List (LOp × LS)} {ys : List V} (h : LogAt C H p c x cs) (k : ∀ a, a ≠ q → H' a = H a) (hq : H q = some (.lst ys)) (cq : c ≠ q) : LogAt C H' p c x cs := by
  obtain ⟨dx, v, vs, a, b, d, e⟩ := h
  have T : Tups H H' := fun a xs e => by rw [k a (ne_of e hq (fun z => by cases z))]; exact e
  exact ⟨dx, v, vs, by rw [k p (ne_of a hq (fun z => by cases z))]; exact a, b.tups T, by rw [k c cq]; exact d, e.mono fun v x (k : CallAt H v x) => k.tups T⟩
/-- one log stays where another one changes -/
theorem LogAt.other {C : Addr} {H H' : Hp} {p c p' c' : Addr} {x x' : LS} {cs cs' : List (LOp × LS)} (h : LogAt C H p c x cs) (h' : LogAt C H p' c' x' cs') (k : ButL p' c' H H') (pp : p ≠ p') (cc : c ≠ c') : LogAt C H' p c x cs := by
  have T := k.tups h'
  obtain ⟨dx, v, vs, a, b, d, e⟩ := h
  obtain ⟨dx', v', vs', a', b', d', e'⟩ := h'
  exact ⟨dx, v, vs, k _ _ a pp (ne_of a d' (fun z => by cases z)), b.tups T, k _ _ d (ne_of d a' (fun z => by cases z)) cc, e.mono fun v x (k : CallAt H v x) => k.tups T⟩
section
variable {P : Program} {w : World} {K : PySem.W.Frag} {mg : Str → Option Value} {base : Heap}
def spSpent (C : Addr) : Sp := fun vs H Q _ => ∃ (p c : Addr) (x : LS) (cs : List (LOp × LS)), vs = [.ref p] ∧ LogAt C H p c x cs ∧ Q (.int x.2.2) H
theorem ok_log_spent {f C : Addr} {fd : FuncData} (F : Fun K "spent" "LiveLog.spent" sLiveLogSpent f fd) (T : TLog K C) : FnOk P w K mg base CX0 1 f fd ["self"] (spSpent C) := by
  refine F.ok scLiveLogSpent (fun vs H Q E h => ?_) (fun cdv A outer s H vs Q E hr h => ?_)
  · obtain ⟨_, _, _, _, rfl, _⟩ := h
    rfl
  obtain ⟨p, c, x, cs, rfl, ⟨dx, _, vs, hp, ⟨t, m, rfl, ht, hm⟩, hc, hcs⟩, q⟩ := h
  refine ⟨_, (pss_one (ps_ret (pe_ix ix_tup (pe_fld (pv 0) rfl) pe_int (fun _ _ => rfl)))), ?_⟩
  exact ⟨_, rfl, p, C, dx, _, _, rfl, hp, T.cl, T.nS, fldsL_state _ _, t, _, _, _, rfl, rfl, SqT.of ht, atI_nat (j := 2) rfl, q⟩
theorem ok_log_cut {f g1 C : Addr} {fd d1 : FuncData} (F : Fun K "cut" "LiveLog.cut" sLiveLogCut f fd) (TLiveLog : TLog K C)
    (GLiveLogPerform : FnOk P w K mg base CX0 10 g1 d1 ["self", "operation"] (spPerform C)) (MLiveLogPerform : Meth K C "_perform" g1) (BLiveLogPerform : Binds K d1 ["self", "operation"] []) : FnOk P w K mg base CX0 11 f fd ["self", "size"] (spCallL C .cut false) := by
  refine F.ok scLiveLogCut (fun vs H Q E h => ?_) (fun cdv A outer s H vs Q E hr h => ?_)
  · obtain ⟨_, _, _, _, _, rfl, _⟩ := h
    rfl
  obtain ⟨p, c, x, cs, k, rfl, hL, hg, hok, hl, q⟩ := h
  refine ⟨_, (pss_one (ps_expr (pe_meth (pv 0) TLiveLog.cl MLiveLogPerform GLiveLogPerform (hr.mono (by decide)) BLiveLogPerform .nil pass0 (pa_cons (pe_tup (pa_cons pe_str (pa_cons (pv 1) pa_nil))) pa_nil)))), ?_⟩
  have two : 2 ≤ sizeLine := by decide
  obtain ⟨dx, sv, vs, hp, _⟩ := id hL
  refine ⟨_, rfl, p, dx, _, rfl, hp, fldsL_no _ _ no_perform.1 no_perform.2, _, rfl, two, fun t nt => ?_⟩
  have wt := same_upd (o := .tup [.str "cut", .int (k : Int)]) nt
  exact ⟨p, c, x, cs, .ref t, .cut k, rfl, hL.same wt, ⟨t, rfl, upd_same⟩, hg, hok, hl, fun H' B hL' => q H' ((ButL.of wt).trans B) hL'⟩
def spLog (C : Addr) : Sp := fun vs H Q _ => ∃ (p c : Addr) (x : LS) (cs : List (LOp × LS)), vs = [.ref p] ∧ LogAt C H p c x cs ∧ cs.length ≤ 1000 ∧
  ∀ (H' : Hp) (r : Addr) (ys : List V), Same H H' → H r = none → H' r = some (.lst ys) → All2 (OpAt H') ys (cs.map (·.1)) → Q (.ref r) H'
theorem OpAt.updL {H : Hp} {v : V} {o : LOp} {s : Addr} {xs : List V} {ob : HO} (h : OpAt H v o) (hs : H s = some (.lst xs)) : OpAt (upd H s ob) v o := by
  cases o <;> (obtain ⟨t, e, a⟩ := h; exact ⟨t, e, by rw [upd_ne (ne_of a hs (fun z => by cases z))]; exact a⟩)
theorem ok_log_log {f C : Addr} {fd : FuncData} (F : Fun K "log" "LiveLog.log" sLiveLogLog f fd) (T : TLog K C) : FnOk P w K mg base CX0 1 f fd ["self"] (spLog C) := by
  refine F.ok scLiveLogLog (fun vs H Q E h => ?_) (fun cdv A outer s H vs Q E hr h => ?_)
  · obtain ⟨_, _, _, _, rfl, _⟩ := h
    rfl
  obtain ⟨p, c, x, cs, rfl, ⟨dx, sv, vs, hp, hst, hc, hcs⟩, hl, q⟩ := h
  refine ⟨_, (pss_one (ps_ret (pe_lc (own := [("operation", 1), ("_", 2)]) rfl scLiveLogLog.nd (pi_list (pe_fld (pv 0) rfl)) (blkOk_by (N := ["self", "operation", "_"]) (sc := defScope sLiveLogLog) (by decide +kernel)) (fun _ _ _ _ _ => (pg_tupB (n := 2) rfl (pgs_cons (pg_name (i := 1) scLiveLogLog.nd rfl (Or.inl rfl)) (pgs_cons (pg_name (i := 2) scLiveLogLog.nd rfl (Or.inl rfl)) pgs_nil)))) (fun _ _ _ _ _ => pts_nil) (fun _ _ _ _ _ => (pv 1))))), ?_⟩
  refine ⟨_, rfl, p, C, dx, _, _, rfl, hp, T.cl, T.nC, fldsL_calls _ _, c, rfl, ⟨_, SqL.of hc⟩, fun D nD => ?_⟩
  refine lc_list (K := K) (a := c) (xs := vs) (fun j H' => ∃ zs : List V, Same H H' ∧ H' D = some (.lst zs) ∧ All2 (OpAt H') zs ((cs.take j).map (·.1))) ⟨[], same_upd nD, upd_same, .nil⟩ (fun j H' _ ⟨_, s1, _⟩ => SqL.of (s1 _ _ hc)) ?_ ?_
  · rintro j v H1 hj ⟨zs, s1, hD, hz⟩
    obtain ⟨y, hyj, hy⟩ := hcs.nth hj
    have jl := (List.getElem?_eq_some_iff.mp hyj).1
    obtain ⟨t, o, st, rfl, ht, ho, _⟩ := hy.same s1
    refine ⟨t, _, rfl, SqT.of ht, rfl, _, _, rfl, _, _, rfl, rfl, rfl, ?_⟩
    refine ⟨_, rfl, zs, hD, szlt (by rw [hz.len, List.length_map, List.length_take]; omega), zs ++ [o], ?_, upd_same, ?_⟩
    · exact fun a ob k => by rw [upd_ne (ne_of_none k nD)]; exact s1 _ _ k
    · rw [take_more hyj, List.map_append]
      exact (hz.mono fun v x (k : OpAt H1 v x) => k.updL hD).app (.cons (ho.updL hD) .nil)
  rintro H1 ⟨zs, s1, hD, hz⟩
  rw [hcs.len, List.take_length] at hz
  exact q H1 D zs s1 nD hD hz
def spUndo (C : Addr) : Sp := fun vs H Q _ => ∃ (p c : Addr) (x y : LS) (cs : List (LOp × LS)) (o : LOp), vs = [.ref p] ∧ LogAt C H p c x (cs ++ [(o, y)]) ∧ ∀ (H' : Hp), ButL p c H H' → LogAt C H' p c y cs → Q .non H'
theorem All2.last {α : Type} {R : V → α → Prop} : ∀ {vs : List V} {us : List α} {x : α}, All2 R vs (us ++ [x]) → ∃ vs' v, vs = vs' ++ [v] ∧ All2 R vs' us ∧ R v x
  | _, [], _, .cons h .nil => ⟨[], _, rfl, .nil, h⟩
  | _, u :: us, x, .cons h t => by
    obtain ⟨vs', v, e, a, r⟩ := All2.last t
    exact ⟨_ :: vs', v, by rw [e]; rfl, .cons h a, r⟩
theorem ok_log_undo {f C : Addr} {fd : FuncData} (F : Fun K "undo" "LiveLog.undo" sLiveLogUndo f fd) (T : TLog K C) : FnOk P w K mg base CX0 1 f fd ["self"] (spUndo C) := by
  refine F.ok scLiveLogUndo (fun vs H Q E h => ?_) (fun cdv A outer s H vs Q E hr h => ?_)
  · obtain ⟨_, _, _, _, _, _, rfl, _⟩ := h
    rfl
  obtain ⟨p, c, x, y, cs, o, rfl, hL, q⟩ := h
  have pc := hL.ne
  obtain ⟨dx, sv, vs, hp, hst, hc, hcs⟩ := hL
  obtain ⟨vs', v, rfl, hcs', hv⟩ := hcs.last
  obtain ⟨t, ov, st, rfl, ht, ho, hst'⟩ := hv
  refine ⟨_, (pss_cons (ps_if (pt_not (pt_truth (pe_fld (pv 0) rfl) (fun _ => rfl)))
    (pss_one ps_never)
    pss_nil)
    (pss_one (ps_asg (pe_bm0 PySem.F.plainAttrs_list PySem.F.slot_list_pop PySem.F.type_list_pop mt_pop (pe_fld (pv 0) rfl)) (pg_tup (by rfl) (pgs_cons (pg_name (i := 1) scLiveLogUndo.nd rfl (Or.inl rfl)) (pgs_cons (pg_fld (pv 0)) pgs_nil)))))), ?_⟩
  have te : (!(vs' ++ [V.ref t]).isEmpty) = true := by cases vs' <;> rfl
  have ixe : (vs' ++ [V.ref t])[(vs' ++ [V.ref t]).length - 1]? = some (.ref t) := by rw [List.length_append, List.length_singleton, Nat.add_sub_cancel]; exact List.getElem?_concat_length
  refine ⟨_, rfl, p, C, dx, _, _, rfl, hp, T.cl, T.nC, fldsL_calls _ _, true, .inl ⟨_, SqL.of hc, te.symm⟩, ?_⟩
  refine ⟨_, rfl, p, C, dx, _, _, rfl, hp, T.cl, T.nC, fldsL_calls _ _, .inl ⟨rfl, _, SqL.of hc⟩, c, _, _, rfl, rfl, hc, ixe, ?_⟩
  rw [List.dropLast_concat]
  have hp1 : (upd H c (.lst vs')) p = some (.ins C dx (fldsL sv c)) := by rw [upd_ne pc]; exact hp
  have ht1 : (upd H c (.lst vs')) t = some (.tup [ov, st]) := by rw [upd_ne (ne_of ht hc (fun z => by cases z))]; exact ht
  refine ⟨t, _, rfl, SqT.of ht1, rfl, _, _, rfl, _, _, rfl, _, rfl, p, C, dx, _, rfl, hp1, T.cl, T.nS, (by rw [fldsL_eq]; show 2 < 1000; decide), rfl, ?_⟩
  rw [fldsL_put]
  have T3 : Tups H (upd (upd H c (.lst vs')) p (.ins C dx (fldsL st c))) := fun a xs k => by
    rw [upd_ne (ne_of k hp (fun z => by cases z)), upd_ne (ne_of k hc (fun z => by cases z))]
    exact k
  refine q _ (fun b ob k nb nc => ?_) ⟨dx, st, vs', upd_same, hst'.tups T3, ?_, hcs'.mono fun v x (k : CallAt H v x) => k.tups T3⟩
  · rw [upd_ne nb, upd_ne nc]
    exact k
  · rw [upd_ne (fun z => pc z.symm)]
    exact upd_same
/-- two logs in one state -/
def EqL (C : Addr) : Addr → Addr → Hp → Prop := fun a b H => ∃ (ca cb : Addr) (x : LS) (csa csb : List (LOp × LS)), LogAt C H a ca x csa ∧ LogAt C H b cb x csb
theorem ok_log_eq {f CLiveLog CBudgetLog : Addr} {fd : FuncData} (F : Fun K "__eq__" "LiveLog.__eq__" sLiveLogEq f fd) (TLiveLog : TLog K CLiveLog) (TI : TIs K CLiveLog CBudgetLog) (gLiveLog : mg "LiveLog" = some (.ref CLiveLog)) (gBudgetLog : mg "BudgetLog" = some (.ref CBudgetLog)) (z_isinstance : mg "isinstance" = none) :
    FnOk P w K mg base CX0 1 f fd ["self", "other"] (spEq (EqL CLiveLog)) := by
  refine F.ok scLiveLogEq (fun vs H Q E h => ?_) (fun cdv A outer s H vs Q E hr h => ?_)
  · obtain ⟨_, _, rfl, _⟩ := h
    rfl
  obtain ⟨a, b, rfl, ⟨ca, cb, x, csa, csb, hA, hB⟩, q⟩ := h
  refine ⟨_, (pss_cons (ps_if (PW.pt (pw_or (pt_not (pt_val (pe_callB call_isi (by rfl) z_isinstance (by decide +kernel) (pa_cons (pv 1) (pa_cons (pe_glob (v := .ref CLiveLog) rfl gLiveLog rfl) pa_nil))))) (pw_or1 (pt_val (pe_callB call_isi (by rfl) z_isinstance (by decide +kernel) (pa_cons (pv 1) (pa_cons (pe_glob (v := .ref CBudgetLog) rfl gBudgetLog rfl) pa_nil)))))))
    (pss_one (ps_ret pe_bl))
    pss_nil)
    (pss_one (ps_ret (pe_cmpR (op_eqD hr.units) (pe_fld (pv 0) rfl) (pe_fld (pv 1) rfl) (nomark _))))), ?_⟩
  obtain ⟨dx, sv, vs, hp, hst, hc, hcs⟩ := hA
  obtain ⟨dx', sv', vs', hp', hst', hc', hcs'⟩ := hB
  have ty : TyX K H (.ref b) (.ref CLiveLog) := .base (.ins hp' TLiveLog.cl TI.ha TI.hn TI.htk TI.hm)
  refine ⟨_, rfl, _, _, _, _, true, rfl, .own _, ty, TI.kC, true, rfl, ?_⟩
  refine ⟨_, rfl, _, _, _, _, false, rfl, .own _, ty, TI.kD, false, rfl, ?_⟩
  refine ⟨_, rfl, a, CLiveLog, dx, _, _, rfl, hp, TLiveLog.cl, TLiveLog.nS, fldsL_state _ _, _, rfl, b, CLiveLog, dx', _, _, rfl, hp', TLiveLog.cl, TLiveLog.nS, fldsL_state _ _, stD x, stD x, hst.dp, hst'.dp, stD_shaped x, stD_shaped x, ?_⟩
  rw [stD_refl]
  exact q H Ext.rfl'
end
end LT

namespace LT
open PySem PySem.Spec PyProof.Rows L2
/-! ### logs with a budget -/
theorem bust : ¬ (("_budget" : Str) = "_state") := by decide +kernel
theorem buca : ¬ (("_budget" : Str) = "_calls") := by decide +kernel
def fldsB (s : V) (c : Addr) (bu : Int) : List (Str × V) := putF "_budget" (.int bu) (fldsL s c)
theorem fldsB_state (s : V) (c : Addr) (bu : Int) : (fldsB s c bu).lookup ("_state" : Str) = some s := by
  unfold fldsB
  rw [lookup_putF, if_neg (fun z => bust z.symm), fldsL_state]
theorem fldsB_calls (s : V) (c : Addr) (bu : Int) : (fldsB s c bu).lookup ("_calls" : Str) = some (.ref c) := by
  unfold fldsB
  rw [lookup_putF, if_neg (fun z => buca z.symm), fldsL_calls]
theorem fldsB_budget (s : V) (c : Addr) (bu : Int) : (fldsB s c bu).lookup ("_budget" : Str) = some (.int bu) := by
  unfold fldsB
  rw [lookup_putF, if_pos rfl]
theorem fldsB_no (s : V) (c : Addr) (bu : Int) {m : Str} (h1 : ¬ m = "_calls") (h2 : ¬ m = "_state") (h3 : ¬ m = "_budget") : (fldsB s c bu).lookup m = none := by
  unfold fldsB
  rw [lookup_putF, if_neg h3, fldsL_no _ _ h1 h2]
theorem fldsB_eq (s : V) (c : Addr) (bu : Int) : fldsB s c bu = ([("_state", s), ("_calls", V.ref c), ("_budget", V.int bu)] : List (Str × V)) := by
  unfold fldsB
  rw [fldsL_eq]
  show (if ("_state" : Str) = "_budget" then _ else (("_state" : Str), s) :: (if ("_calls" : Str) = "_budget" then _ else (("_calls" : Str), V.ref c) :: putF "_budget" (V.int bu) [])) = _
  rw [if_neg (fun z => bust z.symm), if_neg (fun z => buca z.symm)]
  rfl
theorem fldsB_few (s : V) (c : Addr) (bu : Int) : (fldsB s c bu).length < 1000 := by
  rw [fldsB_eq]
  show 3 < 1000
  decide
theorem fldsB_put (s s' : V) (c : Addr) (bu : Int) : putF "_state" s' (fldsB s c bu) = fldsB s' c bu := by
  rw [fldsB_eq, fldsB_eq]
  show (if ("_state" : Str) = "_state" then [(("_state" : Str), s'), (("_calls" : Str), V.ref c), (("_budget" : Str), V.int bu)] else _) = ([("_state", s'), ("_calls", V.ref c), ("_budget", V.int bu)] : List (Str × V))
  rw [if_pos rfl]
/-- a log with a budget at p -/
def LogB (C : Addr) (bu : Int) (H : Hp) (p c : Addr) (x : LS) (cs : List (LOp × LS)) : Prop := ∃ (dx : Addr) (s : V) (vs : List V), H p = some (.ins C dx (fldsB s c bu)) ∧ StAt H s x ∧ H c = some (.lst vs) ∧ All2 (CallAt H) vs cs
theorem LogB.same {C : Addr} {bu : Int} {H H' : Hp} {p c : Addr} {x : LS} {cs : List (LOp × LS)} (h : LogB C bu H p c x cs) (s : Same H H') : LogB C bu H' p c x cs := by
  obtain ⟨dx, v, vs, a, b, d, e⟩ := h
  exact ⟨dx, v, vs, s _ _ a, b.same s, s _ _ d, e.mono fun v x (k : CallAt H v x) => k.same s⟩
theorem LogB.ne {C : Addr} {bu : Int} {H : Hp} {p c : Addr} {x : LS} {cs : List (LOp × LS)} (h : LogB C bu H p c x cs) : p ≠ c := by
  obtain ⟨_, _, _, a, _, b, _⟩ := h
  exact ne_of a b (fun z => by cases z)
/-- what the top tells of the class -/
structure TBud (K : PySem.W.Frag) (C : Addr) : Prop where
  cl : Cls K C
  nS : NoAttr K C "_state"
  nC : NoAttr K C "_calls"
  nB : NoAttr K C "_budget"
section
variable {P : Program} {w : World} {K : PySem.W.Frag} {mg : Str → Option Value} {base : Heap}
def spPresentB (C : Addr) (bu : Int) : Sp := fun vs H Q _ => ∃ (p c : Addr) (x : LS) (cs : List (LOp × LS)), vs = [.ref p] ∧ LogB C bu H p c x cs ∧ Q (.int (x.1 : Int)) H
theorem ok_bud_present {bu : Int} {f C : Addr} {fd : FuncData} (F : Fun K "present" "LiveLog.present" sLiveLogPresent f fd) (T : TBud K C) : FnOk P w K mg base CX0 1 f fd ["self"] (spPresentB C bu) := by
  refine F.ok scLiveLogPresent (fun vs H Q E h => ?_) (fun cdv A outer s H vs Q E hr h => ?_)
  · obtain ⟨_, _, _, _, rfl, _⟩ := h
    rfl
  obtain ⟨p, c, x, cs, rfl, ⟨dx, _, vs, hp, ⟨t, m, rfl, ht, hm⟩, hc, hcs⟩, q⟩ := h
  refine ⟨_, (pss_one (ps_ret (pe_ix ix_tup (pe_fld (pv 0) rfl) pe_int (fun _ _ => rfl)))), ?_⟩
  exact ⟨_, rfl, p, C, dx, _, _, rfl, hp, T.cl, T.nS, fldsB_state _ _ _, t, _, _, _, rfl, rfl, SqT.of ht, atI_nat (j := 0) rfl, q⟩
def spMarksB (C : Addr) (bu : Int) : Sp := fun vs H Q _ => ∃ (p c : Addr) (x : LS) (cs : List (LOp × LS)), vs = [.ref p] ∧ LogB C bu H p c x cs ∧ ∀ (H' : Hp) (r : Addr), Same H H' → H r = none → H' r = some (.lst (natsV x.2.1)) → Q (.ref r) H'
theorem ok_bud_marks {bu : Int} {f C : Addr} {fd : FuncData} (F : Fun K "marks" "LiveLog.marks" sLiveLogMarks f fd) (T : TBud K C) (z_list : mg "list" = none) : FnOk P w K mg base CX0 1 f fd ["self"] (spMarksB C bu) := by
  refine F.ok scLiveLogMarks (fun vs H Q E h => ?_) (fun cdv A outer s H vs Q E hr h => ?_)
  · obtain ⟨_, _, _, _, rfl, _⟩ := h
    rfl
  obtain ⟨p, c, x, cs, rfl, ⟨dx, _, vs, hp, ⟨t, m, rfl, ht, hm⟩, hc, hcs⟩, q⟩ := h
  refine ⟨_, (pss_one (ps_ret (pe_callTy call_list_of (by rfl) z_list (by decide +kernel) (pa_cons (pe_ix ix_tup (pe_fld (pv 0) rfl) pe_int (fun _ _ => rfl)) pa_nil)))), ?_⟩
  exact ⟨_, rfl, p, C, dx, _, _, rfl, hp, T.cl, T.nS, fldsB_state _ _ _, t, _, _, _, rfl, rfl, SqT.of ht, atI_nat (j := 1) rfl, m, _, rfl, .inr (SqT.of hm), fun r nr => q _ r (same_upd nr) nr upd_same⟩
def spSpentB (C : Addr) (bu : Int) : Sp := fun vs H Q _ => ∃ (p c : Addr) (x : LS) (cs : List (LOp × LS)), vs = [.ref p] ∧ LogB C bu H p c x cs ∧ Q (.int x.2.2) H
theorem ok_bud_spent {bu : Int} {f C : Addr} {fd : FuncData} (F : Fun K "spent" "LiveLog.spent" sLiveLogSpent f fd) (T : TBud K C) : FnOk P w K mg base CX0 1 f fd ["self"] (spSpentB C bu) := by
  refine F.ok scLiveLogSpent (fun vs H Q E h => ?_) (fun cdv A outer s H vs Q E hr h => ?_)
  · obtain ⟨_, _, _, _, rfl, _⟩ := h
    rfl
  obtain ⟨p, c, x, cs, rfl, ⟨dx, _, vs, hp, ⟨t, m, rfl, ht, hm⟩, hc, hcs⟩, q⟩ := h
  refine ⟨_, (pss_one (ps_ret (pe_ix ix_tup (pe_fld (pv 0) rfl) pe_int (fun _ _ => rfl)))), ?_⟩
  exact ⟨_, rfl, p, C, dx, _, _, rfl, hp, T.cl, T.nS, fldsB_state _ _ _, t, _, _, _, rfl, rfl, SqT.of ht, atI_nat (j := 2) rfl, q⟩
def spLogB (C : Addr) (bu : Int) : Sp := fun vs H Q _ => ∃ (p c : Addr) (x : LS) (cs : List (LOp × LS)), vs = [.ref p] ∧ LogB C bu H p c x cs ∧ cs.length ≤ 1000 ∧
  ∀ (H' : Hp) (r : Addr) (ys : List V), Same H H' → H r = none → H' r = some (.lst ys) → All2 (OpAt H') ys (cs.map (·.1)) → Q (.ref r) H'
theorem ok_bud_log {bu : Int} {f C : Addr} {fd : FuncData} (F : Fun K "log" "LiveLog.log" sLiveLogLog f fd) (T : TBud K C) : FnOk P w K mg base CX0 1 f fd ["self"] (spLogB C bu) := by
  refine F.ok scLiveLogLog (fun vs H Q E h => ?_) (fun cdv A outer s H vs Q E hr h => ?_)
  · obtain ⟨_, _, _, _, rfl, _⟩ := h
    rfl
  obtain ⟨p, c, x, cs, rfl, ⟨dx, sv, vs, hp, hst, hc, hcs⟩, hl, q⟩ := h
  refine ⟨_, (pss_one (ps_ret (pe_lc (own := [("operation", 1), ("_", 2)]) rfl scLiveLogLog.nd (pi_list (pe_fld (pv 0) rfl)) (blkOk_by (N := ["self", "operation", "_"]) (sc := defScope sLiveLogLog) (by decide +kernel)) (fun _ _ _ _ _ => (pg_tupB (n := 2) rfl (pgs_cons (pg_name (i := 1) scLiveLogLog.nd rfl (Or.inl rfl)) (pgs_cons (pg_name (i := 2) scLiveLogLog.nd rfl (Or.inl rfl)) pgs_nil)))) (fun _ _ _ _ _ => pts_nil) (fun _ _ _ _ _ => (pv 1))))), ?_⟩
  refine ⟨_, rfl, p, C, dx, _, _, rfl, hp, T.cl, T.nC, fldsB_calls _ _ _, c, rfl, ⟨_, SqL.of hc⟩, fun D nD => ?_⟩
  refine lc_list (K := K) (a := c) (xs := vs) (fun j H' => ∃ zs : List V, Same H H' ∧ H' D = some (.lst zs) ∧ All2 (OpAt H') zs ((cs.take j).map (·.1))) ⟨[], same_upd nD, upd_same, .nil⟩ (fun j H' _ ⟨_, s1, _⟩ => SqL.of (s1 _ _ hc)) ?_ ?_
  · rintro j v H1 hj ⟨zs, s1, hD, hz⟩
    obtain ⟨y, hyj, hy⟩ := hcs.nth hj
    have jl := (List.getElem?_eq_some_iff.mp hyj).1
    obtain ⟨t, o, st, rfl, ht, ho, _⟩ := hy.same s1
    refine ⟨t, _, rfl, SqT.of ht, rfl, _, _, rfl, _, _, rfl, rfl, rfl, ?_⟩
    refine ⟨_, rfl, zs, hD, szlt (by rw [hz.len, List.length_map, List.length_take]; omega), zs ++ [o], ?_, upd_same, ?_⟩
    · exact fun a ob k => by rw [upd_ne (ne_of_none k nD)]; exact s1 _ _ k
    · rw [take_more hyj, List.map_append]
      exact (hz.mono fun v x (k : OpAt H1 v x) => k.updL hD).app (.cons (ho.updL hD) .nil)
  rintro H1 ⟨zs, s1, hD, hz⟩
  rw [hcs.len, List.take_length] at hz
  exact q H1 D zs s1 nD hD hz
end
end LT

namespace LT
open PySem PySem.Spec PyProof.Rows L2
/-! ### C.m(a, ..), m a def of the class C: OWN RULE -/
structure CFun (K : PySem.W.Frag) (C : Addr) (mc : Value) (m : Str) (f : Addr) : Prop where
  rd : ClX.CRead K C mc
  at_ : PySem.W.findCls K (.ref C) mc m = some (.val (.ref f))
  kp : PySem.W.keepIn K (.ref f) = true
section
variable {X : Cx} {CX : CXT} {k : Nat} {C f : Addr} {mc : Value} {fd : FuncData} {ps : List Str} {sp : Sp} {E : XK} {o e : Expr} {es : List Expr} {m : Str} {pos apos : Pos} {ta : TE} {t : TA}
def tCFun (C : Addr) (sp : Sp) (E : XK) (ta : TE) (t : TA) : TE := fun σ H Q => ta σ H fun x H1 => x = .ref C ∧ t σ H1 fun vs H2 => sp vs H2 Q E
theorem pe_cfun {pl : Sem Bool} (he : PE X o ta) (c : CFun X.K C mc m f) (F : FnOk X.prog X.w X.K X.mg X.base CX k f fd ps sp) (hr : Room k X.A) (hb : Binds X.K fd ps []) (hx : Passes CX X E) (ha : PA X (e :: es) t)
    (hst : starEach (e :: es) X.env = (false, eval e X.env) :: starEach es X.env := by rfl) (hpl : (backTo pos (starEach es X.env)).any (·.1) = false := by rfl)
    (ht : eval (.Call (.Attribute o m apos) (e :: es) [] pos) X.env = (do
      let ov ← eval o X.env
      standAt apos.atName
      let (f, first) ← holding [ov] (getMethod ov m pl)
      callWith pos f first (backTo pos (starEach (e :: es) X.env)) (backToKw pos (keywordEach [] X.env))) := by rfl) :
    PE X (.Call (.Attribute o m apos) (e :: es) [] pos) (tCFun C sp E ta t) := by
  refine ⟨fun pins s σ H Q I h => ?_⟩
  refine PySem.W.methodCall_KW (pl := pl) (thn (he.run pins s σ H _ I h) fun u s1 ⟨x, H1, I1, rx, ex, q⟩ => ?_) ht
  subst ex
  obtain rfl : u = Value.ref C := rx
  refine PySem.W.method_cls I1.kIn c.rd.ga (PySem.W.cls_value I1.kIn c.rd.rd c.at_ rfl ?_)
  have I2 := I1.tok (s1.toks + 1)
  refine PySem.W.callWith_K (first := []) (h₀ := X.base) I2.ok.mod.kin c.kp (thn (ha.run pos pins _ σ H1 _ I2 q) fun us s2 ⟨vs, H2, I3, r, q2⟩ => ⟨I3.kIn, ?_⟩) hst hpl
  exact run_fn (us := us) (vs := vs) (dvs := []) (ds := []) F hr hb .nil hx I3 r (by rw [List.append_nil]; exact q2)
end
end LT

namespace LT
open PySem PySem.Spec PyProof.Rows L2
section
variable {P : Program} {w : World} {K : PySem.W.Frag} {mg : Str → Option Value} {base : Heap} {k : Nat} {f : Addr} {fd : FuncData} {ps : List Str} {sp : Sp}
theorem toX (A : FnOk P w K mg base CX0 k f fd ps sp) : FnOk P w K mg base (L2.CX P w) k f fd ps sp := by
  refine ⟨A.len, fun A' outer s H args us vs Q E hr ev hb rv h => codeAny_mono (A.run A' outer s H args us vs Q E hr ev hb rv h) ?_⟩
  intro r s' hq
  cases r with
  | error e => exact False.elim hq
  | ok fl => cases fl <;> exact hq
end
def clsInit : Stmt → Stmt
  | .ClassDef _ _ _ body _ _ _ _ _ _ _ => body.getD 0 (.Pass ⟨0, 0, 0, 0⟩)
  | s => s
/-- what the written part says of an __init__ -/
def InitK (P : Program) (K : PySem.W.Frag) (C : Addr) (st : Stmt) (q : Str) : Prop := ∃ (fI cda cc : Addr) (oc : Value) (od : Option Addr) (osl : Array (Option Value)) (kV doc pm ct : Value) (an : Option Addr) (ccl : Value) (cdd : Option Addr) (ccs : Array (Option Value)) (vs : Array Value) (file : Str) (tf : Tok) (cl : Value) (cld : Option Addr) (csl : Array (Option Value)),
  PySem.W.findIn K (.ref C) "__init__" = some (some (.ref fI)) ∧ K.lookup fI = some ⟨oc, od, .func (PySem.W.ksFn "__init__" q (defArgs st) (defBody st) (defScope st) .none kV doc pm an (.ref cda) ct cc), osl⟩ ∧ PySem.W.typeIn K (.ref fI) = some (.type "function") ∧
  PySem.W.codeIn K (.ref cda) q = true ∧ K.lookup cda = some ⟨ccl, cdd, .fields vs, ccs⟩ ∧ K.lookup cc = some ⟨cl, cld, .cell (some (.ref C)), csl⟩ ∧ vs[2]? = some (.str file tf) ∧ ((P.main.file : Str) == file) = true
/-- and of the class -/
structure SupK (P : Program) (K : PySem.W.Frag) (mg : Str → Option Value) (C : Addr) (fld : Str) : Prop where
  ex : OexC K C
  nofld : PySem.W.findIn K (.ref C) fld = some none
  sup : PySem.W.ks_superIn K C C "__init__" = some (some (.builtin "ValueError.__init__"))
  ve : PySem.W.subIn K (.ref C) (.type "ValueError") = some true
  own : PySem.W.mroIn K C (.ref C) = some true
  opq : PySem.W.nsIn K cStatics "thirdparty.any" = some none
  top : (P.main.scope.names.lookup ("super" : Str)).isSome = false
  z : mg "super" = none
section
variable {P : Program} {w : World} {K : PySem.W.Frag} {mg : Str → Option Value} {base : Heap} {C : Addr}
abbrev sIOverBudget : Stmt := clsInit (topS 3)
theorem ssIOverBudget : SScope "count" (defScope sIOverBudget) := ⟨rfl, rfl, rfl, rfl, rfl, rfl, rfl, by decide +kernel, by decide +kernel, by decide, by decide, by decide⟩
theorem sxOverBudget (g : mg "OverBudget" = some (.ref C)) (T : SupK P K mg C "count") (I : InitK P K C sIOverBudget "OverBudget.__init__") : SX P w K mg base "OverBudget" C "count" := by
  obtain ⟨fI, cda, cc, oc, od, osl, kV, doc, pm, ct, an, ccl, cdd, ccs, vs, file, tf, cl, cld, csl, i1, i2, i3, i4, i5, i6, i7, i8⟩ := I
  have S : Sup P K mg C cda cc "count" := ⟨T.ex, T.nofld, T.sup, T.ve, T.own, T.opq, ⟨cl, cld, csl, i6⟩, ⟨ccl, cdd, ccs, vs, file, tf, i5, i7, i8⟩, T.top, T.z⟩
  exact ⟨g, T.ex, fI, _, ["self", "count"], i1, i3, ok_init_super (k := 0) (lit := "over the budget, sums that would be spent: ") i2 i4 ssIOverBudget S (by decide) rfl rfl (fun _ => ⟨_, rfl⟩) (fun _ => rfl) (fun _ => rfl), Binds.all fun us hl => match us, hl with | [_, _], _ => rfl⟩
end
/-! ### what a log with a budget becomes -/
abbrev sBudgetLogBehind : Stmt := inClass (topS 28) 3
theorem ss3Behind : SScope3 (defScope sBudgetLogBehind) := ⟨rfl, rfl, rfl, rfl, rfl, rfl, rfl, rfl, rfl, by decide, by decide⟩
/-- what the written part says of it -/
def BehK (P : Program) (K : PySem.W.Frag) (mg : Str → Option Value) (C f fL : Addr) : Prop := ∃ (cda cc : Addr) (oc : Value) (od : Option Addr) (osl : Array (Option Value)) (kV doc pm ct : Value) (an : Option Addr),
  K.lookup f = some ⟨oc, od, .func (PySem.W.ksFn "_behind" "BudgetLog._behind" (defArgs sBudgetLogBehind) (defBody sBudgetLogBehind) (defScope sBudgetLogBehind) .none kV doc pm an (.ref cda) ct cc), osl⟩ ∧ PySem.W.codeIn K (.ref cda) "BudgetLog._behind" = true ∧ Sup3 P K mg C cda cc fL "_behind"
section
variable {P : Program} {w : World} {K : PySem.W.Frag} {mg : Str → Option Value} {base : Heap}
def cost (x : LS) (o : LOp) : Int := (lafter x o).2.2
def spBehindB (C : Addr) (bu : Int) : Sp := fun vs H Q _ => ∃ (p dx : Addr) (fs : List (Str × V)) (v u : V) (x : LS) (o : LOp), vs = [.ref p, v, u] ∧ H p = some (.ins C dx fs) ∧ fs.lookup ("_budget" : Str) = some (.int bu) ∧ StAt H v x ∧ OpAt H u o ∧ lgood x ∧ lok x o ∧ cost x o ≤ bu ∧
  ∀ (H' : Hp) (r : V), Same H H' → StAt H' r (lafter x o) → Q r H'
def spBehindX (C CO : Addr) (bu : Int) : Sp := fun vs H Q E => ∃ (p dx : Addr) (fs : List (Str × V)) (v u : V) (x : LS) (o : LOp), vs = [.ref p, v, u] ∧ H p = some (.ins C dx fs) ∧ fs.lookup ("_budget" : Str) = some (.int bu) ∧ StAt H v x ∧ OpAt H u o ∧ lgood x ∧ lok x o ∧ (cost x o).natAbs < 10 ^ 66 ∧
  (cost x o ≤ bu → ∀ (H' : Hp) (r : V), Same H H' → StAt H' r (lafter x o) → Q r H') ∧ (bu < cost x o → ∀ (H' : Hp) (d : Addr), Same H H' → H' d = some (.xd [("count", .int (cost x o))]) → E (.ref CO) (some d) H')
theorem ok_bud_behind {f fL C CO : Addr} {fdL : FuncData} (T : BehK P K mg C f fL) (TB : TBud K C) (XOverBudget : SX P w K mg base "OverBudget" CO "count")
    (FL : FnOk P w K mg base CX0 9 fL fdL ["self", "state", "operation"] spBehind) (hbL : Binds K fdL ["self", "state", "operation"] []) :
    ∃ fd, (∀ bu, FnOk P w K mg base CX0 11 f fd ["self", "state", "operation"] (spBehindB C bu)) ∧ (∀ bu, FnOk P w K mg base (L2.CX P w) 11 f fd ["self", "state", "operation"] (spBehindX C CO bu)) ∧ Binds K fd ["self", "state", "operation"] [] := by
  obtain ⟨cda, cc, oc, od, osl, kV, doc, pm, ct, an, lk, hcd, S3⟩ := T
  refine ⟨_, fun bu => ok_super3 (CX := CX0) (k := 10) (kl := 9) (spL := spBehind) lk hcd ss3Behind S3 (by decide +kernel) rfl rfl FL hbL (by decide) (fun _ => ⟨_, rfl⟩) (fun _ => rfl) (fun vs H Q E h => ?_) (fun A outer s H vs Q E hr h => ?_), fun bu => ok_super3 (CX := L2.CX P w) (k := 10) (kl := 9) (spL := spBehind) lk hcd ss3Behind S3 (by decide +kernel) rfl rfl (toX FL) hbL (by decide) (fun _ => ⟨_, rfl⟩) (fun _ => rfl) (fun vs H Q E h => ?_) (fun A outer s H vs Q E hr h => ?_), Binds.all fun us hl => match us, hl with | [_, _, _], _ => rfl⟩
  · obtain ⟨_, _, _, _, _, _, _, rfl, _⟩ := h
    rfl
  · obtain ⟨p, dx, fs, v, u, x, o, rfl, hp, hbu, hst, ho, hg, hok, hle, q⟩ := h
    refine ⟨p, dx, fs, v, u, _, E, rfl, hp, pass0, (pss_cons (ps_if (pt_cmpR op_gt (pe_ix ix_tup (pv 3) pe_int (fun _ _ => rfl)) (pe_fld (pv 0) rfl) (nomark _))
    (pss_one ps_never)
    pss_nil)
    (pss_one (ps_ret (pv 3)))), ?_⟩
    refine ⟨_, v, u, x, o, rfl, hst, ho, hg, hok, fun H1 r s1 hr1 => ?_⟩
    obtain ⟨t, m, rfl, ht, hm⟩ := id hr1
    refine ⟨_, rfl, t, _, _, _, rfl, rfl, SqT.of ht, atI_nat (j := 2) rfl, _, rfl, p, C, dx, _, _, rfl, s1 _ _ hp, TB.cl, TB.nB, hbu, _, _, rfl, rfl, false, congrArg V.bl (decide_eq_false (by unfold cost at hle; omega)), ?_⟩
    exact ⟨_, rfl, q _ _ s1 hr1⟩
  · obtain ⟨_, _, _, _, _, _, _, rfl, _⟩ := h
    rfl
  · obtain ⟨p, dx, fs, v, u, x, o, rfl, hp, hbu, hst, ho, hg, hok, h66, q, qe⟩ := h
    refine ⟨p, dx, fs, v, u, _, fun _ _ _ => False, rfl, hp, (fun _ _ _ _ _ _ _ z => by obtain ⟨_, _, _, _, _, _, _, _, _, _, _, _, hE⟩ := z; exact hE.elim), (pss_cons (ps_if (pt_cmpR op_gt (pe_ix ix_tup (pv 3) pe_int (fun _ _ => rfl)) (pe_fld (pv 0) rfl) (nomark _))
    (pss_one (ps_raise rfl (takes_of rfl rfl rfl rfl) (pmk_sup XOverBudget (hr.mono (by decide)) rfl (pa_cons (pe_ix ix_tup (pv 3) pe_int (fun _ _ => rfl)) pa_nil))))
    pss_nil)
    (pss_one (ps_ret (pv 3)))), ?_⟩
    refine ⟨_, v, u, x, o, rfl, hst, ho, hg, hok, fun H1 r s1 hr1 => ?_⟩
    obtain ⟨t, m, rfl, ht, hm⟩ := id hr1
    refine ⟨_, rfl, t, _, _, _, rfl, rfl, SqT.of ht, atI_nat (j := 2) rfl, _, rfl, p, C, dx, _, _, rfl, s1 _ _ hp, TB.cl, TB.nB, hbu, _, _, rfl, rfl, ?_⟩
    by_cases c : cost x o ≤ bu
    · exact ⟨false, congrArg V.bl (decide_eq_false (by unfold cost at c; omega)), _, rfl, q c _ _ s1 hr1⟩
    · refine ⟨true, congrArg V.bl (decide_eq_true (by unfold cost at c; omega)), ?_⟩
      refine ⟨_, rfl, t, _, _, _, rfl, rfl, SqT.of ht, atI_nat (j := 2) rfl, _, rfl, .inr ⟨_, rfl, h66⟩, fun d nd => ?_⟩
      exact qe (by omega) _ d (s1.trans (same_upd nd)) upd_same
end
end LT

namespace LT
open PySem PySem.Spec PyProof.Rows L2
section
variable {P : Program} {w : World} {K : PySem.W.Frag} {mg : Str → Option Value} {base : Heap}
def spBudInit (C : Addr) : Sp := fun vs H Q _ => ∃ (p dx : Addr) (n : Nat) (bu : Int), vs = [.ref p, .int (n : Int), .int bu] ∧ H p = some (.ins C dx []) ∧ 1 ≤ n ∧ n ≤ 10 ^ 30 ∧ 0 ≤ bu ∧
  ∀ (c : Addr) (H' : Hp), H c = none → LogB C bu H' p c (n, [], 0) [] → (∀ b o, H b = some o → b ≠ p → H' b = some o) → Q .non H'
theorem ok_bud_init {f g1 g2 C CLiveLog : Addr} {mc : Value} {fd d1 d2 : FuncData} (F : Fun K "__init__" "BudgetLog.__init__" sBudgetLogInit f fd) (T : TBud K C) (gLiveLog : mg "LiveLog" = some (.ref CLiveLog))
    (FLiveLogInit : CFun K CLiveLog mc "__init__" g1) (GLiveLogInit : FnOk P w K mg base CX0 4 g1 d1 ["self", "size"] (spLogInit C)) (BLiveLogInit : Binds K d1 ["self", "size"] [])
    (GIsWhole : FnOk P w K mg base CX0 1 g2 d2 ["value"] spWhole) (AIsWhole : At K mg "is_whole" g2 d2 ["value"]) : FnOk P w K mg base CX0 5 f fd ["self", "size", "budget"] (spBudInit C) := by
  refine F.ok scBudgetLogInit (fun vs H Q E h => ?_) (fun cdv A outer s H vs Q E hr h => ?_)
  · obtain ⟨_, _, _, _, rfl, _⟩ := h
    rfl
  obtain ⟨p, dx, n, bu, rfl, hp, n1, n30, b0, q⟩ := h
  refine ⟨_, (pss_cons (ps_expr (pe_cfun (pe_glob (v := .ref CLiveLog) rfl gLiveLog rfl) FLiveLogInit GLiveLogInit (hr.mono (by decide)) BLiveLogInit pass0 (pa_cons (pv 0) (pa_cons (pv 1) pa_nil))))
    (pss_cons (ps_if (PW.pt (pw_or (pt_not (pt_val (pe_call GIsWhole (hr.mono (by decide)) rfl AIsWhole.m AIsWhole.kp AIsWhole.b .nil pass0 (pa_cons (pv 2) pa_nil)))) (pw_or1 (pt_cmpR op_lt (pv 2) pe_int (nomark _)))))
    (pss_one ps_never)
    pss_nil)
    (pss_one (ps_fld (pv 0) (pv 2) rfl)))), ?_⟩
  refine ⟨rfl, _, rfl, _, rfl, p, dx, n, rfl, hp, n1, n30, fun c H1 nc hL k => ?_⟩
  obtain ⟨dx1, sv, vs, hp1, hst, hc, hcs⟩ := id hL
  refine ⟨_, rfl, bu, rfl, true, rfl, ?_⟩
  refine ⟨_, rfl, _, _, rfl, rfl, false, congrArg V.bl (decide_eq_false (by omega)), ?_⟩
  have pc : p ≠ c := hL.ne
  refine ⟨_, rfl, _, rfl, p, C, dx1, _, rfl, hp1, T.cl, T.nB, (by rw [fldsL_eq]; show 2 < 1000; decide), ?_⟩
  have T3 : Tups H1 (upd H1 p (.ins C dx1 (fldsB sv c bu))) := fun a xs k => by
    rw [upd_ne (ne_of k hp1 (fun z => by cases z))]
    exact k
  refine q c _ nc ⟨dx1, sv, vs, upd_same, hst.tups T3, ?_, hcs.mono fun v x (k : CallAt H1 v x) => k.tups T3⟩ fun b o e nb => ?_
  · rw [upd_ne (fun z => pc z.symm)]
    exact hc
  · rw [upd_ne nb]
    exact k b o e nb
def spEqB (CL CB : Addr) : Sp := fun vs H Q _ => ∃ (a b c dx : Addr) (fs : List (Str × V)) (x : LS) (cs : List (LOp × LS)), vs = [.ref a, .ref b] ∧ H a = some (.ins CB dx fs) ∧ LogAt CL H b c x cs ∧ Q (.bl false) H
theorem ok_bud_eq {f CLiveLog CBudgetLog : Addr} {fd : FuncData} (F : Fun K "__eq__" "BudgetLog.__eq__" sBudgetLogEq f fd) (TLiveLog : TLog K CLiveLog) (TI : TIs K CLiveLog CBudgetLog) (gBudgetLog : mg "BudgetLog" = some (.ref CBudgetLog)) (z_isinstance : mg "isinstance" = none) :
    FnOk P w K mg base CX0 1 f fd ["self", "other"] (spEqB CLiveLog CBudgetLog) := by
  refine F.ok scBudgetLogEq (fun vs H Q E h => ?_) (fun cdv A outer s H vs Q E hr h => ?_)
  · obtain ⟨_, _, _, _, _, _, _, rfl, _⟩ := h
    rfl
  obtain ⟨a, b, c, dx, fs, x, cs, rfl, ha, hB, q⟩ := h
  refine ⟨_, (pss_cons (ps_if (pt_not (pt_val (pe_callB call_isi (by rfl) z_isinstance (by decide +kernel) (pa_cons (pv 1) (pa_cons (pe_glob (v := .ref CBudgetLog) rfl gBudgetLog rfl) pa_nil)))))
    (pss_one (ps_ret pe_bl))
    pss_nil)
    (pss_one (ps_ret (pe_and (pe_cmpR (op_eqD hr.units) (pe_fld (pv 0) rfl) (pe_fld (pv 1) rfl) (nomark _)) (pe_one (pe_cmpR op_eq (pe_fld (pv 0) rfl) (pe_fld (pv 1) rfl) (nomark _))))))), ?_⟩
  obtain ⟨dx', sv', vs', hp', _⟩ := hB
  have ty : TyX K H (.ref b) (.ref CLiveLog) := .base (.ins hp' TLiveLog.cl TI.ha TI.hn TI.htk TI.hm)
  exact ⟨_, rfl, _, _, _, _, false, rfl, .own _, ty, TI.kD, false, rfl, q⟩
def spPerformX (C CO : Addr) (bu : Int) : Sp := fun vs H Q E => ∃ (p c : Addr) (x : LS) (cs : List (LOp × LS)) (v : V) (o : LOp), vs = [.ref p, v] ∧ LogB C bu H p c x cs ∧ OpAt H v o ∧ lgood x ∧ lok x o ∧ cs.length ≤ 1000 ∧ (cost x o).natAbs < 10 ^ 66 ∧
  (cost x o ≤ bu → ∀ (H' : Hp), ButL p c H H' → LogB C bu H' p c (lafter x o) (cs ++ [(o, x)]) → Q .non H') ∧ (bu < cost x o → ∀ (H' : Hp) (d : Addr), Same H H' → H' d = some (.xd [("count", .int (cost x o))]) → E (.ref CO) (some d) H')
theorem ok_bud_perform {bu : Int} {f g1 C CO : Addr} {fd d1 : FuncData} (F : Fun K "_perform" "LiveLog._perform" sLiveLogPerform f fd) (TLiveLog : TBud K C)
    (GLiveLogBehind : FnOk P w K mg base (L2.CX P w) 11 g1 d1 ["self", "state", "operation"] (spBehindX C CO bu)) (MLiveLogBehind : Meth K C "_behind" g1) (BLiveLogBehind : Binds K d1 ["self", "state", "operation"] []) : FnOk P w K mg base (L2.CX P w) 12 f fd ["self", "operation"] (spPerformX C CO bu) := by
  refine F.okX scLiveLogPerform (fun vs H Q E h => ?_) (fun cdv A outer s H vs Q E hr h => ?_)
  · obtain ⟨_, _, _, _, _, _, rfl, _⟩ := h
    rfl
  obtain ⟨p, c, x, cs, v, o, rfl, hL, ho, hg, hok, hl, h66, q, qe⟩ := h
  refine ⟨_, (pss_cons (ps_set (i := 2) scLiveLogPerform.nd rfl (Or.inl rfl) (pe_methS (pv 0) TLiveLog.cl MLiveLogBehind GLiveLogBehind (hr.mono (by decide)) BLiveLogBehind (fun σ => passAt (takes_of rfl rfl rfl rfl) σ) (pa_cons (pe_fld (pv 0) rfl) (pa_cons (pv 1) pa_nil))))
    (pss_cons (ps_expr (pe_bm PySem.F.plainAttrs_list PySem.F.slot_list_append PySem.F.type_list_append mt_append (pe_fld (pv 0) rfl) (pa_cons (pe_tup (pa_cons (pv 1) (pa_cons (pe_fld (pv 0) rfl) pa_nil))) pa_nil)))
    (pss_one (ps_fld (pv 0) (pv 2) rfl)))), ?_⟩
  have two : 2 ≤ sizeLine := by decide
  obtain ⟨dx, sv, vs, hp, hst, hc, hcs⟩ := id hL
  refine ⟨_, rfl, p, dx, _, rfl, hp, fldsB_no _ _ _ no_behind.1 no_behind.2 (by decide +kernel), ?_⟩
  refine ⟨_, rfl, p, C, dx, _, _, rfl, hp, TLiveLog.cl, TLiveLog.nS, fldsB_state _ _ _, _, rfl, p, dx, _, sv, v, x, o, rfl, hp, fldsB_budget _ _ _, hst, ho, hg, hok, h66, fun le H1 r s1 hr1 => ?_, qe⟩
  have hp1 := s1 _ _ hp
  have hc1 := s1 _ _ hc
  have hcs1 := hcs.mono fun v x (k : CallAt H v x) => k.same s1
  have hst1 := hst.same s1
  have ho1 := ho.same s1
  have cl := hcs.len
  refine ⟨_, rfl, p, C, dx, _, _, rfl, hp1, TLiveLog.cl, TLiveLog.nC, fldsB_calls _ _ _, .inl ⟨rfl, _, SqL.of hc1⟩, _, rfl, _, rfl, p, C, dx, _, _, rfl, hp1, TLiveLog.cl, TLiveLog.nS, fldsB_state _ _ _, two, fun t nt => ⟨c, _, _, rfl, rfl, same_upd nt _ _ hc1, szlt (by omega), ?_⟩⟩
  have wt := same_upd (o := .tup [v, sv]) nt
  have htt : (upd H1 t (.tup [v, sv])) t = some (.tup [v, sv]) := upd_same
  have hp2 := wt _ _ hp1
  have hc2 := wt _ _ hc1
  have hr2 := hr1.same wt
  have hcs2 : All2 (CallAt (upd H1 t (.tup [v, sv]))) (vs ++ [.ref t]) (cs ++ [(o, x)]) := (hcs1.mono fun v x (k : CallAt H1 v x) => k.same wt).app (.cons ⟨t, v, sv, rfl, htt, ho1.same wt, hst1.same wt⟩ .nil)
  have s2 := s1.trans wt
  generalize upd H1 t (.tup [v, sv]) = H2 at htt hp2 hc2 hr2 hcs2 s2 ⊢
  have pc : p ≠ c := LogB.ne hL
  have hp3 : (upd H2 c (.lst (vs ++ [.ref t]))) p = some (.ins C dx (fldsB sv c bu)) := by rw [upd_ne pc]; exact hp2
  refine ⟨_, rfl, _, rfl, p, C, dx, _, rfl, hp3, TLiveLog.cl, TLiveLog.nS, (by exact fldsB_few _ _ _), ?_⟩
  rw [fldsB_put]
  have T3 : Tups H2 (upd (upd H2 c (.lst (vs ++ [.ref t]))) p (.ins C dx (fldsB r c bu))) := fun a xs k => by
    rw [upd_ne (ne_of k hp2 (fun z => by cases z)), upd_ne (ne_of k hc2 (fun z => by cases z))]
    exact k
  refine q le _ (fun b ob k nb nc => ?_) ⟨dx, r, vs ++ [.ref t], upd_same, hr2.tups T3, ?_, hcs2.mono fun v x (k : CallAt H2 v x) => k.tups T3⟩
  · rw [upd_ne nb, upd_ne nc]
    exact s2 _ _ k
  · rw [upd_ne (fun z => pc z.symm)]
    exact upd_same
def spCallX (C CO : Addr) (bu : Int) (mkop : Nat → LOp) (few : Bool) : Sp := fun vs H Q E => ∃ (p c : Addr) (x : LS) (cs : List (LOp × LS)) (k : Nat), vs = (if few then [.ref p] else [.ref p, .int (k : Int)]) ∧ LogB C bu H p c x cs ∧ lgood x ∧ lok x (mkop k) ∧ cs.length ≤ 1000 ∧ (cost x (mkop k)).natAbs < 10 ^ 66 ∧
  (cost x (mkop k) ≤ bu → ∀ (H' : Hp), ButL p c H H' → LogB C bu H' p c (lafter x (mkop k)) (cs ++ [(mkop k, x)]) → Q .non H') ∧ (bu < cost x (mkop k) → ∀ (H' : Hp) (d : Addr), Same H H' → H' d = some (.xd [("count", .int (cost x (mkop k)))]) → E (.ref CO) (some d) H')
theorem ok_bud_append {bu : Int} {f g1 C CO : Addr} {fd d1 : FuncData} (F : Fun K "append" "LiveLog.append" sLiveLogAppend f fd) (TLiveLog : TBud K C)
    (GLiveLogPerform : FnOk P w K mg base (L2.CX P w) 12 g1 d1 ["self", "operation"] (spPerformX C CO bu)) (MLiveLogPerform : Meth K C "_perform" g1) (BLiveLogPerform : Binds K d1 ["self", "operation"] []) : FnOk P w K mg base (L2.CX P w) 13 f fd ["self", "number"] (spCallX C CO bu .app false) := by
  refine F.okX scLiveLogAppend (fun vs H Q E h => ?_) (fun cdv A outer s H vs Q E hr h => ?_)
  · obtain ⟨_, _, _, _, _, rfl, _⟩ := h
    rfl
  obtain ⟨p, c, x, cs, k, rfl, hL, hg, hok, hl, h66, q, qe⟩ := h
  refine ⟨_, (pss_one (ps_expr (pe_methS (pv 0) TLiveLog.cl MLiveLogPerform GLiveLogPerform (hr.mono (by decide)) BLiveLogPerform (fun σ => passAt (takes_of rfl rfl rfl rfl) σ) (pa_cons (pe_tup (pa_cons pe_str (pa_cons (pv 1) pa_nil))) pa_nil)))), ?_⟩
  have two : 2 ≤ sizeLine := by decide
  obtain ⟨dx, sv, vs, hp, _⟩ := id hL
  refine ⟨_, rfl, p, dx, _, rfl, hp, fldsB_no _ _ _ no_perform.1 no_perform.2 (by decide +kernel), _, rfl, two, fun t nt => ?_⟩
  have wt := same_upd (o := .tup [.str "append", .int (k : Int)]) nt
  exact ⟨p, c, x, cs, .ref t, .app k, rfl, hL.same wt, ⟨t, rfl, upd_same⟩, hg, hok, hl, h66, fun le H' B hL' => q le H' ((ButL.of wt).trans B) hL', fun gt H' d sm hd => qe gt H' d (wt.trans sm) hd⟩
theorem ok_bud_mark {bu : Int} {f g1 C CO : Addr} {fd d1 : FuncData} (F : Fun K "mark" "LiveLog.mark" sLiveLogMark f fd) (TLiveLog : TBud K C)
    (GLiveLogPerform : FnOk P w K mg base (L2.CX P w) 12 g1 d1 ["self", "operation"] (spPerformX C CO bu)) (MLiveLogPerform : Meth K C "_perform" g1) (BLiveLogPerform : Binds K d1 ["self", "operation"] []) : FnOk P w K mg base (L2.CX P w) 13 f fd ["self"] (spCallX C CO bu (fun _ => .mark) true) := by
  refine F.okX scLiveLogMark (fun vs H Q E h => ?_) (fun cdv A outer s H vs Q E hr h => ?_)
  · obtain ⟨_, _, _, _, _, rfl, _⟩ := h
    rfl
  obtain ⟨p, c, x, cs, k, rfl, hL, hg, hok, hl, h66, q, qe⟩ := h
  refine ⟨_, (pss_one (ps_expr (pe_methS (pv 0) TLiveLog.cl MLiveLogPerform GLiveLogPerform (hr.mono (by decide)) BLiveLogPerform (fun σ => passAt (takes_of rfl rfl rfl rfl) σ) (pa_cons (pe_tup (pa_cons pe_str pa_nil)) pa_nil)))), ?_⟩
  have one1 : 1 ≤ sizeLine := by decide
  obtain ⟨dx, sv, vs, hp, _⟩ := id hL
  refine ⟨_, rfl, p, dx, _, rfl, hp, fldsB_no _ _ _ no_perform.1 no_perform.2 (by decide +kernel), one1, fun t nt => ?_⟩
  have wt := same_upd (o := .tup [.str "mark"]) nt
  exact ⟨p, c, x, cs, .ref t, .mark, rfl, hL.same wt, ⟨t, rfl, upd_same⟩, hg, hok, hl, h66, fun le H' B hL' => q le H' ((ButL.of wt).trans B) hL', fun gt H' d sm hd => qe gt H' d (wt.trans sm) hd⟩
theorem ok_bud_cut {bu : Int} {f g1 C CO : Addr} {fd d1 : FuncData} (F : Fun K "cut" "LiveLog.cut" sLiveLogCut f fd) (TLiveLog : TBud K C)
    (GLiveLogPerform : FnOk P w K mg base (L2.CX P w) 12 g1 d1 ["self", "operation"] (spPerformX C CO bu)) (MLiveLogPerform : Meth K C "_perform" g1) (BLiveLogPerform : Binds K d1 ["self", "operation"] []) : FnOk P w K mg base (L2.CX P w) 13 f fd ["self", "size"] (spCallX C CO bu .cut false) := by
  refine F.okX scLiveLogCut (fun vs H Q E h => ?_) (fun cdv A outer s H vs Q E hr h => ?_)
  · obtain ⟨_, _, _, _, _, rfl, _⟩ := h
    rfl
  obtain ⟨p, c, x, cs, k, rfl, hL, hg, hok, hl, h66, q, qe⟩ := h
  refine ⟨_, (pss_one (ps_expr (pe_methS (pv 0) TLiveLog.cl MLiveLogPerform GLiveLogPerform (hr.mono (by decide)) BLiveLogPerform (fun σ => passAt (takes_of rfl rfl rfl rfl) σ) (pa_cons (pe_tup (pa_cons pe_str (pa_cons (pv 1) pa_nil))) pa_nil)))), ?_⟩
  have two : 2 ≤ sizeLine := by decide
  obtain ⟨dx, sv, vs, hp, _⟩ := id hL
  refine ⟨_, rfl, p, dx, _, rfl, hp, fldsB_no _ _ _ no_perform.1 no_perform.2 (by decide +kernel), _, rfl, two, fun t nt => ?_⟩
  have wt := same_upd (o := .tup [.str "cut", .int (k : Int)]) nt
  exact ⟨p, c, x, cs, .ref t, .cut k, rfl, hL.same wt, ⟨t, rfl, upd_same⟩, hg, hok, hl, h66, fun le H' B hL' => q le H' ((ButL.of wt).trans B) hL', fun gt H' d sm hd => qe gt H' d (wt.trans sm) hd⟩
end
end LT

namespace LT
open PySem PySem.Spec PyProof.Rows L2
section
variable {P : Program} {w : World} {K : PySem.W.Frag} {mg : Str → Option Value} {base : Heap}
def spBag : Sp := fun vs H Q _ => ∃ c : Int, vs = [.int c] ∧ ∀ (H' : Hp) (p : Addr), Same H H' → H p = none → BagAt H' p → Q (.ref p) H'
theorem ok_law_bag {f : Addr} {fd : FuncData} (F : Fun K "_law_bag" "_law_bag" sLawBag f fd) (z_max : mg "max" = none) : FnOk P w K mg base CX0 1 f fd ["cell"] spBag := by
  refine F.ok scLawBag (fun vs H Q E h => ?_) (fun cdv A outer s H vs Q E hr h => ?_)
  · obtain ⟨_, rfl, _⟩ := h
    rfl
  obtain ⟨c, rfl, q⟩ := h
  refine ⟨_, (pss_one (ps_ret (pe_lst (pa_cons (pe_callB (call_max2 rfl) (by rfl) z_max (by decide +kernel) (pa_cons pe_int (pa_cons (pe_op op_sub (pv 0) (pe_op op_pow pe_int pe_int)) pa_nil))) (pa_cons (pv 0) (pa_cons pe_int pa_nil)))))), ?_⟩
  refine ⟨_, rfl, _, _, rfl, rfl, ⟨by decide, by decide, by decide⟩, _, _, rfl, rfl, _, _, rfl, _, rfl, (by show 3 ≤ sizeLine; decide), fun p np => ?_⟩
  exact q _ p (same_upd np) np ⟨_, _, _, upd_same⟩
theorem fm0 (x : Int) {m : Int} (h : 0 < m) : 0 ≤ x.fmod m := by
  rw [Int.fmod_eq_emod_of_nonneg _ (by omega)]
  exact Int.emod_nonneg _ (by omega)
theorem fm1 (x : Int) {m : Int} (h : 0 < m) : x.fmod m < m := by
  rw [Int.fmod_eq_emod_of_nonneg _ (by omega)]
  exact Int.emod_lt_of_pos _ h
def spPick : Sp := fun vs H Q _ => ∃ (b : Addr) (many : Int), vs = [.ref b, .int many] ∧ 0 < many ∧ many.natAbs < 2 ^ 250 ∧ BagAt H b ∧
  ∀ (r : Int) (H' : Hp), 0 ≤ r → r < many → (∀ a, a ≠ b → H' a = H a) → BagAt H' b → Q (.int r) H'
theorem ok_law_pick {f : Addr} {fd : FuncData} (F : Fun K "_law_pick" "_law_pick" sLawPick f fd) (z_int : mg "int" = none) : FnOk P w K mg base CX0 1 f fd ["bag", "many"] spPick := by
  refine F.ok scLawPick (fun vs H Q E h => ?_) (fun cdv A outer s H vs Q E hr h => ?_)
  · obtain ⟨_, _, rfl, _⟩ := h
    rfl
  obtain ⟨b, many, rfl, hm, hm2, ⟨x, y, z, h0⟩, q⟩ := h
  refine ⟨_, (pss_cons (ps_asg (pe_op op_add (pe_ix ix_list (pv 0) pe_int (fun _ _ => rfl)) pe_int) (pg_sub (pv 0) pe_int set_list))
    (pss_cons (ps_if (pt_cmpR op_gt (pe_ix ix_list (pv 0) pe_int (fun _ _ => rfl)) pe_int (nomark _))
    (pss_cons (ps_set (i := 2) scLawPick.nd rfl (Or.inl rfl) (pe_op op_modN (pe_callTy call_int1 (by rfl) z_int (by decide +kernel) (pa_cons (pe_ix ix_list (pv 0) pe_int (fun _ _ => rfl)) pa_nil)) (pv 1)))
    (pss_cons (ps_asg (pe_op op_fdivW (pe_callTy call_int1 (by rfl) z_int (by decide +kernel) (pa_cons (pe_ix ix_list (pv 0) pe_int (fun _ _ => rfl)) pa_nil)) (pv 1)) (pg_sub (pv 0) pe_int set_list))
    (pss_one (ps_ret (pv 2)))))
    pss_nil)
    (pss_cons (ps_par (i := 3) (j := 4) (by rfl) scLawPick.nd rfl rfl (by decide) rfl rfl (pa_cons (pe_callTy call_int1 (by rfl) z_int (by decide +kernel) (pa_cons (pe_ix ix_list (pv 0) pe_int (fun _ _ => rfl)) pa_nil)) (pa_cons (pe_callTy call_int1 (by rfl) z_int (by decide +kernel) (pa_cons (pe_ix ix_list (pv 0) pe_int (fun _ _ => rfl)) pa_nil)) pa_nil)) (by rfl))
    (pss_cons (ps_set (i := 5) scLawPick.nd rfl (Or.inl rfl) (pe_op op_modN (pe_callTy call_int1 (by rfl) z_int (by decide +kernel) (pa_cons (pe_op op_add (pe_op op_add (pe_op op_mul (pe_op op_modN (pv 3) pe_int) pe_int) (pe_op op_mul (pv 4) pe_int)) pe_int) pa_nil)) pe_int))
    (pss_cons (ps_set (i := 6) scLawPick.nd rfl (Or.inl rfl) (pe_op op_modN (pe_callTy call_int1 (by rfl) z_int (by decide +kernel) (pa_cons (pe_op op_add (pe_op op_mul (pv 5) (pv 5)) (pe_op op_mul (pv 4) pe_int)) pa_nil)) pe_int))
    (pss_cons (ps_set (i := 7) scLawPick.nd rfl (Or.inl rfl) (pe_op op_fdivW (pe_callTy call_int1 (by rfl) z_int (by decide +kernel) (pa_cons (pe_op op_add (pe_op op_mul (pv 5) pe_int) (pv 6)) pa_nil)) pe_int))
    (pss_cons (ps_if (pt_cmpR op_gt (pv 1) (pe_op op_pow pe_int pe_int) (nomark _))
    (pss_one (ps_set (i := 7) scLawPick.nd rfl (Or.inl rfl) (pe_op op_add (pe_op op_pow (pv 7) pe_int) (pv 6))))
    pss_nil)
    (pss_one (ps_ret (pe_op op_modN (pe_callTy call_int1 (by rfl) z_int (by decide +kernel) (pa_cons (pv 7) pa_nil)) (pv 1))))))))))), ?_⟩
  refine ⟨_, rfl, b, _, _, _, rfl, rfl, SqL.of h0, atI_nat (j := 2) rfl, _, _, rfl, rfl, _, rfl, b, _, _, 2, rfl, rfl, h0, rfl, ?_⟩
  dsimp only
  have h1 : (upd H b (.lst ([.int x, .int y, .int z].set 2 (.int (z + 1))))) b = some (.lst [.int x, .int y, .int (z + 1)]) := upd_same
  have k1 : ∀ a, a ≠ b → (upd H b (.lst ([.int x, .int y, .int z].set 2 (.int (z + 1))))) a = H a := fun a ha => upd_ne ha
  generalize upd H b (.lst ([.int x, .int y, .int z].set 2 (.int (z + 1)))) = H1 at h1 k1
  refine ⟨_, rfl, b, _, _, _, rfl, rfl, SqL.of h1, atI_nat (j := 0) rfl, _, _, rfl, rfl, _, rfl, ite2 (fun c => ?_) (fun c => ?_)⟩
  · refine ⟨_, rfl, b, _, _, _, rfl, rfl, SqL.of h1, atI_nat (j := 0) rfl, .inl ⟨_, rfl, _, rfl, _, _, rfl, rfl, by omega, ?_⟩⟩
    refine ⟨_, rfl, b, _, _, _, rfl, rfl, SqL.of h1, atI_nat (j := 0) rfl, .inl ⟨_, rfl, _, rfl, _, _, rfl, rfl, wide_div hm hm2 (by decide) (by decide), _, rfl, b, _, _, 0, rfl, rfl, h1, rfl, ?_⟩⟩
    refine ⟨_, rfl, ?_⟩
    exact q _ _ (fm0 x hm) (fm1 x hm) (fun a ha => by rw [upd_ne ha]; exact k1 a ha) ⟨_, _, _, upd_same⟩
  · refine ⟨_, rfl, b, _, _, _, rfl, rfl, SqL.of h1, atI_nat (j := 1) rfl, .inl ⟨_, rfl, _, rfl, b, _, _, _, rfl, rfl, SqL.of h1, atI_nat (j := 2) rfl, .inl ⟨_, rfl, _, _, rfl, ?_⟩⟩⟩
    refine ⟨_, rfl, _, _, rfl, rfl, (by show (2147483629 : Int) ≠ 0; decide), _, _, rfl, rfl, .inr ⟨by decide, by decide⟩, _, rfl, _, _, rfl, rfl, .inr ⟨by decide, by decide⟩, _, _, rfl, rfl, _, _, rfl, rfl, .inl ⟨_, rfl, _, _, rfl, rfl, (by show (2147483647 : Int) ≠ 0; decide), ?_⟩⟩
    dsimp only
    have a0 := fm0 (y.fmod 2147483629 * 48271 + (z + 1) * 69621 + 12345) (m := 2147483647) (by decide)
    have a1 := fm1 (y.fmod 2147483629 * 48271 + (z + 1) * 69621 + 12345) (m := 2147483647) (by decide)
    generalize (y.fmod 2147483629 * 48271 + (z + 1) * 69621 + 12345).fmod 2147483647 = fi at a0 a1
    refine ⟨_, rfl, _, rfl, _, _, rfl, rfl, .inl ⟨by omega, by omega⟩, _, rfl, _, _, rfl, rfl, .inr ⟨by decide, by decide⟩, _, _, rfl, rfl, .inl ⟨_, rfl, _, _, rfl, rfl, (by show (2147483587 : Int) ≠ 0; decide), ?_⟩⟩
    dsimp only
    have b0 := fm0 (fi * fi + (z + 1) * 40692) (m := 2147483587) (by decide)
    have b1 := fm1 (fi * fi + (z + 1) * 40692) (m := 2147483587) (by decide)
    generalize (fi * fi + (z + 1) * 40692).fmod 2147483587 = se at b0 b1
    refine ⟨_, rfl, _, _, rfl, rfl, .inl ⟨by omega, by omega⟩, _, rfl, _, _, rfl, rfl, .inl ⟨_, rfl, _, _, rfl, rfl, wide_div (b := 6) (by decide) (by decide) (by decide) (by decide), ?_⟩⟩
    dsimp only
    have c0 : 0 ≤ (fi * 2147483587 + se) / 32 := by omega
    have c1 : (fi * 2147483587 + se) / 32 < 2 ^ 62 := by omega
    generalize (fi * 2147483587 + se) / 32 = dr at c0 c1
    refine ⟨_, rfl, _, _, rfl, rfl, ⟨by decide, by decide, by decide⟩, _, _, rfl, rfl, _, rfl, ite2 (fun c => ?_) (fun c => ?_)⟩
    · refine ⟨_, rfl, _, _, rfl, rfl, ⟨by decide, by decide, by omega⟩, _, rfl, _, _, rfl, rfl, ?_⟩
      refine ⟨_, rfl, .inl ⟨_, rfl, _, rfl, _, _, rfl, rfl, by omega, ?_⟩⟩
      exact q _ _ (fm0 _ hm) (fm1 _ hm) k1 ⟨_, _, _, h1⟩
    · refine ⟨_, rfl, .inl ⟨_, rfl, _, rfl, _, _, rfl, rfl, by omega, ?_⟩⟩
      exact q _ _ (fm0 _ hm) (fm1 _ hm) k1 ⟨_, _, _, h1⟩
end
end LT

namespace LT
open PySem PySem.Spec PyProof.Rows L2
section
variable {P : Program} {w : World} {K : PySem.W.Frag} {mg : Str → Option Value} {base : Heap}
theorem But.same {b : Addr} {H H1 H2 : Hp} (x : But b H H1) (y : Same H1 H2) : But b H H2 := fun a o n h => y a o (x a o n h)
theorem But.pick {b : Addr} {H H1 H2 : Hp} (x : But b H H1) (k : ∀ a, a ≠ b → H2 a = H1 a) : But b H H2 := fun a o n h => by rw [k a n]; exact x a o n h
theorem BagAt.ne {H : Hp} {b p : Addr} (h : BagAt H b) (n : H p = none) : p ≠ b := fun z => by
  obtain ⟨_, _, _, e⟩ := h
  rw [← z, n] at e
  cases e
theorem BagAt.upd {H : Hp} {b p : Addr} {o : HO} (h : BagAt H b) (n : p ≠ b) : BagAt (upd H p o) b := by
  obtain ⟨x, y, z, e⟩ := h
  exact ⟨x, y, z, by rw [upd_ne (fun z => n z.symm)]; exact e⟩
end
end LT

namespace LT
open PySem PySem.Spec PyProof.Rows L2
theorem nds_eqvAll : ∀ l k : List (Nat × Nat), PyData.eqvAll (l.map nd) (k.map nd) = decide (l = k)
  | [], [] => by simp [PyData.eqvAll]
  | [], y :: k => by simp [PyData.eqvAll]
  | x :: l, [] => by simp [PyData.eqvAll]
  | x :: l, y :: k => by
    have e : PyData.eqvAll ((x :: l).map nd) ((y :: k).map nd) = (PyData.eqv (nd x) (nd y) && PyData.eqvAll (l.map nd) (k.map nd)) := by simp only [List.map_cons, PyData.eqvAll]
    rw [e, nds_eqvAll l k]
    unfold nd
    rw [nd_eqv]
    by_cases h : x = y
    · subst h
      simp
    · have : ¬ ((x.1 : Int) = (y.1 : Int) ∧ (x.2 : Int) = (y.2 : Int)) := fun z => h (Prod.ext (by omega) (by omega))
      have e2 : (decide ((x.1 : Int) = (y.1 : Int)) && decide ((x.2 : Int) = (y.2 : Int))) = false := by
        rw [Bool.and_eq_false_iff]
        by_cases h1 : (x.1 : Int) = (y.1 : Int)
        · exact .inr (decide_eq_false fun z => this ⟨h1, z⟩)
        · exact .inl (decide_eq_false h1)
      rw [e2]
      simp [h]
theorem nds_eqv (l k : List (Nat × Nat)) : PyData.eqv (.list (l.map nd)) (.list (k.map nd)) = decide (l = k) := by
  have e : PyData.eqv (.list (l.map nd)) (.list (k.map nd)) = PyData.eqvAll (l.map nd) (k.map nd) := by simp only [PyData.eqv]
  rw [e, nds_eqvAll]
end LT

namespace LT
open PySem PySem.Spec PyProof.Rows L2
theorem no_append : ¬ ("append" : Str) = "_calls" ∧ ¬ ("append" : Str) = "_state" := by decide +kernel
theorem no_mark : ¬ ("mark" : Str) = "_calls" ∧ ¬ ("mark" : Str) = "_state" := by decide +kernel
theorem no_cut : ¬ ("cut" : Str) = "_calls" ∧ ¬ ("cut" : Str) = "_state" := by decide +kernel
theorem no_shown : ¬ ("shown" : Str) = "_calls" ∧ ¬ ("shown" : Str) = "_state" := by decide +kernel
theorem no_undo : ¬ ("undo" : Str) = "_calls" ∧ ¬ ("undo" : Str) = "_state" := by decide +kernel
theorem no_log : ¬ ("log" : Str) = "_calls" ∧ ¬ ("log" : Str) = "_state" := by decide +kernel
theorem ne_no {x y : V} (h : x = y) : V.bl (!decide (x = y)) = V.bl false := by rw [decide_eq_true h]; rfl
section
variable {P : Program} {w : World} {K : PySem.W.Frag} {mg : Str → Option Value} {base : Heap}
def spOnes : Sp := fun vs H Q _ => ∃ (n : Nat), vs = [.int n] ∧ n < 2 ^ 200 ∧ Q (.int ((ones n : Nat) : Int)) H
theorem ok_law_ones {f : Addr} {fd : FuncData} (F : Fun K "_law_ones" "_law_ones" sLawOnes f fd) : FnOk P w K mg base CX0 1 f fd ["number"] spOnes := by
  refine F.ok scLawOnes (fun vs H Q E h => ?_) (fun cdv A outer s H vs Q E hr h => ?_)
  · obtain ⟨_, rfl, _⟩ := h
    rfl
  obtain ⟨n, rfl, hn, q⟩ := h
  refine ⟨_, (pss_cons (ps_set (i := 1) scLawOnes.nd rfl (Or.inl rfl) pe_int)
    (pss_cons (ps_while PassesOwn.never (pt_cmpR op_gt (pv 0) pe_int (nomark _))
    (pss_one (ps_par (i := 1) (j := 0) (by rfl) scLawOnes.nd rfl rfl (by decide) rfl rfl (pa_cons (pe_op op_add (pv 1) (pe_op op_modN (pv 0) pe_int)) (pa_cons (pe_op op_fdivW (pv 0) pe_int) pa_nil)) (by rfl))))
    (pss_one (ps_ret (pv 1))))), ?_⟩
  refine ⟨fun mu σ H' => ∃ (d l : Nat), σ = [some (.int (l : Int)), some (.int (d : Int))] ∧ H' = H ∧ d + ones l = ones n ∧ l ≤ n ∧ mu = l + 0, ⟨n, 0, n, rfl, rfl, Nat.zero_add _, Nat.le_refl _, rfl⟩, ?_⟩
  rintro m σ H1 ⟨d, l, rfl, rfl, hd, hl, hm⟩
  refine ⟨_, rfl, _, _, rfl, rfl, _, rfl, ite2 (fun c1 => ?_) (fun c1 => ?_)⟩
  · have c2 : (l : Int) > 0 := of_decide_eq_true c1
    have st := ones_step l
    have dv : CDivW (l : Int) 2 := ⟨by decide, by decide⟩
    refine ⟨_, fun σ' H' h => h, _, rfl, _, rfl, _, _, rfl, rfl, (by show (2 : Int) ≠ 0; decide), _, _, rfl, rfl, _, rfl, _, _, rfl, rfl, dv, _, _, rfl, ?_⟩
    have e1 : (d : Int) + (l : Int).fmod 2 = ((d + l % 2 : Nat) : Int) := by
      rw [Int.fmod_eq_emod_of_nonneg _ (by decide)]
      omega
    have e2 : (l : Int) / 2 = ((l / 2 : Nat) : Int) := by omega
    refine ⟨l / 2, by omega, d + l % 2, l / 2, ?_, rfl, by omega, by omega, rfl⟩
    rw [← e1, ← e2]
    rfl
  · have c2 : l = 0 := by
      have : ¬ (l : Int) > 0 := of_decide_eq_false (Bool.eq_false_iff.mpr c1)
      omega
    subst c2
    rw [ones_zero, Nat.add_zero] at hd
    rw [← hd] at q
    exact ⟨_, rfl, q⟩
end
end LT

namespace LT
open PySem PySem.Spec PyProof.Rows L2
theorem LogAt.pick {C : Addr} {H H' : Hp} {p c b : Addr} {x : LS} {cs : List (LOp × LS)} (h : LogAt C H p c x cs) (hb : BagAt H b) (k : ∀ a, a ≠ b → H' a = H a) (cb : c ≠ b) : LogAt C H' p c x cs := by
  obtain ⟨_, _, _, e⟩ := hb
  exact h.off k e cb
theorem BagAt.butL {C : Addr} {H H' : Hp} {p c b : Addr} {x : LS} {cs : List (LOp × LS)} (hb : BagAt H b) (k : ButL p c H H') (h : LogAt C H p c x cs) (cb : c ≠ b) : BagAt H' b := by
  obtain ⟨u, v, w, e⟩ := hb
  obtain ⟨_, _, hp, _⟩ := h.lst
  exact ⟨u, v, w, k _ _ e (ne_of e hp (fun z => by cases z)) cb.symm⟩
theorem But.free {b a : Addr} {H H' : Hp} (B : But b H H') (h : H' a = none) (n : a ≠ b) : H a = none := by
  cases k : H a with
  | none => rfl
  | some o =>
    have := B a o n k
    rw [h] at this
    cases this
theorem But.butL {b p c : Addr} {H H' H'' : Hp} (B : But b H H') (k : ButL p c H' H'') (hp : H p = none) (hc : H c = none) : But b H H'' := fun a o z e => k a o (B a o z e) (ne_of_none e hp) (ne_of_none e hc)
theorem made_same {C p dx : Addr} {H H' : Hp} (np : H p = none) (ndx : H dx = none) (kp : ∀ b o, (upd (upd H dx (.own p)) p (.ins C dx [])) b = some o → b ≠ p → H' b = some o) : Same H H' := fun b o e =>
  kp b o (by rw [upd_ne (ne_of_none e np), upd_ne (ne_of_none e ndx)]; exact e) (ne_of_none e np)
theorem made_free {C p dx c : Addr} {H : Hp} (np : H p = none) (ndx : H dx = none) (nc : (upd (upd H dx (.own p)) p (.ins C dx [])) c = none) : H c = none := by
  cases k : H c with
  | none => rfl
  | some o =>
    rw [upd_ne (ne_of_none k np), upd_ne (ne_of_none k ndx), k] at nc
    cases nc
theorem twoMany9 (r : Int) (h0 : 0 ≤ r) (h : r < 2) : ∃ many : Nat, atI [V.int 9, V.int (10 ^ Int.toNat 29)] r = some (.int (many : Int)) ∧ 1 ≤ many ∧ many ≤ 10 ^ 29 := by
  rcases (show r = 0 ∨ r = 1 by omega) with rfl | rfl
  · exact ⟨9, rfl, by decide, by decide⟩
  · exact ⟨10 ^ 29, rfl, by decide, by decide⟩
theorem nats_refl (l : List Nat) : PyData.eqv (.list (nats l)) (.list (nats l)) = true := by simp only [PyData.eqv, nats_reflA]
/-- the first call was made in this state -/
def Since (x0 x : LS) : List (LOp × LS) → Prop
  | [] => x = x0
  | z :: _ => z.2 = x0
theorem Since.undo {x0 x y : LS} {cs : List (LOp × LS)} {o : LOp} (h : Since x0 x (cs ++ [(o, y)])) : Since x0 y cs := by
  cases cs with
  | nil => exact h
  | cons z cs => exact h
theorem acost_add (n k l : Nat) : acost n k + acost (n + k) l = acost n (k + l) := by
  unfold acost
  rw [← Nat.add_assoc]
  omega
end LT

namespace LT
open PySem PySem.Spec PyProof.Rows L2
/-! ### a def with *rest: the arguments behind the first come as a tuple -/
def BindsV (fd : FuncData) (p1 p2 : Str) (n : Nat) : Prop :=
  ∀ (u : Value) (rest : List Value), rest.length = n → bindArgs fd ⟨u :: rest, []⟩ = (newTuple rest >>= fun t => pure [(p1, u), (p2, t)])
/-- what a def with *rest promises, for n arguments behind the first -/
def FnOkV (P : Program) (w : World) (K : PySem.W.Frag) (mg : Str → Option Value) (base : Heap) (CX : CXT) (k : Nat) (f : Addr) (n : Nat) (sp : Sp) : Prop :=
  ∀ (A : Around) (outer : List Env) (s : Shared) (H H1 : Hp) (u : Value) (rest : List Value) (v : V) (Q : VK) (E : XK), Room k A → rest.length = n → n ≤ sizeLine → Env0 P w K mg base A outer s H →
    Env0 P w K mg base A outer { s with heap := s.heap.push { cls := .type "tuple", data := .seq rest.toArray } } H1 → RelV v u → sp [v, .ref s.heap.objs.size] H1 Q E →
    codeAny (model P w) A (.call (.ref f) ⟨u :: rest, []⟩) (CR CX outer P w H1 { s with heap := s.heap.push { cls := .type "tuple", data := .seq rest.toArray } } Q E) s
theorem fnV_of {CX : CXT} {P : Program} {w : World} {K : PySem.W.Frag} {mg : Str → Option Value} {base : Heap} {k n : Nat} {f : Addr} {name qual : Str} {params : Arguments} {body : List Stmt} {scope : Scope} {dV kV doc pm cdv ct oc : Value} {an od : Option Addr}
    {osl : Array (Option Value)} {N : List Str} {p1 p2 : Str} {sp : Sp} (lk : K.lookup f = some ⟨oc, od, .func (PySem.W.fnOf name qual params body scope dV kV doc pm an cdv ct), osl⟩) (hcd : PySem.W.codeIn K cdv qual = true) (S : FnScope N [p1, p2] scope)
    (hb : BindsV (PySem.W.fnOf name qual params body scope dV kV doc pm an cdv ct) p1 p2 n)
    (hbody : ∀ (A : Around) (outer : List Env) (s : Shared) (H : Hp) (vs : List V) (Q : VK) (E : XK), Room k (A.deeper (envOfC qual scope s.heap.objs.size f cdv)) → sp vs H Q E →
      ∃ t, PSs (cxOf CX P w K mg base N qual scope f cdv A outer s H E) body t ∧ t { nx := fun _ H' => Q .non H', rt := Q } (start N vs) H) :
    FnOkV P w K mg base CX (k + 1) f n sp := by
  intro A outer s0 H0 H1 u rest v Q E hr hn hz e00 e0 rv hsp
  have KX0 : K.In s0.heap := e00.mod.kin.keeps fun b o e => (e00.bs b o e).1
  refine codeAny_call_function hr.depth (KX0 _ _ lk) rfl S.co S.gen rfl (PySem.W.codeRec_of KX0 hcd) ?_
  rw [hb u rest hn]
  refine wpAny_bind (wpAny_newTuple (wpAny_pure ?_) (by rw [hn]; exact hz))
  have rt : RelV (V.ref s0.heap.objs.size) (Value.ref s0.heap.objs.size) := rfl
  revert e0 rt hsp
  generalize ({ s0 with heap := s0.heap.push { cls := .type "tuple", data := .seq rest.toArray } } : Shared) = s
  generalize V.ref s0.heap.objs.size = vt
  generalize Value.ref s0.heap.objs.size = ut
  intro e0 hsp rt
  have r : Vals [v, vt] [u, ut] := .cons rv (.cons rt .nil)
  have KX : K.In s.heap := e0.mod.kin.keeps fun b o e => (e0.bs b o e).1
  have lim : s.heap.NoLimit := e0.mod.nolimit.keeps fun b o e => (e0.bs b o e).1
  have hkind : ∀ y ∈ [p1, p2].zip [u, ut], scope.names.lookup y.1 = some .local ∨ (scope.names.lookup y.1 = some .cell ∧ ((cellsFrom (s.heap.objs.size + 1) scope.names []).lookup y.1).isSome = true) := fun ⟨n, v⟩ hy => by
    rcases S.par n (List.of_mem_zip hy).1 with q | q
    · exact .inl q
    · exact .inr ⟨q, PySem.W.cellsFrom_some _ _ _ (.inl q)⟩
  refine wpAny_newFunctionEnv_cells (binds := [p1, p2].zip [u, ut]) S.kind hkind fun env he s1 x => ?_
  subst he
  refine ⟨lim.keeps x.toInCall.keep, codeAny_func ?_⟩
  obtain ⟨t, ht, hq⟩ := hbody A outer s H1 [v, vt] Q E (hr.deeper _) hsp
  have I : Inv (cxOf CX P w K mg base N qual scope f cdv A outer s H1 E) [] (start N [v, vt]) H1 s1 := inv_start S hr.hd e0 rfl r x
  refine wpAny_mono (ht.run [] s1 (start N [v, vt]) H1 _ I hq) (fun fl s' hs => ?_) fun e s' hs => hs
  have fin : ∀ {σ' : L2.St} {H' : Hp} {v : V} {u : Value}, Inv (cxOf CX P w K mg base N qual scope f cdv A outer s H1 E) [] σ' H' s' → RelV v u → Q v H' → CE outer P w H1 s Q u s' :=
    fun {σ' H' v u} J rv q => ⟨v, H', J.os, J.bare, J.base, J.hok, rv, q⟩
  cases fl with
  | ret u =>
    obtain ⟨v, σ', H', J, rv, q⟩ := hs
    exact fin J rv q
  | next =>
    obtain ⟨σ', H', J, q⟩ := hs
    exact fin (v := V.non) (u := Value.none) J rfl q
  | brk =>
    obtain ⟨_, _, _, q⟩ := hs
    exact False.elim q
  | cont =>
    obtain ⟨_, _, _, q⟩ := hs
    exact False.elim q
/-- the rule for a def with *rest -/
theorem okV {P : Program} {w : World} {K : PySem.W.Frag} {mg : Str → Option Value} {base : Heap} {x qual : Str} {st : Stmt} {f : Addr} {fd : FuncData} {N : List Str} {p1 p2 : Str} {k n : Nat} {sp : Sp} (F : Fun K x qual st f fd) (S : FnScope N [p1, p2] (defScope st)) (hb : BindsV fd p1 p2 n)
    (hbody : ∀ (cdv : Value) (A : Around) (outer : List Env) (s : Shared) (H : Hp) (vs : List V) (Q : VK) (E : XK), Room k (A.deeper (envOfC qual (defScope st) s.heap.objs.size f cdv)) → sp vs H Q E →
      ∃ t, PSs (cxOf CX0 P w K mg base N qual (defScope st) f cdv A outer s H E).nox (defBody st) t ∧ t { nx := fun _ H' => Q .non H', rt := Q } (start N vs) H) : FnOkV P w K mg base CX0 (k + 1) f n sp := by
  obtain ⟨oc, od, kV, doc, pm, an, cdv, ct, osl, rfl, lk, hcd⟩ := F.ex
  refine fnV_of lk hcd S hb fun A outer s H vs Q E hr hsp => ?_
  obtain ⟨t, h, q⟩ := hbody cdv A outer s H vs Q E hr hsp
  exact ⟨t, h.nox, q⟩
/-- how its arguments bind -/
theorem Fun.bindsV {K : PySem.W.Frag} {x qual : Str} {st : Stmt} {f : Addr} {fd : FuncData} {p1 p2 : Str} {n : Nat} (F : Fun K x qual st f fd)
    (h : ∀ (kV doc pm : Value) (an : Option Addr) (cdv ct : Value), BindsV (PySem.W.fnOf x qual (defArgs st) (defBody st) (defScope st) .none kV doc pm an cdv ct) p1 p2 n) : BindsV fd p1 p2 n := by
  obtain ⟨oc, od, kV, doc, pm, an, cdv, ct, osl, rfl, lk, hcd⟩ := F.ex
  exact h kV doc pm an cdv ct
section
variable {X : Cx} {CX : CXT} {k : Nat} {f C : Addr} {sp : Sp} {E : XK} {m : Str} {pos apos : Pos} {e o : Expr} {es : List Expr} {ta : TE} {t : TA}
/-- o.m(e, ..) of a method with *rest -/
def tMethV (C : Addr) (m : Str) (n : Nat) (sp : Sp) (E : XK) (ta : TE) (t : TA) : TE := fun σ H Q => ta σ H fun x H1 => ∃ a dx fs, x = .ref a ∧ H1 a = some (.ins C dx fs) ∧ fs.lookup m = none ∧
  t σ H1 fun vs H2 => vs.length = n ∧ ∀ tp, H2 tp = none → sp [x, .ref tp] (upd H2 tp (.tup vs)) Q E
theorem pe_methV {pl : Sem Bool} {n : Nat} (he : PE X o ta) (c : Cls X.K C) (hm : Meth X.K C m f) (F : FnOkV X.prog X.w X.K X.mg X.base CX k f n sp) (hr : Room k X.A) (hz : n ≤ sizeLine) (hx : Passes CX X E) (ha : PA X (e :: es) t)
    (hst : starEach (e :: es) X.env = (false, eval e X.env) :: starEach es X.env := by rfl) (hpl : (backTo pos (starEach es X.env)).any (·.1) = false := by rfl)
    (ht : eval (.Call (.Attribute o m apos) (e :: es) [] pos) X.env = (do
      let ov ← eval o X.env
      standAt apos.atName
      let (f, first) ← holding [ov] (getMethod ov m pl)
      callWith pos f first (backTo pos (starEach (e :: es) X.env)) (backToKw pos (keywordEach [] X.env))) := by rfl) :
    PE X (.Call (.Attribute o m apos) (e :: es) [] pos) (tMethV C m n sp E ta t) := by
  refine ⟨fun pins s σ H Q I h => ?_⟩
  refine PySem.W.methodCall_KW (pl := pl) (thn (he.run pins s σ H _ I h) fun u s1 ⟨x, H1, I1, rx, a, dx, fs, ex, ea, l, q⟩ => ?_) ht
  subst ex
  obtain rfl : u = Value.ref a := rx
  refine getmeth_ok I1 ea c hm l ?_
  refine PySem.W.callWith_K (first := [.ref a]) (h₀ := X.base) I.ok.mod.kin hm.kp (thn (ha.run pos pins s1 σ H1 _ I1 q) fun us s2 ⟨vs, H2, I2, r, hl, q2⟩ => ⟨I2.kIn, ?_⟩) hst hpl
  have hf : H2 s2.heap.objs.size = none := I2.hok.fresh (Nat.le_refl _)
  have ul : us.length = n := by rw [← r.length]; exact hl
  have I3 : Inv X pins σ (upd H2 s2.heap.objs.size (.tup vs)) { s2 with heap := s2.heap.push { cls := .type "tuple", data := .seq us.toArray } } :=
    I2.laid (t' := s2.toks) (fun b u e => Heap.get?_push_of_some _ e) (Nat.le_refl _) ⟨by rw [hl]; exact hz, us, r, ⟨_, Heap.get?_push_size _ rfl, rfl, _, rfl⟩⟩
  refine wpAny_call (codeAny_mono (F X.A X.stack s2 H2 _ (.ref a) us (.ref a) Q E hr ul hz I2.env0 I3.env0 rfl (q2 _ hf)) fun r s' hq => ?_)
  cases r with
  | error e => exact hx pins σ _ _ e s' I3 hq
  | ok fl =>
    cases fl with
    | ret u => exact I3.after hq
    | next => exact False.elim hq
    | brk => exact False.elim hq
    | cont => exact False.elim hq
end
end LT

namespace LT
open PySem PySem.Spec PyProof.Rows L2
/-- x in D, D a written dict of the module -/
def rInK (K : PySem.W.Frag) (w : World) : R2 := fun x y H Q => ∃ (p : Addr) (z : Str) (v : V), x = .str z ∧ y = .ref p ∧ (p == sysModules) = false ∧ KDct K w p z v ∧ Q (.bl true) H
theorem op_inK {X : Cx} : OpR X (compareOp .In) (rInK X.K X.w) := by
  intro pins s σ H x y v u Q I rx ry h
  obtain ⟨p, z, r, rfl, rfl, hs, ⟨es, n, u0, hl, hk, e, ru⟩, q⟩ := h
  obtain rfl : u = Value.ref p := ry
  obtain ⟨t, rfl⟩ := rx
  have hm := PySem.W.mapOf_K (prog := X.prog) (w := X.w) I.kIn hl hk
  refine wpAny_in_of (strKind_is X.prog X.w z t) hs hm ?_
  rw [PySem.W.find_K hl e]
  exact ⟨.bl true, H, I.tok _, rfl, q⟩
/-- a call's word and how many parameters it has -/
structure Pars (K : PySem.W.Frag) (w : World) (D : Addr) : Prop where
  low : (D == sysModules) = false
  app : KDct K w D "append" (.int 1)
  mark : KDct K w D "mark" (.int 0)
  cut : KDct K w D "cut" (.int 1)
def lafters (x : LS) : List LOp → LS
  | [] => x
  | o :: os => lafters (lafter x o) os
def Goods (x : LS) : List LOp → Prop
  | [] => True
  | o :: os => lgood x ∧ lok x o ∧ Goods (lafter x o) os
theorem lafters_at : ∀ {os : List LOp} {i : Nat} {o : LOp} (x : LS), os[i]? = some o → lafters x (os.take (i + 1)) = lafter (lafters x (os.take i)) o
  | [], i, o, x, h => by simp at h
  | a :: os, 0, o, x, h => by
    have h : a = o := Option.some.inj h
    subst h
    rfl
  | a :: os, i + 1, o, x, h => lafters_at (os := os) (lafter x a) (show os[i]? = some o from h)
theorem goods_at : ∀ {os : List LOp} {i : Nat} {o : LOp} {x : LS}, Goods x os → os[i]? = some o → lgood (lafters x (os.take i)) ∧ lok (lafters x (os.take i)) o
  | [], i, o, x, _, h => by simp at h
  | a :: os, 0, o, x, g, h => by
    have h : a = o := Option.some.inj h
    subst h
    exact ⟨g.1, g.2.1⟩
  | a :: os, i + 1, o, x, g, h => goods_at (os := os) g.2.2 (show os[i]? = some o from h)
section
variable {P : Program} {w : World} {K : PySem.W.Frag} {mg : Str → Option Value} {base : Heap}
def spIsOp : Sp := fun vs H Q _ => ∃ (v : V) (o : LOp), vs = [v] ∧ OpAt H v o ∧ Q (.bl true) H
theorem ok_is_operation {f DPARAMETERS : Addr} {fd : FuncData} (F : Fun K "_is_operation" "_is_operation" sIsOperation f fd) (gPARAMETERS : mg "PARAMETERS" = some (.ref DPARAMETERS)) (TP : Pars K w DPARAMETERS)
    (z_isinstance : mg "isinstance" = none) (z_tuple : mg "tuple" = none) (z_str : mg "str" = none) (z_len : mg "len" = none) : FnOk P w K mg base CX0 1 f fd ["value"] spIsOp := by
  refine F.ok scIsOperation (fun vs H Q E h => ?_) (fun cdv A outer s H vs Q E hr h => ?_)
  · obtain ⟨_, _, rfl, _⟩ := h
    rfl
  obtain ⟨v, o, rfl, ho, q⟩ := h
  refine ⟨_, (pss_cons (ps_if (PW.pt (pw_or (pt_not (pt_val (pe_callB call_isi (by rfl) z_isinstance (by decide +kernel) (pa_cons (pv 0) (pa_cons (pe_bltn (v := .ty "tuple") (u := .type "tuple") (by rfl) z_tuple (by decide +kernel) rfl) pa_nil))))) (pw_or (pt_cmpR op_eq (pe_callB call_len_seq (by rfl) z_len PySem.boot_len (pa_cons (pv 0) pa_nil)) pe_int (nomark _)) (pw_or1 (pt_not (pt_val (pe_callB call_isi (by rfl) z_isinstance (by decide +kernel) (pa_cons (pe_ix ix_tup (pv 0) pe_int (fun _ _ => rfl)) (pa_cons (pe_bltn (v := .ty "str") (u := .type "str") (by rfl) z_str (by decide +kernel) rfl) pa_nil)))))))))
    (pss_one (ps_ret pe_bl))
    pss_nil)
    (pss_one (ps_ret (pe_and (pe_cmpR op_inK (pe_ix ix_tup (pv 0) pe_int (fun _ _ => rfl)) (pe_glob (v := .ref DPARAMETERS) rfl gPARAMETERS rfl) (by rfl)) (pe_one (pe_cmpR op_eq (pe_callB call_len_seq (by rfl) z_len PySem.boot_len (pa_cons (pv 0) pa_nil)) (pe_op op_add pe_int (pe_ix ix_kdict (pe_glob (v := .ref DPARAMETERS) rfl gPARAMETERS rfl) (pe_ix ix_tup (pv 0) pe_int (fun _ _ => rfl)) (fun _ _ => rfl))) (nomark _))))))), ?_⟩
  cases o with
  | app k =>
    obtain ⟨ot, rfl, hot⟩ := ho
    refine ⟨_, rfl, _, _, _, _, true, rfl, .ty "tuple", .base (.tup hot), kit_ty (by decide +kernel), true, rfl, ?_⟩
    refine ⟨_, rfl, ot, _, rfl, .inr (SqT.of hot), rfl, false, rfl, ?_⟩
    refine ⟨_, rfl, ot, _, _, _, rfl, rfl, SqT.of hot, atI_nat (j := 0) rfl, _, _, _, _, true, rfl, .ty "str", .base (.str _), kit_ty (by decide +kernel), true, rfl, ?_⟩
    refine ⟨_, rfl, ot, _, _, _, rfl, rfl, SqT.of hot, atI_nat (j := 0) rfl, _, _, _, rfl, rfl, TP.low, TP.app, true, rfl, ?_⟩
    refine ⟨_, rfl, ot, _, rfl, .inr (SqT.of hot), _, rfl, ot, _, _, _, rfl, rfl, SqT.of hot, atI_nat (j := 0) rfl, _, _, _, rfl, rfl, TP.app, _, _, rfl, rfl, rfl, ?_⟩
    exact q
  | cut k =>
    obtain ⟨ot, rfl, hot⟩ := ho
    refine ⟨_, rfl, _, _, _, _, true, rfl, .ty "tuple", .base (.tup hot), kit_ty (by decide +kernel), true, rfl, ?_⟩
    refine ⟨_, rfl, ot, _, rfl, .inr (SqT.of hot), rfl, false, rfl, ?_⟩
    refine ⟨_, rfl, ot, _, _, _, rfl, rfl, SqT.of hot, atI_nat (j := 0) rfl, _, _, _, _, true, rfl, .ty "str", .base (.str _), kit_ty (by decide +kernel), true, rfl, ?_⟩
    refine ⟨_, rfl, ot, _, _, _, rfl, rfl, SqT.of hot, atI_nat (j := 0) rfl, _, _, _, rfl, rfl, TP.low, TP.cut, true, rfl, ?_⟩
    refine ⟨_, rfl, ot, _, rfl, .inr (SqT.of hot), _, rfl, ot, _, _, _, rfl, rfl, SqT.of hot, atI_nat (j := 0) rfl, _, _, _, rfl, rfl, TP.cut, _, _, rfl, rfl, rfl, ?_⟩
    exact q
  | mark =>
    obtain ⟨ot, rfl, hot⟩ := ho
    refine ⟨_, rfl, _, _, _, _, true, rfl, .ty "tuple", .base (.tup hot), kit_ty (by decide +kernel), true, rfl, ?_⟩
    refine ⟨_, rfl, ot, _, rfl, .inr (SqT.of hot), rfl, false, rfl, ?_⟩
    refine ⟨_, rfl, ot, _, _, _, rfl, rfl, SqT.of hot, atI_nat (j := 0) rfl, _, _, _, _, true, rfl, .ty "str", .base (.str _), kit_ty (by decide +kernel), true, rfl, ?_⟩
    refine ⟨_, rfl, ot, _, _, _, rfl, rfl, SqT.of hot, atI_nat (j := 0) rfl, _, _, _, rfl, rfl, TP.low, TP.mark, true, rfl, ?_⟩
    refine ⟨_, rfl, ot, _, rfl, .inr (SqT.of hot), _, rfl, ot, _, _, _, rfl, rfl, SqT.of hot, atI_nat (j := 0) rfl, _, _, _, rfl, rfl, TP.mark, _, _, rfl, rfl, rfl, ?_⟩
    exact q
def spPreview (C : Addr) : Sp := fun vs H Q _ => ∃ (p c tp : Addr) (x : LS) (cs : List (LOp × LS)) (us : List V) (os : List LOp), vs = [.ref p, .ref tp] ∧ LogAt C H p c x cs ∧ H tp = some (.tup us) ∧ All2 (OpAt H) us os ∧ Goods x os ∧
  ∀ (H' : Hp), Same H H' → Q (.int (lafters x os).2.2) H'
theorem ok_log_preview {n : Nat} {f g1 g2 C : Addr} {fd d1 d2 : FuncData} (F : Fun K "preview" "LiveLog.preview" sLiveLogPreview f fd) (hb : BindsV fd "self" "operations" n) (TLiveLog : TLog K C)
    (GIsOperation : FnOk P w K mg base CX0 1 g1 d1 ["value"] spIsOp) (AIsOperation : At K mg "_is_operation" g1 d1 ["value"])
    (GLiveLogBehind : FnOk P w K mg base CX0 9 g2 d2 ["self", "state", "operation"] spBehind) (MLiveLogBehind : Meth K C "_behind" g2) (BLiveLogBehind : Binds K d2 ["self", "state", "operation"] []) : FnOkV P w K mg base CX0 11 f n (spPreview C) := by
  refine okV F scLiveLogPreview hb (fun cdv A outer s H vs Q E hr h => ?_)
  obtain ⟨p, c, tp, x, cs, us, os, rfl, hL, htp, hus, hg, q⟩ := h
  refine ⟨_, (pss_cons (ps_for PassesOwn.never rfl (pi_tup (pv 1)) (pg_name (i := 2) scLiveLogPreview.nd rfl (Or.inl rfl))
    (pss_one (ps_if (pt_not (pt_val (pe_call GIsOperation (hr.mono (by decide)) rfl AIsOperation.m AIsOperation.kp AIsOperation.b .nil pass0 (pa_cons (pv 2) pa_nil))))
    (pss_one ps_never)
    pss_nil)))
    (pss_cons (ps_set (i := 3) scLiveLogPreview.nd rfl (Or.inl rfl) (pe_fld (pv 0) rfl))
    (pss_cons (ps_for PassesOwn.never rfl (pi_tup (pv 1)) (pg_name (i := 2) scLiveLogPreview.nd rfl (Or.inl rfl))
    (pss_one (ps_set (i := 3) scLiveLogPreview.nd rfl (Or.inl rfl) (pe_meth (pv 0) TLiveLog.cl MLiveLogBehind GLiveLogBehind (hr.mono (by decide)) BLiveLogBehind .nil pass0 (pa_cons (pv 3) (pa_cons (pv 2) pa_nil))))))
    (pss_one (ps_ret (pe_ix ix_tup (pv 3) pe_int (fun _ _ => rfl))))))), ?_⟩
  obtain ⟨dx, sv, vs, hp, hst, hc, hcs⟩ := id hL
  refine ⟨_, rfl, tp, rfl, ⟨_, SqT.of htp⟩, ?_⟩
  refine for_tup (K := K) (a := tp) (xs := us) (fun i σ H' => ∃ v2 : Option V, σ = [some (.ref p), some (.ref tp), v2, none] ∧ H' = H) ⟨none, rfl, rfl⟩ (fun i σ H' _ ⟨_, _, e⟩ => by rw [e]; exact SqT.of htp) ?_ ?_
  · rintro i v σ H' hi ⟨v2, rfl, rfl⟩
    obtain ⟨o, ho, hvo⟩ := hus.nth hi
    exact ⟨_, rfl, v, o, rfl, hvo, true, rfl, _, rfl, rfl⟩
  rintro σ H' ⟨v2, rfl, rfl⟩
  refine ⟨_, rfl, p, C, dx, _, _, rfl, hp, TLiveLog.cl, TLiveLog.nS, fldsL_state _ _, ?_⟩
  refine ⟨_, rfl, tp, rfl, ⟨_, SqT.of htp⟩, ?_⟩
  refine for_tup (K := K) (a := tp) (xs := us) (fun i σ H1 => ∃ (v2 : Option V) (s1 : V), σ = [some (.ref p), some (.ref tp), v2, some s1] ∧ Same H' H1 ∧ StAt H1 s1 (lafters x (os.take i))) ⟨_, _, rfl, Same.refl _, hst⟩ (fun i σ H1 _ ⟨_, _, _, e, _⟩ => SqT.of (e _ _ htp)) ?_ ?_
  · rintro i v σ H1 hi ⟨v2, s1, rfl, sm, hs1⟩
    obtain ⟨o, ho, hvo⟩ := hus.nth hi
    obtain ⟨g1, g2⟩ := goods_at hg ho
    refine ⟨_, rfl, p, dx, _, rfl, sm _ _ hp, fldsL_no _ _ no_behind.1 no_behind.2, _, rfl, _, rfl, _, s1, v, _, o, rfl, hs1, hvo.same sm, g1, g2, fun H2 r s2 hr => ?_⟩
    refine ⟨_, _, rfl, sm.trans s2, ?_⟩
    rw [lafters_at x ho]
    exact hr
  · rintro σ H1 ⟨v2, s1, rfl, sm, hs1⟩
    rw [hus.len, List.take_length] at hs1
    obtain ⟨t, m, rfl, ht, _⟩ := hs1
    exact ⟨_, rfl, t, _, _, _, rfl, rfl, SqT.of ht, atI_nat (j := 2) rfl, q _ sm⟩
end
end LT

namespace LT
open PySem PySem.Spec PyProof.Rows L2
theorem preview1 (kV doc pm : Value) (an : Option Addr) (cdv ct : Value) : BindsV (PySem.W.fnOf "preview" "LiveLog.preview" (defArgs sLiveLogPreview) (defBody sLiveLogPreview) (defScope sLiveLogPreview) .none kV doc pm an cdv ct) "self" "operations" 1 :=
  fun u rest hl => match rest, hl with | [_], _ => rfl
theorem preview2 (kV doc pm : Value) (an : Option Addr) (cdv ct : Value) : BindsV (PySem.W.fnOf "preview" "LiveLog.preview" (defArgs sLiveLogPreview) (defBody sLiveLogPreview) (defScope sLiveLogPreview) .none kV doc pm an cdv ct) "self" "operations" 2 :=
  fun u rest hl => match rest, hl with | [_, _], _ => rfl
end LT

namespace LT
open PySem PySem.Spec PyProof.Rows L2
/-- x == y by the own __eq__ of x's class, whatever it answers; y an instance or an int -/
def rEqO (K : PySem.W.Frag) (C : Addr) (sp : Sp) (E : XK) : R2 := fun x y H Q => ∃ (a dx : Addr) (fs : List (Str × V)), x = .ref a ∧ H a = some (.ins C dx fs) ∧
  ((∃ (b D dy : Addr) (gs : List (Str × V)), y = .ref b ∧ H b = some (.ins D dy gs) ∧ PySem.W.notFirst K C (.ref D) = true) ∨ (∃ i : Int, y = .int i ∧ PySem.W.notFirst K C (.type "int") = true)) ∧
  sp [x, y] H (fun v H' => ∃ c : Bool, v = .bl c ∧ Q (.bl c) H') E
theorem notFirst_self {K : PySem.W.Frag} {C : Addr} : PySem.W.notFirst K C (.ref C) = true := by simp [PySem.W.notFirst]
section
variable {X : Cx} {CX : CXT} {n : Nat} {f C : Addr} {fd : FuncData} {ps : List Str} {sp : Sp} {E : XK}
theorem op_eqO (F : FnOk X.prog X.w X.K X.mg X.base CX n f fd ps sp) (hs : PySem.W.findIn X.K (.ref C) "__eq__" = some (some (.ref f))) (hf : PySem.W.isFn X.K (.ref f) = true) (hb : Binds X.K fd ps []) (hx : Passes CX X E) (hr : Room n X.A) : OpR X (compareOp .Eq) (rEqO X.K C sp E) := by
  intro pins s σ H x y v u Q I rx ry h
  obtain ⟨a, dx, fs, rfl, ha, hy, q⟩ := h
  cases rx
  show wpAny (model X.prog X.w) X.A (richCompare .Eq (.ref a) u) (EP X pins σ Q) X.xe s
  obtain ⟨mA, J, _⟩ := ins_get I.hok ha
  obtain ⟨od, J, _⟩ := J.look
  obtain ⟨m, hF⟩ := I.fr
  have go : wpAny (model X.prog X.w) X.A (call (.ref f) [.ref a, u]) (PySem.W.CmpBack (EP X pins σ Q)) X.xe s := by
    refine wpAny_mono (run_fn (us := [.ref a, u]) (vs := [.ref a, y]) (dvs := []) (ds := []) F hr hb .nil hx I (.cons rfl (.cons ry .nil)) q) (fun r s' z => ?_) fun _ _ e => e
    obtain ⟨w, H', I', rw', qq⟩ := z
    obtain ⟨c, ew, q'⟩ := qq
    have e : r = Value.bool c := by
      rw [ew] at rw'
      exact rw'
    rw [e]
    exact ⟨.bl c, H', I', rfl, q'⟩
  rcases hy with ⟨b, D, dy, gs, rfl, hb', hn⟩ | ⟨i, rfl, hn⟩
  · cases ry
    obtain ⟨mB, J', _⟩ := ins_get I.hok hb'
    obtain ⟨od', J', _⟩ := J'.look
    exact PySem.W.cmp_K (op := .Eq) (tb := .ref D) hr.units0 hF I.ok.mod.kin J J'.type hn hs hf go
  · obtain ⟨t, rfl⟩ := ry
    exact PySem.W.cmp_K (op := .Eq) (tb := .type "int") hr.units0 hF I.ok.mod.kin J (PySem.W.Looks.of_pure rfl) hn hs hf go
end
end LT

namespace LT
open PySem PySem.Spec PyProof.Rows L2
section
variable {P : Program} {w : World} {K : PySem.W.Frag} {mg : Str → Option Value} {base : Heap}
def spCost : Sp := fun vs H Q _ => ∃ (n k : Nat), vs = [.int n, .int k] ∧ n + k ≤ 10 ^ 30 ∧ Q (.int (acost n k)) H
theorem ok_law_cost {f g : Addr} {fd gd : FuncData} (F : Fun K "_law_cost" "_law_cost" sLawCost f fd) (GLawOnes : FnOk P w K mg base CX0 1 g gd ["number"] spOnes) (ALawOnes : At K mg "_law_ones" g gd ["number"]) : FnOk P w K mg base CX0 2 f fd ["size_here", "number"] spCost := by
  refine F.ok scLawCost (fun vs H Q E h => ?_) (fun cdv A outer s H vs Q E hr h => ?_)
  · obtain ⟨_, _, rfl, _⟩ := h
    rfl
  obtain ⟨n, k, rfl, h30, q⟩ := h
  refine ⟨_, (pss_one (ps_ret (pe_op op_add (pe_op op_sub (pv 1) (pe_call GLawOnes (hr.mono (by decide)) rfl ALawOnes.m ALawOnes.kp ALawOnes.b .nil pass0 (pa_cons (pe_op op_add (pv 0) (pv 1)) pa_nil))) (pe_call GLawOnes (hr.mono (by decide)) rfl ALawOnes.m ALawOnes.kp ALawOnes.b .nil pass0 (pa_cons (pv 0) pa_nil))))), ?_⟩
  have big : (10 : Nat) ^ 30 < 2 ^ 200 := by decide
  exact ⟨_, rfl, _, rfl, _, rfl, _, _, rfl, rfl, n + k, rfl, by omega, _, _, rfl, rfl, _, rfl, n, rfl, by omega, _, _, rfl, rfl, q⟩
end
end LT

namespace LT
open PySem PySem.Spec PyProof.Rows L2
/-- a state as the law keeps it: with a list of the marks -/
def LSt (H : Hp) (t m : Addr) (x : LS) : Prop := H t = some (.tup [.int (x.1 : Int), .ref m, .int x.2.2]) ∧ H m = some (.lst (natsV x.2.1))
section
variable {P : Program} {w : World} {K : PySem.W.Frag} {mg : Str → Option Value} {base : Heap}
def spCalled (C : Addr) : Sp := fun vs H Q _ => ∃ (p c : Addr) (x : LS) (cs : List (LOp × LS)) (v : V) (o : LOp), vs = [.ref p, v] ∧ LogAt C H p c x cs ∧ OpAt H v o ∧ lgood x ∧ lok x o ∧ cs.length ≤ 1000 ∧
  ∀ (H' : Hp), ButL p c H H' → LogAt C H' p c (lafter x o) (cs ++ [(o, x)]) → Q .non H'
theorem ok_law_called {f g1 g2 g3 C : Addr} {fd d1 d2 d3 : FuncData} (F : Fun K "_law_called" "_law_called" sLawCalled f fd) (TLiveLog : TLog K C)
    (GLiveLogMark : FnOk P w K mg base CX0 11 g1 d1 ["self"] (spCallL C (fun _ => .mark) true)) (MLiveLogMark : Meth K C "mark" g1) (BLiveLogMark : Binds K d1 ["self"] [])
    (GLiveLogAppend : FnOk P w K mg base CX0 11 g2 d2 ["self", "number"] (spCallL C .app false)) (MLiveLogAppend : Meth K C "append" g2) (BLiveLogAppend : Binds K d2 ["self", "number"] [])
    (GLiveLogCut : FnOk P w K mg base CX0 11 g3 d3 ["self", "size"] (spCallL C .cut false)) (MLiveLogCut : Meth K C "cut" g3) (BLiveLogCut : Binds K d3 ["self", "size"] []) : FnOk P w K mg base CX0 12 f fd ["live", "step"] (spCalled C) := by
  refine F.ok scLawCalled (fun vs H Q E h => ?_) (fun cdv A outer s H vs Q E hr h => ?_)
  · obtain ⟨_, _, _, _, _, _, rfl, _⟩ := h
    rfl
  obtain ⟨p, c, x, cs, v, o, rfl, hL, ho, hg, hok, hl, q⟩ := h
  refine ⟨_, (pss_cons (ps_if (pt_cmpR op_eq (pe_ix ix_tup (pv 1) pe_int (fun _ _ => rfl)) pe_str (nomark _))
    (pss_one (ps_ret (pe_meth (pv 0) TLiveLog.cl MLiveLogAppend GLiveLogAppend (hr.mono (by decide)) BLiveLogAppend .nil pass0 (pa_cons (pe_ix ix_tup (pv 1) pe_int (fun _ _ => rfl)) pa_nil))))
    pss_nil)
    (pss_cons (ps_if (pt_cmpR op_eq (pe_ix ix_tup (pv 1) pe_int (fun _ _ => rfl)) pe_str (nomark _))
    (pss_one (ps_ret (pe_meth0 (pv 0) TLiveLog.cl MLiveLogMark GLiveLogMark (hr.mono (by decide)) BLiveLogMark .nil pass0)))
    pss_nil)
    (pss_one (ps_ret (pe_meth (pv 0) TLiveLog.cl MLiveLogCut GLiveLogCut (hr.mono (by decide)) BLiveLogCut .nil pass0 (pa_cons (pe_ix ix_tup (pv 1) pe_int (fun _ _ => rfl)) pa_nil)))))), ?_⟩
  obtain ⟨dx, fs, hp, hno, _⟩ := hL.lst
  cases o with
  | app k =>
    obtain ⟨ot, rfl, hot⟩ := ho
    refine ⟨_, rfl, ot, _, _, _, rfl, rfl, SqT.of hot, atI_nat (j := 0) rfl, rfl, true, rfl, ?_⟩
    refine ⟨_, rfl, p, dx, fs, rfl, hp, hno _ no_append, _, rfl, ot, _, _, _, rfl, rfl, SqT.of hot, atI_nat (j := 1) rfl, ?_⟩
    exact ⟨p, c, x, cs, k, rfl, hL, hg, hok, hl, q⟩
  | cut k =>
    obtain ⟨ot, rfl, hot⟩ := ho
    refine ⟨_, rfl, ot, _, _, _, rfl, rfl, SqT.of hot, atI_nat (j := 0) rfl, rfl, false, str_no ne_cut, ?_⟩
    refine ⟨_, rfl, ot, _, _, _, rfl, rfl, SqT.of hot, atI_nat (j := 0) rfl, rfl, false, str_no (fun z => ne_mark2 z.symm), ?_⟩
    refine ⟨_, rfl, p, dx, fs, rfl, hp, hno _ no_cut, _, rfl, ot, _, _, _, rfl, rfl, SqT.of hot, atI_nat (j := 1) rfl, ?_⟩
    exact ⟨p, c, x, cs, k, rfl, hL, hg, hok, hl, q⟩
  | mark =>
    obtain ⟨ot, rfl, hot⟩ := ho
    refine ⟨_, rfl, ot, _, _, _, rfl, rfl, SqT.of hot, atI_nat (j := 0) rfl, rfl, false, str_no ne_mark, ?_⟩
    refine ⟨_, rfl, ot, _, _, _, rfl, rfl, SqT.of hot, atI_nat (j := 0) rfl, rfl, true, rfl, ?_⟩
    refine ⟨_, rfl, p, dx, fs, rfl, hp, hno _ no_mark, ?_⟩
    exact ⟨p, c, x, cs, 0, rfl, hL, hg, hok, hl, q⟩
def spTold (C : Addr) : Sp := fun vs H Q _ => ∃ (p c : Addr) (x : LS) (cs : List (LOp × LS)), vs = [.ref p] ∧ LogAt C H p c x cs ∧ ∀ (H' : Hp) (t m : Addr), Same H H' → LSt H' t m x → Q (.ref t) H'
theorem ok_law_told {f g1 g2 g3 C p1 p2 p3 : Addr} {fd d1 d2 d3 : FuncData} (F : Fun K "_law_told" "_law_told" sLawTold f fd) (TLiveLog : TLog K C)
    (GLiveLogPresent : FnOk P w K mg base CX0 1 g1 d1 ["self"] (spPresent C)) (PLiveLogPresent : PropOf K C "present" p1 g1) (BLiveLogPresent : Binds K d1 ["self"] [])
    (GLiveLogMarks : FnOk P w K mg base CX0 1 g2 d2 ["self"] (spMarks C)) (PLiveLogMarks : PropOf K C "marks" p2 g2) (BLiveLogMarks : Binds K d2 ["self"] [])
    (GLiveLogSpent : FnOk P w K mg base CX0 1 g3 d3 ["self"] (spSpent C)) (PLiveLogSpent : PropOf K C "spent" p3 g3) (BLiveLogSpent : Binds K d3 ["self"] []) : FnOk P w K mg base CX0 3 f fd ["live"] (spTold C) := by
  refine F.ok scLawTold (fun vs H Q E h => ?_) (fun cdv A outer s H vs Q E hr h => ?_)
  · obtain ⟨_, _, _, _, rfl, _⟩ := h
    rfl
  obtain ⟨p, c, x, cs, rfl, hL, q⟩ := h
  refine ⟨_, (pss_one (ps_ret (pe_tup (pa_cons (pe_prop (pv 0) TLiveLog.cl PLiveLogPresent GLiveLogPresent (hr.mono (by decide)) BLiveLogPresent .nil pass0 rfl) (pa_cons (pe_prop (pv 0) TLiveLog.cl PLiveLogMarks GLiveLogMarks (hr.mono (by decide)) BLiveLogMarks .nil pass0 rfl) (pa_cons (pe_prop (pv 0) TLiveLog.cl PLiveLogSpent GLiveLogSpent (hr.mono (by decide)) BLiveLogSpent .nil pass0 rfl) pa_nil)))))), ?_⟩
  obtain ⟨dx, fs, hp, hno, _⟩ := hL.lst
  have three : 3 ≤ sizeLine := by decide
  refine ⟨_, rfl, p, dx, fs, rfl, hp, p, c, x, cs, rfl, hL, _, rfl, p, dx, fs, rfl, hp, p, c, x, cs, rfl, hL, fun H1 m s1 nm hm => ?_⟩
  refine ⟨_, rfl, p, dx, fs, rfl, s1 _ _ hp, p, c, x, cs, rfl, hL.same s1, three, fun t nt => ?_⟩
  have wt := same_upd (o := .tup [.int (x.1 : Int), .ref m, .int x.2.2]) nt
  exact q _ t m (s1.trans wt) ⟨upd_same, wt _ _ hm⟩
def spOperation : Sp := fun vs H Q _ => ∃ (b t m : Addr) (x : LS) (most : Nat), vs = [.ref b, .ref t, .int (most : Int)] ∧ BagAt H b ∧ LSt H t m x ∧ 1 ≤ x.1 ∧ x.1 ≤ 10 ^ 30 ∧ 1 ≤ most ∧ most ≤ 10 ^ 28 ∧
  ∀ (H' : Hp) (v : V) (o : LOp), But b H H' → BagAt H' b → OpAt H' v o → (∀ k, o = .app k → 1 ≤ k ∧ k ≤ most) → (∀ k, o = .cut k → 1 ≤ k ∧ k ≤ x.1) → Q v H'
theorem ok_law_operation {f g1 : Addr} {fd d1 : FuncData} (F : Fun K "_law_operation" "_law_operation" sLawOperation f fd)
    (GLawPick : FnOk P w K mg base CX0 1 g1 d1 ["bag", "many"] spPick) (ALawPick : At K mg "_law_pick" g1 d1 ["bag", "many"]) : FnOk P w K mg base CX0 2 f fd ["bag", "state", "most"] spOperation := by
  refine F.ok scLawOperation (fun vs H Q E h => ?_) (fun cdv A outer s H vs Q E hr h => ?_)
  · obtain ⟨_, _, _, _, _, rfl, _⟩ := h
    rfl
  obtain ⟨b, t, m, x, most, rfl, hb, ⟨ht, hm⟩, x1, x30, m1, m28, q⟩ := h
  refine ⟨_, (pss_cons (ps_par (i := 3) (j := 4) (by rfl) scLawOperation.nd rfl rfl (by decide) rfl rfl (pa_cons (pe_ix ix_tup (pv 1) pe_int (fun _ _ => rfl)) (pa_cons (pe_call GLawPick (hr.mono (by decide)) rfl ALawPick.m ALawPick.kp ALawPick.b .nil pass0 (pa_cons (pv 0) (pa_cons pe_int pa_nil))) pa_nil)) (by rfl))
    (pss_cons (ps_if (pt_cmpR op_lt (pv 4) pe_int (nomark _))
    (pss_one (ps_ret (pe_tup (pa_cons pe_str (pa_cons (pe_op op_add pe_int (pe_call GLawPick (hr.mono (by decide)) rfl ALawPick.m ALawPick.kp ALawPick.b .nil pass0 (pa_cons (pv 0) (pa_cons (pv 2) pa_nil)))) pa_nil)))))
    pss_nil)
    (pss_one (ps_ret (pe_ix ix_list (pe_lst (pa_cons (pe_tup (pa_cons pe_str pa_nil)) (pa_cons (pe_tup (pa_cons pe_str pa_nil)) (pa_cons (pe_tup (pa_cons pe_str (pa_cons (pe_op op_add pe_int (pe_call GLawPick (hr.mono (by decide)) rfl ALawPick.m ALawPick.kp ALawPick.b .nil pass0 (pa_cons (pv 0) (pa_cons (pv 3) pa_nil)))) pa_nil))) pa_nil)))) (pe_op op_sub (pv 4) pe_int) (fun _ _ => rfl)))))), ?_⟩
  have two : 2 ≤ sizeLine := by decide
  have one1 : 1 ≤ sizeLine := by decide
  have three : 3 ≤ sizeLine := by decide
  have d28 : (10 : Nat) ^ 28 < 2 ^ 250 := by decide
  have d30 : (10 : Nat) ^ 30 < 2 ^ 250 := by decide
  refine ⟨_, rfl, t, _, _, _, rfl, rfl, SqT.of ht, atI_nat (j := 0) rfl, _, rfl, b, 5, rfl, by decide, by decide, hb, fun r H1 r0 r1 k1 hb1 => ⟨_, _, rfl, ?_⟩⟩
  have B1 : But b H H1 := fun a o z e => by rw [k1 a z]; exact e
  refine ⟨_, rfl, _, _, rfl, rfl, ?_⟩
  by_cases c : r < 2
  · refine ⟨true, congrArg V.bl (decide_eq_true c), ?_⟩
    refine ⟨_, rfl, _, rfl, b, (most : Int), rfl, by omega, by omega, hb1, fun r2 H2 r20 r21 k2 hb2 => ⟨_, _, rfl, rfl, two, fun v nv => ?_⟩⟩
    have B2 : But b H H2 := fun a o z e => by rw [k2 a z]; exact B1 a o z e
    have wv := same_upd (o := .tup [.str "append", .int (1 + r2)]) nv
    obtain ⟨k, hk⟩ : ∃ k : Nat, 1 + r2 = (k : Int) := ⟨(1 + r2).toNat, by omega⟩
    rw [hk] at wv
    show Q (.ref v) (upd H2 v (.tup [.str "append", .int (1 + r2)]))
    rw [hk]
    exact q _ (.ref v) (.app k) (B2.same wv) (hb2.same wv) ⟨v, rfl, upd_same⟩ (fun k' e => by cases e; omega) (fun k' e => by cases e)
  · refine ⟨false, congrArg V.bl (decide_eq_false c), ?_⟩
    refine ⟨one1, fun ta na => ⟨one1, fun tb nb => ⟨_, rfl, _, rfl, b, (x.1 : Int), rfl, by omega, by omega, ?_, fun r2 H2 r20 r21 k2 hb2 => ⟨_, _, rfl, rfl, two, fun tc nc => ⟨three, fun l nl => ?_⟩⟩⟩⟩⟩
    · exact (hb1.same (same_upd na)).same (same_upd nb)
    have wa := same_upd (o := .tup [.str "mark"]) na
    have wb := same_upd (o := .tup [.str "mark"]) nb
    have ha : (upd (upd H1 ta (.tup [.str "mark"])) tb (.tup [.str "mark"])) ta = some (.tup [.str "mark"]) := wb _ _ upd_same
    have hbb : (upd (upd H1 ta (.tup [.str "mark"])) tb (.tup [.str "mark"])) tb = some (.tup [.str "mark"]) := upd_same
    have ab : ta ≠ b := hb1.ne na
    have bb : tb ≠ b := (hb1.same wa).ne nb
    have B2 : But b H H2 := fun a o z e => by rw [k2 a z]; exact (wa.trans wb) _ _ (B1 a o z e)
    have ha2 : H2 ta = some (.tup [.str "mark"]) := by rw [k2 ta ab]; exact ha
    have hbb2 : H2 tb = some (.tup [.str "mark"]) := by rw [k2 tb bb]; exact hbb
    obtain ⟨k, hk⟩ : ∃ k : Nat, 1 + r2 = (k : Int) := ⟨(1 + r2).toNat, by omega⟩
    dsimp (config := { proj := false }) only at nl ⊢
    rw [hk] at nl ⊢
    have wc := same_upd (o := .tup [.str "cut", .int (k : Int)]) nc
    have hc : (upd H2 tc (.tup [.str "cut", .int (k : Int)])) tc = some (.tup [.str "cut", .int (k : Int)]) := upd_same
    have wl := same_upd (o := .lst [.ref ta, .ref tb, .ref tc]) nl
    have sw := wc.trans wl
    have hb3 := hb2.same sw
    have B3 := B2.same sw
    have ha3 := sw _ _ ha2
    have hb33 := sw _ _ hbb2
    have hc3 := wl _ _ hc
    have hl3 : (upd (upd H2 tc (.tup [.str "cut", .int (k : Int)])) l (.lst [.ref ta, .ref tb, .ref tc])) l = some (.lst [.ref ta, .ref tb, .ref tc]) := upd_same
    generalize (upd (upd H2 tc (.tup [.str "cut", .int (k : Int)])) l (.lst [.ref ta, .ref tb, .ref tc])) = H3 at hb3 B3 ha3 hb33 hc3 hl3 ⊢
    rcases (show r = 2 ∨ r = 3 ∨ r = 4 by omega) with rfl | rfl | rfl
    · exact ⟨_, rfl, _, _, rfl, rfl, l, _, _, _, rfl, rfl, SqL.of hl3, atI_nat (j := 0) rfl, q _ (.ref ta) .mark B3 hb3 ⟨ta, rfl, ha3⟩ (fun k' e => by cases e) (fun k' e => by cases e)⟩
    · exact ⟨_, rfl, _, _, rfl, rfl, l, _, _, _, rfl, rfl, SqL.of hl3, atI_nat (j := 1) rfl, q _ (.ref tb) .mark B3 hb3 ⟨tb, rfl, hb33⟩ (fun k' e => by cases e) (fun k' e => by cases e)⟩
    · exact ⟨_, rfl, _, _, rfl, rfl, l, _, _, _, rfl, rfl, SqL.of hl3, atI_nat (j := 2) rfl, q _ (.ref tc) (.cut k) B3 hb3 ⟨tc, rfl, hc3⟩ (fun k' e => by cases e) (fun k' e => by cases e; omega)⟩
def spAfterL : Sp := fun vs H Q _ => ∃ (t m : Addr) (x : LS) (v : V) (o : LOp), vs = [.ref t, v] ∧ LSt H t m x ∧ OpAt H v o ∧ lgood x ∧ lok x o ∧ (x.2.1).Pairwise (· < ·) ∧ (∀ y ∈ x.2.1, y ≤ x.1) ∧ (x.2.1).length ≤ 60 ∧
  ∀ (H' : Hp) (t' m' : Addr), Same H H' → LSt H' t' m' (lafter x o) → (m' = m ∨ H m' = none) → Q (.ref t') H'
theorem ok_law_after {f g1 g2 : Addr} {fd d1 d2 : FuncData} (F : Fun K "_law_after" "_law_after" sLawAfter f fd)
    (GLawCost : FnOk P w K mg base CX0 2 g1 d1 ["size_here", "number"] spCost) (ALawCost : At K mg "_law_cost" g1 d1 ["size_here", "number"])
    (GLawOnes : FnOk P w K mg base CX0 1 g2 d2 ["number"] spOnes) (ALawOnes : At K mg "_law_ones" g2 d2 ["number"]) (z_sorted : mg "sorted" = none) : FnOk P w K mg base CX0 3 f fd ["state", "step"] spAfterL := by
  refine F.ok scLawAfter (fun vs H Q E h => ?_) (fun cdv A outer s H vs Q E hr h => ?_)
  · obtain ⟨_, _, _, _, _, rfl, _⟩ := h
    rfl
  obtain ⟨t, m, x, v, o, rfl, hL, ho, hg, hok, hsrt, hle, ml, q⟩ := h
  refine ⟨_, (pss_cons (ps_asg (pv 0) (pg_tup (by rfl) (pgs_cons (pg_name (i := 2) scLawAfter.nd rfl (Or.inl rfl)) (pgs_cons (pg_name (i := 3) scLawAfter.nd rfl (Or.inl rfl)) (pgs_cons (pg_name (i := 4) scLawAfter.nd rfl (Or.inl rfl)) pgs_nil)))))
    (pss_cons (ps_if (pt_cmpR op_eq (pe_ix ix_tup (pv 1) pe_int (fun _ _ => rfl)) pe_str (nomark _))
    (pss_one (ps_ret (pe_tup (pa_cons (pe_op op_add (pv 2) (pe_ix ix_tup (pv 1) pe_int (fun _ _ => rfl))) (pa_cons (pv 3) (pa_cons (pe_op op_add (pv 4) (pe_call GLawCost (hr.mono (by decide)) rfl ALawCost.m ALawCost.kp ALawCost.b .nil pass0 (pa_cons (pv 2) (pa_cons (pe_ix ix_tup (pv 1) pe_int (fun _ _ => rfl)) pa_nil)))) pa_nil))))))
    pss_nil)
    (pss_cons (ps_if (pt_cmpR op_eq (pe_ix ix_tup (pv 1) pe_int (fun _ _ => rfl)) pe_str (nomark _))
    (pss_cons (ps_if (pt_cmpR op_in_seq (pv 2) (pv 3) (by rfl))
    (pss_one (ps_ret (pv 0)))
    pss_nil)
    (pss_one (ps_ret (pe_tup (pa_cons (pv 2) (pa_cons (pe_callB cr_sorted (by rfl) z_sorted (by decide +kernel) (pa_cons (pe_op op_cat (pv 3) (pe_lst (pa_cons (pv 2) pa_nil))) pa_nil)) (pa_cons (pe_op op_sub (pe_op op_add (pv 4) (pe_call GLawOnes (hr.mono (by decide)) rfl ALawOnes.m ALawOnes.kp ALawOnes.b .nil pass0 (pa_cons (pv 2) pa_nil))) pe_int) pa_nil)))))))
    pss_nil)
    (pss_one (ps_ret (pe_tup (pa_cons (pe_ix ix_tup (pv 1) pe_int (fun _ _ => rfl)) (pa_cons (pe_lc (own := [("mark", 5)]) rfl scLawAfter.nd (pi_list (pv 3)) (blkOk_by (N := ["state", "step", "many", "marks", "spent", "mark"]) (sc := defScope sLawAfter) (by decide +kernel)) (fun _ _ _ _ _ => (pg_name (i := 5) scLawAfter.nd rfl (Or.inl rfl))) (fun _ _ _ _ _ => pts_one (pt_cmpR op_le (pv 5) (pe_ix ix_tupB (pv 1) pe_int (fun _ _ => rfl)) (nomark _))) (fun _ _ _ _ _ => (pv 5))) (pa_cons (pv 4) pa_nil))))))))), ?_⟩
  have three : 3 ≤ sizeLine := by decide
  have one1 : 1 ≤ sizeLine := by decide
  have big : (10 : Nat) ^ 30 < 2 ^ 200 := by decide
  obtain ⟨n, ms, sp⟩ := x
  obtain ⟨ht, hm⟩ := id hL
  obtain ⟨n1, n30, _⟩ := hg
  dsimp only at ht hm n1 n30 hsrt hle ml
  refine ⟨_, rfl, t, _, rfl, SqT.of ht, rfl, _, _, rfl, _, _, rfl, _, _, rfl, rfl, ?_⟩
  cases o with
  | app k =>
    obtain ⟨ot, rfl, hot⟩ := ho
    obtain ⟨k1, k30⟩ := hok
    dsimp only at k30
    refine ⟨_, rfl, ot, _, _, _, rfl, rfl, SqT.of hot, atI_nat (j := 0) rfl, rfl, true, rfl, ?_⟩
    refine ⟨_, rfl, _, rfl, ot, _, _, _, rfl, rfl, SqT.of hot, atI_nat (j := 1) rfl, _, _, rfl, rfl, _, rfl, _, rfl, _, rfl, _, rfl, ot, _, _, _, rfl, rfl, SqT.of hot, atI_nat (j := 1) rfl, n, k, rfl, k30, _, _, rfl, rfl, three, fun t' nt => ?_⟩
    have wt := same_upd (o := .tup [.int ((n : Int) + (k : Int)), .ref m, .int (sp + acost n k)]) nt
    exact q _ t' m wt ⟨upd_same, wt _ _ hm⟩ (.inl rfl)
  | cut k =>
    obtain ⟨ot, rfl, hot⟩ := ho
    refine ⟨_, rfl, ot, _, _, _, rfl, rfl, SqT.of hot, atI_nat (j := 0) rfl, rfl, false, str_no ne_cut, ?_⟩
    refine ⟨_, rfl, ot, _, _, _, rfl, rfl, SqT.of hot, atI_nat (j := 0) rfl, rfl, false, str_no (fun z => ne_mark2 z.symm), ?_⟩
    refine ⟨_, rfl, ot, _, _, _, rfl, rfl, SqT.of hot, atI_nat (j := 1) rfl, _, rfl, m, rfl, ⟨_, SqL.of hm⟩, fun D nD => ?_⟩
    refine lc_list (K := K) (a := m) (xs := natsV ms) (fun j H' => Same H H' ∧ H' D = some (.lst (natsV ((ms.take j).filter fun m => decide (m ≤ k))))) ⟨same_upd nD, upd_same⟩ (fun j H' _ ⟨s5, _⟩ => SqL.of (s5 _ _ hm)) ?_ ?_
    · rintro j v H3 hj ⟨s3, hD⟩
      obtain ⟨y, hyj, rfl⟩ := natsV_take hj
      have jl := (List.getElem?_eq_some_iff.mp hyj).1
      refine ⟨rfl, ?_⟩
      rw [take_more hyj, List.filter_append]
      by_cases c : y ≤ k
      · have ef : [y].filter (fun m => decide (m ≤ k)) = [y] := by simp [c]
        rw [ef]
        refine ⟨_, rfl, _, rfl, ot, _, _, _, rfl, rfl, SqT.of (s3 _ _ hot), atI_nat (j := 1) rfl, _, _, rfl, rfl, true, congrArg V.bl (decide_eq_true (by omega)), ?_⟩
        refine ⟨_, rfl, _, hD, szlt (by
          rw [natsV_len]
          have := List.length_filter_le (fun m => decide (m ≤ k)) (ms.take j)
          rw [List.length_take] at this
          omega), ?_, ?_⟩
        · exact fun a o k => by rw [upd_ne (ne_of_none k nD)]; exact s3 _ _ k
        · rw [natsV_app]
          exact upd_same
      · have ef : [y].filter (fun m => decide (m ≤ k)) = [] := by simp [c]
        rw [ef, List.append_nil]
        exact ⟨_, rfl, _, rfl, ot, _, _, _, rfl, rfl, SqT.of (s3 _ _ hot), atI_nat (j := 1) rfl, _, _, rfl, rfl, false, congrArg V.bl (decide_eq_false (by omega)), s3, hD⟩
    rintro H3 ⟨s3, hD⟩
    rw [natsV_len, List.take_length] at hD
    refine ⟨_, rfl, three, fun t' nt => ?_⟩
    have wt := same_upd (o := .tup [.int (k : Int), .ref D, .int sp]) nt
    exact q _ t' D (s3.trans wt) ⟨upd_same, wt _ _ hD⟩ (.inr nD)
  | mark =>
    obtain ⟨ot, rfl, hot⟩ := ho
    refine ⟨_, rfl, ot, _, _, _, rfl, rfl, SqT.of hot, atI_nat (j := 0) rfl, rfl, false, str_no ne_mark, ?_⟩
    refine ⟨_, rfl, ot, _, _, _, rfl, rfl, SqT.of hot, atI_nat (j := 0) rfl, rfl, true, rfl, ?_⟩
    refine ⟨_, rfl, _, rfl, m, _, rfl, .inl (SqL.of hm), rfl, natsV_flat ms, ?_⟩
    have eI : (if false = true then !inV (V.int (n : Int)) (natsV ms) else inV (V.int (n : Int)) (natsV ms)) = decide (n ∈ ms) := natsV_in n ms
    rw [eI]
    by_cases c : n ∈ ms
    · rw [decide_eq_true c]
      have e : lafter (n, ms, sp) .mark = (n, ms, sp) := if_pos c
      rw [e] at q
      exact ⟨true, rfl, _, rfl, q H t m (Same.refl H) ⟨ht, hm⟩ (.inl rfl)⟩
    · rw [decide_eq_false c]
      have e : lafter (n, ms, sp) .mark = (n, ms ++ [n], sp + ((ones n - 1 : Nat) : Int)) := if_neg c
      rw [e] at q
      have on1 := ones_pos n1
      refine ⟨false, rfl, _, rfl, _, rfl, _, rfl, one1, fun l1 nl1 => ?_⟩
      have w1 := same_upd (o := .lst [.int (n : Int)]) nl1
      refine ⟨m, l1, _, _, rfl, rfl, w1 _ _ hm, upd_same, szle (by rw [natsV_len, List.length_singleton]; omega), fun l2 nl2 => ?_⟩
      have ens : natsV ms ++ [V.int (n : Int)] = ((ms ++ [n]).map fun x : Nat => (x : Int)).map V.int := by
        rw [List.map_map, List.map_append]
        rfl
      have w2 := same_upd (o := .lst (natsV ms ++ [.int (n : Int)])) nl2
      refine ⟨l2, (ms ++ [n]).map fun x : Nat => (x : Int), rfl, SqL.of (by rw [← ens]; exact upd_same), by rw [List.length_map, List.length_append, List.length_singleton]; omega, fun ns' l3 pm sr nl3 => ?_⟩
      have hs0 : ((ms ++ [n]).map fun x : Nat => (x : Int)).Pairwise (· ≤ ·) := by
        rw [List.pairwise_map, List.pairwise_append]
        refine ⟨hsrt.imp fun {a b} h => by omega, List.pairwise_singleton _ _, fun a ha b hb => ?_⟩
        rw [List.mem_singleton] at hb
        have := hle a ha
        omega
      have en : ns' = (ms ++ [n]).map fun x : Nat => (x : Int) := pm.eq_of_pairwise (fun a b _ _ h1 h2 => by omega) sr hs0
      subst en
      rw [← ens]
      have w3 := same_upd (o := .lst (natsV ms ++ [.int (n : Int)])) nl3
      refine ⟨_, rfl, _, rfl, n, rfl, by omega, _, _, rfl, rfl, _, _, rfl, rfl, three, fun t' nt => ?_⟩
      have wt := same_upd (o := .tup [.int (n : Int), .ref l3, .int (sp + ((ones n : Nat) : Int) - 1)]) nt
      have ee : sp + ((ones n : Nat) : Int) - 1 = sp + ((ones n - 1 : Nat) : Int) := by omega
      refine q _ t' l3 (w1.trans (w2.trans (w3.trans wt))) ⟨?_, ?_⟩ (.inr ((w1.trans w2).free nl3))
      · rw [← ee]
        exact upd_same
      · rw [natsV_app]
        exact wt _ _ upd_same
end
end LT

namespace LT
open PySem PySem.Spec PyProof.Rows L2
theorem LogAt.but {C : Addr} {H H' : Hp} {p c b : Addr} {x : LS} {cs : List (LOp × LS)} (h : LogAt C H p c x cs) (hb : BagAt H b) (k : But b H H') (cb : c ≠ b) : LogAt C H' p c x cs := by
  obtain ⟨_, _, _, eb⟩ := hb
  obtain ⟨dx, v, vs, a, bb, d, e⟩ := h
  have T : Tups H H' := fun a xs e => k a _ (ne_of e eb (fun z => by cases z)) e
  exact ⟨dx, v, vs, k _ _ (ne_of a eb (fun z => by cases z)) a, bb.tups T, k _ _ cb d, e.mono fun v x (k : CallAt H v x) => k.tups T⟩
theorem LSt.same {H H' : Hp} {t m : Addr} {x : LS} (h : LSt H t m x) (s : Same H H') : LSt H' t m x := ⟨s _ _ h.1, s _ _ h.2⟩
theorem LSt.but {H H' : Hp} {t m b : Addr} {x : LS} (h : LSt H t m x) (hb : BagAt H b) (k : But b H H') (mb : m ≠ b) : LSt H' t m x := by
  obtain ⟨_, _, _, eb⟩ := hb
  exact ⟨k _ _ (ne_of h.1 eb (fun z => by cases z)) h.1, k _ _ mb h.2⟩
theorem LSt.butL {C : Addr} {H H' : Hp} {t m p c : Addr} {x y : LS} {cs : List (LOp × LS)} (h : LSt H t m x) (hL : LogAt C H p c y cs) (k : ButL p c H H') (mc : m ≠ c) : LSt H' t m x := by
  obtain ⟨_, _, _, a, _, d, _⟩ := hL
  exact ⟨k _ _ h.1 (ne_of h.1 a (fun z => by cases z)) (ne_of h.1 d (fun z => by cases z)), k _ _ h.2 (ne_of h.2 a (fun z => by cases z)) mc⟩
def stL (x : LS) : PyData := .tuple [.int (x.1 : Int), .list (nats x.2.1), .int x.2.2]
theorem stL_shaped (x : LS) : SeqAt.shaped (stL x) = true := by
  have a := nats_lay x.2.1
  have b : PyData.depthAll (nats x.2.1) ≤ 1 := by
    have := ints_depth (x.2.1.map fun a => ((a : Nat) : Int))
    rw [List.map_map] at this
    exact this
  show (PyData.canLay0 _ && decide (PyData.depth _ ≤ 64)) = true
  rw [Bool.and_eq_true]
  refine ⟨by simp only [stL, PyData.canLay0, PyData.canLayAll0, a, Bool.and_true, Bool.true_and], decide_eq_true ?_⟩
  simp only [stL, PyData.depth, PyData.depthAll]
  omega
theorem stL_refl (x : LS) : PyData.eqv (stL x) (stL x) = true := by
  simp only [stL, PyData.eqv, PyData.eqvAll, nats_reflA, beq_self_eq_true, Bool.and_true]
theorem LSt.dp {K : PySem.W.Frag} {H : Hp} {t m : Addr} {x : LS} (h : LSt H t m x) : Dp K H (.ref t) (stL x) :=
  .tup (SqT.of h.1) (.cons (.int _) (.cons (.lst (SqL.of h.2) (nats_dp x.2.1)) (.cons (.int _) .nil)))
theorem nats_nil (l : List Nat) : PyData.eqv (.list (nats l)) (.list []) = l.isEmpty := by
  cases l with
  | nil => simp [nats, PyData.eqv, PyData.eqvAll]
  | cons x l => simp [nats, PyData.eqv, PyData.eqvAll]
/-- marks: ascending, at most the size -/
def Mok (i : Nat) (x : LS) : Prop := 1 ≤ x.1 ∧ x.1 ≤ (i + 1) * 10 ^ 28 ∧ (x.2.1).Pairwise (· < ·) ∧ (∀ y ∈ x.2.1, 1 ≤ y ∧ y ≤ x.1) ∧ (x.2.1).length ≤ i
theorem Mok.after {i most : Nat} {x : LS} {o : LOp} (h : Mok i x) (hm : most ≤ 10 ^ 28) (h1 : ∀ k, o = .app k → 1 ≤ k ∧ k ≤ most) (h2 : ∀ k, o = .cut k → 1 ≤ k ∧ k ≤ x.1) : Mok (i + 1) (lafter x o) := by
  obtain ⟨n, ms, sp⟩ := x
  obtain ⟨n1, nm, pw, le, ln⟩ := h
  dsimp only at n1 nm pw le ln h2
  have e : (i + 1 + 1) * 10 ^ 28 = (i + 1) * 10 ^ 28 + 10 ^ 28 := Nat.succ_mul _ _
  unfold Mok
  generalize (10 : Nat) ^ 28 = T at *
  cases o with
  | app k =>
    obtain ⟨k1, km⟩ := h1 k rfl
    exact ⟨by show 1 ≤ n + k; omega, by show n + k ≤ (i + 1 + 1) * T; rw [e]; omega, pw, fun y hy => ⟨(le y hy).1, by have := (le y hy).2; show y ≤ n + k; omega⟩, by show ms.length ≤ i + 1; omega⟩
  | cut k =>
    obtain ⟨k1, km⟩ := h2 k rfl
    refine ⟨k1, by show k ≤ (i + 1 + 1) * T; rw [e]; omega, pw.filter _, fun y hy => ?_, ?_⟩
    · obtain ⟨a, b⟩ := List.mem_filter.mp hy
      exact ⟨(le y a).1, of_decide_eq_true b⟩
    · have := List.length_filter_le (fun m => decide (m ≤ k)) ms
      show (ms.filter _).length ≤ i + 1
      omega
  | mark =>
    by_cases c : n ∈ ms
    · have e2 : lafter (n, ms, sp) .mark = (n, ms, sp) := if_pos c
      rw [e2]
      exact ⟨n1, by show n ≤ (i + 1 + 1) * T; rw [e]; omega, pw, le, by show ms.length ≤ i + 1; omega⟩
    · have e2 : lafter (n, ms, sp) .mark = (n, ms ++ [n], sp + ((ones n - 1 : Nat) : Int)) := if_neg c
      rw [e2]
      refine ⟨n1, by show n ≤ (i + 1 + 1) * T; rw [e]; omega, ?_, fun y hy => ?_, by show (ms ++ [n]).length ≤ i + 1; rw [List.length_append, List.length_singleton]; omega⟩
      · show (ms ++ [n]).Pairwise (· < ·)
        rw [List.pairwise_append]
        refine ⟨pw, List.pairwise_singleton _ _, fun a ha b hb => ?_⟩
        rw [List.mem_singleton] at hb
        have := (le a ha).2
        have : a ≠ n := fun z => c (z ▸ ha)
        omega
      · rcases List.mem_append.mp hy with hy | hy
        · exact le y hy
        · rw [List.mem_singleton] at hy
          subst hy
          exact ⟨n1, Nat.le_refl _⟩
end LT

namespace LT
open PySem PySem.Spec PyProof.Rows L2
def opD : LOp → PyData
  | .app k => .tuple [.str "append", .int (k : Int)]
  | .mark => .tuple [.str "mark"]
  | .cut k => .tuple [.str "cut", .int (k : Int)]
theorem opD_refl (o : LOp) : PyData.eqv (opD o) (opD o) = true := by cases o <;> simp [opD, PyData.eqv, PyData.eqvAll]
theorem opD_shaped (o : LOp) : SeqAt.shaped (opD o) = true := by
  show (PyData.canLay0 _ && decide (PyData.depth _ ≤ 64)) = true
  cases o <;> simp [opD, PyData.canLay0, PyData.canLayAll0, PyData.depth, PyData.depthAll] <;> decide +kernel
theorem OpAt.dp {K : PySem.W.Frag} {H : Hp} {v : V} {o : LOp} (h : OpAt H v o) : Dp K H v (opD o) := by
  cases o with
  | app k =>
    obtain ⟨t, rfl, a⟩ := h
    exact .tup (SqT.of a) (.cons (.str _) (.cons (.int _) .nil))
  | mark =>
    obtain ⟨t, rfl, a⟩ := h
    exact .tup (SqT.of a) (.cons (.str _) .nil)
  | cut k =>
    obtain ⟨t, rfl, a⟩ := h
    exact .tup (SqT.of a) (.cons (.str _) (.cons (.int _) .nil))
theorem opsD_refl : ∀ l : List LOp, PyData.eqvAll (l.map opD) (l.map opD) = true
  | [] => by simp [PyData.eqvAll]
  | o :: l => by simp only [List.map_cons, PyData.eqvAll, opD_refl, opsD_refl l, Bool.and_true]
theorem opsD_eqv (l : List LOp) : PyData.eqv (.list (l.map opD)) (.list (l.map opD)) = true := by simp only [PyData.eqv, opsD_refl]
theorem opsD_lay : ∀ l : List LOp, PyData.canLayAll0 (l.map opD) = true
  | [] => by simp [PyData.canLayAll0]
  | o :: l => by
    have h : PyData.canLay0 (opD o) = true := by
      have := opD_shaped o
      unfold SeqAt.shaped at this
      exact (Bool.and_eq_true _ _ ▸ this).1
    simp only [List.map_cons, PyData.canLayAll0, h, opsD_lay l, Bool.and_true]
theorem opsD_depth : ∀ l : List LOp, PyData.depthAll (l.map opD) ≤ 2
  | [] => by simp [PyData.depthAll]
  | o :: l => by
    have := opsD_depth l
    have h : PyData.depth (opD o) ≤ 2 := by cases o <;> simp [opD, PyData.depth, PyData.depthAll]
    simp only [List.map_cons, PyData.depthAll]
    omega
theorem opsD_shaped (l : List LOp) : SeqAt.shaped (.list (l.map opD)) = true := by
  have h := opsD_depth l
  have h2 : PyData.depth (.list (l.map opD)) ≤ 64 := by
    simp only [PyData.depth]
    omega
  show (PyData.canLay0 (.list (l.map opD)) && decide (PyData.depth (.list (l.map opD)) ≤ 64)) = true
  rw [Bool.and_eq_true]
  exact ⟨by simp only [PyData.canLay0]; exact opsD_lay l, decide_eq_true h2⟩
theorem opsD_dp {K : PySem.W.Frag} {H : Hp} : ∀ {vs : List V} {l : List LOp}, All2 (OpAt H) vs l → DpAll K H vs (l.map opD)
  | _, _, .nil => .nil
  | _, _, .cons h t => .cons h.dp (opsD_dp t)
end LT

namespace LT
open PySem PySem.Spec PyProof.Rows L2
section
variable {P : Program} {w : World} {K : PySem.W.Frag} {mg : Str → Option Value} {base : Heap}
def spPreviewB (C : Addr) (bu : Int) : Sp := fun vs H Q _ => ∃ (p c tp : Addr) (x : LS) (cs : List (LOp × LS)) (us : List V) (os : List LOp), vs = [.ref p, .ref tp] ∧ LogB C bu H p c x cs ∧ H tp = some (.tup us) ∧ All2 (OpAt H) us os ∧ Goods x os ∧ (∀ (i : Nat) (o : LOp), os[i]? = some o → cost (lafters x (os.take i)) o ≤ bu) ∧
  ∀ (H' : Hp), Same H H' → Q (.int (lafters x os).2.2) H'
theorem ok_bud_preview {bu : Int} {n : Nat} {f g1 g2 C : Addr} {fd d1 d2 : FuncData} (F : Fun K "preview" "LiveLog.preview" sLiveLogPreview f fd) (hb : BindsV fd "self" "operations" n) (TLiveLog : TBud K C)
    (GIsOperation : FnOk P w K mg base CX0 1 g1 d1 ["value"] spIsOp) (AIsOperation : At K mg "_is_operation" g1 d1 ["value"])
    (GLiveLogBehind : FnOk P w K mg base CX0 11 g2 d2 ["self", "state", "operation"] (spBehindB C bu)) (MLiveLogBehind : Meth K C "_behind" g2) (BLiveLogBehind : Binds K d2 ["self", "state", "operation"] []) : FnOkV P w K mg base CX0 13 f n (spPreviewB C bu) := by
  refine okV F scLiveLogPreview hb (fun cdv A outer s H vs Q E hr h => ?_)
  obtain ⟨p, c, tp, x, cs, us, os, rfl, hL, htp, hus, hg, hcost, q⟩ := h
  refine ⟨_, (pss_cons (ps_for PassesOwn.never rfl (pi_tup (pv 1)) (pg_name (i := 2) scLiveLogPreview.nd rfl (Or.inl rfl))
    (pss_one (ps_if (pt_not (pt_val (pe_call GIsOperation (hr.mono (by decide)) rfl AIsOperation.m AIsOperation.kp AIsOperation.b .nil pass0 (pa_cons (pv 2) pa_nil))))
    (pss_one ps_never)
    pss_nil)))
    (pss_cons (ps_set (i := 3) scLiveLogPreview.nd rfl (Or.inl rfl) (pe_fld (pv 0) rfl))
    (pss_cons (ps_for PassesOwn.never rfl (pi_tup (pv 1)) (pg_name (i := 2) scLiveLogPreview.nd rfl (Or.inl rfl))
    (pss_one (ps_set (i := 3) scLiveLogPreview.nd rfl (Or.inl rfl) (pe_meth (pv 0) TLiveLog.cl MLiveLogBehind GLiveLogBehind (hr.mono (by decide)) BLiveLogBehind .nil pass0 (pa_cons (pv 3) (pa_cons (pv 2) pa_nil))))))
    (pss_one (ps_ret (pe_ix ix_tup (pv 3) pe_int (fun _ _ => rfl))))))), ?_⟩
  obtain ⟨dx, sv, vs, hp, hst, hc, hcs⟩ := id hL
  refine ⟨_, rfl, tp, rfl, ⟨_, SqT.of htp⟩, ?_⟩
  refine for_tup (K := K) (a := tp) (xs := us) (fun i σ H' => ∃ v2 : Option V, σ = [some (.ref p), some (.ref tp), v2, none] ∧ H' = H) ⟨none, rfl, rfl⟩ (fun i σ H' _ ⟨_, _, e⟩ => by rw [e]; exact SqT.of htp) ?_ ?_
  · rintro i v σ H' hi ⟨v2, rfl, rfl⟩
    obtain ⟨o, ho, hvo⟩ := hus.nth hi
    exact ⟨_, rfl, v, o, rfl, hvo, true, rfl, _, rfl, rfl⟩
  rintro σ H' ⟨v2, rfl, rfl⟩
  refine ⟨_, rfl, p, C, dx, _, _, rfl, hp, TLiveLog.cl, TLiveLog.nS, fldsB_state _ _ _, ?_⟩
  refine ⟨_, rfl, tp, rfl, ⟨_, SqT.of htp⟩, ?_⟩
  refine for_tup (K := K) (a := tp) (xs := us) (fun i σ H1 => ∃ (v2 : Option V) (s1 : V), σ = [some (.ref p), some (.ref tp), v2, some s1] ∧ Same H' H1 ∧ StAt H1 s1 (lafters x (os.take i))) ⟨_, _, rfl, Same.refl _, hst⟩ (fun i σ H1 _ ⟨_, _, _, e, _⟩ => SqT.of (e _ _ htp)) ?_ ?_
  · rintro i v σ H1 hi ⟨v2, s1, rfl, sm, hs1⟩
    obtain ⟨o, ho, hvo⟩ := hus.nth hi
    obtain ⟨g1, g2⟩ := goods_at hg ho
    refine ⟨_, rfl, p, dx, _, rfl, sm _ _ hp, fldsB_no _ _ _ no_behind.1 no_behind.2 (by decide +kernel), _, rfl, _, rfl, p, dx, _, s1, v, _, o, rfl, sm _ _ hp, fldsB_budget _ _ _, hs1, hvo.same sm, g1, g2, hcost _ _ ho, fun H2 r s2 hr => ?_⟩
    refine ⟨_, _, rfl, sm.trans s2, ?_⟩
    rw [lafters_at x ho]
    exact hr
  · rintro σ H1 ⟨v2, s1, rfl, sm, hs1⟩
    rw [hus.len, List.take_length] at hs1
    obtain ⟨t, m, rfl, ht, _⟩ := hs1
    exact ⟨_, rfl, t, _, _, _, rfl, rfl, SqT.of ht, atI_nat (j := 2) rfl, q _ sm⟩
end
end LT

namespace LT
open PySem PySem.Spec PyProof.Rows L2
/-- a promise for every budget -/
def anyB (sp : Int → Sp) : Sp := fun vs H Q E => ∃ bu, sp bu vs H Q E
section
variable {P : Program} {w : World} {K : PySem.W.Frag} {mg : Str → Option Value} {base : Heap} {CY : CXT} {k : Nat} {f : Addr} {fd : FuncData} {ps : List Str} {sp : Int → Sp} {sp1 sp2 : Sp}
theorem any_ok (h : ∀ bu, FnOk P w K mg base CY k f fd ps (sp bu)) : FnOk P w K mg base CY k f fd ps (anyB sp) :=
  ⟨fun vs H Q E ⟨bu, z⟩ => (h bu).len vs H Q E z, fun A outer s H args us vs Q E hr ev hb rv ⟨bu, z⟩ => (h bu).run A outer s H args us vs Q E hr ev hb rv z⟩
theorem both62 (A : FnOk P w K mg base CY k f fd ps sp1) (B : FnOk P w K mg base CY k f fd ps sp2) : FnOk P w K mg base CY k f fd ps (fun vs H Q E => sp1 vs H Q E ∨ sp2 vs H Q E) :=
  ⟨fun vs H Q E h => h.elim (A.len vs H Q E) (B.len vs H Q E), fun A' outer s H args us vs Q E hr ev hb rv h => h.elim (A.run A' outer s H args us vs Q E hr ev hb rv) (B.run A' outer s H args us vs Q E hr ev hb rv)⟩
end
end LT

namespace LT
open PySem PySem.Spec PyProof.Rows L2
/-! ### calls of a log that are refused: wrong numbers and sizes -/
theorem num_len {i : Int} (h : i.natAbs < 10 ^ 66) : (Str.ofString (toString i)).length ≤ 100 := by
  have e := int_text_length_le10 (a := i) (k := 66) (by decide) h
  rw [PySem.ofString_length]
  omega
theorem num_log {i : Int} (h : i.natAbs < 10 ^ 66) : i.natAbs.log2 < 1920 := by
  by_cases z : i.natAbs = 0
  · rw [z]; decide
  · exact Nat.lt_of_lt_of_le ((Nat.log2_lt (k := 250) z).mpr (Nat.lt_of_lt_of_le h (by decide))) (by decide)
section
variable {P : Program} {w : World} {K : PySem.W.Frag} {mg : Str → Option Value} {base : Heap} {CS CN : Addr}
def spCheckBetweenX (K : PySem.W.Frag) (C : Addr) : Sp := fun vs H Q E => ∃ (v : V) (t : String) (lo hi : Int), vs = [v, .int lo, .int hi] ∧ Pl K H v t ∧ lo.natAbs < 10 ^ 66 ∧ hi.natAbs < 10 ^ 66 ∧ ((inRange lo hi v = true ∧ Q .non H) ∨ (inRange lo hi v = false ∧ E (.ref C) none H))
theorem okX_check_number_between {f g : Addr} {fd gd : FuncData} (F : Fun K "check_number_between" "check_number_between" sCheckNumberBetween f fd) (XInvalidNumber : XF K mg "InvalidNumber" CN) (GIsBetween : FnOk P w K mg base CX0 2 g gd ["value", "low", "high"] (spBetweenV K)) (AIsBetween : At K mg "is_between" g gd ["value", "low", "high"]) :
    FnOk P w K mg base (L2.CX P w) 3 f fd ["number", "least", "most"] (spCheckBetweenX K CN) := by
  refine F.okX scCheckNumberBetween (fun vs H Q E h => ?_) (fun cdv A outer s H vs Q E hr h => ?_)
  · obtain ⟨_, _, _, _, rfl, _⟩ := h
    rfl
  obtain ⟨v, ty, lo, hi, rfl, hv, hlo, hhi, q⟩ := h
  refine ⟨_, (pss_one (ps_if (pt_not (pt_val (pe_call GIsBetween (hr.mono (by decide)) rfl AIsBetween.m AIsBetween.kp AIsBetween.b .nil pass0 (pa_cons (pv 0) (pa_cons (pv 1) (pa_cons (pv 2) pa_nil))))))
    (pss_one (ps_raise rfl (takes_of rfl rfl rfl rfl) (SkE.pmk_own1 PySem.F.excBase_ValueError XInvalidNumber.q XInvalidNumber.g XInvalidNumber.k (raises_own XInvalidNumber.b XInvalidNumber.t) rfl (pe_joined (PJ.cons pe_str (PJ.cons (pe_fmt (pv 1)) (PJ.cons pe_str (PJ.cons (pe_fmt (pv 2)) PJ.nil))))))))
    pss_nil)), ?_⟩
  have a0 : (Str.empty ++ ("a number here is an integer from " : Str)).length ≤ 50 := by decide +kernel
  have a1 : ((Str.empty ++ ("a number here is an integer from " : Str)) ++ Str.ofString (toString lo)).length ≤ 150 := by
    rw [PySem.Str.length_append]
    have := num_len hlo
    omega
  have t4 : (" to " : Str).length = 4 := rfl
  have a2 : (((Str.empty ++ ("a number here is an integer from " : Str)) ++ Str.ofString (toString lo)) ++ (" to " : Str)).length ≤ 154 := by
    rw [PySem.Str.length_append]
    omega
  have a3 : ((((Str.empty ++ ("a number here is an integer from " : Str)) ++ Str.ofString (toString lo)) ++ (" to " : Str)) ++ Str.ofString (toString hi)).length ≤ 300 := by
    rw [PySem.Str.length_append]
    have := num_len hhi
    omega
  refine ⟨_, rfl, _, rfl, _, rfl, v, ty, lo, hi, rfl, hv, inRange lo hi v, rfl, ?_⟩
  rcases q with ⟨e, q⟩ | ⟨e, q⟩
  · rw [e]; exact q
  · rw [e]
    exact ⟨_, rfl, szle (by omega), _, rfl, .inr ⟨lo, rfl, num_log hlo, _, rfl, szle (by omega), _, rfl, szle (by omega), _, rfl, .inr ⟨hi, rfl, num_log hhi, _, rfl, szle (by omega), q⟩⟩⟩
def spCheckOlderX (K : PySem.W.Frag) (C : Addr) : Sp := fun vs H Q E => ∃ (n : Int) (v : V) (t : String), vs = [.int n, v] ∧ Pl K H v t ∧ ((inRange 1 n v = true ∧ Q .non H) ∨ (inRange 1 n v = false ∧ E (.ref C) none H))
theorem okX_check_older {f g : Addr} {fd gd : FuncData} (F : Fun K "check_older" "check_older" sCheckOlder f fd) (XInvalidSize : XF K mg "InvalidSize" CS) (GIsBetween : FnOk P w K mg base CX0 2 g gd ["value", "low", "high"] (spBetweenV K)) (AIsBetween : At K mg "is_between" g gd ["value", "low", "high"]) :
    FnOk P w K mg base (L2.CX P w) 3 f fd ["size", "older"] (spCheckOlderX K CS) := by
  refine F.okX scCheckOlder (fun vs H Q E h => ?_) (fun cdv A outer s H vs Q E hr h => ?_)
  · obtain ⟨_, _, _, rfl, _⟩ := h
    rfl
  obtain ⟨n, v, ty, rfl, hv, q⟩ := h
  refine ⟨_, (pss_one (ps_if (pt_not (pt_val (pe_call GIsBetween (hr.mono (by decide)) rfl AIsBetween.m AIsBetween.kp AIsBetween.b .nil pass0 (pa_cons (pv 1) (pa_cons pe_int (pa_cons (pv 0) pa_nil))))))
    (pss_one (ps_raise rfl (takes_of rfl rfl rfl rfl) (pmk_own PySem.F.excBase_ValueError XInvalidSize.q XInvalidSize.g XInvalidSize.k (raises_own XInvalidSize.b XInvalidSize.t) rfl)))
    pss_nil)), ?_⟩
  refine ⟨_, rfl, _, rfl, v, ty, 1, n, rfl, hv, inRange 1 n v, rfl, ?_⟩
  rcases q with ⟨e, q⟩ | ⟨e, q⟩
  · rw [e]; exact q
  · rw [e]; exact q
/-- a cut beyond, or a number beyond -/
def spBehindR (K : PySem.W.Frag) (CS CN : Addr) : Sp := fun vs H Q E => ∃ (z v : V) (x : LS) (t : Addr) (y : V) (ty : String), vs = [z, v, .ref t] ∧ StAt H v x ∧ lgood x ∧ Pl K H y ty ∧
  ((H t = some (.tup [.str "cut", y]) ∧ inRange 1 (x.1 : Int) y = false ∧ E (.ref CS) none H) ∨ (H t = some (.tup [.str "append", y]) ∧ inRange 1 (10 ^ 30 - (x.1 : Int)) y = false ∧ E (.ref CN) none H))
theorem okR_log_behind {f g1 g2 g3 g4 : Addr} {fd d1 d2 d3 d4 : FuncData} {t : Tok} (F : Fun K "_behind" "LiveLog._behind" sLiveLogBehind f fd)
    (GXCheckNumberBetween : FnOk P w K mg base (L2.CX P w) 3 g1 d1 ["number", "least", "most"] (spCheckBetweenX K CN)) (ACheckNumberBetween : At K mg "check_number_between" g1 d1 ["number", "least", "most"])
    (GAppendSums : FnOk P w K mg base CX0 8 g2 d2 ["size", "number"] spAppend) (AAppendSums : At K mg "append_sums" g2 d2 ["size", "number"])
    (GXCheckOlder : FnOk P w K mg base (L2.CX P w) 3 g3 d3 ["size", "older"] (spCheckOlderX K CS)) (ACheckOlder : At K mg "check_older" g3 d3 ["size", "older"])
    (GRootSums : FnOk P w K mg base CX0 6 g4 d4 ["size"] spRootSums) (ARootSums : At K mg "root_sums" g4 d4 ["size"])
    (g_MOST_ENTRIES : mg "MOST_ENTRIES" = some (.int 1000000000000000000000000000000 t)) (z_tuple : mg "tuple" = none) : FnOk P w K mg base (L2.CX P w) 9 f fd ["self", "state", "operation"] (spBehindR K CS CN) := by
  refine F.okX scLiveLogBehind (fun vs H Q E h => ?_) (fun cdv A outer s H vs Q E hr h => ?_)
  · obtain ⟨_, _, _, _, _, _, rfl, _⟩ := h
    rfl
  obtain ⟨z, v, ⟨n, ms, sp⟩, ot, y, ty, rfl, ⟨t, m, rfl, ht, hm⟩, ⟨n1, n30, ml⟩, hy, hq⟩ := h
  refine ⟨_, (pss_cons (ps_asg (pv 1) (pg_tup (by rfl) (pgs_cons (pg_name (i := 3) scLiveLogBehind.nd rfl (Or.inl rfl)) (pgs_cons (pg_name (i := 4) scLiveLogBehind.nd rfl (Or.inl rfl)) (pgs_cons (pg_name (i := 5) scLiveLogBehind.nd rfl (Or.inl rfl)) pgs_nil)))))
    (pss_cons (ps_if (pt_cmpR op_eq (pe_ix ix_tup (pv 2) pe_int (fun _ _ => rfl)) pe_str (nomark _))
    (pss_cons (ps_set (i := 6) scLiveLogBehind.nd rfl (Or.inl rfl) (pe_ix ix_tup (pv 2) pe_int (fun _ _ => rfl)))
    (pss_cons (ps_expr (pe_callS GXCheckNumberBetween (hr.mono (by decide)) rfl ACheckNumberBetween.m ACheckNumberBetween.kp ACheckNumberBetween.b (fun σ => passAt (takes_of rfl rfl rfl rfl) σ) (pa_cons (pv 6) (pa_cons pe_int (pa_cons (pe_op op_sub (pe_glob (v := .int 1000000000000000000000000000000) rfl g_MOST_ENTRIES ⟨_, rfl⟩) (pv 3)) pa_nil)))))
    (pss_one (ps_ret (pe_tup (pa_cons (pe_op op_add (pv 3) (pv 6)) (pa_cons (pv 4) (pa_cons (pe_op op_add (pv 5) (pe_call GAppendSums (hr.mono (by decide)) rfl AAppendSums.m AAppendSums.kp AAppendSums.b .nil pass0 (pa_cons (pv 3) (pa_cons (pv 6) pa_nil)))) pa_nil))))))))
    pss_nil)
    (pss_cons (ps_if (pt_cmpR op_eq (pe_ix ix_tup (pv 2) pe_int (fun _ _ => rfl)) pe_str (nomark _))
    (pss_cons (ps_set (i := 7) scLiveLogBehind.nd rfl (Or.inr rfl) (pe_ix ix_tup (pv 2) pe_int (fun _ _ => rfl)))
    (pss_cons (ps_expr (pe_callS GXCheckOlder (hr.mono (by decide)) rfl ACheckOlder.m ACheckOlder.kp ACheckOlder.b (fun σ => passAt (takes_of rfl rfl rfl rfl) σ) (pa_cons (pv 3) (pa_cons (pv 7) pa_nil))))
    (pss_one (ps_ret (pe_tup (pa_cons (pv 7) (pa_cons (pe_callTy call_tuple_of (by rfl) z_tuple (by decide +kernel) (pa_cons (pe_lc (own := [("mark", 8)]) rfl scLiveLogBehind.nd (pi_tup (pv 4)) (blkOk_by (N := ["self", "state", "operation", "present", "marks", "spent", "number", "size", "mark"]) (sc := defScope sLiveLogBehind) (by decide +kernel)) (fun _ _ _ _ _ => (pg_name (i := 8) scLiveLogBehind.nd rfl (Or.inl rfl))) (fun _ _ _ _ _ => pts_one (pt_cmpR op_le (pv 8) (pv 7) (nomark _))) (fun _ _ _ _ _ => (pv 8))) pa_nil)) (pa_cons (pv 5) pa_nil))))))))
    pss_nil)
    (pss_cons (ps_if (pt_cmpR op_in_seq (pv 3) (pv 4) (by rfl))
    (pss_one (ps_ret (pv 1)))
    pss_nil)
    (pss_one (ps_ret (pe_tup (pa_cons (pv 3) (pa_cons (pe_op op_catA (pv 4) (pe_tup (pa_cons (pv 3) pa_nil))) (pa_cons (pe_op op_add (pv 5) (pe_call GRootSums (hr.mono (by decide)) rfl ARootSums.m ARootSums.kp ARootSums.b .nil pass0 (pa_cons (pv 3) pa_nil))) pa_nil)))))))))), ?_⟩
  dsimp only at ht hm n1 n30 ml hq
  refine ⟨_, rfl, t, _, rfl, SqT.of ht, rfl, _, _, rfl, _, _, rfl, _, _, rfl, rfl, ?_⟩
  rcases hq with ⟨hot, hr1, q⟩ | ⟨hot, hr1, q⟩
  · refine ⟨_, rfl, ot, _, _, _, rfl, rfl, SqT.of hot, atI_nat (j := 0) rfl, rfl, false, str_no ne_cut, ?_⟩
    refine ⟨_, rfl, ot, _, _, _, rfl, rfl, SqT.of hot, atI_nat (j := 0) rfl, rfl, true, rfl, ?_⟩
    refine ⟨_, rfl, ot, _, _, _, rfl, rfl, SqT.of hot, atI_nat (j := 1) rfl, ?_⟩
    exact ⟨_, rfl, _, rfl, _, y, ty, rfl, hy, .inr ⟨hr1, q⟩⟩
  · refine ⟨_, rfl, ot, _, _, _, rfl, rfl, SqT.of hot, atI_nat (j := 0) rfl, rfl, true, rfl, ?_⟩
    refine ⟨_, rfl, ot, _, _, _, rfl, rfl, SqT.of hot, atI_nat (j := 1) rfl, ?_⟩
    have d30 : (1000000000000000000000000000000 : Int) = 10 ^ 30 := by decide
    have d30n : ((10 ^ 30 : Nat) : Int) = 10 ^ 30 := by decide
    have d66 : (10 : Nat) ^ 30 < 10 ^ 66 := by decide
    exact ⟨_, rfl, _, rfl, _, _, rfl, rfl, y, ty, 1, _, rfl, hy, by decide, (by omega), .inr ⟨hr1, q⟩⟩
/-- a log with a budget refuses them as well -/
def spBehindBR (K : PySem.W.Frag) (C CS CN : Addr) : Sp := fun vs H Q E => ∃ (p dx : Addr) (fs : List (Str × V)), vs.head? = some (.ref p) ∧ H p = some (.ins C dx fs) ∧ spBehindR K CS CN vs H Q E
theorem ok_bud_behind3 {f fL C CO : Addr} {fdL : FuncData} (T : BehK P K mg C f fL) (TB : TBud K C) (XOverBudget : SX P w K mg base "OverBudget" CO "count")
    (FL : FnOk P w K mg base CX0 9 fL fdL ["self", "state", "operation"] spBehind) (FLR : FnOk P w K mg base (L2.CX P w) 9 fL fdL ["self", "state", "operation"] (spBehindR K CS CN)) (hbL : Binds K fdL ["self", "state", "operation"] []) :
    ∃ fd, (∀ bu, FnOk P w K mg base CX0 11 f fd ["self", "state", "operation"] (spBehindB C bu)) ∧ (∀ bu, FnOk P w K mg base (L2.CX P w) 11 f fd ["self", "state", "operation"] (spBehindX C CO bu)) ∧ FnOk P w K mg base (L2.CX P w) 11 f fd ["self", "state", "operation"] (spBehindBR K C CS CN) ∧ Binds K fd ["self", "state", "operation"] [] := by
  obtain ⟨cda, cc, oc, od, osl, kV, doc, pm, ct, an, lk, hcd, S3⟩ := T
  refine ⟨_, fun bu => ok_super3 (CX := CX0) (k := 10) (kl := 9) (spL := spBehind) lk hcd ss3Behind S3 (by decide +kernel) rfl rfl FL hbL (by decide) (fun _ => ⟨_, rfl⟩) (fun _ => rfl) (fun vs H Q E h => ?_) (fun A outer s H vs Q E hr h => ?_), fun bu => ok_super3 (CX := L2.CX P w) (k := 10) (kl := 9) (spL := spBehind) lk hcd ss3Behind S3 (by decide +kernel) rfl rfl (toX FL) hbL (by decide) (fun _ => ⟨_, rfl⟩) (fun _ => rfl) (fun vs H Q E h => ?_) (fun A outer s H vs Q E hr h => ?_), ok_super3 (CX := L2.CX P w) (k := 10) (kl := 9) (spL := spBehindR K CS CN) lk hcd ss3Behind S3 (by decide +kernel) rfl rfl FLR hbL (by decide) (fun _ => ⟨_, rfl⟩) (fun _ => rfl) (fun vs H Q E h => ?_) (fun A outer s H vs Q E hr h => ?_), Binds.all fun us hl => match us, hl with | [_, _, _], _ => rfl⟩
  · obtain ⟨_, _, _, _, _, _, _, rfl, _⟩ := h
    rfl
  · obtain ⟨p, dx, fs, v, u, x, o, rfl, hp, hbu, hst, ho, hg, hok, hle, q⟩ := h
    refine ⟨p, dx, fs, v, u, _, E, rfl, hp, pass0, (pss_cons (ps_if (pt_cmpR op_gt (pe_ix ix_tup (pv 3) pe_int (fun _ _ => rfl)) (pe_fld (pv 0) rfl) (nomark _))
    (pss_one ps_never)
    pss_nil)
    (pss_one (ps_ret (pv 3)))), ?_⟩
    refine ⟨_, v, u, x, o, rfl, hst, ho, hg, hok, fun H1 r s1 hr1 => ?_⟩
    obtain ⟨t, m, rfl, ht, hm⟩ := id hr1
    refine ⟨_, rfl, t, _, _, _, rfl, rfl, SqT.of ht, atI_nat (j := 2) rfl, _, rfl, p, C, dx, _, _, rfl, s1 _ _ hp, TB.cl, TB.nB, hbu, _, _, rfl, rfl, false, congrArg V.bl (decide_eq_false (by unfold cost at hle; omega)), ?_⟩
    exact ⟨_, rfl, q _ _ s1 hr1⟩
  · obtain ⟨_, _, _, _, _, _, _, rfl, _⟩ := h
    rfl
  · obtain ⟨p, dx, fs, v, u, x, o, rfl, hp, hbu, hst, ho, hg, hok, h66, q, qe⟩ := h
    refine ⟨p, dx, fs, v, u, _, fun _ _ _ => False, rfl, hp, (fun _ _ _ _ _ _ _ z => by obtain ⟨_, _, _, _, _, _, _, _, _, _, _, _, hE⟩ := z; exact hE.elim), (pss_cons (ps_if (pt_cmpR op_gt (pe_ix ix_tup (pv 3) pe_int (fun _ _ => rfl)) (pe_fld (pv 0) rfl) (nomark _))
    (pss_one (ps_raise rfl (takes_of rfl rfl rfl rfl) (pmk_sup XOverBudget (hr.mono (by decide)) rfl (pa_cons (pe_ix ix_tup (pv 3) pe_int (fun _ _ => rfl)) pa_nil))))
    pss_nil)
    (pss_one (ps_ret (pv 3)))), ?_⟩
    refine ⟨_, v, u, x, o, rfl, hst, ho, hg, hok, fun H1 r s1 hr1 => ?_⟩
    obtain ⟨t, m, rfl, ht, hm⟩ := id hr1
    refine ⟨_, rfl, t, _, _, _, rfl, rfl, SqT.of ht, atI_nat (j := 2) rfl, _, rfl, p, C, dx, _, _, rfl, s1 _ _ hp, TB.cl, TB.nB, hbu, _, _, rfl, rfl, ?_⟩
    by_cases c : cost x o ≤ bu
    · exact ⟨false, congrArg V.bl (decide_eq_false (by unfold cost at c; omega)), _, rfl, q c _ _ s1 hr1⟩
    · refine ⟨true, congrArg V.bl (decide_eq_true (by unfold cost at c; omega)), ?_⟩
      refine ⟨_, rfl, t, _, _, _, rfl, rfl, SqT.of ht, atI_nat (j := 2) rfl, _, rfl, .inr ⟨_, rfl, h66⟩, fun d nd => ?_⟩
      exact qe (by omega) _ d (s1.trans (same_upd nd)) upd_same
  · obtain ⟨_, _, _, _, _, _, _, _, _, _, _, rfl, _⟩ := h
    rfl
  · obtain ⟨p, dx, fs, e0, hp, z, v, x, t, y, ty, rfl, hst, hg, hy, hq⟩ := h
    obtain rfl : z = .ref p := Option.some.inj e0
    refine ⟨p, dx, fs, v, .ref t, _, E, rfl, hp, (fun pins σ H1 s1 e s' I c => passAt (takes_of rfl rfl rfl rfl) σ pins H1 s1 e s' I c), (pss_cons (ps_if (pt_cmpR op_gt (pe_ix ix_tup (pv 3) pe_int (fun _ _ => rfl)) (pe_fld (pv 0) rfl) (nomark _))
    (pss_one (ps_raise rfl (takes_of rfl rfl rfl rfl) (pmk_sup XOverBudget (hr.mono (by decide)) rfl (pa_cons (pe_ix ix_tup (pv 3) pe_int (fun _ _ => rfl)) pa_nil))))
    pss_nil)
    (pss_one (ps_ret (pv 3)))), ?_⟩
    exact ⟨_, v, x, t, y, ty, rfl, hst, hg, hy, hq⟩
end
end LT

namespace LT
open PySem PySem.Spec PyProof.Rows L2
/-! ### previews of a log with a budget that may be refused -/
/-- .. that may raise -/
theorem okVX {P : Program} {w : World} {K : PySem.W.Frag} {mg : Str → Option Value} {base : Heap} {x qual : Str} {st : Stmt} {f : Addr} {fd : FuncData} {N : List Str} {p1 p2 : Str} {k n : Nat} {sp : Sp} (F : Fun K x qual st f fd) (S : FnScope N [p1, p2] (defScope st)) (hb : BindsV fd p1 p2 n)
    (hbody : ∀ (cdv : Value) (A : Around) (outer : List Env) (s : Shared) (H : Hp) (vs : List V) (Q : VK) (E : XK), Room k (A.deeper (envOfC qual (defScope st) s.heap.objs.size f cdv)) → sp vs H Q E →
      ∃ t, PSs (cxOf (L2.CX P w) P w K mg base N qual (defScope st) f cdv A outer s H E) (defBody st) t ∧ t { nx := fun _ H' => Q .non H', rt := Q } (start N vs) H) : FnOkV P w K mg base (L2.CX P w) (k + 1) f n sp := by
  obtain ⟨oc, od, kV, doc, pm, an, cdv, ct, osl, rfl, lk, hcd⟩ := F.ex
  exact fnV_of lk hcd S hb fun A outer s H vs Q E hr hsp => hbody cdv A outer s H vs Q E hr hsp
section
variable {X : Cx} {CX : CXT} {k : Nat} {f C : Addr} {sp : Sp} {E : L2.St → XK} {m : Str} {pos apos : Pos} {e o : Expr} {es : List Expr} {ta : TE} {t : TA}
/-- o.m(e, ..) of a method with *rest -/
def tMethVS (C : Addr) (m : Str) (n : Nat) (sp : Sp) (E : L2.St → XK) (ta : TE) (t : TA) : TE := fun σ H Q => ta σ H fun x H1 => ∃ a dx fs, x = .ref a ∧ H1 a = some (.ins C dx fs) ∧ fs.lookup m = none ∧
  t σ H1 fun vs H2 => vs.length = n ∧ ∀ tp, H2 tp = none → sp [x, .ref tp] (upd H2 tp (.tup vs)) Q (E σ)
theorem pe_methVS {pl : Sem Bool} {n : Nat} (he : PE X o ta) (c : Cls X.K C) (hm : Meth X.K C m f) (F : FnOkV X.prog X.w X.K X.mg X.base CX k f n sp) (hr : Room k X.A) (hz : n ≤ sizeLine) (hx : ∀ σ, PassesAt CX X σ (E σ)) (ha : PA X (e :: es) t)
    (hst : starEach (e :: es) X.env = (false, eval e X.env) :: starEach es X.env := by rfl) (hpl : (backTo pos (starEach es X.env)).any (·.1) = false := by rfl)
    (ht : eval (.Call (.Attribute o m apos) (e :: es) [] pos) X.env = (do
      let ov ← eval o X.env
      standAt apos.atName
      let (f, first) ← holding [ov] (getMethod ov m pl)
      callWith pos f first (backTo pos (starEach (e :: es) X.env)) (backToKw pos (keywordEach [] X.env))) := by rfl) :
    PE X (.Call (.Attribute o m apos) (e :: es) [] pos) (tMethVS C m n sp E ta t) := by
  refine ⟨fun pins s σ H Q I h => ?_⟩
  refine PySem.W.methodCall_KW (pl := pl) (thn (he.run pins s σ H _ I h) fun u s1 ⟨x, H1, I1, rx, a, dx, fs, ex, ea, l, q⟩ => ?_) ht
  subst ex
  obtain rfl : u = Value.ref a := rx
  refine getmeth_ok I1 ea c hm l ?_
  refine PySem.W.callWith_K (first := [.ref a]) (h₀ := X.base) I.ok.mod.kin hm.kp (thn (ha.run pos pins s1 σ H1 _ I1 q) fun us s2 ⟨vs, H2, I2, r, hl, q2⟩ => ⟨I2.kIn, ?_⟩) hst hpl
  have hf : H2 s2.heap.objs.size = none := I2.hok.fresh (Nat.le_refl _)
  have ul : us.length = n := by rw [← r.length]; exact hl
  have I3 : Inv X pins σ (upd H2 s2.heap.objs.size (.tup vs)) { s2 with heap := s2.heap.push { cls := .type "tuple", data := .seq us.toArray } } :=
    I2.laid (t' := s2.toks) (fun b u e => Heap.get?_push_of_some _ e) (Nat.le_refl _) ⟨by rw [hl]; exact hz, us, r, ⟨_, Heap.get?_push_size _ rfl, rfl, _, rfl⟩⟩
  refine wpAny_call (codeAny_mono (F X.A X.stack s2 H2 _ (.ref a) us (.ref a) Q (E σ) hr ul hz I2.env0 I3.env0 rfl (q2 _ hf)) fun r s' hq => ?_)
  cases r with
  | error e => exact hx σ pins _ _ e s' I3 hq
  | ok fl =>
    cases fl with
    | ret u => exact I3.after hq
    | next => exact False.elim hq
    | brk => exact False.elim hq
    | cont => exact False.elim hq
end
section
variable {P : Program} {w : World} {K : PySem.W.Frag} {mg : Str → Option Value} {base : Heap} {CS CN : Addr}
/-- how an operation is refused: over the budget, or a size that isn't -/
def Refuse (CO CS : Addr) (bu : Int) (x : LS) (o : LOp) (H : Hp) (E : XK) : Prop :=
  (lok x o ∧ (cost x o).natAbs < 10 ^ 66 ∧ bu < cost x o ∧ ∀ (H' : Hp) (d : Addr), Same H H' → H' d = some (.xd [("count", .int (cost x o))]) → E (.ref CO) (some d) H') ∨
  (∃ k : Nat, o = .cut k ∧ (k = 0 ∨ x.1 < k) ∧ ∀ H' : Hp, Same H H' → E (.ref CS) none H')
def spBehindT (K : PySem.W.Frag) (C CO CS CN : Addr) : Sp := fun vs H Q E => anyB (spBehindX C CO) vs H Q E ∨ spBehindBR K C CS CN vs H Q E
def spPreviewX (C CO CS : Addr) (bu : Int) : Sp := fun vs H Q E => ∃ (p c tp : Addr) (x : LS) (cs : List (LOp × LS)) (us : List V) (os : List LOp) (j : Nat) (o : LOp), vs = [.ref p, .ref tp] ∧ LogB C bu H p c x cs ∧ H tp = some (.tup us) ∧ All2 (OpAt H) us os ∧ os[j]? = some o ∧
  (∀ (i : Nat) (o' : LOp), i < j → os[i]? = some o' → lgood (lafters x (os.take i)) ∧ lok (lafters x (os.take i)) o' ∧ cost (lafters x (os.take i)) o' ≤ bu ∧ (cost (lafters x (os.take i)) o').natAbs < 10 ^ 66) ∧
  lgood (lafters x (os.take j)) ∧ Refuse CO CS bu (lafters x (os.take j)) o H E
theorem okX_bud_preview {bu : Int} {n : Nat} {f g1 g2 C CO : Addr} {fd d1 d2 : FuncData} (F : Fun K "preview" "LiveLog.preview" sLiveLogPreview f fd) (hb : BindsV fd "self" "operations" n) (TLiveLog : TBud K C)
    (GIsOperation : FnOk P w K mg base CX0 1 g1 d1 ["value"] spIsOp) (AIsOperation : At K mg "_is_operation" g1 d1 ["value"])
    (GLiveLogBehind : FnOk P w K mg base (L2.CX P w) 11 g2 d2 ["self", "state", "operation"] (spBehindT K C CO CS CN)) (MLiveLogBehind : Meth K C "_behind" g2) (BLiveLogBehind : Binds K d2 ["self", "state", "operation"] []) : FnOkV P w K mg base (L2.CX P w) 13 f n (spPreviewX C CO CS bu) := by
  refine okVX F scLiveLogPreview hb (fun cdv A outer s H vs Q E hr h => ?_)
  obtain ⟨p, c, tp, x, cs, us, os, jj, oo, rfl, hL, htp, hus, hjj, hbef, hgj, href⟩ := h
  refine ⟨_, (pss_cons (ps_for PassesOwn.leaving rfl (pi_tup (pv 1)) (pg_name (i := 2) scLiveLogPreview.nd rfl (Or.inl rfl))
    (pss_one (ps_if (pt_not (pt_val (pe_call GIsOperation (hr.mono (by decide)) rfl AIsOperation.m AIsOperation.kp AIsOperation.b .nil pass0 (pa_cons (pv 2) pa_nil))))
    (pss_one ps_never)
    pss_nil)))
    (pss_cons (ps_set (i := 3) scLiveLogPreview.nd rfl (Or.inl rfl) (pe_fld (pv 0) rfl))
    (pss_cons (ps_for PassesOwn.leaving rfl (pi_tup (pv 1)) (pg_name (i := 2) scLiveLogPreview.nd rfl (Or.inl rfl))
    (pss_one (ps_set (i := 3) scLiveLogPreview.nd rfl (Or.inl rfl) (pe_methS (pv 0) TLiveLog.cl MLiveLogBehind GLiveLogBehind (hr.mono (by decide)) BLiveLogBehind (fun σ => passAt (takes_of rfl rfl rfl rfl) σ) (pa_cons (pv 3) (pa_cons (pv 2) pa_nil))))))
    (pss_one (ps_ret (pe_ix ix_tup (pv 3) pe_int (fun _ _ => rfl))))))), ?_⟩
  obtain ⟨dx, sv, vs, hp, hst, hc, hcs⟩ := id hL
  refine ⟨_, rfl, tp, rfl, ⟨_, SqT.of htp⟩, ?_⟩
  refine for_tup (K := K) (a := tp) (xs := us) (fun i σ H' => ∃ v2 : Option V, σ = [some (.ref p), some (.ref tp), v2, none] ∧ H' = H) ⟨none, rfl, rfl⟩ (fun i σ H' _ ⟨_, _, e⟩ => by rw [e]; exact SqT.of htp) ?_ ?_
  · rintro i v σ H' hi ⟨v2, rfl, rfl⟩
    obtain ⟨o, ho, hvo⟩ := hus.nth hi
    exact ⟨_, rfl, v, o, rfl, hvo, true, rfl, _, rfl, rfl⟩
  rintro σ H' ⟨v2, rfl, rfl⟩
  refine ⟨_, rfl, p, C, dx, _, _, rfl, hp, TLiveLog.cl, TLiveLog.nS, fldsB_state _ _ _, ?_⟩
  refine ⟨_, rfl, tp, rfl, ⟨_, SqT.of htp⟩, ?_⟩
  refine for_tup (K := K) (a := tp) (xs := us) (fun i σ H1 => ∃ (v2 : Option V) (s1 : V), σ = [some (.ref p), some (.ref tp), v2, some s1] ∧ Same H' H1 ∧ StAt H1 s1 (lafters x (os.take i)) ∧ i ≤ jj) ⟨_, _, rfl, Same.refl _, hst, Nat.zero_le _⟩ (fun i σ H1 _ ⟨_, _, _, e, _⟩ => SqT.of (e _ _ htp)) ?_ ?_
  · rintro i v σ H1 hi ⟨v2, s1, rfl, sm, hs1, hij⟩
    obtain ⟨o, ho, hvo⟩ := hus.nth hi
    by_cases e : i = jj
    · subst e
      have eo : o = oo := Option.some.inj (ho.symm.trans hjj)
      subst eo
      refine ⟨_, rfl, p, dx, _, rfl, sm _ _ hp, fldsB_no _ _ _ no_behind.1 no_behind.2 (by decide +kernel), _, rfl, _, rfl, ?_⟩
      rcases href with ⟨hok, h66, hov, q⟩ | ⟨k, rfl, hk, q⟩
      · exact .inl ⟨bu, p, dx, _, s1, v, _, o, rfl, sm _ _ hp, fldsB_budget _ _ _, hs1, hvo.same sm, hgj, hok, h66, fun le => absurd le (by omega), fun _ H2 d s2 hd => q H2 d (sm.trans s2) hd⟩
      · obtain ⟨t, rfl, ht⟩ := hvo
        refine .inr ⟨p, dx, _, rfl, sm _ _ hp, _, s1, _, t, .int (k : Int), _, rfl, hs1, hgj, .int _, .inl ⟨sm _ _ ht, ?_, q H1 sm⟩⟩
        show (decide (1 ≤ (k : Int)) && decide ((k : Int) ≤ _)) = false
        rw [Bool.and_eq_false_iff]
        rcases hk with hk | hk
        · exact .inl (decide_eq_false (by omega))
        · exact .inr (decide_eq_false (by omega))
    · obtain ⟨g1, g2, g3, g4⟩ := hbef i o (by omega) ho
      refine ⟨_, rfl, p, dx, _, rfl, sm _ _ hp, fldsB_no _ _ _ no_behind.1 no_behind.2 (by decide +kernel), _, rfl, _, rfl, .inl ⟨bu, p, dx, _, s1, v, _, o, rfl, sm _ _ hp, fldsB_budget _ _ _, hs1, hvo.same sm, g1, g2, g4, fun _ H2 r s2 hr => ?_, fun gt => absurd gt (by omega)⟩⟩
      refine ⟨_, _, rfl, sm.trans s2, ?_, by omega⟩
      rw [lafters_at x ho]
      exact hr
  · rintro σ H1 ⟨v2, s1, rfl, sm, hs1, hij⟩
    have := (List.getElem?_eq_some_iff.mp hjj).1
    rw [hus.len] at hij
    omega
end
end LT

namespace LT
open PySem PySem.Spec PyProof.Rows L2
/-- what a call costs -/
def ocost (x : LS) : LOp → Int
  | .app k => acost x.1 k
  | .mark => if x.1 ∈ x.2.1 then 0 else ((ones x.1 - 1 : Nat) : Int)
  | .cut _ => 0
theorem lafter_cost (x : LS) (o : LOp) : (lafter x o).2.2 = x.2.2 + ocost x o := by
  cases o with
  | app k => rfl
  | cut k => exact (Int.add_zero _).symm
  | mark =>
    show (if x.1 ∈ x.2.1 then x else (x.1, x.2.1 ++ [x.1], x.2.2 + ((ones x.1 - 1 : Nat) : Int))).2.2 = x.2.2 + (if x.1 ∈ x.2.1 then 0 else ((ones x.1 - 1 : Nat) : Int))
    by_cases c : x.1 ∈ x.2.1
    · rw [if_pos c, if_pos c, Int.add_zero]
    · rw [if_neg c, if_neg c]
theorem ones_next : ∀ n, ones (n + 1) ≤ ones n + 1 := fun n => by
  induction n using Nat.strongRecOn with
  | ind n ih =>
    rcases (show n % 2 = 0 ∨ n % 2 = 1 by omega) with e | e
    · rw [ones_step (n + 1), ones_step n, show (n + 1) % 2 = 1 by omega, show (n + 1) / 2 = n / 2 by omega]
      omega
    · have := ih (n / 2) (by omega)
      rw [ones_step (n + 1), ones_step n, show (n + 1) % 2 = 0 by omega, show (n + 1) / 2 = n / 2 + 1 by omega]
      omega
theorem ones_up (n : Nat) : ∀ k, ones (n + k) ≤ ones n + k
  | 0 => Nat.le_refl _
  | k + 1 => by
    have := ones_up n k
    have := ones_next (n + k)
    rw [← Nat.add_assoc]
    omega
theorem ocost_pos (x : LS) (o : LOp) : 0 ≤ ocost x o := by
  cases o with
  | app k =>
    show 0 ≤ (k : Int) - ((ones (x.1 + k) : Nat) : Int) + ((ones x.1 : Nat) : Int)
    have := ones_up x.1 k
    omega
  | cut k => exact Int.le_refl 0
  | mark =>
    show 0 ≤ (if x.1 ∈ x.2.1 then (0 : Int) else ((ones x.1 - 1 : Nat) : Int))
    split <;> omega
theorem ones_self62 (n : Nat) : ones n ≤ n := by
  have := ones_up 0 n
  rw [Nat.zero_add, ones_zero, Nat.zero_add] at this
  exact this
theorem ocost_top {x : LS} {o : LOp} (g : lgood x) (h : lok x o) : ocost x o ≤ 10 ^ 30 := by
  obtain ⟨g1, g2, _⟩ := g
  have a := ones_self62 x.1
  have d : ((10 ^ 30 : Nat) : Int) = (10 : Int) ^ 30 := by decide
  rw [← d]
  cases o with
  | app k =>
    have h2 : x.1 + k ≤ 10 ^ 30 := h.2
    show (k : Int) - ((ones (x.1 + k) : Nat) : Int) + ((ones x.1 : Nat) : Int) ≤ _
    omega
  | cut k =>
    show (0 : Int) ≤ _
    omega
  | mark =>
    show (if x.1 ∈ x.2.1 then (0 : Int) else ((ones x.1 - 1 : Nat) : Int)) ≤ _
    split <;> omega
/-! ### logs with a budget, beside other things -/
theorem LogB.lst {C : Addr} {bu : Int} {H : Hp} {p c : Addr} {x : LS} {cs : List (LOp × LS)} (h : LogB C bu H p c x cs) : ∃ dx fs, H p = some (.ins C dx fs) ∧ (∀ m : Str, (¬ m = "_calls" ∧ ¬ m = "_state") → ¬ m = "_budget" → fs.lookup m = none) ∧ ∃ vs, H c = some (.lst vs) := by
  obtain ⟨dx, s, vs, a, _, b, _⟩ := h
  exact ⟨dx, _, a, fun m h1 h2 => fldsB_no _ _ _ h1.1 h1.2 h2, vs, b⟩
theorem ButL.tupsB {C : Addr} {bu : Int} {H H' : Hp} {p c : Addr} {x : LS} {cs : List (LOp × LS)} (B : ButL p c H H') (h : LogB C bu H p c x cs) : Tups H H' := by
  obtain ⟨_, _, _, a, _, b, _⟩ := h
  exact fun q xs e => B q _ e (ne_of e a (fun z => by cases z)) (ne_of e b (fun z => by cases z))
/-- what was there before a log was made stays when it is called -/
theorem Same.butL {H H1 H2 : Hp} {p c : Addr} (s : Same H H1) (k : ButL p c H1 H2) (np : H p = none) (nc : H c = none) : Same H H2 := fun a o e => k a o (s a o e) (ne_of_none e np) (ne_of_none e nc)
end LT

namespace LT
open PySem PySem.Spec PyProof.Rows L2
section
variable {P : Program} {w : World} {K : PySem.W.Frag} {mg : Str → Option Value} {base : Heap}
def spUndoB (C : Addr) (bu : Int) : Sp := fun vs H Q _ => ∃ (p c : Addr) (x y : LS) (cs : List (LOp × LS)) (o : LOp), vs = [.ref p] ∧ LogB C bu H p c x (cs ++ [(o, y)]) ∧ ∀ (H' : Hp), ButL p c H H' → LogB C bu H' p c y cs → Q .non H'
theorem ok_bud_undo {bu : Int} {f C : Addr} {fd : FuncData} (F : Fun K "undo" "LiveLog.undo" sLiveLogUndo f fd) (T : TBud K C) : FnOk P w K mg base CX0 1 f fd ["self"] (spUndoB C bu) := by
  refine F.ok scLiveLogUndo (fun vs H Q E h => ?_) (fun cdv A outer s H vs Q E hr h => ?_)
  · obtain ⟨_, _, _, _, _, _, rfl, _⟩ := h
    rfl
  obtain ⟨p, c, x, y, cs, o, rfl, hL, q⟩ := h
  have pc := LogB.ne hL
  obtain ⟨dx, sv, vs, hp, hst, hc, hcs⟩ := hL
  obtain ⟨vs', v, rfl, hcs', hv⟩ := hcs.last
  obtain ⟨t, ov, st, rfl, ht, ho, hst'⟩ := hv
  refine ⟨_, (pss_cons (ps_if (pt_not (pt_truth (pe_fld (pv 0) rfl) (fun _ => rfl)))
    (pss_one ps_never)
    pss_nil)
    (pss_one (ps_asg (pe_bm0 PySem.F.plainAttrs_list PySem.F.slot_list_pop PySem.F.type_list_pop mt_pop (pe_fld (pv 0) rfl)) (pg_tup (by rfl) (pgs_cons (pg_name (i := 1) scLiveLogUndo.nd rfl (Or.inl rfl)) (pgs_cons (pg_fld (pv 0)) pgs_nil)))))), ?_⟩
  have te : (!(vs' ++ [V.ref t]).isEmpty) = true := by cases vs' <;> rfl
  have ixe : (vs' ++ [V.ref t])[(vs' ++ [V.ref t]).length - 1]? = some (.ref t) := by rw [List.length_append, List.length_singleton, Nat.add_sub_cancel]; exact List.getElem?_concat_length
  refine ⟨_, rfl, p, C, dx, _, _, rfl, hp, T.cl, T.nC, fldsB_calls _ _ _, true, .inl ⟨_, SqL.of hc, te.symm⟩, ?_⟩
  refine ⟨_, rfl, p, C, dx, _, _, rfl, hp, T.cl, T.nC, fldsB_calls _ _ _, .inl ⟨rfl, _, SqL.of hc⟩, c, _, _, rfl, rfl, hc, ixe, ?_⟩
  rw [List.dropLast_concat]
  have hp1 : (upd H c (.lst vs')) p = some (.ins C dx (fldsB sv c bu)) := by rw [upd_ne pc]; exact hp
  have ht1 : (upd H c (.lst vs')) t = some (.tup [ov, st]) := by rw [upd_ne (ne_of ht hc (fun z => by cases z))]; exact ht
  refine ⟨t, _, rfl, SqT.of ht1, rfl, _, _, rfl, _, _, rfl, _, rfl, p, C, dx, _, rfl, hp1, T.cl, T.nS, (by exact fldsB_few _ _ _), rfl, ?_⟩
  rw [fldsB_put]
  have T3 : Tups H (upd (upd H c (.lst vs')) p (.ins C dx (fldsB st c bu))) := fun a xs k => by
    rw [upd_ne (ne_of k hp (fun z => by cases z)), upd_ne (ne_of k hc (fun z => by cases z))]
    exact k
  refine q _ (fun b ob k nb nc => ?_) ⟨dx, st, vs', upd_same, hst'.tups T3, ?_, hcs'.mono fun v x (k : CallAt H v x) => k.tups T3⟩
  · rw [upd_ne nb, upd_ne nc]
    exact k
  · rw [upd_ne (fun z => pc z.symm)]
    exact upd_same
def spBudgetB (C : Addr) (bu : Int) : Sp := fun vs H Q _ => ∃ (p c : Addr) (x : LS) (cs : List (LOp × LS)), vs = [.ref p] ∧ LogB C bu H p c x cs ∧ Q (.int bu) H
theorem ok_bud_budget {bu : Int} {f C : Addr} {fd : FuncData} (F : Fun K "budget" "BudgetLog.budget" sBudgetLogBudget f fd) (T : TBud K C) : FnOk P w K mg base CX0 1 f fd ["self"] (spBudgetB C bu) := by
  refine F.ok scBudgetLogBudget (fun vs H Q E h => ?_) (fun cdv A outer s H vs Q E hr h => ?_)
  · obtain ⟨_, _, _, _, rfl, _⟩ := h
    rfl
  obtain ⟨p, c, x, cs, rfl, ⟨dx, _, vs, hp, _⟩, q⟩ := h
  refine ⟨_, (pss_one (ps_ret (pe_fld (pv 0) rfl))), ?_⟩
  exact ⟨_, rfl, p, C, dx, _, _, rfl, hp, T.cl, T.nB, fldsB_budget _ _ _, q⟩
/-- isinstance of a log with a budget -/
structure TIB (K : PySem.W.Frag) (CB CL : Addr) : Prop where
  ha : PySem.W.findIn K (.ref CB) "__class__" = some (some (.builtin "object.__class__"))
  hn : PySem.W.specialIn K (.builtin "object.__class__") "__get__" = some (some (.builtin "getset_descriptor.__get__"))
  htk : PySem.W.takesIn K (.builtin "object.__class__") = some true
  hm : PySem.W.mroIn K CB (.type "object") = some true
  kB : PySem.W.kitOne K (.ref CB) (.ref CB) = some true
  kL : PySem.W.kitOne K (.ref CB) (.ref CL) = some true
def spEqBB (CB : Addr) : Sp := fun vs H Q _ => ∃ (a b ca cb : Addr) (bu bv : Int) (x z : LS) (cs ds : List (LOp × LS)), vs = [.ref a, .ref b] ∧ LogB CB bu H a ca x cs ∧ LogB CB bv H b cb z ds ∧ Q (.bl (PyData.eqv (stD x) (stD z) && decide (bu = bv))) H
theorem ok_bud_eqB {f CLiveLog CBudgetLog : Addr} {fd : FuncData} (F : Fun K "__eq__" "BudgetLog.__eq__" sBudgetLogEq f fd) (TB : TBud K CBudgetLog) (TI : TIB K CBudgetLog CLiveLog) (gBudgetLog : mg "BudgetLog" = some (.ref CBudgetLog)) (z_isinstance : mg "isinstance" = none) :
    FnOk P w K mg base CX0 1 f fd ["self", "other"] (spEqBB CBudgetLog) := by
  refine F.ok scBudgetLogEq (fun vs H Q E h => ?_) (fun cdv A outer s H vs Q E hr h => ?_)
  · obtain ⟨_, _, _, _, _, _, _, _, _, _, rfl, _⟩ := h
    rfl
  obtain ⟨a, b, ca, cb, bu, bv, x, z, cs, ds, rfl, ⟨dx, sv, vs, hp, hst, _⟩, ⟨dx', sv', vs', hp', hst', _⟩, q⟩ := h
  refine ⟨_, (pss_cons (ps_if (pt_not (pt_val (pe_callB call_isi (by rfl) z_isinstance (by decide +kernel) (pa_cons (pv 1) (pa_cons (pe_glob (v := .ref CBudgetLog) rfl gBudgetLog rfl) pa_nil)))))
    (pss_one (ps_ret pe_bl))
    pss_nil)
    (pss_one (ps_ret (pe_and (pe_cmpR (op_eqD hr.units) (pe_fld (pv 0) rfl) (pe_fld (pv 1) rfl) (nomark _)) (pe_one (pe_cmpR op_eq (pe_fld (pv 0) rfl) (pe_fld (pv 1) rfl) (nomark _))))))), ?_⟩
  have ty : TyX K H (.ref b) (.ref CBudgetLog) := .base (.ins hp' TB.cl TI.ha TI.hn TI.htk TI.hm)
  refine ⟨_, rfl, _, _, _, _, true, rfl, .own _, ty, TI.kB, true, rfl, ?_⟩
  refine ⟨_, rfl, a, CBudgetLog, dx, _, _, rfl, hp, TB.cl, TB.nS, fldsB_state _ _ _, _, rfl, b, CBudgetLog, dx', _, _, rfl, hp', TB.cl, TB.nS, fldsB_state _ _ _, stD x, stD z, hst.dp, hst'.dp, stD_shaped x, stD_shaped z, ?_⟩
  cases e : PyData.eqv (stD x) (stD z) with
  | false =>
    rw [e, Bool.false_and] at q
    refine ⟨false, rfl, ?_⟩
    exact q
  | true =>
    rw [e, Bool.true_and] at q
    refine ⟨true, rfl, ?_⟩
    refine ⟨_, rfl, a, CBudgetLog, dx, _, _, rfl, hp, TB.cl, TB.nB, fldsB_budget _ _ _, _, rfl, b, CBudgetLog, dx', _, _, rfl, hp', TB.cl, TB.nB, fldsB_budget _ _ _, rfl, ?_⟩
    have ee : decide (V.int bu = V.int bv) = decide (bu = bv) := by
      by_cases h : bu = bv
      · rw [h, decide_eq_true rfl, decide_eq_true rfl]
      · rw [decide_eq_false h, decide_eq_false (fun y => h (V.int.inj y))]
    rw [ee]
    exact q
/-- a plain log is no log with a budget -/
def spEqLB (CL CB : Addr) : Sp := fun vs H Q _ => ∃ (a b cb : Addr) (bu : Int) (z : LS) (ds : List (LOp × LS)), vs = [.ref a, .ref b] ∧ LogB CB bu H b cb z ds ∧ Q (.bl false) H
theorem ok_log_eqB {f CLiveLog CBudgetLog : Addr} {fd : FuncData} (F : Fun K "__eq__" "LiveLog.__eq__" sLiveLogEq f fd) (TB : TBud K CBudgetLog) (TI : TIB K CBudgetLog CLiveLog) (gLiveLog : mg "LiveLog" = some (.ref CLiveLog)) (gBudgetLog : mg "BudgetLog" = some (.ref CBudgetLog)) (z_isinstance : mg "isinstance" = none) :
    FnOk P w K mg base CX0 1 f fd ["self", "other"] (spEqLB CLiveLog CBudgetLog) := by
  refine F.ok scLiveLogEq (fun vs H Q E h => ?_) (fun cdv A outer s H vs Q E hr h => ?_)
  · obtain ⟨_, _, _, _, _, _, rfl, _⟩ := h
    rfl
  obtain ⟨a, b, cb, bu, z, ds, rfl, ⟨dx', sv', vs', hp', _⟩, q⟩ := h
  refine ⟨_, (pss_cons (ps_if (PW.pt (pw_or (pt_not (pt_val (pe_callB call_isi (by rfl) z_isinstance (by decide +kernel) (pa_cons (pv 1) (pa_cons (pe_glob (v := .ref CLiveLog) rfl gLiveLog rfl) pa_nil))))) (pw_or1 (pt_val (pe_callB call_isi (by rfl) z_isinstance (by decide +kernel) (pa_cons (pv 1) (pa_cons (pe_glob (v := .ref CBudgetLog) rfl gBudgetLog rfl) pa_nil)))))))
    (pss_one (ps_ret pe_bl))
    pss_nil)
    (pss_one (ps_ret (pe_cmpR (op_eqD hr.units) (pe_fld (pv 0) rfl) (pe_fld (pv 1) rfl) (nomark _))))), ?_⟩
  have ty : TyX K H (.ref b) (.ref CBudgetLog) := .base (.ins hp' TB.cl TI.ha TI.hn TI.htk TI.hm)
  exact ⟨_, rfl, _, _, _, _, true, rfl, .own _, ty, TI.kL, true, rfl, _, rfl, _, _, _, _, true, rfl, .own _, ty, TI.kB, true, rfl, q⟩
end
end LT

namespace LT
open PySem PySem.Spec PyProof.Rows L2
theorem ix_tupT {X : Cx} {pn : List (Addr × Obj)} {xe : Value → Shared → Prop} : IxR (X.tr pn xe) (rIxT X.K) := ix_tup
/-- the word of what is over the budget -/
def overW (i : Int) : Str := ("over " : Str) ++ Str.ofString (toString i)
theorem over_len {i : Int} (h : i.natAbs < 10 ^ 66) : ("over " : Str).length + (Str.ofString (toString i)).length ≤ sizeLine := by
  have := num_len h
  have e : ("over " : Str).length = 5 := rfl
  exact szle (by omega)
/-- what a preview tells -/
def dueV (bu : Int) : LS → List LOp → V
  | x, [] => .int x.2.2
  | x, o :: os => if bu < cost x o then .str (overW (cost x o)) else dueV bu (lafter x o) os
section
variable {P : Program} {w : World} {K : PySem.W.Frag} {mg : Str → Option Value} {base : Heap} {CS : Addr}
def spCalledX (C CO : Addr) (bu : Int) : Sp := fun vs H Q E => ∃ (p c : Addr) (x : LS) (cs : List (LOp × LS)) (v : V) (o : LOp), vs = [.ref p, v] ∧ LogB C bu H p c x cs ∧ OpAt H v o ∧ lgood x ∧ lok x o ∧ cs.length ≤ 1000 ∧ (cost x o).natAbs < 10 ^ 66 ∧
  (cost x o ≤ bu → ∀ (H' : Hp), ButL p c H H' → LogB C bu H' p c (lafter x o) (cs ++ [(o, x)]) → Q .non H') ∧ (bu < cost x o → ∀ (H' : Hp) (d : Addr), Same H H' → H' d = some (.xd [("count", .int (cost x o))]) → E (.ref CO) (some d) H')
theorem okX_law_called {bu : Int} {f g1 g2 g3 C CO : Addr} {fd d1 d2 d3 : FuncData} (F : Fun K "_law_called" "_law_called" sLawCalled f fd) (TLiveLog : TBud K C)
    (GLiveLogMark : FnOk P w K mg base (L2.CX P w) 13 g1 d1 ["self"] (spCallX C CO bu (fun _ => .mark) true)) (MLiveLogMark : Meth K C "mark" g1) (BLiveLogMark : Binds K d1 ["self"] [])
    (GLiveLogAppend : FnOk P w K mg base (L2.CX P w) 13 g2 d2 ["self", "number"] (spCallX C CO bu .app false)) (MLiveLogAppend : Meth K C "append" g2) (BLiveLogAppend : Binds K d2 ["self", "number"] [])
    (GLiveLogCut : FnOk P w K mg base (L2.CX P w) 13 g3 d3 ["self", "size"] (spCallX C CO bu .cut false)) (MLiveLogCut : Meth K C "cut" g3) (BLiveLogCut : Binds K d3 ["self", "size"] []) : FnOk P w K mg base (L2.CX P w) 14 f fd ["live", "step"] (spCalledX C CO bu) := by
  refine F.okX scLawCalled (fun vs H Q E h => ?_) (fun cdv A outer s H vs Q E hr h => ?_)
  · obtain ⟨_, _, _, _, _, _, rfl, _⟩ := h
    rfl
  obtain ⟨p, c, x, cs, v, o, rfl, hL, ho, hg, hok, hl, h66, q, qe⟩ := h
  refine ⟨_, (pss_cons (ps_if (pt_cmpR op_eq (pe_ix ix_tup (pv 1) pe_int (fun _ _ => rfl)) pe_str (nomark _))
    (pss_one (ps_ret (pe_methS (pv 0) TLiveLog.cl MLiveLogAppend GLiveLogAppend (hr.mono (by decide)) BLiveLogAppend (fun σ => passAt (takes_of rfl rfl rfl rfl) σ) (pa_cons (pe_ix ix_tup (pv 1) pe_int (fun _ _ => rfl)) pa_nil))))
    pss_nil)
    (pss_cons (ps_if (pt_cmpR op_eq (pe_ix ix_tup (pv 1) pe_int (fun _ _ => rfl)) pe_str (nomark _))
    (pss_one (ps_ret (pe_methS0 (pv 0) TLiveLog.cl MLiveLogMark GLiveLogMark (hr.mono (by decide)) BLiveLogMark (fun σ => passAt (takes_of rfl rfl rfl rfl) σ))))
    pss_nil)
    (pss_one (ps_ret (pe_methS (pv 0) TLiveLog.cl MLiveLogCut GLiveLogCut (hr.mono (by decide)) BLiveLogCut (fun σ => passAt (takes_of rfl rfl rfl rfl) σ) (pa_cons (pe_ix ix_tup (pv 1) pe_int (fun _ _ => rfl)) pa_nil)))))), ?_⟩
  obtain ⟨dx, fs, hp, hno, _⟩ := hL.lst
  cases o with
  | app k =>
    obtain ⟨ot, rfl, hot⟩ := ho
    refine ⟨_, rfl, ot, _, _, _, rfl, rfl, SqT.of hot, atI_nat (j := 0) rfl, rfl, true, rfl, ?_⟩
    refine ⟨_, rfl, p, dx, fs, rfl, hp, hno _ no_append (by decide +kernel), _, rfl, ot, _, _, _, rfl, rfl, SqT.of hot, atI_nat (j := 1) rfl, ?_⟩
    exact ⟨p, c, x, cs, k, rfl, hL, hg, hok, hl, h66, q, qe⟩
  | cut k =>
    obtain ⟨ot, rfl, hot⟩ := ho
    refine ⟨_, rfl, ot, _, _, _, rfl, rfl, SqT.of hot, atI_nat (j := 0) rfl, rfl, false, str_no ne_cut, ?_⟩
    refine ⟨_, rfl, ot, _, _, _, rfl, rfl, SqT.of hot, atI_nat (j := 0) rfl, rfl, false, str_no (fun z => ne_mark2 z.symm), ?_⟩
    refine ⟨_, rfl, p, dx, fs, rfl, hp, hno _ no_cut (by decide +kernel), _, rfl, ot, _, _, _, rfl, rfl, SqT.of hot, atI_nat (j := 1) rfl, ?_⟩
    exact ⟨p, c, x, cs, k, rfl, hL, hg, hok, hl, h66, q, qe⟩
  | mark =>
    obtain ⟨ot, rfl, hot⟩ := ho
    refine ⟨_, rfl, ot, _, _, _, rfl, rfl, SqT.of hot, atI_nat (j := 0) rfl, rfl, false, str_no ne_mark, ?_⟩
    refine ⟨_, rfl, ot, _, _, _, rfl, rfl, SqT.of hot, atI_nat (j := 0) rfl, rfl, true, rfl, ?_⟩
    refine ⟨_, rfl, p, dx, fs, rfl, hp, hno _ no_mark (by decide +kernel), ?_⟩
    exact ⟨p, c, x, cs, 0, rfl, hL, hg, hok, hl, h66, q, qe⟩
def spTried42 (C : Addr) (bu : Int) : Sp := fun vs H Q _ => ∃ (p c : Addr) (x : LS) (cs : List (LOp × LS)) (v : V) (o : LOp), vs = [.ref p, v] ∧ LogB C bu H p c x cs ∧ OpAt H v o ∧ lgood x ∧ lok x o ∧ cs.length ≤ 1000 ∧ (cost x o).natAbs < 10 ^ 66 ∧
  (cost x o ≤ bu → ∀ (H' : Hp), ButL p c H H' → LogB C bu H' p c (lafter x o) (cs ++ [(o, x)]) → Q .non H') ∧ (bu < cost x o → ∀ H' : Hp, Same H H' → Q (.str (overW (cost x o))) H')
theorem ok_law_tried {f g1 C CO : Addr} {fd d1 : FuncData} (F : Fun K "_law_tried" "_law_tried" sLawTried f fd) (XOverBudget : SX P w K mg base "OverBudget" CO "count") (XInvalidSize : XF K mg "InvalidSize" CS) (FOverBudget : XfC K CO) (NOverBudget : PySem.W.findIn K (.ref CO) "count" = some none) (kx : PySem.W.exmOne K (.ref CO) (.ref CO) = some true)
    (GXLawCalled : FnOk P w K mg base (L2.CX P w) 14 g1 d1 ["live", "step"] (anyB (spCalledX C CO))) (ALawCalled : At K mg "_law_called" g1 d1 ["live", "step"]) (z_str : mg "str" = none) : FnOk P w K mg base CX0 15 f fd ["live", "step"] (anyB (spTried42 C)) := by
  refine F.ok scLawTried (fun vs H Q E h => ?_) (fun cdv A outer s H vs Q E hr h => ?_)
  · obtain ⟨_, _, _, _, _, _, _, rfl, _⟩ := h
    rfl
  obtain ⟨bu, p, c, x, cs, v, o, rfl, hL, ho, hg, hok, hl, h66, q, qe⟩ := h
  refine ⟨_, (pss_cons (ps_set (i := 2) scLawTried.nd rfl (Or.inl rfl) pe_non)
    (pss_cons (ps_try_keep2 (i := 3) rfl rfl rfl scLawTried.nd rfl rfl ⟨rfl, by decide, .inl XOverBudget.g⟩ ⟨rfl, by decide, .inl XInvalidSize.g⟩ takes0 (fun W pn xe tk _ => (pss_one (ps_set (i := 2) scLawTried.nd rfl (Or.inl rfl) (pe_callS GXLawCalled (hr.mono (by decide)) rfl ALawCalled.m ALawCalled.kp ALawCalled.b (fun σ => passAt tk σ) (pa_cons (pv 0) (pa_cons (pv 1) pa_nil)))))) (fun a oe cls d pn hz hf => (pss_one (ps_set (i := 2) scLawTried.nd rfl (Or.inl rfl) (pe_op op_add_str pe_str (pe_callTy call_str_int (by rfl) z_str (by decide +kernel) (pa_cons (pe_xf FOverBudget NOverBudget hz hf (pv 3)) pa_nil)))))) (fun a oe cls d pn hz hf => (pss_one (ps_set (i := 2) scLawTried.nd rfl (Or.inl rfl) pe_str))))
    (pss_one (ps_ret (pv 2))))), ?_⟩
  have fin : ∀ {H' : Hp} {d : Addr}, Same H H' → bu < cost x o → ∀ (a : Addr), H' a = none → ∀ H'' : Hp, H'' = upd H' a (ExK (.ref CO) (some d) a) → Q (.str (overW (cost x o))) H'' := fun s1 gt a na H'' e => by
    subst e
    exact qe gt _ (s1.trans (same_upd na))
  refine ⟨_, rfl, _, rfl, bu, p, c, x, cs, v, o, rfl, hL, ho, hg, hok, hl, h66, fun le H' B hL' => ⟨_, rfl, q le H' B hL'⟩, fun gt H' d sm hd => ⟨true, kx, fun _ a na => ?_, fun z => nomatch z⟩⟩
  exact ⟨_, rfl, rfl, rfl, d, _, _, rfl, hd, rfl, _, rfl, num_log h66, _, _, rfl, rfl, over_len h66, fun na2 => ⟨_, rfl, fin sm gt a na2 _ rfl⟩⟩
end
end LT

namespace LT
open PySem PySem.Spec PyProof.Rows L2
def DueOk (x : LS) (os : List LOp) : Prop := ∀ (i : Nat) (o : LOp), os[i]? = some o → lgood (lafters x (os.take i)) ∧ lok (lafters x (os.take i)) o ∧ (lafters x (os.take i)).2.1.Pairwise (· < ·) ∧ (∀ z ∈ (lafters x (os.take i)).2.1, z ≤ (lafters x (os.take i)).1) ∧ (lafters x (os.take i)).2.1.length ≤ 60 ∧ (cost (lafters x (os.take i)) o).natAbs < 10 ^ 66
theorem drop_at {α : Type} {l : List α} {i : Nat} {a : α} (h : l[i]? = some a) : l.drop i = a :: l.drop (i + 1) := by
  obtain ⟨hi, e⟩ := List.getElem?_eq_some_iff.mp h
  rw [List.drop_eq_getElem_cons hi, e]
section
variable {P : Program} {w : World} {K : PySem.W.Frag} {mg : Str → Option Value} {base : Heap}
def spDue : Sp := fun vs H Q _ => ∃ (t m l : Addr) (bu : Int) (x : LS) (us : List V) (os : List LOp), vs = [.ref t, .ref l, .int bu] ∧ LSt H t m x ∧ H l = some (.lst us) ∧ All2 (OpAt H) us os ∧ DueOk x os ∧ ∀ H' : Hp, Same H H' → Q (dueV bu x os) H'
theorem ok_law_due {f g1 : Addr} {fd d1 : FuncData} (F : Fun K "_law_due" "_law_due" sLawDue f fd) (GLawAfter : FnOk P w K mg base CX0 3 g1 d1 ["state", "step"] spAfterL) (ALawAfter : At K mg "_law_after" g1 d1 ["state", "step"]) (z_str : mg "str" = none) : FnOk P w K mg base CX0 4 f fd ["state", "some", "budget"] spDue := by
  refine F.ok scLawDue (fun vs H Q E h => ?_) (fun cdv A outer s H vs Q E hr h => ?_)
  · obtain ⟨_, _, _, _, _, _, _, rfl, _⟩ := h
    rfl
  obtain ⟨t, m, l, bu, x, us, os, rfl, hS, hl, hus, hok, q⟩ := h
  refine ⟨_, (pss_cons (ps_for PassesOwn.never rfl (pi_list (pv 1)) (pg_name (i := 3) scLawDue.nd rfl (Or.inl rfl))
    (pss_cons (ps_set (i := 0) scLawDue.nd rfl (Or.inl rfl) (pe_call GLawAfter (hr.mono (by decide)) rfl ALawAfter.m ALawAfter.kp ALawAfter.b .nil pass0 (pa_cons (pv 0) (pa_cons (pv 3) pa_nil))))
    (pss_one (ps_if (pt_cmpR op_gt (pe_ix ix_tup (pv 0) pe_int (fun _ _ => rfl)) (pv 2) (nomark _))
    (pss_one (ps_ret (pe_op op_add_str pe_str (pe_callTy call_str_int (by rfl) z_str (by decide +kernel) (pa_cons (pe_ix ix_tup (pv 0) pe_int (fun _ _ => rfl)) pa_nil)))))
    pss_nil))))
    (pss_one (ps_ret (pe_ix ix_tup (pv 0) pe_int (fun _ _ => rfl))))), ?_⟩
  refine ⟨_, rfl, l, rfl, ⟨_, SqL.of hl⟩, for_list (K := K) (a := l) (xs := us) (fun i σ H' => ∃ (t' m' : Addr) (v3 : Option V), σ = [some (.ref t'), some (.ref l), some (.int bu), v3] ∧ Same H H' ∧ LSt H' t' m' (lafters x (os.take i)) ∧ dueV bu x os = dueV bu (lafters x (os.take i)) (os.drop i)) ⟨t, m, none, rfl, Same.refl _, hS, rfl⟩ (fun i σ H' _ ⟨_, _, _, _, e, _⟩ => SqL.of (e _ _ hl)) ?_ ?_⟩
  · rintro i v σ H1 hi ⟨t1, m1, v3, rfl, sm, hS1, hd⟩
    obtain ⟨o, ho, hvo⟩ := hus.nth hi
    obtain ⟨g1, g2, g3, g4, g5, g6⟩ := hok i o ho
    have ec : cost (lafters x (os.take i)) o = (lafter (lafters x (os.take i)) o).2.2 := rfl
    rw [drop_at ho] at hd
    refine ⟨_, rfl, _, rfl, t1, m1, _, v, o, rfl, hS1, hvo.same sm, g1, g2, g3, g4, g5, fun H2 t2 m2 s2 hS2 _ => ?_⟩
    refine ⟨_, rfl, t2, _, _, _, rfl, rfl, SqT.of hS2.1, atI_nat (j := 2) rfl, _, rfl, _, _, rfl, rfl, ?_⟩
    by_cases c : bu < cost (lafters x (os.take i)) o
    · refine ⟨true, congrArg V.bl (decide_eq_true (by rw [← ec]; omega)), ?_⟩
      refine ⟨_, rfl, t2, _, _, _, rfl, rfl, SqT.of hS2.1, atI_nat (j := 2) rfl, _, rfl, num_log g6, _, _, rfl, rfl, over_len g6, ?_⟩
      have := q H2 (sm.trans s2)
      rw [hd, show dueV bu (lafters x (os.take i)) (o :: os.drop (i + 1)) = .str (overW (cost (lafters x (os.take i)) o)) from if_pos c] at this
      exact this
    · refine ⟨false, congrArg V.bl (decide_eq_false (by rw [← ec]; omega)), ?_⟩
      refine ⟨t2, m2, _, rfl, sm.trans s2, by rw [lafters_at x ho]; exact hS2, ?_⟩
      rw [hd, lafters_at x ho]
      exact if_neg c
  · rintro σ H1 ⟨t1, m1, v3, rfl, sm, hS1, hd⟩
    rw [hus.len, List.take_length] at hS1
    rw [hus.len, List.take_length, List.drop_length] at hd
    refine ⟨_, rfl, t1, _, _, _, rfl, rfl, SqT.of hS1.1, atI_nat (j := 2) rfl, ?_⟩
    have := q H1 sm
    rw [hd] at this
    exact this
end
end LT

namespace LT
open PySem PySem.Spec PyProof.Rows L2
section
variable {P : Program} {w : World} {K : PySem.W.Frag} {mg : Str → Option Value} {base : Heap} {CS : Addr}
theorem toXV {k n : Nat} {f : Addr} {sp : Sp} (A : FnOkV P w K mg base CX0 k f n sp) : FnOkV P w K mg base (L2.CX P w) k f n sp := by
  intro A' outer s H H1 u rest v Q E hr hl hn e1 e2 rv h
  refine codeAny_mono (A A' outer s H H1 u rest v Q E hr hl hn e1 e2 rv h) ?_
  intro r s' hq
  cases r with
  | error e => exact False.elim hq
  | ok fl => cases fl <;> exact hq
theorem anyV_ok {CY : CXT} {k n : Nat} {f : Addr} {sp : Int → Sp} (h : ∀ bu, FnOkV P w K mg base CY k f n (sp bu)) : FnOkV P w K mg base CY k f n (anyB sp) :=
  fun A outer s H H1 u rest v Q E hr hl hn e1 e2 rv ⟨bu, z⟩ => h bu A outer s H H1 u rest v Q E hr hl hn e1 e2 rv z
theorem bothV {CY : CXT} {k n : Nat} {f : Addr} {sp1 sp2 : Sp} (A : FnOkV P w K mg base CY k f n sp1) (B : FnOkV P w K mg base CY k f n sp2) : FnOkV P w K mg base CY k f n (fun vs H Q E => sp1 vs H Q E ∨ sp2 vs H Q E) :=
  fun A' outer s H H1 u rest v Q E hr hl hn e1 e2 rv h => h.elim (A A' outer s H H1 u rest v Q E hr hl hn e1 e2 rv) (B A' outer s H H1 u rest v Q E hr hl hn e1 e2 rv)
def spLook (C CO CS : Addr) : Sp := fun vs H Q E => anyB (spPreviewB C) vs H Q E ∨ anyB (spPreviewX C CO CS) vs H Q E
/-- what a preview of two operations is told as -/
def Looks2 (bu : Int) (x : LS) (o1 o2 : LOp) (r : V) : Prop :=
  (lok x o1 ∧ lgood (lafter x o1) ∧ lok (lafter x o1) o2 ∧ r = dueV bu x [o1, o2]) ∨
  (∃ k : Nat, o1 = .cut k ∧ (k = 0 ∨ x.1 < k) ∧ r = .str "size") ∨
  (lok x o1 ∧ cost x o1 ≤ bu ∧ lgood (lafter x o1) ∧ ∃ k : Nat, o2 = .cut k ∧ (k = 0 ∨ (lafter x o1).1 < k) ∧ r = .str "size")
def spLooked (C : Addr) : Sp := fun vs H Q _ => ∃ (bu : Int) (p c : Addr) (x : LS) (cs : List (LOp × LS)) (v1 v2 : V) (o1 o2 : LOp) (r : V), vs = [.ref p, v1, v2] ∧ LogB C bu H p c x cs ∧ OpAt H v1 o1 ∧ OpAt H v2 o2 ∧ lgood x ∧ (cost x o1).natAbs < 10 ^ 66 ∧ (cost (lafter x o1) o2).natAbs < 10 ^ 66 ∧ Looks2 bu x o1 o2 r ∧
  ∀ H' : Hp, Same H H' → Q r H'
theorem bud_preview : ¬ ("preview" : Str) = "_budget" := by decide +kernel
theorem no_preview : ¬ ("preview" : Str) = "_calls" ∧ ¬ ("preview" : Str) = "_state" := by decide +kernel
theorem ok_law_looked {f g1 C CO : Addr} {fd : FuncData} (F : Fun K "_law_looked" "_law_looked" sLawLooked f fd) (TLiveLog : TBud K C) (XOverBudget : SX P w K mg base "OverBudget" CO "count") (XInvalidSize : XF K mg "InvalidSize" CS) (FOverBudget : XfC K CO) (NOverBudget : PySem.W.findIn K (.ref CO) "count" = some none)
    (kx : PySem.W.exmOne K (.ref CO) (.ref CO) = some true) (ks : PySem.W.exmOne K (.ref CS) (.ref CO) = some false) (kk : PySem.W.exmOne K (.ref CS) (.ref CS) = some true)
    (GLiveLogPreview2 : FnOkV P w K mg base (L2.CX P w) 13 g1 2 (spLook C CO CS)) (MLiveLogPreview : Meth K C "preview" g1) (z_str : mg "str" = none) : FnOk P w K mg base CX0 14 f fd ["live", "one", "two"] (spLooked C) := by
  refine F.ok scLawLooked (fun vs H Q E h => ?_) (fun cdv A outer s H vs Q E hr h => ?_)
  · obtain ⟨_, _, _, _, _, _, _, _, _, _, rfl, _⟩ := h
    rfl
  obtain ⟨bu, p, c, x, cs, v1, v2, o1, o2, r, rfl, hL, h1, h2, hg, c66, d66, hlk, q⟩ := h
  refine ⟨_, (pss_cons (ps_set (i := 3) scLawLooked.nd rfl (Or.inl rfl) pe_non)
    (pss_cons (ps_try_keep2 (i := 4) rfl rfl rfl scLawLooked.nd rfl rfl ⟨rfl, by decide, .inl XOverBudget.g⟩ ⟨rfl, by decide, .inl XInvalidSize.g⟩ takes0 (fun W pn xe tk _ => (pss_one (ps_set (i := 3) scLawLooked.nd rfl (Or.inl rfl) (pe_methVS (pv 0) TLiveLog.cl MLiveLogPreview GLiveLogPreview2 (hr.mono (by decide)) (by decide) (fun σ => passAt tk σ) (pa_cons (pv 1) (pa_cons (pv 2) pa_nil)))))) (fun a oe cls d pn hz hf => (pss_one (ps_set (i := 3) scLawLooked.nd rfl (Or.inl rfl) (pe_op op_add_str pe_str (pe_callTy call_str_int (by rfl) z_str (by decide +kernel) (pa_cons (pe_xf FOverBudget NOverBudget hz hf (pv 4)) pa_nil)))))) (fun a oe cls d pn hz hf => (pss_one (ps_set (i := 3) scLawLooked.nd rfl (Or.inl rfl) pe_str))))
    (pss_one (ps_ret (pv 3))))), ?_⟩
  obtain ⟨dx, fs, hp, hno, _⟩ := hL.lst
  refine ⟨_, rfl, p, dx, fs, rfl, hp, hno _ no_preview bud_preview, _, rfl, _, rfl, rfl, fun tp ntp => ?_⟩
  have st := same_upd (o := .tup [v1, v2]) ntp
  have hL1 := hL.same st
  have hu : All2 (OpAt (upd H tp (.tup [v1, v2]))) [v1, v2] [o1, o2] := .cons (h1.same st) (.cons (h2.same st) .nil)
  have htp := upd_same (H := H) (a := tp) (o := .tup [v1, v2])
  rcases hlk with ⟨k1, gy, k2, rfl⟩ | ⟨k, rfl, hk, rfl⟩ | ⟨k1, le1, gy, k, rfl, hk, rfl⟩
  · by_cases c1 : bu < cost x o1
    · rw [show dueV bu x [o1, o2] = .str (overW (cost x o1)) from if_pos c1] at q
      exact .inr ⟨bu, p, c, tp, x, cs, [v1, v2], [o1, o2], 0, o1, rfl, hL1, htp, hu, rfl, fun i o' hi => absurd hi (by omega), hg, .inl ⟨k1, c66, c1, fun H' d s2 hd => ⟨true, kx, fun _ a na => ⟨_, rfl, rfl, rfl, d, _, _, rfl, hd, rfl, _, rfl, num_log c66, _, _, rfl, rfl, over_len c66, fun na2 => ⟨_, rfl, q _ ((st.trans s2).trans (same_upd na2))⟩⟩, fun z => nomatch z⟩⟩⟩
    · have e1 : dueV bu x [o1, o2] = dueV bu (lafter x o1) [o2] := if_neg c1
      have bef : ∀ (i : Nat) (o' : LOp), i < 1 → [o1, o2][i]? = some o' → lgood (lafters x ([o1, o2].take i)) ∧ lok (lafters x ([o1, o2].take i)) o' ∧ cost (lafters x ([o1, o2].take i)) o' ≤ bu ∧ (cost (lafters x ([o1, o2].take i)) o').natAbs < 10 ^ 66 := fun i o' hi ho => by
        obtain rfl : i = 0 := by omega
        obtain rfl : o1 = o' := Option.some.inj ho
        exact ⟨hg, k1, by show cost x o1 ≤ bu; omega, c66⟩
      by_cases c2 : bu < cost (lafter x o1) o2
      · rw [e1, show dueV bu (lafter x o1) [o2] = .str (overW (cost (lafter x o1) o2)) from if_pos c2] at q
        exact .inr ⟨bu, p, c, tp, x, cs, [v1, v2], [o1, o2], 1, o2, rfl, hL1, htp, hu, rfl, bef, gy, .inl ⟨k2, d66, c2, fun H' d s2 hd => ⟨true, kx, fun _ a na => ⟨_, rfl, rfl, rfl, d, _, _, rfl, hd, rfl, _, rfl, num_log d66, _, _, rfl, rfl, over_len d66, fun na2 => ⟨_, rfl, q _ ((st.trans s2).trans (same_upd na2))⟩⟩, fun z => nomatch z⟩⟩⟩
      · rw [e1, show dueV bu (lafter x o1) [o2] = .int (lafter (lafter x o1) o2).2.2 from if_neg c2] at q
        refine .inl ⟨bu, p, c, tp, x, cs, [v1, v2], [o1, o2], rfl, hL1, htp, hu, ⟨hg, k1, gy, k2, trivial⟩, fun i o' ho => ?_, fun H' s2 => ⟨_, rfl, q _ (st.trans s2)⟩⟩
        match i, ho with
        | 0, ho =>
          obtain rfl : o1 = o' := Option.some.inj ho
          show cost x o1 ≤ bu
          omega
        | 1, ho =>
          obtain rfl : o2 = o' := Option.some.inj ho
          show cost (lafter x o1) o2 ≤ bu
          omega
        | i + 2, ho => simp at ho
  · exact .inr ⟨bu, p, c, tp, x, cs, [v1, v2], [.cut k, o2], 0, .cut k, rfl, hL1, htp, hu, rfl, fun i o' hi => absurd hi (by omega), hg, .inr ⟨k, rfl, hk, fun H' s2 => ⟨false, ks, (fun z => nomatch z), fun _ => ⟨true, kk, fun _ a na => fun na2 => ⟨_, rfl, q _ ((st.trans s2).trans (same_upd na2))⟩, fun z => nomatch z⟩⟩⟩⟩
  · have bef : ∀ (i : Nat) (o' : LOp), i < 1 → [o1, .cut k][i]? = some o' → lgood (lafters x ([o1, .cut k].take i)) ∧ lok (lafters x ([o1, .cut k].take i)) o' ∧ cost (lafters x ([o1, .cut k].take i)) o' ≤ bu ∧ (cost (lafters x ([o1, .cut k].take i)) o').natAbs < 10 ^ 66 := fun i o' hi ho => by
      obtain rfl : i = 0 := by omega
      obtain rfl : o1 = o' := Option.some.inj ho
      exact ⟨hg, k1, le1, c66⟩
    exact .inr ⟨bu, p, c, tp, x, cs, [v1, v2], [o1, .cut k], 1, .cut k, rfl, hL1, htp, hu, rfl, bef, gy, .inr ⟨k, rfl, hk, fun H' s2 => ⟨false, ks, (fun z => nomatch z), fun _ => ⟨true, kk, fun _ a na => fun na2 => ⟨_, rfl, q _ ((st.trans s2).trans (same_upd na2))⟩, fun z => nomatch z⟩⟩⟩⟩
end
end LT

namespace LT
open PySem PySem.Spec PyProof.Rows L2
/-- a state in a list that is not written again -/
def PV (b c : Addr) (H : Hp) (v : V) (x : LS) : Prop := ∃ t m : Addr, v = .ref t ∧ LSt H t m x ∧ m ≠ b ∧ m ≠ c
theorem PV.same {b c : Addr} {H H' : Hp} {v : V} {x : LS} (h : PV b c H v x) (k : Same H H') : PV b c H' v x := by
  obtain ⟨t, m, e, a, r⟩ := h
  exact ⟨t, m, e, a.same k, r⟩
theorem PV.but {b c : Addr} {H H' : Hp} {v : V} {x : LS} (h : PV b c H v x) (hb : BagAt H b) (k : But b H H') : PV b c H' v x := by
  obtain ⟨t, m, e, a, r⟩ := h
  exact ⟨t, m, e, a.but hb k r.1, r⟩
theorem stL_depth (x : LS) : PyData.depth (stL x) ≤ 3 := by
  have b : PyData.depthAll (nats x.2.1) ≤ 1 := by
    have := ints_depth (x.2.1.map fun a => ((a : Nat) : Int))
    rw [List.map_map] at this
    exact this
  simp only [stL, PyData.depth, PyData.depthAll]
  omega
theorem stLs_lay : ∀ l : List LS, PyData.canLayAll0 (l.map stL) = true
  | [] => by simp [PyData.canLayAll0]
  | x :: l => by
    have h : PyData.canLay0 (stL x) = true := by
      have := stL_shaped x
      unfold SeqAt.shaped at this
      exact (Bool.and_eq_true _ _ ▸ this).1
    simp only [List.map_cons, PyData.canLayAll0, h, stLs_lay l, Bool.and_true]
theorem stLs_depth : ∀ l : List LS, PyData.depthAll (l.map stL) ≤ 3
  | [] => by simp [PyData.depthAll]
  | x :: l => by
    have := stLs_depth l
    have h := stL_depth x
    simp only [List.map_cons, PyData.depthAll]
    omega
theorem stLs_shaped (l : List LS) : SeqAt.shaped (.list (l.map stL)) = true := by
  have h := stLs_depth l
  have h2 : PyData.depth (.list (l.map stL)) ≤ 64 := by
    simp only [PyData.depth]
    omega
  show (PyData.canLay0 (.list (l.map stL)) && decide (PyData.depth (.list (l.map stL)) ≤ 64)) = true
  rw [Bool.and_eq_true]
  exact ⟨by simp only [PyData.canLay0]; exact stLs_lay l, decide_eq_true h2⟩
theorem stLs_nil (l : List LS) : PyData.eqv (.list (l.map stL)) (.list []) = l.isEmpty := by
  cases l with
  | nil => simp [PyData.eqv, PyData.eqvAll]
  | cons x l => simp [PyData.eqv, PyData.eqvAll]
theorem PV.dp {K : PySem.W.Frag} {b c : Addr} {H : Hp} {v : V} {x : LS} (h : PV b c H v x) : Dp K H v (stL x) := by
  obtain ⟨t, m, rfl, a, _⟩ := h
  exact a.dp
theorem stLs_dp {K : PySem.W.Frag} {b c : Addr} {H : Hp} : ∀ {vs : List V} {l : List LS}, All2 (PV b c H) vs l → DpAll K H vs (l.map stL)
  | _, _, .nil => .nil
  | _, _, .cons h t => .cons h.dp (stLs_dp t)
/-- a state as a tuple is as it is with a list -/
theorem stD_stL (x z : LS) : PyData.eqv (stD x) (stD z) = PyData.eqv (stL x) (stL z) := by
  simp only [stD, stL, PyData.eqv, PyData.eqvAll]
theorem Mok.more {i j : Nat} {x : LS} (h : Mok i x) (k : i ≤ j) : Mok j x := by
  obtain ⟨a, b, c, d, e⟩ := h
  exact ⟨a, Nat.le_trans b (Nat.mul_le_mul_right _ (by omega)), c, d, by omega⟩
theorem OpAt.but {H H' : Hp} {v : V} {o : LOp} {b : Addr} (h : OpAt H v o) (hb : BagAt H b) (k : But b H H') : OpAt H' v o := by
  obtain ⟨_, _, _, e⟩ := hb
  exact h.tups fun a xs z => k a _ (ne_of z e (fun y => by cases y)) z
theorem LogB.but {C : Addr} {bu : Int} {H H' : Hp} {p c b : Addr} {x : LS} {cs : List (LOp × LS)} (h : LogB C bu H p c x cs) (hb : BagAt H b) (k : But b H H') (cb : c ≠ b) : LogB C bu H' p c x cs := by
  obtain ⟨_, _, _, eb⟩ := hb
  obtain ⟨dx, v, vs, a, bb, d, e⟩ := h
  have T : Tups H H' := fun a xs e => k a _ (ne_of e eb (fun z => by cases z)) e
  exact ⟨dx, v, vs, k _ _ (ne_of a eb (fun z => by cases z)) a, bb.tups T, k _ _ cb d, e.mono fun v x (k : CallAt H v x) => k.tups T⟩
theorem BagAt.butLB {C : Addr} {bu : Int} {H H' : Hp} {p c b : Addr} {x : LS} {cs : List (LOp × LS)} (hb : BagAt H b) (k : ButL p c H H') (h : LogB C bu H p c x cs) (cb : c ≠ b) : BagAt H' b := by
  obtain ⟨u, v, w, e⟩ := hb
  obtain ⟨_, _, hp, _⟩ := h.lst
  exact ⟨u, v, w, k _ _ e (ne_of e hp (fun z => by cases z)) cb.symm⟩
theorem LSt.butLB {C : Addr} {bu : Int} {H H' : Hp} {t m p c : Addr} {x y : LS} {cs : List (LOp × LS)} (h : LSt H t m x) (hL : LogB C bu H p c y cs) (k : ButL p c H H') (mc : m ≠ c) : LSt H' t m x := by
  obtain ⟨_, _, _, a, _, d, _⟩ := hL
  exact ⟨k _ _ h.1 (ne_of h.1 a (fun z => by cases z)) (ne_of h.1 d (fun z => by cases z)), k _ _ h.2 (ne_of h.2 a (fun z => by cases z)) mc⟩
theorem PV.butLB {C b c p : Addr} {bu : Int} {H H' : Hp} {v : V} {x y : LS} {cs : List (LOp × LS)} (h : PV b c H v x) (hL : LogB C bu H p c y cs) (k : ButL p c H H') : PV b c H' v x := by
  obtain ⟨t, m, e, a, r⟩ := h
  exact ⟨t, m, e, a.butLB hL k r.2, r⟩
theorem scal_due (bu : Int) : ∀ (os : List LOp) (x : LS), scal (dueV bu x os) (dueV bu x os) = true := fun os => by
  induction os with
  | nil => exact fun x => rfl
  | cons o os ih =>
    intro x
    show scal (if bu < cost x o then V.str (overW (cost x o)) else dueV bu (lafter x o) os) (if bu < cost x o then V.str (overW (cost x o)) else dueV bu (lafter x o) os) = true
    split
    · rfl
    · exact ih _
section
variable {P : Program} {w : World} {K : PySem.W.Frag} {mg : Str → Option Value} {base : Heap}
def spToldB (C : Addr) : Sp := fun vs H Q _ => ∃ (bu : Int) (p c : Addr) (x : LS) (cs : List (LOp × LS)), vs = [.ref p] ∧ LogB C bu H p c x cs ∧ ∀ (H' : Hp) (t m : Addr), Same H H' → H m = none → LSt H' t m x → Q (.ref t) H'
theorem ok_law_toldB {f g1 g2 g3 C p1 p2 p3 : Addr} {fd d1 d2 d3 : FuncData} (F : Fun K "_law_told" "_law_told" sLawTold f fd) (TLiveLog : TBud K C)
    (GLiveLogPresent : FnOk P w K mg base CX0 1 g1 d1 ["self"] (anyB (spPresentB C))) (PLiveLogPresent : PropOf K C "present" p1 g1) (BLiveLogPresent : Binds K d1 ["self"] [])
    (GLiveLogMarks : FnOk P w K mg base CX0 1 g2 d2 ["self"] (anyB (spMarksB C))) (PLiveLogMarks : PropOf K C "marks" p2 g2) (BLiveLogMarks : Binds K d2 ["self"] [])
    (GLiveLogSpent : FnOk P w K mg base CX0 1 g3 d3 ["self"] (anyB (spSpentB C))) (PLiveLogSpent : PropOf K C "spent" p3 g3) (BLiveLogSpent : Binds K d3 ["self"] []) : FnOk P w K mg base CX0 3 f fd ["live"] (spToldB C) := by
  refine F.ok scLawTold (fun vs H Q E h => ?_) (fun cdv A outer s H vs Q E hr h => ?_)
  · obtain ⟨_, _, _, _, _, rfl, _⟩ := h
    rfl
  obtain ⟨bu, p, c, x, cs, rfl, hL, q⟩ := h
  refine ⟨_, (pss_one (ps_ret (pe_tup (pa_cons (pe_prop (pv 0) TLiveLog.cl PLiveLogPresent GLiveLogPresent (hr.mono (by decide)) BLiveLogPresent .nil pass0 rfl) (pa_cons (pe_prop (pv 0) TLiveLog.cl PLiveLogMarks GLiveLogMarks (hr.mono (by decide)) BLiveLogMarks .nil pass0 rfl) (pa_cons (pe_prop (pv 0) TLiveLog.cl PLiveLogSpent GLiveLogSpent (hr.mono (by decide)) BLiveLogSpent .nil pass0 rfl) pa_nil)))))), ?_⟩
  obtain ⟨dx, fs, hp, hno, _⟩ := hL.lst
  have three : 3 ≤ sizeLine := by decide
  refine ⟨_, rfl, p, dx, fs, rfl, hp, bu, p, c, x, cs, rfl, hL, _, rfl, p, dx, fs, rfl, hp, bu, p, c, x, cs, rfl, hL, fun H1 m s1 nm hm => ?_⟩
  refine ⟨_, rfl, p, dx, fs, rfl, s1 _ _ hp, bu, p, c, x, cs, rfl, hL.same s1, three, fun t nt => ?_⟩
  have wt := same_upd (o := .tup [.int (x.1 : Int), .ref m, .int x.2.2]) nt
  exact q _ t m (s1.trans wt) nm ⟨upd_same, wt _ _ hm⟩
end
end LT

namespace LT
open PySem PySem.Spec PyProof.Rows L2
theorem ite_t62 {A B : Prop} (h : A) : ite (true = true) A B := by rw [if_pos rfl]; exact h
theorem ite_f62 {A B : Prop} (h : B) : ite (false = true) A B := by rw [if_neg Bool.false_ne_true]; exact h
def spEqs (CL CB : Addr) : Sp := fun vs H Q E => spEqBB CB vs H Q E ∨ spEqB CL CB vs H Q E
theorem threeMany (most : Nat) (m1 : 1 ≤ most) (m28 : most ≤ 10 ^ 28) (r : Int) (h0 : 0 ≤ r) (h : r < 3) : ∃ many : Int, atI [V.int 3, V.int (3 * (most : Int)), V.int (9 * (most : Int))] r = some (.int many) ∧ 1 ≤ many ∧ many ≤ 9 * 10 ^ 28 := by
  rcases (show r = 0 ∨ r = 1 ∨ r = 2 by omega) with rfl | rfl | rfl
  · exact ⟨3, rfl, by decide, by decide⟩
  · exact ⟨3 * (most : Int), rfl, by omega, by omega⟩
  · exact ⟨9 * (most : Int), rfl, by omega, by omega⟩
section
variable {P : Program} {w : World} {K : PySem.W.Frag} {mg : Str → Option Value} {base : Heap}
def spRight42 : Sp := fun vs H Q _ => ∃ (b : Addr) (n most : Nat), vs = [.ref b, .int (n : Int), .int (most : Int)] ∧ BagAt H b ∧ 1 ≤ n ∧ n ≤ 10 ^ 28 ∧ 1 ≤ most ∧ most ≤ 10 ^ 28 ∧ ∀ H', But b H H' → BagAt H' b → Q (.bl true) H'
theorem ok_law_right {f g1 g2 g3 g4 g5 g6 g7 g8 g9 g10 g11 g12 CL C p1 : Addr} {fd d1 d2 d3 d4 d5 d6 d7 d8 d9 d10 d11 d12 : FuncData} (F : Fun K "_law_right" "_law_right" sLawRight f fd) (TBudgetLog : TBud K C) (gBudgetLog : mg "BudgetLog" = some (.ref C)) (nF : PySem.W.notFirst K C (.ref C) = true)
    (GLawPick : FnOk P w K mg base CX0 1 g1 d1 ["bag", "many"] spPick) (ALawPick : At K mg "_law_pick" g1 d1 ["bag", "many"])
    (KBudgetLog : Mk K C g2) (GBudgetLogInit : FnOk P w K mg base CX0 5 g2 d2 ["self", "size", "budget"] (spBudInit C)) (BBudgetLogInit : Binds K d2 ["self", "size", "budget"] [])
    (GBudgetLogUndo : FnOk P w K mg base CX0 1 g3 d3 ["self"] (anyB (spUndoB C))) (MBudgetLogUndo : Meth K C "undo" g3) (BBudgetLogUndo : Binds K d3 ["self"] [])
    (GBudgetLogBudget : FnOk P w K mg base CX0 1 g4 d4 ["self"] (anyB (spBudgetB C))) (PBudgetLogBudget : PropOf K C "budget" p1 g4) (BBudgetLogBudget : Binds K d4 ["self"] [])
    (GBudgetLogLog : FnOk P w K mg base CX0 1 g5 d5 ["self"] (anyB (spLogB C))) (MBudgetLogLog : Meth K C "log" g5) (BBudgetLogLog : Binds K d5 ["self"] [])
    (GBudgetLogEqO : FnOk P w K mg base CX0 1 g6 d6 ["self", "other"] (spEqs CL C)) (MBudgetLogEq : Meth K C "__eq__" g6) (BBudgetLogEq : Binds K d6 ["self", "other"] [])
    (GLawOperation : FnOk P w K mg base CX0 2 g7 d7 ["bag", "state", "most"] spOperation) (ALawOperation : At K mg "_law_operation" g7 d7 ["bag", "state", "most"])
    (GLawAfter : FnOk P w K mg base CX0 3 g8 d8 ["state", "step"] spAfterL) (ALawAfter : At K mg "_law_after" g8 d8 ["state", "step"])
    (GLawLooked : FnOk P w K mg base CX0 14 g9 d9 ["live", "one", "two"] (spLooked C)) (ALawLooked : At K mg "_law_looked" g9 d9 ["live", "one", "two"])
    (GLawDue : FnOk P w K mg base CX0 4 g10 d10 ["state", "some", "budget"] spDue) (ALawDue : At K mg "_law_due" g10 d10 ["state", "some", "budget"])
    (GLawTried : FnOk P w K mg base CX0 15 g11 d11 ["live", "step"] (anyB (spTried42 C))) (ALawTried : At K mg "_law_tried" g11 d11 ["live", "step"])
    (GLawTold : FnOk P w K mg base CX0 3 g12 d12 ["live"] (spToldB C)) (ALawTold : At K mg "_law_told" g12 d12 ["live"])
    (z_range : mg "range" = none) (z_isinstance : mg "isinstance" = none) (z_str : mg "str" = none) : FnOk P w K mg base CX0 16 f fd ["bag", "many", "most"] spRight42 := by
  refine F.ok scLawRight (fun vs H Q E h => ?_) (fun cdv A outer s H vs Q E hr h => ?_)
  · obtain ⟨_, _, _, rfl, _⟩ := h
    rfl
  obtain ⟨bg, n, most, rfl, hb, n1, n28, o1, o28, q⟩ := h
  refine ⟨_, (pss_cons (ps_par3 (i := 3) (j := 4) (l := 5) (by rfl) scLawRight.nd rfl rfl rfl (by decide) (by decide) (by decide) rfl rfl rfl (pa_cons (pe_tup (pa_cons (pv 1) (pa_cons (pe_lst pa_nil) (pa_cons pe_int pa_nil)))) (pa_cons (pe_lst pa_nil) (pa_cons (pe_lst pa_nil) pa_nil))) (by rfl))
    (pss_cons (ps_set (i := 6) scLawRight.nd rfl (Or.inl rfl) (pe_call GLawPick (hr.mono (by decide)) rfl ALawPick.m ALawPick.kp ALawPick.b .nil pass0 (pa_cons (pv 0) (pa_cons (pe_ix ix_list (pe_lst (pa_cons pe_int (pa_cons (pe_op op_mul pe_int (pv 2)) (pa_cons (pe_op op_mul pe_int (pv 2)) pa_nil)))) (pe_call GLawPick (hr.mono (by decide)) rfl ALawPick.m ALawPick.kp ALawPick.b .nil pass0 (pa_cons (pv 0) (pa_cons pe_int pa_nil))) (fun _ _ => rfl)) pa_nil))))
    (pss_cons (ps_set (i := 7) scLawRight.nd rfl (Or.inl rfl) (pe_make KBudgetLog GBudgetLogInit (hr.mono (by decide)) rfl gBudgetLog BBudgetLogInit .nil pass0 (pa_cons (pv 1) (pa_cons (pv 6) pa_nil))))
    (pss_cons (ps_for PassesOwn.never rfl (pi_range1 (by rfl) z_range (pa_cons pe_int pa_nil)) (pg_name (i := 8) scLawRight.nd rfl (Or.inl rfl))
    (pss_cons (ps_if (PW.pt (pw_and (pt_cmpR (op_neD hr.units) (pv 4) (pe_lst pa_nil) (nomark _)) (pw_and1 (pt_cmpR op_eq (pe_call GLawPick (hr.mono (by decide)) rfl ALawPick.m ALawPick.kp ALawPick.b .nil pass0 (pa_cons (pv 0) (pa_cons pe_int pa_nil))) pe_int (nomark _)))))
    (pss_cons (ps_expr (pe_meth0 (pv 7) TBudgetLog.cl MBudgetLogUndo GBudgetLogUndo (hr.mono (by decide)) BBudgetLogUndo .nil pass0))
    (pss_one (ps_par3 (i := 3) (j := 4) (l := 5) (by rfl) scLawRight.nd rfl rfl rfl (by decide) (by decide) (by decide) rfl rfl rfl (pa_cons (pe_ix ix_list (pv 4) (pe_un un_neg pe_int) (fun _ _ => rfl)) (pa_cons (pe_slice sl_list (pv 4) po_none (po_some (pe_un un_neg pe_int))) (pa_cons (pe_slice sl_list (pv 5) po_none (po_some (pe_un un_neg pe_int))) pa_nil))) (by rfl))))
    pss_nil)
    (pss_cons (ps_set (i := 9) scLawRight.nd rfl (Or.inl rfl) (pe_call GLawOperation (hr.mono (by decide)) rfl ALawOperation.m ALawOperation.kp ALawOperation.b .nil pass0 (pa_cons (pv 0) (pa_cons (pv 3) (pa_cons (pv 2) pa_nil)))))
    (pss_cons (ps_set (i := 10) scLawRight.nd rfl (Or.inl rfl) (pe_call GLawOperation (hr.mono (by decide)) rfl ALawOperation.m ALawOperation.kp ALawOperation.b .nil pass0 (pa_cons (pv 0) (pa_cons (pe_call GLawAfter (hr.mono (by decide)) rfl ALawAfter.m ALawAfter.kp ALawAfter.b .nil pass0 (pa_cons (pv 3) (pa_cons (pv 9) pa_nil))) (pa_cons (pv 2) pa_nil)))))
    (pss_cons (ps_if (pt_cmpR op_ne (pe_call GLawLooked (hr.mono (by decide)) rfl ALawLooked.m ALawLooked.kp ALawLooked.b .nil pass0 (pa_cons (pv 7) (pa_cons (pv 9) (pa_cons (pv 10) pa_nil)))) (pe_call GLawDue (hr.mono (by decide)) rfl ALawDue.m ALawDue.kp ALawDue.b .nil pass0 (pa_cons (pv 3) (pa_cons (pe_lst (pa_cons (pv 9) (pa_cons (pv 10) pa_nil))) (pa_cons (pv 6) pa_nil)))) (nomark _))
    (pss_one (ps_ret pe_bl))
    pss_nil)
    (pss_cons (ps_par (i := 11) (j := 12) (by rfl) scLawRight.nd rfl rfl (by decide) rfl rfl (pa_cons (pe_call GLawDue (hr.mono (by decide)) rfl ALawDue.m ALawDue.kp ALawDue.b .nil pass0 (pa_cons (pv 3) (pa_cons (pe_lst (pa_cons (pv 9) pa_nil)) (pa_cons (pv 6) pa_nil)))) (pa_cons (pe_call GLawTried (hr.mono (by decide)) rfl ALawTried.m ALawTried.kp ALawTried.b .nil pass0 (pa_cons (pv 7) (pa_cons (pv 9) pa_nil))) pa_nil)) (by rfl))
    (pss_cons (ps_if (pt_cmpR op_ne (pv 12) (pe_ifExp (pt_val (pe_callB call_isi (by rfl) z_isinstance (by decide +kernel) (pa_cons (pv 11) (pa_cons (pe_bltn (v := .ty "str") (u := .type "str") (by rfl) z_str (by decide +kernel) rfl) pa_nil)))) (pv 11) pe_non) (nomark _))
    (pss_one (ps_ret pe_bl))
    pss_nil)
    (pss_cons (ps_if (pt_cmpR op_isN (pv 12) pe_non (nomark _))
    (pss_cons (ps_par (i := 4) (j := 5) (by rfl) scLawRight.nd rfl rfl (by decide) rfl rfl (pa_cons (pe_op op_cat (pv 4) (pe_lst (pa_cons (pv 3) pa_nil))) (pa_cons (pe_op op_cat (pv 5) (pe_lst (pa_cons (pv 9) pa_nil))) pa_nil)) (by rfl))
    (pss_one (ps_set (i := 3) scLawRight.nd rfl (Or.inl rfl) (pe_call GLawAfter (hr.mono (by decide)) rfl ALawAfter.m ALawAfter.kp ALawAfter.b .nil pass0 (pa_cons (pv 3) (pa_cons (pv 9) pa_nil))))))
    pss_nil)
    (pss_cons (ps_if (PW.pt (pw_or (pt_cmpR (op_neD hr.units) (pe_call GLawTold (hr.mono (by decide)) rfl ALawTold.m ALawTold.kp ALawTold.b .nil pass0 (pa_cons (pv 7) pa_nil)) (pv 3) (nomark _)) (pw_or (pt_cmpR op_ne (pe_prop (pv 7) TBudgetLog.cl PBudgetLogBudget GBudgetLogBudget (hr.mono (by decide)) BBudgetLogBudget .nil pass0 rfl) (pv 6) (nomark _)) (pw_or1 (pt_cmpR (op_neD hr.units) (pe_meth0 (pv 7) TBudgetLog.cl MBudgetLogLog GBudgetLogLog (hr.mono (by decide)) BBudgetLogLog .nil pass0) (pv 5) (nomark _))))))
    (pss_one (ps_ret pe_bl))
    pss_nil)
    (pss_one (ps_if (pt_cmpR op_ne (pe_cmpR (op_eqO GBudgetLogEqO MBudgetLogEq.at_ MBudgetLogEq.fn BBudgetLogEq pass0 (hr.mono (by decide))) (pv 7) (pe_make KBudgetLog GBudgetLogInit (hr.mono (by decide)) rfl gBudgetLog BBudgetLogInit .nil pass0 (pa_cons (pv 1) (pa_cons (pv 6) pa_nil))) (nomark _)) (pe_cmpR (op_eqD hr.units) (pv 3) (pe_tup (pa_cons (pv 1) (pa_cons (pe_lst pa_nil) (pa_cons pe_int pa_nil)))) (nomark _)) (nomark _))
    (pss_one (ps_ret pe_bl))
    pss_nil)))))))))))
    (pss_one (ps_ret pe_bl)))))), ?_⟩
  have three : 3 ≤ sizeLine := by decide
  have two : 2 ≤ sizeLine := by decide
  have one1 : 1 ≤ sizeLine := by decide
  have d20 : 20 * (10 : Nat) ^ 28 ≤ 10 ^ 30 := by decide
  refine ⟨_, rfl, Nat.zero_le _, fun m0 nm0 => ⟨three, fun t0 nt0 => ⟨Nat.zero_le _, fun pa0 npa0 => ⟨Nat.zero_le _, fun ka0 nka0 => ⟨_, _, _, rfl, ?_⟩⟩⟩⟩⟩
  have w1 := same_upd (o := .lst []) nm0
  have w2 := same_upd (o := .tup [.int (n : Int), .ref m0, .int 0]) nt0
  have w3 := same_upd (o := .lst []) npa0
  have w4 := same_upd (o := .lst []) nka0
  have hm0 := w4 _ _ (w3 _ _ (w2 _ _ (upd_same (H := H) (a := m0) (o := .lst []))))
  have ht0 := w4 _ _ (w3 _ _ (upd_same (H := upd H m0 (.lst [])) (a := t0) (o := .tup [.int (n : Int), .ref m0, .int 0])))
  have hpa0 := w4 _ _ (upd_same (H := upd (upd H m0 (.lst [])) t0 (.tup [.int (n : Int), .ref m0, .int 0])) (a := pa0) (o := .lst []))
  have hka0 := upd_same (H := upd (upd (upd H m0 (.lst [])) t0 (.tup [.int (n : Int), .ref m0, .int 0])) pa0 (.lst [])) (a := ka0) (o := .lst [])
  have m0b := hb.ne nm0
  have pa0b := (hb.same (w1.trans w2)).ne npa0
  have ka0b := (hb.same (w1.trans (w2.trans w3))).ne nka0
  have sw := w1.trans (w2.trans (w3.trans w4))
  have hb1 := hb.same sw
  have B1 : But bg H _ := But.of sw
  generalize upd (upd (upd (upd H m0 (.lst [])) t0 (.tup [.int (n : Int), .ref m0, .int 0])) pa0 (.lst [])) ka0 (.lst []) = H1 at hm0 ht0 hpa0 hka0 hb1 B1 ⊢
  clear w1 w2 w3 w4 sw nm0 nt0 npa0 nka0
  refine ⟨_, rfl, _, rfl, _, _, rfl, rfl, .inl ⟨by decide, by decide⟩, _, rfl, _, _, rfl, rfl, .inl ⟨by decide, by decide⟩, three, fun bl nbl => ?_⟩
  have wl := same_upd (o := .lst [.int 3, .int (3 * (most : Int)), .int (9 * (most : Int))]) nbl
  have hbl := upd_same (H := H1) (a := bl) (o := .lst [.int 3, .int (3 * (most : Int)), .int (9 * (most : Int))])
  have blb := hb1.ne nbl
  have hb1' := hb1.same wl
  have B1' := B1.same wl
  have hm0' := wl _ _ hm0
  have ht0' := wl _ _ ht0
  have hpa0' := wl _ _ hpa0
  have hka0' := wl _ _ hka0
  generalize upd H1 bl (.lst [.int 3, .int (3 * (most : Int)), .int (9 * (most : Int))]) = H1' at hbl hb1' B1' hm0' ht0' hpa0' hka0' ⊢
  clear hm0 ht0 hpa0 hka0 hb1 B1 wl nbl
  refine ⟨_, rfl, bg, 3, rfl, by decide, by decide, hb1', fun r H2 r0 r3 k2 hb2 => ?_⟩
  obtain ⟨mm, hat, mm1, mm28⟩ := threeMany most o1 o28 r r0 r3
  have d250 : 9 * (10 : Int) ^ 28 < 2 ^ 250 := by decide
  refine ⟨bl, _, _, _, rfl, rfl, SqL.of (by rw [k2 bl blb]; exact hbl), hat, bg, mm, rfl, by omega, by omega, hb2, fun bu H3 bu0 bu1 k3 hb3 => ?_⟩
  have B3 := (B1'.pick k2).pick k3
  have ne_b : ∀ {a : Addr} {xs : List V}, H1' a = some (.tup xs) → a ≠ bg := fun h => by
    obtain ⟨_, _, _, e⟩ := hb1'
    exact ne_of h e (fun z => by cases z)
  have k13 : ∀ a, a ≠ bg → H3 a = H1' a := fun a z => (k3 a z).trans (k2 a z)
  have hm3 := (k13 _ m0b).trans hm0'
  have ht3 := (k13 _ (ne_b ht0')).trans ht0'
  have hpa3 := (k13 _ pa0b).trans hpa0'
  have hka3 := (k13 _ ka0b).trans hka0'
  clear hm0' ht0' hpa0' hka0' hb1' B1' hbl hb2 k2 k3 k13 ne_b
  refine ⟨_, rfl, _, rfl, fun pA dxA npA ndA _ => ⟨pA, dxA, n, bu, rfl, upd_same, n1, by omega, bu0, fun cA H4 ncA hA kA => ⟨rfl, ?_⟩⟩⟩
  have sA := made_same npA ndA kA
  have ncA1 := made_free npA ndA ncA
  have hb4 := hb3.same sA
  have cAb := hb3.ne ncA1
  have npAH := B3.free npA (hb3.ne npA)
  have ncAH := B3.free ncA1 cAb
  have B4 := B3.same sA
  have m0c : m0 ≠ cA := ne_of_none hm3 ncA1
  have pa0c : pa0 ≠ cA := ne_of_none hpa3 ncA1
  have ka0c : ka0 ≠ cA := ne_of_none hka3 ncA1
  have hS4 : LSt H4 t0 m0 (n, [], 0) := ⟨sA _ _ ht3, sA _ _ hm3⟩
  have hpa4 := sA _ _ hpa3
  have hka4 := sA _ _ hka3
  clear sA kA ncA ncA1 npA ndA hb3 B3 hm3 ht3 hpa3 hka3 hb
  refine ⟨12, rfl, by decide, by decide, ?_⟩
  refine for_range (lo := 0) (n := 12) (fun i σ H' => ∃ (x : LS) (cs : List (LOp × LS)) (t m pa ka : Addr) (us ws : List V) (v8 v9 v10 v11 v12 : Option V), σ = [some (.ref bg), some (.int (n : Int)), some (.int (most : Int)), some (.ref t), some (.ref pa), some (.ref ka), some (.int bu), some (.ref pA), v8, v9, v10, v11, v12] ∧ LogB C bu H' pA cA x cs ∧ cs.length ≤ i ∧
      LSt H' t m x ∧ m ≠ bg ∧ m ≠ cA ∧ H' pa = some (.lst us) ∧ All2 (PV bg cA H') us (cs.map (·.2)) ∧ pa ≠ bg ∧ pa ≠ cA ∧ H' ka = some (.lst ws) ∧ All2 (OpAt H') ws (cs.map (·.1)) ∧ ka ≠ bg ∧ ka ≠ cA ∧ Mok i x ∧ (∀ z ∈ cs, Mok i z.2) ∧ 0 ≤ x.2.2 ∧ x.2.2 ≤ bu ∧ (∀ z ∈ cs, 0 ≤ z.2.2.2 ∧ z.2.2.2 ≤ bu) ∧ BagAt H' bg ∧ But bg H H')
    ⟨(n, [], 0), [], t0, m0, pa0, ka0, [], [], none, none, none, none, none, rfl, hA, Nat.le_refl _, hS4, m0b, m0c, hpa4, .nil, pa0b, pa0c, hka4, .nil, ka0b, ka0c, ⟨n1, by show n ≤ (0 + 1) * 10 ^ 28; omega, List.Pairwise.nil, (fun y hy => absurd hy List.not_mem_nil), Nat.le_refl _⟩, (fun z hz => absurd hz List.not_mem_nil), Int.le_refl 0, bu0, (fun z hz => absurd hz List.not_mem_nil), hb4, B4⟩ ?_ ?_
  · rintro i σ H4 hi ⟨x, cs, t, m, pa, ka, us, ws, v8, v9, v10, v11, v12, rfl, hL, lcs, hS, mb, mc, hpa, hus, pab, pac, hka, hws, kab, kac, ok, okc, x0, xbu, cbu, hb, B⟩
    have lus := hus.len
    rw [List.length_map] at lus
    refine ⟨_, rfl, Nat.zero_le _, fun em nem => ⟨.list ((cs.map (·.2)).map stL), .list [], ?_, .lst (SqL.of upd_same) .nil, stLs_shaped _, nil_shaped, ?_⟩⟩
    · have se := same_upd (o := .lst []) nem
      exact .lst (SqL.of (se _ _ hpa)) (stLs_dp (hus.mono fun v x (k : PV bg cA H4 v x) => k.same se))
    rw [stLs_nil]
    have se := same_upd (o := .lst []) nem
    replace hL := hL.same se
    replace hS := hS.same se
    replace hpa := se _ _ hpa
    replace hus := hus.mono fun v x (k : PV bg cA H4 v x) => k.same se
    replace hka := se _ _ hka
    replace hws := hws.mono fun v x (k : OpAt H4 v x) => k.same se
    replace hb := hb.same se
    replace B := B.same se
    generalize upd H4 em (.lst []) = H5 at hL hS hpa hus hka hws hb B ⊢
    clear se nem
    have ok1 : Mok i x := ok
    have okc1 : ∀ z ∈ cs, Mok i z.2 := okc
    clear ok okc
    by_cases hn : cs = []
    case' pos =>
      have hne : (!(cs.map (·.2)).isEmpty) = false := by rw [hn]; rfl
      refine ⟨false, congrArg V.bl hne, ?_⟩
      clear hne hn
    case' neg =>
      have hne : (!(cs.map (·.2)).isEmpty) = true := by cases cs with
        | nil => exact absurd rfl hn
        | cons _ _ => rfl
      refine ⟨true, congrArg V.bl hne, _, rfl, bg, 4, rfl, by decide, by decide, hb, fun r H6 r0 r3 k6 hb6 => ⟨rfl, ?_⟩⟩
      have k56 : But bg H5 H6 := fun a o z e => by rw [k6 a z]; exact e
      replace hL := hL.but hb k56 cAb
      replace hS := hS.but hb k56 mb
      replace hpa := k56 _ _ pab hpa
      replace hka := k56 _ _ kab hka
      replace hus := hus.mono fun v x (k : PV bg cA H5 v x) => k.but hb k56
      replace hws := hws.mono fun v x (k : OpAt H5 v x) => k.but hb k56
      replace B := B.pick k6
      replace hb := hb6
      clear hb6 k6 k56 r0 r3
      refine ⟨_, rfl, ite2 (fun cc => ?_) (fun cc => ?_)⟩
    case' neg.refine_1 =>
      rcases cs.eq_nil_or_concat with z | ⟨cs', ⟨o, y⟩, ez⟩
      · exact absurd z hn
      rw [List.concat_eq_append] at ez
      subst ez
      rw [List.length_append, List.length_singleton] at lcs
      obtain ⟨dx6, fs6, hpA6, hno6, _⟩ := hL.lst
      refine ⟨_, rfl, pA, dx6, fs6, rfl, hpA6, hno6 _ no_undo (by decide +kernel), bu, pA, cA, x, y, cs', o, rfl, hL, fun H7 k7 hL7 => ?_⟩
      have hpa7 := k7 _ _ hpa (ne_of hpa hpA6 (fun z => by cases z)) pac
      have hka7 := k7 _ _ hka (ne_of hka hpA6 (fun z => by cases z)) kac
      have hus7 := hus.mono fun v x k => PV.butLB k hL k7
      have hws7 := hws.mono fun v x k => OpAt.tups k (k7.tupsB hL)
      have hb7 := hb.butLB k7 hL cAb
      have B7 := B.butL k7 npAH ncAH
      rw [List.map_append] at hus7 hws7
      obtain ⟨us', vy, rfl, hus', ⟨t2, m2, rfl, hS7, mb2, mc2⟩⟩ := hus7.last
      obtain ⟨ws', vo, rfl, hws', _⟩ := hws7.last
      obtain ⟨_, _, _, _, _, hcA7⟩ := hL7.lst
      clear hL hS hpa hka hus hws hb B k7 hpA6 hno6
      refine ⟨_, rfl, 1, rfl, pa, _, _, _, rfl, rfl, SqL.of hpa7, atI_last _ _, _, rfl, 1, rfl, -1, rfl, pa, _, rfl, SqL.of hpa7, fun pa2 npa2 => ?_⟩
      have w1 := same_upd (o := .lst (cutV (us' ++ [V.ref t2]) none (some (-1)))) npa2
      refine ⟨_, rfl, 1, rfl, -1, rfl, ka, _, rfl, SqL.of (w1 _ _ hka7), fun ka2 nka2 => ⟨_, _, _, rfl, ?_⟩⟩
      have w2 := same_upd (o := .lst (cutV (ws' ++ [vo]) none (some (-1)))) nka2
      have s9 := w1.trans w2
      have pab2 := hb7.ne npa2
      have kab2 := (hb7.same w1).ne nka2
      have pac2 : pa2 ≠ cA := fun z => by rw [z, hcA7] at npa2; cases npa2
      have kac2 : ka2 ≠ cA := fun z => by rw [z, w1 _ _ hcA7] at nka2; cases nka2
      have hpa := w2 _ _ (upd_same (H := H7) (a := pa2) (o := .lst (cutV (us' ++ [V.ref t2]) none (some (-1)))))
      have hka := upd_same (H := upd H7 pa2 (.lst (cutV (us' ++ [V.ref t2]) none (some (-1))))) (a := ka2) (o := .lst (cutV (ws' ++ [vo]) none (some (-1))))
      have hL := hL7.same s9
      have hS := hS7.same s9
      have hus := hus'.mono fun v x (k : PV bg cA H7 v x) => k.same s9
      have hws := hws'.mono fun v x (k : OpAt H7 v x) => k.same s9
      have hb := hb7.same s9
      have B := B7.same s9
      have ok2 : Mok i y := okc1 (o, y) (by simp)
      have okc2 : ∀ z ∈ cs', Mok i z.2 := fun z hz => okc1 z (by simp [hz])
      have lcs2 : cs'.length ≤ i := by omega
      obtain ⟨x02, xbu2⟩ := cbu (o, y) (by simp)
      have cbu2 : ∀ z ∈ cs', 0 ≤ z.2.2.2 ∧ z.2.2.2 ≤ bu := fun z hz => cbu z (by simp [hz])
      generalize upd (upd H7 pa2 (.lst (cutV (us' ++ [V.ref t2]) none (some (-1))))) ka2 (.lst (cutV (ws' ++ [vo]) none (some (-1)))) = H9 at hpa hka hL hS hus hws hb B ⊢
      rw [cut_last, List.dropLast_concat] at hpa hka
      dsimp only at x02 xbu2 ok2
      clear hL7 hpa7 hka7 hus7 hws7 hb7 B7 hus' hws' hS7 w1 w2 s9 npa2 nka2 hcA7 ok1 okc1 x0 xbu cbu lcs mb mc pab pac kab kac hn cc lus
      obtain ⟨x, rfl⟩ : ∃ z, z = y := ⟨y, rfl⟩
      obtain ⟨cs, rfl⟩ : ∃ z, z = cs' := ⟨cs', rfl⟩
      obtain ⟨us, rfl⟩ : ∃ z, z = us' := ⟨us', rfl⟩
      obtain ⟨ws, rfl⟩ : ∃ z, z = ws' := ⟨ws', rfl⟩
      obtain ⟨t, rfl⟩ : ∃ z, z = t2 := ⟨t2, rfl⟩
      obtain ⟨m, rfl⟩ : ∃ z, z = m2 := ⟨m2, rfl⟩
      obtain ⟨pa, rfl⟩ : ∃ z, z = pa2 := ⟨pa2, rfl⟩
      obtain ⟨ka, rfl⟩ : ∃ z, z = ka2 := ⟨ka2, rfl⟩
      have ok1 := ok2
      have okc1 := okc2
      have lcs := lcs2
      have x0 := x02
      have xbu := xbu2
      have cbu := cbu2
      have mb := mb2
      have mc := mc2
      have pab := pab2
      have pac := pac2
      have kab := kab2
      have kac := kac2
    all_goals
      obtain ⟨x1, xm, xp, xle, xl⟩ := id ok1
      have e20 : (i + 1) * 10 ^ 28 ≤ 13 * 10 ^ 28 := Nat.mul_le_mul_right _ (by omega)
      have x30 : x.1 ≤ 10 ^ 30 := by omega
      have hgood : lgood x := ⟨x1, x30, by omega⟩
      refine ⟨_, rfl, _, rfl, _, rfl, bg, t, m, x, most, rfl, hb, hS, x1, x30, o1, o28, fun H6 v1 op1 B56 hb6 hv1 hk1 hk2 => ?_⟩
      have hok1 : lok x op1 := by
        cases op1 with
        | app k => exact ⟨(hk1 k rfl).1, by have := (hk1 k rfl).2; omega⟩
        | mark => trivial
        | cut k => exact hk2 k rfl
      have oky := ok1.after o28 hk1 hk2
      obtain ⟨y1, ym, yp, yle, yl⟩ := id oky
      have e21 : (i + 1 + 1) * 10 ^ 28 ≤ 14 * 10 ^ 28 := Nat.mul_le_mul_right _ (by omega)
      have y30 : (lafter x op1).1 ≤ 10 ^ 30 := by omega
      have hgy : lgood (lafter x op1) := ⟨y1, y30, by omega⟩
      have hL6 := hL.but hb B56 cAb
      have hS6 := hS.but hb B56 mb
      have hpa6 := B56 _ _ pab hpa
      have hka6 := B56 _ _ kab hka
      have hus6 := hus.mono fun v x k => PV.but k hb B56
      have hws6 := hws.mono fun v x k => OpAt.but k hb B56
      have B6 := B.trans B56
      clear hL hS hpa hka hus hws hb B B56
      refine ⟨_, rfl, _, rfl, _, rfl, t, m, x, v1, op1, rfl, hS6, hv1, hgood, hok1, xp, (fun y hy => (xle y hy).2), by omega, fun H7 t1 m1 s67 hS7 _ => ⟨_, rfl, bg, t1, m1, lafter x op1, most, rfl, hb6.same s67, hS7, y1, y30, o1, o28, fun H8 v2 op2 B78 hb8 hv2 hk3 hk4 => ?_⟩⟩
      have hok2 : lok (lafter x op1) op2 := by
        cases op2 with
        | app k => exact ⟨(hk3 k rfl).1, by have := (hk3 k rfl).2; omega⟩
        | mark => trivial
        | cut k => exact hk4 k rfl
      have hb7 := hb6.same s67
      have hL8 := (hL6.same s67).but hb7 B78 cAb
      have hS8 := (hS6.same s67).but hb7 B78 mb
      have hpa8 := B78 _ _ pab (s67 _ _ hpa6)
      have hka8 := B78 _ _ kab (s67 _ _ hka6)
      have hus8 := hus6.mono fun v x k => PV.but (PV.same k s67) hb7 B78
      have hws8 := hws6.mono fun v x k => OpAt.but (OpAt.same k s67) hb7 B78
      have hv18 := (hv1.same s67).but hb7 B78
      have B8 := (B6.same s67).trans B78
      clear hL6 hS6 hpa6 hka6 hus6 hws6 hb6 hb7 hS7 hv1 B6 B78 s67
      have hcx : cost x op1 = x.2.2 + ocost x op1 := lafter_cost x op1
      have hcy : cost (lafter x op1) op2 = (lafter x op1).2.2 + ocost (lafter x op1) op2 := lafter_cost _ _
      have oc1 := ocost_pos x op1
      have oc2 := ocost_top hgood hok1
      have oc3 := ocost_pos (lafter x op1) op2
      have oc4 := ocost_top hgy hok2
      have exy : (lafter x op1).2.2 = cost x op1 := rfl
      have d66 : 9 * 10 ^ 28 + 2 * 10 ^ 30 < (10 : Int) ^ 66 := by decide
      have c66 : (cost x op1).natAbs < 10 ^ 66 := by omega
      have e66 : (cost (lafter x op1) op2).natAbs < 10 ^ 66 := by omega
      have due2 : DueOk x [op1, op2] := fun j o' hj => by
        match j, hj with
        | 0, hj =>
          obtain rfl : op1 = o' := Option.some.inj hj
          exact ⟨hgood, hok1, xp, fun y hy => (xle y hy).2, by show x.2.1.length ≤ 60; omega, c66⟩
        | 1, hj =>
          obtain rfl : op2 = o' := Option.some.inj hj
          exact ⟨hgy, hok2, yp, fun y hy => (yle y hy).2, by show (lafter x op1).2.1.length ≤ 60; omega, e66⟩
        | j + 2, hj => simp at hj
      have due1 : DueOk x [op1] := fun j o' hj => by
        match j, hj with
        | 0, hj =>
          obtain rfl : op1 = o' := Option.some.inj hj
          exact ⟨hgood, hok1, xp, fun y hy => (xle y hy).2, by show x.2.1.length ≤ 60; omega, c66⟩
        | j + 1, hj => simp at hj
      refine ⟨_, rfl, _, rfl, _, rfl, bu, pA, cA, x, cs, v1, v2, op1, op2, _, rfl, hL8, hv18, hv2, hgood, c66, e66, .inl ⟨hok1, hgy, hok2, rfl⟩, fun H9 s89 => ?_⟩
      refine ⟨_, rfl, _, rfl, _, rfl, two, fun l2 nl2 => ?_⟩
      have z1 := s89.trans (same_upd (o := .lst [v1, v2]) nl2)
      refine ⟨_, rfl, t, m, l2, bu, x, [v1, v2], [op1, op2], rfl, hS8.same z1, upd_same, .cons (hv18.same z1) (.cons (hv2.same z1) .nil), due2, fun H10 s10 => ⟨scal_due _ _ _, false, ne_no rfl, ?_⟩⟩
      have z2 := z1.trans s10
      refine ⟨_, rfl, _, rfl, one1, fun l3 nl3 => ?_⟩
      have z3 := z2.trans (same_upd (o := .lst [v1]) nl3)
      refine ⟨_, rfl, t, m, l3, bu, x, [v1], [op1], rfl, hS8.same z3, upd_same, .cons (hv18.same z3) .nil, due1, fun H11 s11 => ?_⟩
      have z4 := z3.trans s11
      have hL11 := hL8.same z4
      have hS11 := hS8.same z4
      have hpa11 := z4 _ _ hpa8
      have hka11 := z4 _ _ hka8
      have hus11 := hus8.mono fun v x (k : PV bg cA _ v x) => k.same z4
      have hws11 := hws8.mono fun v x (k : OpAt _ v x) => k.same z4
      have hv11 := hv18.same z4
      have hb11 := hb8.same z4
      have B11 := B8.same z4
      clear hL8 hS8 hpa8 hka8 hus8 hws8 hv18 hb8 B8 z1 z2 z3 z4 s89 s10 s11 nl2 nl3 due1 due2 hv2
      refine ⟨_, rfl, _, rfl, bu, pA, cA, x, cs, v1, op1, rfl, hL11, hv11, hgood, hok1, by omega, c66, fun le H12 k12 hL12 => ?_, fun gt H12 s12 => ?_⟩
      · rw [show dueV bu x [op1] = .int (lafter x op1).2.2 from if_neg (by omega)]
        refine ⟨_, _, rfl, ?_⟩
        refine ⟨_, rfl, _, rfl, _, _, _, _, false, rfl, .ty "str", .base (.int _), kit_ty (by decide +kernel), false, rfl, ite_f62 ⟨rfl, false, ne_no rfl, ?_⟩⟩
        refine ⟨_, rfl, rfl, true, congrArg V.bl (decide_eq_true rfl), ?_⟩
        have T12 := k12.tupsB hL11
        obtain ⟨_, _, hp12, _, _⟩ := hL11.lst
        have hpa12 := k12 _ _ hpa11 (ne_of hpa11 hp12 (fun z => by cases z)) pac
        have hka12 := k12 _ _ hka11 (ne_of hka11 hp12 (fun z => by cases z)) kac
        have hus12 := hus11.mono fun v x k => PV.butLB k hL11 k12
        have hws12 := hws11.mono fun v x k => OpAt.tups k T12
        have hS12 := hS11.butLB hL11 k12 mc
        have hv12 := hv11.tups T12
        have hb12 := hb11.butLB k12 hL11 cAb
        have B12 := B11.butL k12 npAH ncAH
        have lus := hus12.len
        have lws := hws12.len
        rw [List.length_map] at lus lws
        clear hL11 hS11 hpa11 hka11 hus11 hws11 hv11 hb11 B11 k12 T12 hp12
        refine ⟨_, rfl, _, rfl, one1, fun l1 nl1 => ⟨pa, l1, us, _, rfl, rfl, same_upd nl1 _ _ hpa12, upd_same, szle (by rw [List.length_singleton]; omega), fun pa2 npa2 => ⟨_, rfl, _, rfl, one1, fun l2 nl2 => ⟨ka, l2, ws, _, rfl, rfl, same_upd nl2 _ _ (same_upd npa2 _ _ (same_upd nl1 _ _ hka12)), upd_same, szle (by rw [List.length_singleton]; omega), fun ka2 nka2 => ⟨_, _, rfl, ?_⟩⟩⟩⟩⟩
        have w1 := same_upd (o := .lst [.ref t]) nl1
        have w2 := same_upd (o := .lst (us ++ [.ref t])) npa2
        have w3 := same_upd (o := .lst [v1]) nl2
        have w4 := same_upd (o := .lst (ws ++ [v1])) nka2
        have s13 := w1.trans (w2.trans (w3.trans w4))
        have hpa13 := w4 _ _ (w3 _ _ (upd_same (H := upd H12 l1 (.lst [.ref t])) (a := pa2) (o := .lst (us ++ [.ref t]))))
        have hka13 := upd_same (H := upd (upd (upd H12 l1 (.lst [.ref t])) pa2 (.lst (us ++ [.ref t]))) l2 (.lst [v1])) (a := ka2) (o := .lst (ws ++ [v1]))
        obtain ⟨_, _, _, _, _, hcA12⟩ := hL12.lst
        have pab2 := (hb12.same w1).ne npa2
        have kab2 := (hb12.same (w1.trans (w2.trans w3))).ne nka2
        have pac2 : pa2 ≠ cA := fun z => by rw [z, w1 _ _ hcA12] at npa2; cases npa2
        have kac2 : ka2 ≠ cA := fun z => by rw [z, w3 _ _ (w2 _ _ (w1 _ _ hcA12))] at nka2; cases nka2
        have hus13 : All2 (PV bg cA (upd (upd (upd (upd H12 l1 (.lst [.ref t])) pa2 (.lst (us ++ [.ref t]))) l2 (.lst [v1])) ka2 (.lst (ws ++ [v1])))) (us ++ [.ref t]) ((cs ++ [(op1, x)]).map (·.2)) := by
          rw [List.map_append]
          exact (hus12.mono fun v x k => PV.same k s13).app (.cons ⟨t, m, rfl, hS12.same s13, mb, mc⟩ .nil)
        have hws13 : All2 (OpAt (upd (upd (upd (upd H12 l1 (.lst [.ref t])) pa2 (.lst (us ++ [.ref t]))) l2 (.lst [v1])) ka2 (.lst (ws ++ [v1])))) (ws ++ [v1]) ((cs ++ [(op1, x)]).map (·.1)) := by
          rw [List.map_append]
          exact (hws12.mono fun v x k => OpAt.same k s13).app (.cons (hv12.same s13) .nil)
        have hL13 := hL12.same s13
        have hS13 := hS12.same s13
        have hv13 := hv12.same s13
        have hb13 := hb12.same s13
        have B13 := B12.same s13
        have hcA13 := s13 _ _ hcA12
        generalize upd (upd (upd (upd H12 l1 (.lst [.ref t])) pa2 (.lst (us ++ [.ref t]))) l2 (.lst [v1])) ka2 (.lst (ws ++ [v1])) = H13 at hpa13 hka13 hus13 hws13 hL13 hS13 hv13 hb13 B13 hcA13 ⊢
        clear hL12 hS12 hpa12 hka12 hus12 hws12 hv12 hb12 B12 w1 w2 w3 w4 s13 hcA12 nl1 npa2 nl2 nka2
        refine ⟨_, rfl, _, rfl, t, m, x, v1, op1, rfl, hS13, hv13, hgood, hok1, xp, (fun y hy => (xle y hy).2), by omega, fun H14 t2 m2 s14 hS2 hm2 => ?_⟩
        have mb2 : m2 ≠ bg := hm2.elim (fun z => by rw [z]; exact mb) (fun z => hb13.ne z)
        have mc2 : m2 ≠ cA := hm2.elim (fun z => by rw [z]; exact mc) (fun z y => by rw [y, hcA13] at z; cases z)
        have hL2 := hL13.same s14
        have hpa2 := s14 _ _ hpa13
        have hka2 := s14 _ _ hka13
        have hus2 := hus13.mono fun v x (k : PV bg cA H13 v x) => k.same s14
        have hws2 := hws13.mono fun v x (k : OpAt H13 v x) => k.same s14
        have hb2 := hb13.same s14
        have B2 := B13.same s14
        clear hL13 hS13 hpa13 hka13 hus13 hws13 hv13 hb13 B13 s14 hcA13 hm2
        have okx2 : Mok (i + 1) (lafter x op1) := oky
        have okc2 : ∀ z ∈ cs ++ [(op1, x)], Mok (i + 1) z.2 := fun z hz => by
          rcases List.mem_append.mp hz with h | h
          · exact (okc1 z h).more (by omega)
          · rw [List.mem_singleton] at h
            rw [h]
            exact ok1.more (by omega)
        have x02 : 0 ≤ (lafter x op1).2.2 := by omega
        have xbu2 : (lafter x op1).2.2 ≤ bu := by omega
        have cbu2 : ∀ z ∈ cs ++ [(op1, x)], 0 ≤ z.2.2.2 ∧ z.2.2.2 ≤ bu := fun z hz => by
          rcases List.mem_append.mp hz with h | h
          · exact cbu z h
          · rw [List.mem_singleton] at h
            rw [h]
            exact ⟨x0, xbu⟩
        have lcs3 : (cs ++ [(op1, x)]).length ≤ i + 1 := by rw [List.length_append, List.length_singleton]; omega
        obtain ⟨dx20, fs20, hp20, hno20, _⟩ := hL2.lst
        refine ⟨_, rfl, bu, pA, cA, _, _, rfl, hL2, fun H20 tt mt s20 nmt hT => ⟨_, rfl, stL (lafter x op1), stL (lafter x op1), hT.dp, (hS2.same s20).dp, stL_shaped _, stL_shaped _, ?_⟩⟩
        rw [stL_refl]
        refine ⟨false, rfl, ?_⟩
        have hL21 := hL2.same s20
        refine ⟨_, rfl, pA, dx20, fs20, rfl, s20 _ _ hp20, bu, pA, cA, _, _, rfl, hL21, _, rfl, rfl, false, ne_no rfl, ?_⟩
        refine ⟨_, rfl, pA, dx20, fs20, rfl, s20 _ _ hp20, hno20 _ no_log (by decide +kernel), bu, pA, cA, _, _, rfl, hL21, by omega, fun H21 lr ys s21 nlr hlr hys => ?_⟩
        have s22 := s20.trans s21
        refine ⟨_, rfl, .list (((cs ++ [(op1, x)]).map (·.1)).map opD), .list (((cs ++ [(op1, x)]).map (·.1)).map opD), .lst (SqL.of hlr) (opsD_dp hys), .lst (SqL.of (s22 _ _ hka2)) (opsD_dp (hws2.mono fun v x (k : OpAt _ v x) => k.same s22)), opsD_shaped _, opsD_shaped _, ?_⟩
        rw [opsD_eqv]
        refine ⟨false, rfl, ?_⟩
        refine ⟨_, rfl, _, rfl, _, rfl, fun pB dxB npB ndB _ => ⟨pB, dxB, n, bu, rfl, upd_same, n1, by omega, bu0, fun cB H23 ncB hB kB => ⟨rfl, ?_⟩⟩⟩
        have s23 := s22.trans (made_same npB ndB kB)
        obtain ⟨dxB', fsB', hpB, _, _⟩ := hB.lst
        refine ⟨pA, dx20, fs20, rfl, s23 _ _ hp20, .inl ⟨pB, C, dxB', fsB', rfl, hpB, nF⟩, .inl ⟨pA, pB, cA, cB, bu, bu, (lafter x op1), _, (cs ++ [(op1, x)]), _, rfl, hL2.same s23, hB, _, rfl, ?_⟩⟩
        refine ⟨_, rfl, _, rfl, Nat.zero_le _, fun el nel => ⟨three, fun tn ntn => ?_⟩⟩
        have u1 := same_upd (o := .lst []) nel
        have u2 := same_upd (o := .tup [.int (n : Int), .ref el, .int 0]) ntn
        have s25 := s23.trans (u1.trans u2)
        refine ⟨stL (lafter x op1), stL (n, [], 0), (hS2.same s25).dp, LSt.dp (x := (n, [], 0)) ⟨upd_same, u2 _ _ upd_same⟩, stL_shaped _, stL_shaped _, rfl, false, ne_no (congrArg V.bl (by rw [stD_stL, decide_eq_true rfl, Bool.and_true])), ?_⟩
        exact ⟨(lafter x op1), (cs ++ [(op1, x)]), _, _, _, _, (us ++ [.ref t]), (ws ++ [v1]), _, _, _, _, _, rfl, hL2.same s25, lcs3, hS2.same s25, mb2, mc2, s25 _ _ hpa2, hus2.mono fun v x (k : PV bg cA _ v x) => k.same s25, pab2, pac2, s25 _ _ hka2, hws2.mono fun v x (k : OpAt _ v x) => k.same s25, kab2, kac2, okx2, okc2, x02, xbu2, cbu2, hb2.same s25, B2.same s25⟩
      · rw [show dueV bu x [op1] = .str (overW (cost x op1)) from if_pos gt]
        refine ⟨_, _, rfl, ?_⟩
        refine ⟨_, rfl, _, rfl, _, _, _, _, true, rfl, .ty "str", .base (.str _), kit_ty (by decide +kernel), true, rfl, ite_t62 ⟨_, rfl, rfl, false, ne_no rfl, ?_⟩⟩
        refine ⟨_, rfl, rfl, false, congrArg V.bl (decide_eq_false (fun z => by cases z)), ?_⟩
        have hL2 := hL11.same s12
        have hS2 := hS11.same s12
        have hpa2 := s12 _ _ hpa11
        have hka2 := s12 _ _ hka11
        have hus2 := hus11.mono fun v x (k : PV bg cA H11 v x) => k.same s12
        have hws2 := hws11.mono fun v x (k : OpAt H11 v x) => k.same s12
        have hb2 := hb11.same s12
        have B2 := B11.same s12
        clear hL11 hS11 hpa11 hka11 hus11 hws11 hv11 hb11 B11 s12
        have okx2 : Mok (i + 1) x := ok1.more (by omega)
        have okc2 : ∀ z ∈ cs, Mok (i + 1) z.2 := fun z hz => (okc1 z hz).more (by omega)
        have x02 := x0
        have xbu2 := xbu
        have cbu2 := cbu
        have mb2 := mb
        have mc2 := mc
        have pab2 := pab
        have pac2 := pac
        have kab2 := kab
        have kac2 := kac
        have lcs3 : cs.length ≤ i + 1 := by omega
        obtain ⟨dx20, fs20, hp20, hno20, _⟩ := hL2.lst
        refine ⟨_, rfl, bu, pA, cA, _, _, rfl, hL2, fun H20 tt mt s20 nmt hT => ⟨_, rfl, stL x, stL x, hT.dp, (hS2.same s20).dp, stL_shaped _, stL_shaped _, ?_⟩⟩
        rw [stL_refl]
        refine ⟨false, rfl, ?_⟩
        have hL21 := hL2.same s20
        refine ⟨_, rfl, pA, dx20, fs20, rfl, s20 _ _ hp20, bu, pA, cA, _, _, rfl, hL21, _, rfl, rfl, false, ne_no rfl, ?_⟩
        refine ⟨_, rfl, pA, dx20, fs20, rfl, s20 _ _ hp20, hno20 _ no_log (by decide +kernel), bu, pA, cA, _, _, rfl, hL21, by omega, fun H21 lr ys s21 nlr hlr hys => ?_⟩
        have s22 := s20.trans s21
        refine ⟨_, rfl, .list ((cs.map (·.1)).map opD), .list ((cs.map (·.1)).map opD), .lst (SqL.of hlr) (opsD_dp hys), .lst (SqL.of (s22 _ _ hka2)) (opsD_dp (hws2.mono fun v x (k : OpAt _ v x) => k.same s22)), opsD_shaped _, opsD_shaped _, ?_⟩
        rw [opsD_eqv]
        refine ⟨false, rfl, ?_⟩
        refine ⟨_, rfl, _, rfl, _, rfl, fun pB dxB npB ndB _ => ⟨pB, dxB, n, bu, rfl, upd_same, n1, by omega, bu0, fun cB H23 ncB hB kB => ⟨rfl, ?_⟩⟩⟩
        have s23 := s22.trans (made_same npB ndB kB)
        obtain ⟨dxB', fsB', hpB, _, _⟩ := hB.lst
        refine ⟨pA, dx20, fs20, rfl, s23 _ _ hp20, .inl ⟨pB, C, dxB', fsB', rfl, hpB, nF⟩, .inl ⟨pA, pB, cA, cB, bu, bu, x, _, cs, _, rfl, hL2.same s23, hB, _, rfl, ?_⟩⟩
        refine ⟨_, rfl, _, rfl, Nat.zero_le _, fun el nel => ⟨three, fun tn ntn => ?_⟩⟩
        have u1 := same_upd (o := .lst []) nel
        have u2 := same_upd (o := .tup [.int (n : Int), .ref el, .int 0]) ntn
        have s25 := s23.trans (u1.trans u2)
        refine ⟨stL x, stL (n, [], 0), (hS2.same s25).dp, LSt.dp (x := (n, [], 0)) ⟨upd_same, u2 _ _ upd_same⟩, stL_shaped _, stL_shaped _, rfl, false, ne_no (congrArg V.bl (by rw [stD_stL, decide_eq_true rfl, Bool.and_true])), ?_⟩
        exact ⟨x, cs, _, _, _, _, us, ws, _, _, _, _, _, rfl, hL2.same s25, lcs3, hS2.same s25, mb2, mc2, s25 _ _ hpa2, hus2.mono fun v x (k : PV bg cA _ v x) => k.same s25, pab2, pac2, s25 _ _ hka2, hws2.mono fun v x (k : OpAt _ v x) => k.same s25, kab2, kac2, okx2, okc2, x02, xbu2, cbu2, hb2.same s25, B2.same s25⟩
  · rintro σ H4 ⟨x, cs, t, m, pa, ka, us, ws, v8, v9, v10, v11, v12, rfl, hL, lcs, hS, mb, mc, hpa, hus, pab, pac, hka, hws, kab, kac, ok, okc, x0, xbu, cbu, hb, B⟩
    exact q H4 B hb
end
end LT

namespace LT
open PySem PySem.Spec PyProof.Rows L2
/-! ### a == b, b of a subclass with an __eq__ of its own: it is asked first. OWN RULE -/
section
open PySem.W
variable {prog : Program} {w : World} {A : Around} {E : Value → Shared → Prop} {s : Shared} {K : Frag} {x a C D L f : Addr} {h₀ : Heap} {m : Str → Option Value} {ox : Obj} {od : Option Obj}
theorem cmp_KF {op : CmpOp} {Q : Value → Shared → Prop} (hu : A.units < cLine) (F : Fr h₀ L s.heap m) (X₀ : K.In h₀) (ha : Looks (model prog w) s.heap (typeOf (.ref a)) (.ref C)) (I : InstAt s.heap x ox D od) (hne : ¬ C = D) (hsub : subIn K (.ref D) (.ref C) = some true)
    (hs : findIn K (.ref D) (cmpInfo op).2.2 = some (some (.ref f))) (hf : isFn K (.ref f) = true)
    (h : wpAny (model prog w) A (call (.ref f) [.ref x, .ref a]) (PySem.W.CmpBack Q) E s) : wpAny (model prog w) A (richCompare op (.ref a) (.ref x)) Q E s := by
  have X := X₀.keeps F.keep
  have one : wpAny (model prog w) A (tryCompare (.ref x) (cmpInfo op).2.2 (.ref a)) (fun r s' => ∃ v, r = some v ∧ Q v s') E s := by
    unfold tryCompare
    refine wpAny_bind (ifBound_K X I hs hf (wpAny_mono h (fun v s' hv => ?_) fun _ _ e => e))
    cases v <;> first | exact hv.elim | exact wpAny_pure ⟨_, rfl, hv⟩
  unfold richCompare
  simp only [oneThing_ref]
  refine wpAny_holding (wpAny_bind (wpAny_cRoomFor hu ?_))
  refine wpAny_bind (ha.here (wpAny_bind (I.type.here ?_)))
  have e : ((Value.ref C != Value.ref D) = true) := by simpa using hne
  rw [if_pos e]
  refine wpAny_bind ((looks_subIn X hsub).here ?_)
  rw [if_pos rfl]
  refine wpAny_bind (wpAny_mono one (fun r s' z => ?_) fun _ _ e => e)
  obtain ⟨v, rfl, hq⟩ := z
  exact wpAny_bind (wpAny_rule (wpAny_pure hq))
end
/-- x == y, answered by y's class -/
def rEqF (C D : Addr) (sp : Sp) (E : XK) : R2 := fun x y H Q => ∃ (a b dx dy : Addr) (fs gs : List (Str × V)), x = .ref a ∧ y = .ref b ∧ H a = some (.ins C dx fs) ∧ H b = some (.ins D dy gs) ∧ sp [y, x] H (fun v H' => ∃ c : Bool, v = .bl c ∧ Q (.bl c) H') E
section
variable {X : Cx} {CX : CXT} {n : Nat} {f C D : Addr} {fd : FuncData} {ps : List Str} {sp : Sp} {E : XK}
theorem op_eqF (F : FnOk X.prog X.w X.K X.mg X.base CX n f fd ps sp) (hne : ¬ C = D) (hsub : PySem.W.subIn X.K (.ref D) (.ref C) = some true) (hs : PySem.W.findIn X.K (.ref D) "__eq__" = some (some (.ref f))) (hf : PySem.W.isFn X.K (.ref f) = true) (hb : Binds X.K fd ps []) (hx : Passes CX X E) (hr : Room n X.A) : OpR X (compareOp .Eq) (rEqF C D sp E) := by
  intro pins s σ H x y v u Q I rx ry h
  obtain ⟨a, b, dx, dy, fs, gs, rfl, rfl, ha, hb', q⟩ := h
  cases rx
  cases ry
  show wpAny (model X.prog X.w) X.A (richCompare .Eq (.ref a) (.ref b)) (EP X pins σ Q) X.xe s
  obtain ⟨mA, J, _⟩ := ins_get I.hok ha
  obtain ⟨od, J, _⟩ := J.look
  obtain ⟨mB, J', _⟩ := ins_get I.hok hb'
  obtain ⟨od', J', _⟩ := J'.look
  obtain ⟨m, hF⟩ := I.fr
  refine cmp_KF (op := .Eq) hr.units0 hF I.ok.mod.kin J.type J' hne hsub hs hf ?_
  refine wpAny_mono (run_fn (us := [.ref b, .ref a]) (vs := [.ref b, .ref a]) (dvs := []) (ds := []) F hr hb .nil hx I (.cons rfl (.cons rfl .nil)) q) (fun r s' z => ?_) fun _ _ e => e
  obtain ⟨w, H', I', rw', qq⟩ := z
  obtain ⟨c, ew, q'⟩ := qq
  have e : r = Value.bool c := by
    rw [ew] at rw'
    exact rw'
  rw [e]
  exact ⟨.bl c, H', I', rfl, q'⟩
end
end LT

namespace LT
open PySem PySem.Spec PyProof.Rows L2
theorem script_at {ns : List Int} {lo hi : Option Int} {i : Nat} {x : V} (h : (cutV (ns.map V.int) lo hi ++ [.int 0])[i]? = some x) : ∃ c : Int, x = .int c := by
  have m := List.mem_of_getElem? h
  rcases List.mem_append.mp m with m | m
  · unfold cutV at m
    have m2 := List.mem_of_mem_drop (List.mem_of_mem_take m)
    obtain ⟨c, _, e⟩ := List.mem_map.mp m2
    exact ⟨c, e.symm⟩
  · exact ⟨0, List.mem_singleton.mp m⟩
theorem sqSame {K : PySem.W.Frag} {H H' : Hp} {a : Addr} {xs : List V} (h : SqL K H a xs) (e : Same H H') : SqL K H' a xs :=
  h.elim (fun h => .inl (h.elim (fun h => .inl (e _ _ h)) fun ⟨o, h⟩ => .inr ⟨o, e _ _ h⟩)) fun h => .inr h
def spLaw (K : PySem.W.Frag) : Sp := fun vs H Q _ => ∃ (a : Addr) (ns : List Int), vs = [.ref a] ∧ SqL K H a (ns.map V.int) ∧ ns.length ≤ 63 ∧ ∀ H', Q (.bl true) H'
end LT

namespace LT
open PySem PySem.Spec PyProof.Rows L2
theorem ones41_1 : ones 1 = 1 := by rw [ones_step 1, show 1 / 2 = 0 from rfl, ones_zero]
theorem ones41_2 : ones 2 = 1 := by rw [ones_step 2, show 2 / 2 = 1 from rfl, ones41_1]
theorem ones41_4 : ones 4 = 1 := by rw [ones_step 4, show 4 / 2 = 2 from rfl, ones41_2]
theorem ones41_7 : ones 7 = 3 := by rw [ones_step 7, show 7 / 2 = 3 from rfl, ones_step 3, show 3 / 2 = 1 from rfl, ones41_1]
theorem aft41d : lafter (1, [], 0) (.app 6) = (7, [], 4) := by
  show ((1 + 6, [], 0 + acost 1 6) : LS) = _
  unfold acost
  rw [show 1 + 6 = 7 from rfl, ones41_7, ones41_1]
  rfl
theorem aft41f (s : Int) : lafter (7, [], s) .mark = (7, [7], s + 2) := by
  show (if 7 ∈ ([] : List Nat) then ((7, [], s) : LS) else (7, [] ++ [7], s + ((ones 7 - 1 : Nat) : Int))) = _
  rw [if_neg List.not_mem_nil, ones41_7]
  rfl
theorem good41 (m : Nat) (l : List Nat) (s : Int) (h1 : 1 ≤ m) (h2 : m ≤ 10) (h3 : l.length ≤ 10) : lgood (m, l, s) :=
  ⟨h1, Nat.le_trans h2 (by decide), by show l.length ≤ 1000; omega⟩
theorem LogB.otherB {C : Addr} {bu bv : Int} {H H' : Hp} {p c p' c' : Addr} {x x' : LS} {cs cs' : List (LOp × LS)} (h : LogB C bu H p c x cs) (h' : LogB C bv H p' c' x' cs') (k : ButL p' c' H H') (pp : p ≠ p') (cc : c ≠ c') : LogB C bu H' p c x cs := by
  have T := k.tupsB h'
  obtain ⟨dx, s, vs, a, b, d, e⟩ := h
  obtain ⟨_, _, _, a', _, d', _⟩ := h'
  exact ⟨dx, s, vs, k _ _ a pp (ne_of a d' (fun z => by cases z)), b.tups T, k _ _ d (ne_of d a' (fun z => by cases z)) cc, e.mono fun v x (k : CallAt H v x) => k.tups T⟩
def d42 : PyData := .list [.bool true, .bool false, .bool false, .bool false, .bool true]
theorem d42_refl : PyData.eqv d42 d42 = true := by simp [d42, PyData.eqv, PyData.eqvAll]
theorem d42_shaped : SeqAt.shaped d42 = true := by decide +kernel
theorem c16 : cost (1, [], 0) (.app 6) = 4 := by
  unfold cost
  rw [aft41d]
theorem c7m : cost (7, [], 4) .mark = 6 := by
  unfold cost
  rw [aft41f]
  rfl
theorem LogB.offB {C : Addr} {bu : Int} {H : Hp} {p c q : Addr} {x : LS} {cs : List (LOp × LS)} {ys : List V} {o : HO} (h : LogB C bu H p c x cs) (hq : H q = some (.lst ys)) (cq : c ≠ q) : LogB C bu (upd H q o) p c x cs := by
  have T : Tups H (upd H q o) := fun a xs e => by rw [upd_ne (ne_of e hq (fun z => by cases z))]; exact e
  obtain ⟨dx, s, vs, a, b, d, e⟩ := h
  exact ⟨dx, s, vs, by rw [upd_ne (ne_of a hq (fun z => by cases z))]; exact a, b.tups T, by rw [upd_ne cq]; exact d, e.mono fun v x (k : CallAt H v x) => k.tups T⟩
theorem ow4 : overW 4 = "over 4" := by decide +kernel
theorem ow6 : overW 6 = "over 6" := by decide +kernel
def e42 : PyData := .list [.str "over 4", .none, .str "over 6", .none, .str "size", .str "size", .str "over 6"]
theorem e42_refl : PyData.eqv e42 e42 = true := by simp [e42, PyData.eqv, PyData.eqvAll]
theorem e42_shaped : SeqAt.shaped e42 = true := by decide +kernel
theorem n96 : (cost (lafter (1, [], 0) (.cut 9)) (.app 6)).natAbs < 10 ^ 66 := by
  have a := ones_self62 9
  have b := ones_self62 15
  have e : cost (lafter (1, [], 0) (.cut 9)) (.app 6) = 0 + ((6 : Nat) - ((ones (9 + 6) : Nat) : Int) + ((ones 9 : Nat) : Int)) := rfl
  rw [e]
  have d : (100 : Nat) < 10 ^ 66 := by decide
  show ((0 : Int) + ((6 : Nat) - ((ones 15 : Nat) : Int) + ((ones 9 : Nat) : Int))).natAbs < _
  omega
theorem n69 : (cost (lafter (1, [], 0) (.app 6)) (.cut 9)).natAbs < 10 ^ 66 := by
  rw [aft41d]
  decide
theorem n6m : (cost (lafter (1, [], 0) (.app 6)) .mark).natAbs < 10 ^ 66 := by
  rw [aft41d, c7m]
  decide
theorem due6 : dueV 5 (1, [], 0) [.app 6, .mark] = .str "over 6" := by
  show (if 5 < cost (1, [], 0) (.app 6) then V.str (overW (cost (1, [], 0) (.app 6))) else if 5 < cost (lafter (1, [], 0) (.app 6)) .mark then V.str (overW (cost (lafter (1, [], 0) (.app 6)) .mark)) else _) = _
  rw [c16, if_neg (by decide), aft41d, c7m, if_pos (by decide), ow6]
section
variable {P : Program} {w : World} {K : PySem.W.Frag} {mg : Str → Option Value} {base : Heap}
theorem ok_law {f g1 g2 g3 g4 g5 g6 g7 g8 g9 CLiveLog CBudgetLog p1 : Addr} {fd d1 d2 d3 d4 d5 d6 d7 d8 d9 : FuncData} (F : Fun K "law" "law" sLaw f fd) (TBudgetLog : TBud K CBudgetLog) (TLiveLog : TLog K CLiveLog) (TI : TIB K CBudgetLog CLiveLog) (gBudgetLog : mg "BudgetLog" = some (.ref CBudgetLog)) (gLiveLog : mg "LiveLog" = some (.ref CLiveLog))
    (nFB : PySem.W.notFirst K CBudgetLog (.ref CBudgetLog) = true) (nFL : PySem.W.notFirst K CBudgetLog (.ref CLiveLog) = true) (neBudgetLog : ¬ CLiveLog = CBudgetLog) (subBudgetLog : PySem.W.subIn K (.ref CBudgetLog) (.ref CLiveLog) = some true)
    (GLawBag : FnOk P w K mg base CX0 1 g1 d1 ["cell"] spBag) (ALawBag : At K mg "_law_bag" g1 d1 ["cell"])
    (GLawPick : FnOk P w K mg base CX0 1 g2 d2 ["bag", "many"] spPick) (ALawPick : At K mg "_law_pick" g2 d2 ["bag", "many"])
    (GLawRight : FnOk P w K mg base CX0 16 g3 d3 ["bag", "many", "most"] spRight42) (ALawRight : At K mg "_law_right" g3 d3 ["bag", "many", "most"])
    (KBudgetLog : Mk K CBudgetLog g4) (GBudgetLogInit : FnOk P w K mg base CX0 5 g4 d4 ["self", "size", "budget"] (spBudInit CBudgetLog)) (BBudgetLogInit : Binds K d4 ["self", "size", "budget"] [])
    (KLiveLog : Mk K CLiveLog g5) (GLiveLogInit : FnOk P w K mg base CX0 4 g5 d5 ["self", "size"] (spLogInit CLiveLog)) (BLiveLogInit : Binds K d5 ["self", "size"] [])
    (GBudgetLogEqO : FnOk P w K mg base CX0 1 g6 d6 ["self", "other"] (spEqs CLiveLog CBudgetLog)) (MBudgetLogEq : Meth K CBudgetLog "__eq__" g6) (BBudgetLogEq : Binds K d6 ["self", "other"] [])
    (GLawTried : FnOk P w K mg base CX0 15 g7 d7 ["live", "step"] (anyB (spTried42 CBudgetLog))) (ALawTried : At K mg "_law_tried" g7 d7 ["live", "step"])
    (GLawLooked : FnOk P w K mg base CX0 14 g8 d8 ["live", "one", "two"] (spLooked CBudgetLog)) (ALawLooked : At K mg "_law_looked" g8 d8 ["live", "one", "two"])
    (GBudgetLogSpent : FnOk P w K mg base CX0 1 g9 d9 ["self"] (anyB (spSpentB CBudgetLog))) (PBudgetLogSpent : PropOf K CBudgetLog "spent" p1 g9) (BBudgetLogSpent : Binds K d9 ["self"] [])
    (z_isinstance : mg "isinstance" = none) : FnOk P w K mg base CX0 17 f fd ["script"] (spLaw K) := by
  refine F.ok scLaw (fun vs H Q E h => ?_) (fun cdv A outer s H vs Q E hr h => ?_)
  · obtain ⟨_, _, rfl, _⟩ := h
    rfl
  obtain ⟨a, ns, rfl, hs, hn, q⟩ := h
  refine ⟨_, (pss_cons (ps_for PassesOwn.never rfl (pi_list (pe_op op_cat (pe_slice sl_list (pv 0) po_none (po_some pe_int)) (pe_lst (pa_cons pe_int pa_nil)))) (pg_name (i := 1) scLaw.nd rfl (Or.inl rfl))
    (pss_cons (ps_set (i := 2) scLaw.nd rfl (Or.inl rfl) (pe_call GLawBag (hr.mono (by decide)) rfl ALawBag.m ALawBag.kp ALawBag.b .nil pass0 (pa_cons (pv 1) pa_nil)))
    (pss_one (ps_if (PW.pt (pw_or (pt_not (pt_val (pe_call GLawRight (hr.mono (by decide)) rfl ALawRight.m ALawRight.kp ALawRight.b .nil pass0 (pa_cons (pv 2) (pa_cons (pe_op op_add pe_int (pe_call GLawPick (hr.mono (by decide)) rfl ALawPick.m ALawPick.kp ALawPick.b .nil pass0 (pa_cons (pv 2) (pa_cons pe_int pa_nil)))) (pa_cons pe_int pa_nil)))))) (pw_or1 (pt_not (pt_val (pe_call GLawRight (hr.mono (by decide)) rfl ALawRight.m ALawRight.kp ALawRight.b .nil pass0 (pa_cons (pv 2) (pa_cons (pe_op op_add pe_int (pe_call GLawPick (hr.mono (by decide)) rfl ALawPick.m ALawPick.kp ALawPick.b .nil pass0 (pa_cons (pv 2) (pa_cons (pe_op op_pow pe_int pe_int) pa_nil)))) (pa_cons (pe_op op_pow pe_int pe_int) pa_nil)))))))))
    (pss_one (ps_ret pe_bl))
    pss_nil))))
    (pss_cons (ps_par3 (i := 3) (j := 4) (l := 5) (by rfl) scLaw.nd rfl rfl rfl (by decide) (by decide) (by decide) rfl rfl rfl (pa_cons (pe_make KBudgetLog GBudgetLogInit (hr.mono (by decide)) rfl gBudgetLog BBudgetLogInit .nil pass0 (pa_cons pe_int (pa_cons pe_int pa_nil))) (pa_cons (pe_make KBudgetLog GBudgetLogInit (hr.mono (by decide)) rfl gBudgetLog BBudgetLogInit .nil pass0 (pa_cons pe_int (pa_cons pe_int pa_nil))) (pa_cons (pe_make KLiveLog GLiveLogInit (hr.mono (by decide)) rfl gLiveLog BLiveLogInit .nil pass0 (pa_cons pe_int pa_nil)) pa_nil))) (by rfl))
    (pss_cons (ps_set (i := 6) scLaw.nd rfl (Or.inl rfl) (pe_lst (pa_cons (pe_cmpR (op_eqO GBudgetLogEqO MBudgetLogEq.at_ MBudgetLogEq.fn BBudgetLogEq pass0 (hr.mono (by decide))) (pv 3) (pe_make KBudgetLog GBudgetLogInit (hr.mono (by decide)) rfl gBudgetLog BBudgetLogInit .nil pass0 (pa_cons pe_int (pa_cons pe_int pa_nil))) (nomark _)) (pa_cons (pe_cmpR (op_eqO GBudgetLogEqO MBudgetLogEq.at_ MBudgetLogEq.fn BBudgetLogEq pass0 (hr.mono (by decide))) (pv 3) (pv 4) (nomark _)) (pa_cons (pe_cmpR (op_eqO GBudgetLogEqO MBudgetLogEq.at_ MBudgetLogEq.fn BBudgetLogEq pass0 (hr.mono (by decide))) (pv 3) (pv 5) (nomark _)) (pa_cons (pe_cmpR (op_eqF GBudgetLogEqO neBudgetLog subBudgetLog MBudgetLogEq.at_ MBudgetLogEq.fn BBudgetLogEq pass0 (hr.mono (by decide))) (pv 5) (pv 3) (nomark _)) (pa_cons (pe_callB call_isi (by rfl) z_isinstance (by decide +kernel) (pa_cons (pv 3) (pa_cons (pe_glob (v := .ref CLiveLog) rfl gLiveLog rfl) pa_nil))) pa_nil)))))))
    (pss_cons (ps_if (pt_cmpR (op_neD hr.units) (pv 6) (pe_lst (pa_cons pe_bl (pa_cons pe_bl (pa_cons pe_bl (pa_cons pe_bl (pa_cons pe_bl pa_nil)))))) (nomark _))
    (pss_one (ps_ret pe_bl))
    pss_nil)
    (pss_cons (ps_asg (pe_tup (pa_cons (pe_tup (pa_cons pe_str (pa_cons pe_int pa_nil))) (pa_cons (pe_tup (pa_cons pe_str (pa_cons pe_int pa_nil))) pa_nil))) (pg_tup (by rfl) (pgs_cons (pg_name (i := 7) scLaw.nd rfl (Or.inl rfl)) (pgs_cons (pg_name (i := 8) scLaw.nd rfl (Or.inl rfl)) pgs_nil))))
    (pss_cons (ps_set (i := 6) scLaw.nd rfl (Or.inl rfl) (pe_lst (pa_cons (pe_call GLawTried (hr.mono (by decide)) rfl ALawTried.m ALawTried.kp ALawTried.b .nil pass0 (pa_cons (pe_make KBudgetLog GBudgetLogInit (hr.mono (by decide)) rfl gBudgetLog BBudgetLogInit .nil pass0 (pa_cons pe_int (pa_cons pe_int pa_nil))) (pa_cons (pv 7) pa_nil))) (pa_cons (pe_call GLawTried (hr.mono (by decide)) rfl ALawTried.m ALawTried.kp ALawTried.b .nil pass0 (pa_cons (pv 3) (pa_cons (pv 7) pa_nil))) (pa_cons (pe_call GLawTried (hr.mono (by decide)) rfl ALawTried.m ALawTried.kp ALawTried.b .nil pass0 (pa_cons (pv 3) (pa_cons (pe_tup (pa_cons pe_str pa_nil)) pa_nil))) pa_nil)))))
    (pss_cons (ps_expr (pe_bm PySem.F.plainAttrs_list PySem.F.slot_list_append PySem.F.type_list_append mt_append (pv 6) (pa_cons (pe_call GLawTried (hr.mono (by decide)) rfl ALawTried.m ALawTried.kp ALawTried.b .nil pass0 (pa_cons (pv 3) (pa_cons (pe_tup (pa_cons pe_str (pa_cons pe_int pa_nil))) pa_nil))) pa_nil)))
    (pss_cons (ps_set (i := 6) scLaw.nd rfl (Or.inl rfl) (pe_op op_cat (pv 6) (pe_lst (pa_cons (pe_call GLawLooked (hr.mono (by decide)) rfl ALawLooked.m ALawLooked.kp ALawLooked.b .nil pass0 (pa_cons (pv 4) (pa_cons (pv 7) (pa_cons (pv 8) pa_nil)))) (pa_cons (pe_call GLawLooked (hr.mono (by decide)) rfl ALawLooked.m ALawLooked.kp ALawLooked.b .nil pass0 (pa_cons (pv 4) (pa_cons (pv 8) (pa_cons (pv 7) pa_nil)))) (pa_cons (pe_call GLawLooked (hr.mono (by decide)) rfl ALawLooked.m ALawLooked.kp ALawLooked.b .nil pass0 (pa_cons (pv 4) (pa_cons (pv 7) (pa_cons (pe_tup (pa_cons pe_str pa_nil)) pa_nil)))) pa_nil))))))
    (pss_one (ps_ret (pe_and (pe_cmpR (op_eqD hr.units) (pv 6) (pe_lst (pa_cons pe_str (pa_cons pe_non (pa_cons pe_str (pa_cons pe_non (pa_cons pe_str (pa_cons pe_str (pa_cons pe_str pa_nil)))))))) (nomark _)) (pe_one (pe_cmpR op_eq (pe_prop (pv 3) TBudgetLog.cl PBudgetLogSpent GBudgetLogSpent (hr.mono (by decide)) BBudgetLogSpent .nil pass0 rfl) pe_int (nomark _)))))))))))))), ?_⟩
  have one1 : 1 ≤ sizeLine := by decide
  have p28 : 1 ≤ (10 : Nat) ^ 28 := by decide
  have e28 : (10 : Int) ^ Int.toNat 28 = ((10 ^ 28 : Nat) : Int) := by decide
  refine ⟨_, rfl, 6, rfl, a, _, rfl, hs, fun c nc => ⟨one1, fun z nz => ?_⟩⟩
  have s1 := same_upd (o := .lst (cutV (ns.map V.int) none (some 6))) nc
  have s2 := same_upd (o := .lst [.int 0]) nz
  have hcl := cutV_length (ns.map V.int) none (some 6)
  rw [List.length_map] at hcl
  refine ⟨c, z, _, _, rfl, rfl, s2 _ _ upd_same, upd_same, szle (by rw [List.length_singleton]; omega), fun r nr => ?_⟩
  have hr0 : (upd (upd (upd H c (.lst (cutV (ns.map V.int) none (some 6)))) z (.lst [.int 0])) r (.lst (cutV (ns.map V.int) none (some 6) ++ [.int 0]))) r = some (.lst (cutV (ns.map V.int) none (some 6) ++ [.int 0])) := upd_same
  generalize upd (upd (upd H c (.lst (cutV (ns.map V.int) none (some 6)))) z (.lst [.int 0])) r (.lst (cutV (ns.map V.int) none (some 6) ++ [.int 0])) = H0 at hr0
  refine ⟨r, rfl, ⟨_, SqL.of hr0⟩, for_list (K := K) (a := r) (xs := cutV (ns.map V.int) none (some 6) ++ [.int 0]) (fun i σ H' => ∃ v1 v2 : Option V, σ = [some (.ref a), v1, v2, none, none, none, none, none, none] ∧ Same H0 H')
    ⟨none, none, rfl, Same.refl _⟩ (fun i σ H' _ ⟨_, _, _, s5⟩ => SqL.of (s5 _ _ hr0)) ?_ ?_⟩
  · rintro i x σ H1 hi ⟨v1, v2, rfl, sm1⟩
    obtain ⟨cell, rfl⟩ := script_at hi
    refine ⟨_, rfl, cell, rfl, fun H2 b sm2 nb hb => ?_⟩
    have nb0 : H0 b = none := sm1.free nb
    have B2 : But b H0 H2 := But.of (sm1.trans sm2)
    refine ⟨_, rfl, _, rfl, b, 9, rfl, by decide, by decide, hb, fun r H3 r0 r1 k3 hb3 => ⟨_, _, rfl, rfl, b, (1 + r).toNat, 9, ?_, hb3, by omega, by omega, by decide, by decide, fun H4 B4 hb4 => ⟨true, rfl, ?_⟩⟩⟩
    · have : ((1 + r).toNat : Int) = 1 + r := Int.toNat_of_nonneg (by omega)
      rw [this]
      rfl
    have B4' : But b H0 H4 := (B2.pick k3).trans B4
    refine ⟨_, rfl, _, rfl, _, _, rfl, rfl, ⟨by decide, by decide, by decide⟩, b, _, rfl, by decide, by decide, hb4, fun r' H5 r0' r1' k5 hb5 => ⟨_, _, rfl, rfl, _, _, rfl, rfl, ⟨by decide, by decide, by decide⟩, b, (1 + r').toNat, 10 ^ 28, ?_, hb5, by omega, by rw [e28] at r1'; omega, p28, Nat.le_refl _, fun H6 B6 hb6 => ⟨true, rfl, ?_⟩⟩⟩
    · have : ((1 + r').toNat : Int) = 1 + r' := Int.toNat_of_nonneg (by omega)
      rw [this, ← e28]
      rfl
    have B6' : But b H0 H6 := (B4'.pick k5).trans B6
    exact ⟨_, _, rfl, fun u o k => B6' u o (ne_of_none k nb0) k⟩
  · rintro σ H1 ⟨v1, v2, rfl, sm1⟩
    clear sm1 hr0
    have five : 5 ≤ sizeLine := by decide
    have z0 : ∀ {H H' : Hp}, Same H H' → True := fun _ => trivial
    refine fun p1 dx1 np1 nd1 _ => ⟨p1, dx1, 1, 4, rfl, upd_same, by decide, by decide, by decide, fun c1 H2 nc1 h1 k1 => ⟨rfl, ?_⟩⟩
    refine fun p2 dx2 np2 nd2 _ => ⟨p2, dx2, 1, 5, rfl, upd_same, by decide, by decide, by decide, fun c2 H3 nc2 h2 k2 => ⟨rfl, ?_⟩⟩
    refine fun p3 dx3 np3 nd3 _ => ⟨p3, dx3, 1, rfl, upd_same, by decide, by decide, fun c3 H4 nc3 h3 k3 => ⟨rfl, _, _, _, rfl, ?_⟩⟩
    have e2 := made_same np2 nd2 k2
    have e3 := made_same np3 nd3 k3
    have h1' := h1.same (e2.trans e3)
    have h2' := h2.same e3
    have pp12 : p1 ≠ p2 := by
      obtain ⟨_, _, e, _⟩ := h1.lst
      exact ne_of_none e np2
    have cc12 : c1 ≠ c2 := by
      obtain ⟨_, _, _, _, _, e⟩ := h1.lst
      exact ne_of_none e (made_free np2 nd2 nc2)
    clear h1 h2 e2 e3 k1 k2 k3 nc1 nc2 nc3 np1 np2 np3 nd1 nd2 nd3
    refine ⟨_, rfl, fun p4 dx4 np4 nd4 _ => ⟨p4, dx4, 1, 4, rfl, upd_same, by decide, by decide, by decide, fun c4 H5 nc4 h4 k4 => ⟨rfl, ?_⟩⟩⟩
    have e4 := made_same np4 nd4 k4
    have g1 := h1'.same e4
    have g2 := h2'.same e4
    have g3 := h3.same e4
    clear h1' h2' h3 e4 k4 nc4 np4 nd4
    obtain ⟨dxa, fsa, hpa, hnoa, _⟩ := g1.lst
    obtain ⟨dxb, fsb, hpb, hnob, _⟩ := g2.lst
    obtain ⟨dxc, fsc, hpc, _, _⟩ := g3.lst
    obtain ⟨dxd, fsd, hpd, _, _⟩ := h4.lst
    refine ⟨p1, dxa, fsa, rfl, hpa, .inl ⟨p4, CBudgetLog, dxd, fsd, rfl, hpd, nFB⟩, .inl ⟨p1, p4, c1, c4, 4, 4, _, _, _, _, rfl, g1, h4, true, by rw [stD_refl]; rfl, ?_⟩⟩
    refine ⟨_, rfl, _, rfl, p1, dxa, fsa, rfl, hpa, .inl ⟨p2, CBudgetLog, dxb, fsb, rfl, hpb, nFB⟩, .inl ⟨p1, p2, c1, c2, 4, 5, _, _, _, _, rfl, g1, g2, false, by rw [stD_refl]; rfl, ?_⟩⟩
    refine ⟨_, rfl, _, rfl, p1, dxa, fsa, rfl, hpa, .inl ⟨p3, CLiveLog, dxc, fsc, rfl, hpc, nFL⟩, .inr ⟨p1, p3, c3, dxa, fsa, _, _, rfl, hpa, g3, false, rfl, ?_⟩⟩
    refine ⟨_, rfl, _, rfl, p3, p1, dxc, dxa, fsc, fsa, rfl, rfl, hpc, hpa, .inr ⟨p1, p3, c3, dxa, fsa, _, _, rfl, hpa, g3, false, rfl, ?_⟩⟩
    have ty : TyX K H5 (.ref p1) (.ref CBudgetLog) := .base (.ins hpa TBudgetLog.cl TI.ha TI.hn TI.htk TI.hm)
    refine ⟨_, rfl, _, _, _, _, true, rfl, .own _, ty, TI.kL, five, fun l1 nl1 => ?_⟩
    have w1 := same_upd (o := .lst [.bl true, .bl false, .bl false, .bl false, .bl true]) nl1
    have hl1 := upd_same (H := H5) (a := l1) (o := .lst [.bl true, .bl false, .bl false, .bl false, .bl true])
    have g1' := g1.same w1
    have g2' := g2.same w1
    generalize upd H5 l1 (.lst [.bl true, .bl false, .bl false, .bl false, .bl true]) = H6 at hl1 g1' g2' ⊢
    clear w1 nl1 g1 g2 g3 h4 ty hpa hpb hpc hpd
    refine ⟨_, rfl, five, fun l2 nl2 => ⟨d42, d42, .lst (SqL.of (same_upd nl2 _ _ hl1)) (.cons (.bl _) (.cons (.bl _) (.cons (.bl _) (.cons (.bl _) (.cons (.bl _) .nil))))), .lst (SqL.of upd_same) (.cons (.bl _) (.cons (.bl _) (.cons (.bl _) (.cons (.bl _) (.cons (.bl _) .nil))))), d42_shaped, d42_shaped, ?_⟩⟩
    rw [d42_refl]
    refine ⟨false, rfl, ?_⟩
    have w2 := same_upd (o := .lst [.bl true, .bl false, .bl false, .bl false, .bl true]) nl2
    have h1 := g1'.same w2
    have h2 := g2'.same w2
    generalize upd H6 l2 (.lst [.bl true, .bl false, .bl false, .bl false, .bl true]) = H7 at h1 h2 ⊢
    clear w2 nl2 hl1 g1' g2'
    have two : 2 ≤ sizeLine := by decide
    have three : 3 ≤ sizeLine := by decide
    refine ⟨two, fun t1 nt1 => ⟨two, fun t2 nt2 => ⟨two, fun T nT => ?_⟩⟩⟩
    have u1 := same_upd (o := .tup [.str "append", .int 6]) nt1
    have u2 := same_upd (o := .tup [.str "cut", .int 9]) nt2
    have u3 := same_upd (o := .tup [.ref t1, .ref t2]) nT
    have o1 : OpAt _ (.ref t1) (.app 6) := ⟨t1, rfl, u3 _ _ (u2 _ _ (upd_same (H := H7) (a := t1) (o := .tup [.str "append", .int 6])))⟩
    have o2 : OpAt _ (.ref t2) (.cut 9) := ⟨t2, rfl, u3 _ _ (upd_same (H := upd H7 t1 (.tup [.str "append", .int 6])) (a := t2) (o := .tup [.str "cut", .int 9]))⟩
    have hT := upd_same (H := upd (upd H7 t1 (.tup [.str "append", .int 6])) t2 (.tup [.str "cut", .int 9])) (a := T) (o := .tup [.ref t1, .ref t2])
    refine ⟨T, _, rfl, SqT.of hT, rfl, _, _, rfl, _, _, rfl, rfl, ?_⟩
    have h1' := h1.same (u1.trans (u2.trans u3))
    have h2' := h2.same (u1.trans (u2.trans u3))
    generalize upd (upd (upd H7 t1 (.tup [.str "append", .int 6])) t2 (.tup [.str "cut", .int 9])) T (.tup [.ref t1, .ref t2]) = H8 at o1 o2 h1' h2' ⊢
    clear u1 u2 u3 hT nt1 nt2 nT h1 h2
    have lg1 : lgood (1, [], 0) := good41 1 [] 0 (by decide) (by decide) (by decide)
    have lg7 : lgood (7, [], 4) := good41 7 [] 4 (by decide) (by decide) (by decide)
    have lk6 : lok (1, [], 0) (.app 6) := ⟨by decide, by show 1 + 6 ≤ 10 ^ 30; decide⟩
    have n4 : (cost (1, [], 0) (.app 6)).natAbs < 10 ^ 66 := by rw [c16]; decide
    have n6 : (cost (7, [], 4) .mark).natAbs < 10 ^ 66 := by rw [c7m]; decide
    refine fun p5 dx5 np5 nd5 _ => ⟨p5, dx5, 1, 3, rfl, upd_same, by decide, by decide, by decide, fun c5 H9 nc5 h5 k5 => ⟨rfl, ?_⟩⟩
    have e5 := made_same np5 nd5 k5
    have o1a := o1.same e5
    have o2a := o2.same e5
    have h1a := h1'.same e5
    have h2a := h2'.same e5
    clear o1 o2 h1' h2' e5 k5 nc5 np5 nd5
    refine ⟨_, rfl, 3, p5, c5, (1, [], 0), [], .ref t1, .app 6, rfl, h5, o1a, lg1, lk6, Nat.zero_le _, n4, fun le => absurd le (by rw [c16]; decide), fun _ H10 s10 => ?_⟩
    rw [c16]
    have o1b := o1a.same s10
    have o2b := o2a.same s10
    have h1b := h1a.same s10
    have h2b := h2a.same s10
    clear o1a o2a h1a h2a h5 s10
    refine ⟨_, rfl, _, rfl, 4, p1, c1, (1, [], 0), [], .ref t1, .app 6, rfl, h1b, o1b, lg1, lk6, Nat.zero_le _, n4, fun _ H11 k11 h11 => ?_, fun gt => absurd gt (by rw [c16]; decide)⟩
    rw [aft41d] at h11
    have T11 := k11.tupsB h1b
    have o1c := o1b.tups T11
    have o2c := o2b.tups T11
    have h2c := h2b.otherB h1b k11 pp12.symm cc12.symm
    clear o1b o2b h1b h2b k11 T11
    refine ⟨_, rfl, one1, fun t3 nt3 => ?_⟩
    have w3 := same_upd (o := .tup [.str "mark"]) nt3
    refine ⟨4, p1, c1, (7, [], 4), _, .ref t3, .mark, rfl, h11.same w3, ⟨t3, rfl, upd_same⟩, lg7, trivial, by decide, n6, fun le => absurd le (by rw [c7m]; decide), fun _ H12 s12 => ?_⟩
    rw [c7m]
    refine ⟨three, fun l3 nl3 => ?_⟩
    have w4 := same_upd (o := .lst [.str (overW 4), .non, .str (overW 6)]) nl3
    have hl3 := upd_same (H := H12) (a := l3) (o := .lst [.str (overW 4), .non, .str (overW 6)])
    have s34 := w3.trans (s12.trans w4)
    have o1d := o1c.same s34
    have o2d := o2c.same s34
    have h1d := h11.same s34
    have h2d := h2c.same s34
    have l3c : l3 ≠ c1 := by
      obtain ⟨_, _, _, _, _, e⟩ := (h11.same (w3.trans s12)).lst
      exact (ne_of_none e nl3).symm
    have l3c2 : l3 ≠ c2 := by
      obtain ⟨_, _, _, _, _, e⟩ := (h2c.same (w3.trans s12)).lst
      exact (ne_of_none e nl3).symm
    generalize upd H12 l3 (.lst [.str (overW 4), .non, .str (overW 6)]) = H13 at hl3 o1d o2d h1d h2d ⊢
    clear w3 w4 s34 s12 nl3 nt3 o1c o2c h11 h2c
    refine ⟨_, rfl, .inl ⟨rfl, _, SqL.of hl3⟩, _, rfl, two, fun t4 nt4 => ?_⟩
    have w5 := same_upd (o := .tup [.str "cut", .int 2]) nt4
    have h1e := h1d.same w5
    obtain ⟨_, _, hpe, _, _⟩ := h1e.lst
    refine ⟨4, p1, c1, (7, [], 4), _, .ref t4, .cut 2, rfl, h1e, ⟨t4, rfl, upd_same⟩, lg7, ⟨by decide, by decide⟩, by decide, by decide, fun _ H14 k14 h14 => ?_, fun gt => absurd gt (by decide)⟩
    have T14 := k14.tupsB h1e
    have o1e := (o1d.same w5).tups T14
    have o2e := (o2d.same w5).tups T14
    have h2e := (h2d.same w5).otherB h1e k14 pp12.symm cc12.symm
    have hl4 := k14 _ _ (w5 _ _ hl3) (ne_of (w5 _ _ hl3) hpe (fun z => by cases z)) l3c
    have l3p : l3 ≠ p1 := ne_of (w5 _ _ hl3) hpe (fun z => by cases z)
    obtain ⟨_, _, hp2, _, _, hc2⟩ := h2e.lst
    clear o1d o2d h1d h2d w5 k14 T14 h1e hpe nt4 hl3
    rw [ow4, ow6] at hl4
    have seven : 7 ≤ sizeLine := by decide
    refine ⟨l3, _, _, rfl, rfl, hl4, by decide, ?_⟩
    have o1f := o1e.tups (H' := upd H14 l3 (.lst ([.str "over 4", .non, .str "over 6"] ++ [.non]))) (fun a xs e => by rw [upd_ne (ne_of e hl4 (fun z => by cases z))]; exact e)
    have o2f := o2e.tups (H' := upd H14 l3 (.lst ([.str "over 4", .non, .str "over 6"] ++ [.non]))) (fun a xs e => by rw [upd_ne (ne_of e hl4 (fun z => by cases z))]; exact e)
    have h1f := h14.offB (o := .lst ([.str "over 4", .non, .str "over 6"] ++ [.non])) hl4 l3c.symm
    have h2f := h2e.offB (o := .lst ([.str "over 4", .non, .str "over 6"] ++ [.non])) hl4 l3c2.symm
    have hl5 := upd_same (H := H14) (a := l3) (o := .lst ([.str "over 4", .non, .str "over 6"] ++ [.non]))
    generalize upd H14 l3 (.lst ([.str "over 4", .non, .str "over 6"] ++ [.non])) = H15 at o1f o2f h1f h2f hl5 ⊢
    clear o1e o2e h14 h2e hl4 hp2 hc2 l3p
    refine ⟨_, rfl, _, rfl, _, rfl, _, rfl, 5, p2, c2, (1, [], 0), [], .ref t1, .ref t2, .app 6, .cut 9, .str "size", rfl, h2f, o1f, o2f, lg1, n4, n69, .inr (.inr ⟨lk6, by rw [c16]; decide, by rw [aft41d]; exact lg7, 9, rfl, .inr (by rw [aft41d]; decide), rfl⟩), fun H16 s16 => ?_⟩
    refine ⟨_, rfl, _, rfl, _, rfl, 5, p2, c2, (1, [], 0), [], .ref t2, .ref t1, .cut 9, .app 6, .str "size", rfl, h2f.same s16, o2f.same s16, o1f.same s16, lg1, by decide, n96, .inr (.inl ⟨9, rfl, .inr (by decide), rfl⟩), fun H17 s17 => ?_⟩
    have s27 := s16.trans s17
    refine ⟨_, rfl, _, rfl, one1, fun t5 nt5 => ?_⟩
    have w6 := s27.trans (same_upd (o := .tup [.str "mark"]) nt5)
    refine ⟨5, p2, c2, (1, [], 0), [], .ref t1, .ref t5, .app 6, .mark, .str "over 6", rfl, h2f.same w6, o1f.same w6, ⟨t5, rfl, upd_same⟩, lg1, n4, n6m, .inl ⟨lk6, by rw [aft41d]; exact lg7, trivial, due6.symm⟩, fun H18 s18 => ⟨three, fun l5 nl5 => ?_⟩⟩
    have w7 := w6.trans (s18.trans (same_upd (o := .lst [.str "size", .str "size", .str "over 6"]) nl5))
    refine ⟨l3, l5, _, _, rfl, rfl, w7 _ _ hl5, upd_same, szle (by decide), fun l6 nl6 => ?_⟩
    have w8 := w7.trans (same_upd (o := .lst (([.str "over 4", .non, .str "over 6"] ++ [.non]) ++ [.str "size", .str "size", .str "over 6"])) nl6)
    have hl6 := upd_same (H := upd H18 l5 (.lst [.str "size", .str "size", .str "over 6"])) (a := l6) (o := .lst (([.str "over 4", .non, .str "over 6"] ++ [.non]) ++ [.str "size", .str "size", .str "over 6"]))
    have h1g := h1f.same w8
    generalize upd (upd H18 l5 (.lst [.str "size", .str "size", .str "over 6"])) l6 (.lst (([.str "over 4", .non, .str "over 6"] ++ [.non]) ++ [.str "size", .str "size", .str "over 6"])) = H19 at hl6 h1g ⊢
    refine ⟨_, rfl, seven, fun l7 nl7 => ⟨e42, e42, .lst (SqL.of (same_upd nl7 _ _ hl6)) (.cons (.str _) (.cons .non (.cons (.str _) (.cons .non (.cons (.str _) (.cons (.str _) (.cons (.str _) .nil))))))), .lst (SqL.of upd_same) (.cons (.str _) (.cons .non (.cons (.str _) (.cons .non (.cons (.str _) (.cons (.str _) (.cons (.str _) .nil))))))), e42_shaped, e42_shaped, ?_⟩⟩
    rw [e42_refl]
    refine ⟨true, rfl, ite_t62 ?_⟩
    have h1h := h1g.same (same_upd (o := .lst [.str "over 4", .non, .str "over 6", .non, .str "size", .str "size", .str "over 6"]) nl7)
    obtain ⟨dxz, fsz, hpz, _, _⟩ := h1h.lst
    refine ⟨_, rfl, p1, dxz, fsz, rfl, hpz, 4, p1, c1, _, _, rfl, h1h, rfl, ?_⟩
    exact q _
end
end LT

namespace LT
open PySem PySem.Spec PyProof.Rows L2
/-- isinstance of an own class, from what the top says of it -/
theorem kit_of {K : PySem.W.Frag} {C D : Addr} {b : Bool} (i : PySem.W.isClsIn K D = true) (t : PySem.W.typeIn K (.ref D) = some (.type "type")) (s : PySem.W.subIn K (.ref C) (.ref D) = some b) (z : PySem.W.subIn K (.ref C) (.ref C) = some true) : PySem.W.kitOne K (.ref C) (.ref D) = some b := by
  unfold PySem.W.kitOne
  split
  · rename_i h
    have e : C = D := Value.ref.inj (beq_iff_eq.mp h)
    subst e
    rw [z] at s
    exact s
  · show (if ((PySem.W.clsIn K D).isSome && PySem.W.typeIn K (.ref D) == some (.type "type")) = true then PySem.W.subIn K (.ref C) (.ref D) else none) = some b
    have i' : (PySem.W.clsIn K D).isSome = true := i
    have e : ((PySem.W.clsIn K D).isSome && PySem.W.typeIn K (.ref D) == some (.type "type")) = true := by rw [i', t] <;> rfl
    rw [if_pos e]
    exact s
/-- what the written part says of BudgetLog._behind -/
def BehI (P : Program) (K : PySem.W.Frag) (C f : Addr) : Prop := ∃ (cda cc : Addr) (oc : Value) (od : Option Addr) (osl : Array (Option Value)) (kV doc pm ct : Value) (an : Option Addr) (ccl : Value) (cdd : Option Addr) (ccs : Array (Option Value)) (vs : Array Value) (file : Str) (tf : Tok) (cl : Value) (cld : Option Addr) (csl : Array (Option Value)),
  K.lookup f = some ⟨oc, od, .func (PySem.W.ksFn "_behind" "BudgetLog._behind" (defArgs sBudgetLogBehind) (defBody sBudgetLogBehind) (defScope sBudgetLogBehind) .none kV doc pm an (.ref cda) ct cc), osl⟩ ∧ PySem.W.codeIn K (.ref cda) "BudgetLog._behind" = true ∧
  K.lookup cda = some ⟨ccl, cdd, .fields vs, ccs⟩ ∧ K.lookup cc = some ⟨cl, cld, .cell (some (.ref C)), csl⟩ ∧ vs[2]? = some (.str file tf) ∧ ((P.main.file : Str) == file) = true
theorem beh_of {P : Program} {K : PySem.W.Frag} {mg : Str → Option Value} {C f fL : Addr} (I : BehI P K C f) (c : PySem.W.isClsIn K C = true) (s : PySem.W.ks_superIn K C C "_behind" = some (some (.ref fL))) (n : PySem.W.fnIn K fL = true) (t : PySem.W.typeIn K (.ref fL) = some (.type "function")) (o : PySem.W.mroIn K C (.ref C) = some true)
    (q : PySem.W.nsIn K cStatics "thirdparty.any" = some none) (p : (P.main.scope.names.lookup ("super" : Str)).isSome = false) (z : mg "super" = none) : BehK P K mg C f fL := by
  obtain ⟨cda, cc, oc, od, osl, kV, doc, pm, ct, an, ccl, cdd, ccs, vs, file, tf, cl, cld, csl, i1, i2, i3, i4, i5, i6⟩ := I
  exact ⟨cda, cc, oc, od, osl, kV, doc, pm, ct, an, i1, i2, ⟨c, s, n, t, o, q, ⟨cl, cld, csl, i4⟩, ⟨ccl, cdd, ccs, vs, file, tf, i3, i5, i6⟩, p, z⟩⟩
theorem all_mk {l : PySem.W.OpenLaw} {w : World} {K : PySem.W.Frag} {h : Heap} {mg : Str → Option Value} {fa f0 f1 f2 f3 f4 f5 f6 f7 f8 f9 f10 f11 f12 f13 f14 f15 f16 f17 f18 f19 f20 f21 f22 f23 f24 f25 f26 f27 f28 f29 f30 f31 f32 f33 f34 f35 f36 f37 f38 f39 f40 : Addr} (X : K.In h) (G : h.Ns mainGlobals mg) (hfa : mg "law" = some (.ref fa))
    {od0 an0 od1 an1 od2 an2 od3 an3 od4 an4 od5 an5 od6 an6 od7 an7 od8 an8 od9 an9 od10 an10 od11 an11 od12 an12 od13 an13 od14 an14 od15 an15 od16 an16 od17 an17 od18 an18 od19 an19 od20 an20 od21 an21 od22 an22 od23 an23 od24 an24 od25 an25 od26 an26 od27 an27 od28 an28 od29 an29 od30 an30 od31 an31 od32 an32 od33 an33 od34 an34 od35 an35 od36 an36 od37 an37 od38 an38 od39 an39 od40 an40 : Option Addr} {sl0 sl1 sl2 sl3 sl4 sl5 sl6 sl7 sl8 sl9 sl10 sl11 sl12 sl13 sl14 sl15 sl16 sl17 sl18 sl19 sl20 sl21 sl22 sl23 sl24 sl25 sl26 sl27 sl28 sl29 sl30 sl31 sl32 sl33 sl34 sl35 sl36 sl37 sl38 sl39 sl40 : Array (Option Value)} {oc0 kV0 dc0 pm0 cd0 ct0 oc1 kV1 dc1 pm1 cd1 ct1 oc2 kV2 dc2 pm2 cd2 ct2 oc3 kV3 dc3 pm3 cd3 ct3 oc4 kV4 dc4 pm4 cd4 ct4 oc5 kV5 dc5 pm5 cd5 ct5 oc6 kV6 dc6 pm6 cd6 ct6 oc7 kV7 dc7 pm7 cd7 ct7 oc8 kV8 dc8 pm8 cd8 ct8 oc9 kV9 dc9 pm9 cd9 ct9 oc10 kV10 dc10 pm10 cd10 ct10 oc11 kV11 dc11 pm11 cd11 ct11 oc12 kV12 dc12 pm12 cd12 ct12 oc13 kV13 dc13 pm13 cd13 ct13 oc14 kV14 dc14 pm14 cd14 ct14 oc15 kV15 dc15 pm15 cd15 ct15 oc16 kV16 dc16 pm16 cd16 ct16 oc17 kV17 dc17 pm17 cd17 ct17 oc18 kV18 dc18 pm18 cd18 ct18 oc19 kV19 dc19 pm19 cd19 ct19 oc20 kV20 dc20 pm20 cd20 ct20 oc21 kV21 dc21 pm21 cd21 ct21 oc22 kV22 dc22 pm22 cd22 ct22 oc23 kV23 dc23 pm23 cd23 ct23 oc24 kV24 dc24 pm24 cd24 ct24 oc25 kV25 dc25 pm25 cd25 ct25 oc26 kV26 dc26 pm26 cd26 ct26 oc27 kV27 dc27 pm27 cd27 ct27 oc28 kV28 dc28 pm28 cd28 ct28 oc29 kV29 dc29 pm29 cd29 ct29 oc30 kV30 dc30 pm30 cd30 ct30 oc31 kV31 dc31 pm31 cd31 ct31 oc32 kV32 dc32 pm32 cd32 ct32 oc33 kV33 dc33 pm33 cd33 ct33 oc34 kV34 dc34 pm34 cd34 ct34 oc35 kV35 dc35 pm35 cd35 ct35 oc36 kV36 dc36 pm36 cd36 ct36 oc37 kV37 dc37 pm37 cd37 ct37 oc38 kV38 dc38 pm38 cd38 ct38 oc39 kV39 dc39 pm39 cd39 ct39 oc40 kV40 dc40 pm40 cd40 ct40 : Value}
    {CLiveLog : Addr} (aCLiveLog : PySem.W.nsIn K mainGlobals "LiveLog" = some (some (.ref CLiveLog)))
    (pgLiveLog : PySem.W.plainGet K CLiveLog Str.empty = true) (hdLiveLog : PySem.W.hasDictIn K CLiveLog = true) (poLiveLog : PySem.W.plainOver K CLiveLog = true) (saLiveLog : PySem.W.findIn K (.ref CLiveLog) "__setattr__" = some (some (.builtin "object.__setattr__"))) (mkLiveLog : PySem.W.makesIn K CLiveLog = true) (kcLiveLog : PySem.W.keepIn K (.ref CLiveLog) = true)
    (nLiveLog_state : PySem.W.findIn K (.ref CLiveLog) "_state" = some none)
    (nLiveLog_calls : PySem.W.findIn K (.ref CLiveLog) "_calls" = some none)
    {CBudgetLog : Addr} (aCBudgetLog : PySem.W.nsIn K mainGlobals "BudgetLog" = some (some (.ref CBudgetLog)))
    (pgBudgetLog : PySem.W.plainGet K CBudgetLog Str.empty = true) (hdBudgetLog : PySem.W.hasDictIn K CBudgetLog = true) (poBudgetLog : PySem.W.plainOver K CBudgetLog = true) (saBudgetLog : PySem.W.findIn K (.ref CBudgetLog) "__setattr__" = some (some (.builtin "object.__setattr__"))) (mkBudgetLog : PySem.W.makesIn K CBudgetLog = true) (kcBudgetLog : PySem.W.keepIn K (.ref CBudgetLog) = true)
    (nBudgetLog_state : PySem.W.findIn K (.ref CBudgetLog) "_state" = some none)
    (nBudgetLog_calls : PySem.W.findIn K (.ref CBudgetLog) "_calls" = some none)
    (nBudgetLog_budget : PySem.W.findIn K (.ref CBudgetLog) "_budget" = some none)
    (a0 : PySem.W.nsIn K mainGlobals "is_whole" = some (some (.ref f0))) (l0 : K.lookup f0 = some ⟨oc0, od0, .func (PySem.W.fnOf "is_whole" "is_whole" (defArgs sIsWhole) (defBody sIsWhole) (defScope sIsWhole) .none kV0 dc0 pm0 an0 cd0 ct0), sl0⟩) (c0 : PySem.W.codeIn K cd0 "is_whole" = true) (k0 : PySem.W.keepIn K (.ref f0) = true)
    (a1 : PySem.W.nsIn K mainGlobals "is_between" = some (some (.ref f1))) (l1 : K.lookup f1 = some ⟨oc1, od1, .func (PySem.W.fnOf "is_between" "is_between" (defArgs sIsBetween) (defBody sIsBetween) (defScope sIsBetween) .none kV1 dc1 pm1 an1 cd1 ct1), sl1⟩) (c1 : PySem.W.codeIn K cd1 "is_between" = true) (k1 : PySem.W.keepIn K (.ref f1) = true)
    (a2 : PySem.W.nsIn K mainGlobals "check_size" = some (some (.ref f2))) (l2 : K.lookup f2 = some ⟨oc2, od2, .func (PySem.W.fnOf "check_size" "check_size" (defArgs sCheckSize) (defBody sCheckSize) (defScope sCheckSize) .none kV2 dc2 pm2 an2 cd2 ct2), sl2⟩) (c2 : PySem.W.codeIn K cd2 "check_size" = true) (k2 : PySem.W.keepIn K (.ref f2) = true)
    (a3 : PySem.W.nsIn K mainGlobals "check_older" = some (some (.ref f3))) (l3 : K.lookup f3 = some ⟨oc3, od3, .func (PySem.W.fnOf "check_older" "check_older" (defArgs sCheckOlder) (defBody sCheckOlder) (defScope sCheckOlder) .none kV3 dc3 pm3 an3 cd3 ct3), sl3⟩) (c3 : PySem.W.codeIn K cd3 "check_older" = true) (k3 : PySem.W.keepIn K (.ref f3) = true)
    (a4 : PySem.W.nsIn K mainGlobals "check_number_between" = some (some (.ref f4))) (l4 : K.lookup f4 = some ⟨oc4, od4, .func (PySem.W.fnOf "check_number_between" "check_number_between" (defArgs sCheckNumberBetween) (defBody sCheckNumberBetween) (defScope sCheckNumberBetween) .none kV4 dc4 pm4 an4 cd4 ct4), sl4⟩) (c4 : PySem.W.codeIn K cd4 "check_number_between" = true) (k4 : PySem.W.keepIn K (.ref f4) = true)
    (a5 : PySem.W.nsIn K mainGlobals "power_within" = some (some (.ref f5))) (l5 : K.lookup f5 = some ⟨oc5, od5, .func (PySem.W.fnOf "power_within" "power_within" (defArgs sPowerWithin) (defBody sPowerWithin) (defScope sPowerWithin) .none kV5 dc5 pm5 an5 cd5 ct5), sl5⟩) (c5 : PySem.W.codeIn K cd5 "power_within" = true) (k5 : PySem.W.keepIn K (.ref f5) = true)
    (a6 : PySem.W.nsIn K mainGlobals "peaks" = some (some (.ref f6))) (l6 : K.lookup f6 = some ⟨oc6, od6, .func (PySem.W.fnOf "peaks" "peaks" (defArgs sPeaks) (defBody sPeaks) (defScope sPeaks) .none kV6 dc6 pm6 an6 cd6 ct6), sl6⟩) (c6 : PySem.W.codeIn K cd6 "peaks" = true) (k6 : PySem.W.keepIn K (.ref f6) = true)
    (a7 : PySem.W.nsIn K mainGlobals "edges" = some (some (.ref f7))) (l7 : K.lookup f7 = some ⟨oc7, od7, .func (PySem.W.fnOf "edges" "edges" (defArgs sEdges) (defBody sEdges) (defScope sEdges) .none kV7 dc7 pm7 an7 cd7 ct7), sl7⟩) (c7 : PySem.W.codeIn K cd7 "edges" = true) (k7 : PySem.W.keepIn K (.ref f7) = true)
    (a8 : PySem.W.nsIn K mainGlobals "_made_sums" = some (some (.ref f8))) (l8 : K.lookup f8 = some ⟨oc8, od8, .func (PySem.W.fnOf "_made_sums" "_made_sums" (defArgs sMadeSums) (defBody sMadeSums) (defScope sMadeSums) .none kV8 dc8 pm8 an8 cd8 ct8), sl8⟩) (c8 : PySem.W.codeIn K cd8 "_made_sums" = true) (k8 : PySem.W.keepIn K (.ref f8) = true)
    (a9 : PySem.W.nsIn K mainGlobals "append_sums" = some (some (.ref f9))) (l9 : K.lookup f9 = some ⟨oc9, od9, .func (PySem.W.fnOf "append_sums" "append_sums" (defArgs sAppendSums) (defBody sAppendSums) (defScope sAppendSums) .none kV9 dc9 pm9 an9 cd9 ct9), sl9⟩) (c9 : PySem.W.codeIn K cd9 "append_sums" = true) (k9 : PySem.W.keepIn K (.ref f9) = true)
    (a10 : PySem.W.nsIn K mainGlobals "root_sums" = some (some (.ref f10))) (l10 : K.lookup f10 = some ⟨oc10, od10, .func (PySem.W.fnOf "root_sums" "root_sums" (defArgs sRootSums) (defBody sRootSums) (defScope sRootSums) .none kV10 dc10 pm10 an10 cd10 ct10), sl10⟩) (c10 : PySem.W.codeIn K cd10 "root_sums" = true) (k10 : PySem.W.keepIn K (.ref f10) = true)
    (a11 : PySem.W.nsIn K mainGlobals "_is_operation" = some (some (.ref f11))) (l11 : K.lookup f11 = some ⟨oc11, od11, .func (PySem.W.fnOf "_is_operation" "_is_operation" (defArgs sIsOperation) (defBody sIsOperation) (defScope sIsOperation) .none kV11 dc11 pm11 an11 cd11 ct11), sl11⟩) (c11 : PySem.W.codeIn K cd11 "_is_operation" = true) (k11 : PySem.W.keepIn K (.ref f11) = true)
    (a12 : PySem.W.findIn K (.ref CLiveLog) "__init__" = some (some (.ref f12))) (i12 : PySem.W.isFn K (.ref f12) = true)
    (l12 : K.lookup f12 = some ⟨oc12, od12, .func (PySem.W.fnOf "__init__" "LiveLog.__init__" (defArgs sLiveLogInit) (defBody sLiveLogInit) (defScope sLiveLogInit) .none kV12 dc12 pm12 an12 cd12 ct12), sl12⟩) (c12 : PySem.W.codeIn K cd12 "LiveLog.__init__" = true) (k12 : PySem.W.keepIn K (.ref f12) = true)
    (a13 : PySem.W.findIn K (.ref CLiveLog) "__eq__" = some (some (.ref f13))) (i13 : PySem.W.isFn K (.ref f13) = true)
    (l13 : K.lookup f13 = some ⟨oc13, od13, .func (PySem.W.fnOf "__eq__" "LiveLog.__eq__" (defArgs sLiveLogEq) (defBody sLiveLogEq) (defScope sLiveLogEq) .none kV13 dc13 pm13 an13 cd13 ct13), sl13⟩) (c13 : PySem.W.codeIn K cd13 "LiveLog.__eq__" = true) (k13 : PySem.W.keepIn K (.ref f13) = true)
    {pr14 : Addr} {rs14 : List Value} (a14 : PySem.W.findIn K (.ref CLiveLog) "present" = some (some (.ref pr14))) (i14 : PySem.W.specialIn K (.ref pr14) "__get__" = some (some (.builtin "property.__get__"))) (t14 : PySem.W.takesIn K (.ref pr14) = some true) (r14 : PySem.W.recIn K pr14 "property" = some (.ref f14 :: rs14))
    (l14 : K.lookup f14 = some ⟨oc14, od14, .func (PySem.W.fnOf "present" "LiveLog.present" (defArgs sLiveLogPresent) (defBody sLiveLogPresent) (defScope sLiveLogPresent) .none kV14 dc14 pm14 an14 cd14 ct14), sl14⟩) (c14 : PySem.W.codeIn K cd14 "LiveLog.present" = true) (k14 : PySem.W.keepIn K (.ref f14) = true)
    {pr15 : Addr} {rs15 : List Value} (a15 : PySem.W.findIn K (.ref CLiveLog) "marks" = some (some (.ref pr15))) (i15 : PySem.W.specialIn K (.ref pr15) "__get__" = some (some (.builtin "property.__get__"))) (t15 : PySem.W.takesIn K (.ref pr15) = some true) (r15 : PySem.W.recIn K pr15 "property" = some (.ref f15 :: rs15))
    (l15 : K.lookup f15 = some ⟨oc15, od15, .func (PySem.W.fnOf "marks" "LiveLog.marks" (defArgs sLiveLogMarks) (defBody sLiveLogMarks) (defScope sLiveLogMarks) .none kV15 dc15 pm15 an15 cd15 ct15), sl15⟩) (c15 : PySem.W.codeIn K cd15 "LiveLog.marks" = true) (k15 : PySem.W.keepIn K (.ref f15) = true)
    {pr16 : Addr} {rs16 : List Value} (a16 : PySem.W.findIn K (.ref CLiveLog) "spent" = some (some (.ref pr16))) (i16 : PySem.W.specialIn K (.ref pr16) "__get__" = some (some (.builtin "property.__get__"))) (t16 : PySem.W.takesIn K (.ref pr16) = some true) (r16 : PySem.W.recIn K pr16 "property" = some (.ref f16 :: rs16))
    (l16 : K.lookup f16 = some ⟨oc16, od16, .func (PySem.W.fnOf "spent" "LiveLog.spent" (defArgs sLiveLogSpent) (defBody sLiveLogSpent) (defScope sLiveLogSpent) .none kV16 dc16 pm16 an16 cd16 ct16), sl16⟩) (c16 : PySem.W.codeIn K cd16 "LiveLog.spent" = true) (k16 : PySem.W.keepIn K (.ref f16) = true)
    (a17 : PySem.W.findIn K (.ref CLiveLog) "append" = some (some (.ref f17))) (i17 : PySem.W.isFn K (.ref f17) = true)
    (l17 : K.lookup f17 = some ⟨oc17, od17, .func (PySem.W.fnOf "append" "LiveLog.append" (defArgs sLiveLogAppend) (defBody sLiveLogAppend) (defScope sLiveLogAppend) .none kV17 dc17 pm17 an17 cd17 ct17), sl17⟩) (c17 : PySem.W.codeIn K cd17 "LiveLog.append" = true) (k17 : PySem.W.keepIn K (.ref f17) = true)
    (a18 : PySem.W.findIn K (.ref CLiveLog) "mark" = some (some (.ref f18))) (i18 : PySem.W.isFn K (.ref f18) = true)
    (l18 : K.lookup f18 = some ⟨oc18, od18, .func (PySem.W.fnOf "mark" "LiveLog.mark" (defArgs sLiveLogMark) (defBody sLiveLogMark) (defScope sLiveLogMark) .none kV18 dc18 pm18 an18 cd18 ct18), sl18⟩) (c18 : PySem.W.codeIn K cd18 "LiveLog.mark" = true) (k18 : PySem.W.keepIn K (.ref f18) = true)
    (a19 : PySem.W.findIn K (.ref CLiveLog) "cut" = some (some (.ref f19))) (i19 : PySem.W.isFn K (.ref f19) = true)
    (l19 : K.lookup f19 = some ⟨oc19, od19, .func (PySem.W.fnOf "cut" "LiveLog.cut" (defArgs sLiveLogCut) (defBody sLiveLogCut) (defScope sLiveLogCut) .none kV19 dc19 pm19 an19 cd19 ct19), sl19⟩) (c19 : PySem.W.codeIn K cd19 "LiveLog.cut" = true) (k19 : PySem.W.keepIn K (.ref f19) = true)
    (a20 : PySem.W.findIn K (.ref CLiveLog) "undo" = some (some (.ref f20))) (i20 : PySem.W.isFn K (.ref f20) = true)
    (l20 : K.lookup f20 = some ⟨oc20, od20, .func (PySem.W.fnOf "undo" "LiveLog.undo" (defArgs sLiveLogUndo) (defBody sLiveLogUndo) (defScope sLiveLogUndo) .none kV20 dc20 pm20 an20 cd20 ct20), sl20⟩) (c20 : PySem.W.codeIn K cd20 "LiveLog.undo" = true) (k20 : PySem.W.keepIn K (.ref f20) = true)
    (a21 : PySem.W.findIn K (.ref CLiveLog) "log" = some (some (.ref f21))) (i21 : PySem.W.isFn K (.ref f21) = true)
    (l21 : K.lookup f21 = some ⟨oc21, od21, .func (PySem.W.fnOf "log" "LiveLog.log" (defArgs sLiveLogLog) (defBody sLiveLogLog) (defScope sLiveLogLog) .none kV21 dc21 pm21 an21 cd21 ct21), sl21⟩) (c21 : PySem.W.codeIn K cd21 "LiveLog.log" = true) (k21 : PySem.W.keepIn K (.ref f21) = true)
    (a22 : PySem.W.findIn K (.ref CLiveLog) "preview" = some (some (.ref f22))) (i22 : PySem.W.isFn K (.ref f22) = true)
    (l22 : K.lookup f22 = some ⟨oc22, od22, .func (PySem.W.fnOf "preview" "LiveLog.preview" (defArgs sLiveLogPreview) (defBody sLiveLogPreview) (defScope sLiveLogPreview) .none kV22 dc22 pm22 an22 cd22 ct22), sl22⟩) (c22 : PySem.W.codeIn K cd22 "LiveLog.preview" = true) (k22 : PySem.W.keepIn K (.ref f22) = true)
    (a23 : PySem.W.findIn K (.ref CLiveLog) "_perform" = some (some (.ref f23))) (i23 : PySem.W.isFn K (.ref f23) = true)
    (l23 : K.lookup f23 = some ⟨oc23, od23, .func (PySem.W.fnOf "_perform" "LiveLog._perform" (defArgs sLiveLogPerform) (defBody sLiveLogPerform) (defScope sLiveLogPerform) .none kV23 dc23 pm23 an23 cd23 ct23), sl23⟩) (c23 : PySem.W.codeIn K cd23 "LiveLog._perform" = true) (k23 : PySem.W.keepIn K (.ref f23) = true)
    (a24 : PySem.W.findIn K (.ref CLiveLog) "_behind" = some (some (.ref f24))) (i24 : PySem.W.isFn K (.ref f24) = true)
    (l24 : K.lookup f24 = some ⟨oc24, od24, .func (PySem.W.fnOf "_behind" "LiveLog._behind" (defArgs sLiveLogBehind) (defBody sLiveLogBehind) (defScope sLiveLogBehind) .none kV24 dc24 pm24 an24 cd24 ct24), sl24⟩) (c24 : PySem.W.codeIn K cd24 "LiveLog._behind" = true) (k24 : PySem.W.keepIn K (.ref f24) = true)
    (a25 : PySem.W.findIn K (.ref CBudgetLog) "__init__" = some (some (.ref f25))) (i25 : PySem.W.isFn K (.ref f25) = true)
    (l25 : K.lookup f25 = some ⟨oc25, od25, .func (PySem.W.fnOf "__init__" "BudgetLog.__init__" (defArgs sBudgetLogInit) (defBody sBudgetLogInit) (defScope sBudgetLogInit) .none kV25 dc25 pm25 an25 cd25 ct25), sl25⟩) (c25 : PySem.W.codeIn K cd25 "BudgetLog.__init__" = true) (k25 : PySem.W.keepIn K (.ref f25) = true)
    (a26 : PySem.W.findIn K (.ref CBudgetLog) "__eq__" = some (some (.ref f26))) (i26 : PySem.W.isFn K (.ref f26) = true)
    (l26 : K.lookup f26 = some ⟨oc26, od26, .func (PySem.W.fnOf "__eq__" "BudgetLog.__eq__" (defArgs sBudgetLogEq) (defBody sBudgetLogEq) (defScope sBudgetLogEq) .none kV26 dc26 pm26 an26 cd26 ct26), sl26⟩) (c26 : PySem.W.codeIn K cd26 "BudgetLog.__eq__" = true) (k26 : PySem.W.keepIn K (.ref f26) = true)
    {pr27 : Addr} {rs27 : List Value} (a27 : PySem.W.findIn K (.ref CBudgetLog) "budget" = some (some (.ref pr27))) (i27 : PySem.W.specialIn K (.ref pr27) "__get__" = some (some (.builtin "property.__get__"))) (t27 : PySem.W.takesIn K (.ref pr27) = some true) (r27 : PySem.W.recIn K pr27 "property" = some (.ref f27 :: rs27))
    (l27 : K.lookup f27 = some ⟨oc27, od27, .func (PySem.W.fnOf "budget" "BudgetLog.budget" (defArgs sBudgetLogBudget) (defBody sBudgetLogBudget) (defScope sBudgetLogBudget) .none kV27 dc27 pm27 an27 cd27 ct27), sl27⟩) (c27 : PySem.W.codeIn K cd27 "BudgetLog.budget" = true) (k27 : PySem.W.keepIn K (.ref f27) = true)
    (a28 : PySem.W.nsIn K mainGlobals "_law_bag" = some (some (.ref f28))) (l28 : K.lookup f28 = some ⟨oc28, od28, .func (PySem.W.fnOf "_law_bag" "_law_bag" (defArgs sLawBag) (defBody sLawBag) (defScope sLawBag) .none kV28 dc28 pm28 an28 cd28 ct28), sl28⟩) (c28 : PySem.W.codeIn K cd28 "_law_bag" = true) (k28 : PySem.W.keepIn K (.ref f28) = true)
    (a29 : PySem.W.nsIn K mainGlobals "_law_pick" = some (some (.ref f29))) (l29 : K.lookup f29 = some ⟨oc29, od29, .func (PySem.W.fnOf "_law_pick" "_law_pick" (defArgs sLawPick) (defBody sLawPick) (defScope sLawPick) .none kV29 dc29 pm29 an29 cd29 ct29), sl29⟩) (c29 : PySem.W.codeIn K cd29 "_law_pick" = true) (k29 : PySem.W.keepIn K (.ref f29) = true)
    (a30 : PySem.W.nsIn K mainGlobals "_law_ones" = some (some (.ref f30))) (l30 : K.lookup f30 = some ⟨oc30, od30, .func (PySem.W.fnOf "_law_ones" "_law_ones" (defArgs sLawOnes) (defBody sLawOnes) (defScope sLawOnes) .none kV30 dc30 pm30 an30 cd30 ct30), sl30⟩) (c30 : PySem.W.codeIn K cd30 "_law_ones" = true) (k30 : PySem.W.keepIn K (.ref f30) = true)
    (a31 : PySem.W.nsIn K mainGlobals "_law_cost" = some (some (.ref f31))) (l31 : K.lookup f31 = some ⟨oc31, od31, .func (PySem.W.fnOf "_law_cost" "_law_cost" (defArgs sLawCost) (defBody sLawCost) (defScope sLawCost) .none kV31 dc31 pm31 an31 cd31 ct31), sl31⟩) (c31 : PySem.W.codeIn K cd31 "_law_cost" = true) (k31 : PySem.W.keepIn K (.ref f31) = true)
    (a32 : PySem.W.nsIn K mainGlobals "_law_operation" = some (some (.ref f32))) (l32 : K.lookup f32 = some ⟨oc32, od32, .func (PySem.W.fnOf "_law_operation" "_law_operation" (defArgs sLawOperation) (defBody sLawOperation) (defScope sLawOperation) .none kV32 dc32 pm32 an32 cd32 ct32), sl32⟩) (c32 : PySem.W.codeIn K cd32 "_law_operation" = true) (k32 : PySem.W.keepIn K (.ref f32) = true)
    (a33 : PySem.W.nsIn K mainGlobals "_law_after" = some (some (.ref f33))) (l33 : K.lookup f33 = some ⟨oc33, od33, .func (PySem.W.fnOf "_law_after" "_law_after" (defArgs sLawAfter) (defBody sLawAfter) (defScope sLawAfter) .none kV33 dc33 pm33 an33 cd33 ct33), sl33⟩) (c33 : PySem.W.codeIn K cd33 "_law_after" = true) (k33 : PySem.W.keepIn K (.ref f33) = true)
    (a34 : PySem.W.nsIn K mainGlobals "_law_called" = some (some (.ref f34))) (l34 : K.lookup f34 = some ⟨oc34, od34, .func (PySem.W.fnOf "_law_called" "_law_called" (defArgs sLawCalled) (defBody sLawCalled) (defScope sLawCalled) .none kV34 dc34 pm34 an34 cd34 ct34), sl34⟩) (c34 : PySem.W.codeIn K cd34 "_law_called" = true) (k34 : PySem.W.keepIn K (.ref f34) = true)
    (a35 : PySem.W.nsIn K mainGlobals "_law_told" = some (some (.ref f35))) (l35 : K.lookup f35 = some ⟨oc35, od35, .func (PySem.W.fnOf "_law_told" "_law_told" (defArgs sLawTold) (defBody sLawTold) (defScope sLawTold) .none kV35 dc35 pm35 an35 cd35 ct35), sl35⟩) (c35 : PySem.W.codeIn K cd35 "_law_told" = true) (k35 : PySem.W.keepIn K (.ref f35) = true)
    (a36 : PySem.W.nsIn K mainGlobals "_law_tried" = some (some (.ref f36))) (l36 : K.lookup f36 = some ⟨oc36, od36, .func (PySem.W.fnOf "_law_tried" "_law_tried" (defArgs sLawTried) (defBody sLawTried) (defScope sLawTried) .none kV36 dc36 pm36 an36 cd36 ct36), sl36⟩) (c36 : PySem.W.codeIn K cd36 "_law_tried" = true) (k36 : PySem.W.keepIn K (.ref f36) = true)
    (a37 : PySem.W.nsIn K mainGlobals "_law_looked" = some (some (.ref f37))) (l37 : K.lookup f37 = some ⟨oc37, od37, .func (PySem.W.fnOf "_law_looked" "_law_looked" (defArgs sLawLooked) (defBody sLawLooked) (defScope sLawLooked) .none kV37 dc37 pm37 an37 cd37 ct37), sl37⟩) (c37 : PySem.W.codeIn K cd37 "_law_looked" = true) (k37 : PySem.W.keepIn K (.ref f37) = true)
    (a38 : PySem.W.nsIn K mainGlobals "_law_due" = some (some (.ref f38))) (l38 : K.lookup f38 = some ⟨oc38, od38, .func (PySem.W.fnOf "_law_due" "_law_due" (defArgs sLawDue) (defBody sLawDue) (defScope sLawDue) .none kV38 dc38 pm38 an38 cd38 ct38), sl38⟩) (c38 : PySem.W.codeIn K cd38 "_law_due" = true) (k38 : PySem.W.keepIn K (.ref f38) = true)
    (a39 : PySem.W.nsIn K mainGlobals "_law_right" = some (some (.ref f39))) (l39 : K.lookup f39 = some ⟨oc39, od39, .func (PySem.W.fnOf "_law_right" "_law_right" (defArgs sLawRight) (defBody sLawRight) (defScope sLawRight) .none kV39 dc39 pm39 an39 cd39 ct39), sl39⟩) (c39 : PySem.W.codeIn K cd39 "_law_right" = true) (k39 : PySem.W.keepIn K (.ref f39) = true)
    (a40 : PySem.W.nsIn K mainGlobals "law" = some (some (.ref f40))) (l40 : K.lookup f40 = some ⟨oc40, od40, .func (PySem.W.fnOf "law" "law" (defArgs sLaw) (defBody sLaw) (defScope sLaw) .none kV40 dc40 pm40 an40 cd40 ct40), sl40⟩) (c40 : PySem.W.codeIn K cd40 "law" = true) (k40 : PySem.W.keepIn K (.ref f40) = true)
    (z_bool : PySem.W.nsIn K mainGlobals "bool" = some none)
    (z_int : PySem.W.nsIn K mainGlobals "int" = some none)
    (z_isinstance : PySem.W.nsIn K mainGlobals "isinstance" = some none)
    (z_len : PySem.W.nsIn K mainGlobals "len" = some none)
    (z_list : PySem.W.nsIn K mainGlobals "list" = some none)
    (z_max : PySem.W.nsIn K mainGlobals "max" = some none)
    (z_range : PySem.W.nsIn K mainGlobals "range" = some none)
    (z_sorted : PySem.W.nsIn K mainGlobals "sorted" = some none)
    (z_str : PySem.W.nsIn K mainGlobals "str" = some none)
    (z_tuple : PySem.W.nsIn K mainGlobals "tuple" = some none)
    {t_MOST_ENTRIES : Tok} (g_MOST_ENTRIES : PySem.W.nsIn K mainGlobals "MOST_ENTRIES" = some (some (.int 1000000000000000000000000000000 t_MOST_ENTRIES)))
    {esP : Array DictEntry} {nP : Nat} {tA tM tC : Tok} {DPARAMETERS fBeh COverBudget CInvalidSize CInvalidNumber : Addr}
    (aP : PySem.W.nsIn K mainGlobals "PARAMETERS" = some (some (.ref DPARAMETERS)))
    (dkP : K.lookup DPARAMETERS = some ⟨.type "dict", none, .dict esP nP, #[]⟩)
    (klP : PySem.W.KeysLit w.params esP.toList)
    (loP : (DPARAMETERS == sysModules) = false)
    (nAP : PySem.W.nsIn K DPARAMETERS "append" = some (some (.int 1 tA)))
    (nMP : PySem.W.nsIn K DPARAMETERS "mark" = some (some (.int 0 tM)))
    (nCP : PySem.W.nsIn K DPARAMETERS "cut" = some (some (.int 1 tC)))
    (hcl : PySem.W.findIn K (.ref CLiveLog) "__class__" = some (some (.builtin "object.__class__")))
    (x_n : PySem.W.specialIn K (.builtin "object.__class__") "__get__" = some (some (.builtin "getset_descriptor.__get__")))
    (x_t : PySem.W.takesIn K (.builtin "object.__class__") = some true)
    (hmr : PySem.W.mroIn K CLiveLog (.type "object") = some true)
    (iL : PySem.W.isClsIn K CLiveLog = true)
    (tL : PySem.W.typeIn K (.ref CLiveLog) = some (.type "type"))
    (sL : PySem.W.subIn K (.ref CLiveLog) (.ref CLiveLog) = some true)
    (iB : PySem.W.isClsIn K CBudgetLog = true)
    (tB : PySem.W.typeIn K (.ref CBudgetLog) = some (.type "type"))
    (sB : PySem.W.subIn K (.ref CLiveLog) (.ref CBudgetLog) = some false)
    (nF : PySem.W.notFirst K CBudgetLog (.ref CLiveLog) = true)
    (crd : PySem.W.readsIn K CLiveLog (.type "type") = true)
    (cga : PySem.W.specialIn K (.ref CLiveLog) "__getattribute__" = some (some (.builtin "type.__getattribute__")))
    (cat : PySem.W.findCls K (.ref CLiveLog) (.type "type") "__init__" = some (.val (.ref f12)))
    (h_append : PySem.W.findIn K (.ref CBudgetLog) "append" = some (some (.ref f17)))
    (h_mark : PySem.W.findIn K (.ref CBudgetLog) "mark" = some (some (.ref f18)))
    (h_cut : PySem.W.findIn K (.ref CBudgetLog) "cut" = some (some (.ref f19)))
    (h__perform : PySem.W.findIn K (.ref CBudgetLog) "_perform" = some (some (.ref f23)))
    (h_log : PySem.W.findIn K (.ref CBudgetLog) "log" = some (some (.ref f21)))
    (h_preview : PySem.W.findIn K (.ref CBudgetLog) "preview" = some (some (.ref f22)))
    (h_present : PySem.W.findIn K (.ref CBudgetLog) "present" = some (some (.ref pr14)))
    (h_marks : PySem.W.findIn K (.ref CBudgetLog) "marks" = some (some (.ref pr15)))
    (h_spent : PySem.W.findIn K (.ref CBudgetLog) "spent" = some (some (.ref pr16)))
    (h_beh : PySem.W.findIn K (.ref CBudgetLog) "_behind" = some (some (.ref fBeh)))
    (bf : PySem.W.isFn K (.ref fBeh) = true)
    (bk : PySem.W.keepIn K (.ref fBeh) = true)
    (bj : BehI l.prog K CBudgetLog fBeh)
    (bs : PySem.W.ks_superIn K CBudgetLog CBudgetLog "_behind" = some (some (.ref f24)))
    (bn : PySem.W.fnIn K f24 = true)
    (bt : PySem.W.typeIn K (.ref f24) = some (.type "function"))
    (bo : PySem.W.mroIn K CBudgetLog (.ref CBudgetLog) = some true)
    (n_OverBudget : PySem.W.nsIn K mainGlobals "OverBudget" = some (some (.ref COverBudget)))
    (t_OverBudget : PySem.W.typeIn K (.ref COverBudget) = some (.type "type"))
    (k_OverBudget : PySem.W.keepIn K (.ref COverBudget) = true)
    (b_OverBudget : PySem.W.subIn K (.ref COverBudget) (.type "BaseException") = some true)
    (g_OverBudget : PySem.W.findIn K (.ref COverBudget) "__getattribute__" = some (some (.builtin "BaseException.__getattribute__")))
    (a_OverBudget : PySem.W.findIn K (.ref COverBudget) "__getattr__" = some none)
    (d_OverBudget : PySem.W.hasDictIn K COverBudget = true)
    (v_OverBudget : PySem.W.subIn K (.ref COverBudget) (.type "ValueError") = some true)
    (x_o : PySem.W.nsIn K cStatics "thirdparty.any" = some none)
    (x_s : PySem.W.nsIn K mainGlobals "super" = some none)
    (x_p : (l.prog.main.scope.names.lookup ("super" : Str)).isSome = false)
    (o_OverBudget : ∃ nm q N bs bm sn sub ab col dd k0 k1 k2 k3 k5, K.lookup COverBudget = some (excClassObj nm q COverBudget N bs bm true sn sub ab col dd k0 k1 k2 k3 k5 "ValueError.__new__") ∧ PySem.HandSPX.refsVE bm = true)
    (e_OverBudget : PySem.W.findIn K (.ref COverBudget) "__setattr__" = some (some (.builtin "object.__setattr__")))
    (f_OverBudget : PySem.W.findIn K (.ref COverBudget) "count" = some none)
    (u_OverBudget : PySem.W.ks_superIn K COverBudget COverBudget "__init__" = some (some (.builtin "ValueError.__init__")))
    (w_OverBudget : PySem.W.mroIn K COverBudget (.ref COverBudget) = some true)
    (j_OverBudget : InitK l.prog K COverBudget sIOverBudget "OverBudget.__init__")
    (s_OverBudget : PySem.W.subIn K (.ref COverBudget) (.ref COverBudget) = some true)
    (h_undo : PySem.W.findIn K (.ref CBudgetLog) "undo" = some (some (.ref f20)))
    (hclB : PySem.W.findIn K (.ref CBudgetLog) "__class__" = some (some (.builtin "object.__class__")))
    (hmrB : PySem.W.mroIn K CBudgetLog (.type "object") = some true)
    (sBB : PySem.W.subIn K (.ref CBudgetLog) (.ref CBudgetLog) = some true)
    (sBL : PySem.W.subIn K (.ref CBudgetLog) (.ref CLiveLog) = some true)
    (nFB : PySem.W.notFirst K CBudgetLog (.ref CBudgetLog) = true)
    (n_InvalidSize : PySem.W.nsIn K mainGlobals "InvalidSize" = some (some (.ref CInvalidSize)))
    (t_InvalidSize : PySem.W.typeIn K (.ref CInvalidSize) = some (.type "type"))
    (k_InvalidSize : PySem.W.keepIn K (.ref CInvalidSize) = true)
    (b_InvalidSize : PySem.W.subIn K (.ref CInvalidSize) (.type "BaseException") = some true)
    (q_InvalidSize : PySem.W.excIn K CInvalidSize [.type "ValueError", .type "Exception", .type "BaseException", .type "object"] "ValueError.__new__" = true)
    (n_InvalidNumber : PySem.W.nsIn K mainGlobals "InvalidNumber" = some (some (.ref CInvalidNumber)))
    (t_InvalidNumber : PySem.W.typeIn K (.ref CInvalidNumber) = some (.type "type"))
    (k_InvalidNumber : PySem.W.keepIn K (.ref CInvalidNumber) = true)
    (b_InvalidNumber : PySem.W.subIn K (.ref CInvalidNumber) (.type "BaseException") = some true)
    (q_InvalidNumber : PySem.W.excIn K CInvalidNumber [.type "ValueError", .type "Exception", .type "BaseException", .type "object"] "ValueError.__new__" = true)
    (d_InvalidSize : PySem.W.hasDictIn K CInvalidSize = true)
    (s_SO : PySem.W.subIn K (.ref CInvalidSize) (.ref COverBudget) = some false)
    (s_SS : PySem.W.subIn K (.ref CInvalidSize) (.ref CInvalidSize) = some true)
    : ∃ fd : FuncData, (∀ (s : Shared) (v : Value), BindsTo s fd ⟨[v], []⟩ [("script", v)]) ∧ ∀ base : Heap, K.In base → base.Ns mainGlobals mg → FnOk l.prog w K mg base CX0 17 fa fd ["script"] (spLaw K) := by
  have e := hfa.symm.trans (PySem.W.mg_of X G a40)
  cases e
  have FIsWhole := fun_mk (st := sIsWhole) l0 c0 k0
  have FIsBetween := fun_mk (st := sIsBetween) l1 c1 k1
  have FCheckSize := fun_mk (st := sCheckSize) l2 c2 k2
  have FCheckOlder := fun_mk (st := sCheckOlder) l3 c3 k3
  have FCheckNumberBetween := fun_mk (st := sCheckNumberBetween) l4 c4 k4
  have FPowerWithin := fun_mk (st := sPowerWithin) l5 c5 k5
  have FPeaks := fun_mk (st := sPeaks) l6 c6 k6
  have FEdges := fun_mk (st := sEdges) l7 c7 k7
  have FMadeSums := fun_mk (st := sMadeSums) l8 c8 k8
  have FAppendSums := fun_mk (st := sAppendSums) l9 c9 k9
  have FRootSums := fun_mk (st := sRootSums) l10 c10 k10
  have FIsOperation := fun_mk (st := sIsOperation) l11 c11 k11
  have FLiveLogInit := fun_mk (st := sLiveLogInit) l12 c12 k12
  have FLiveLogEq := fun_mk (st := sLiveLogEq) l13 c13 k13
  have FLiveLogPresent := fun_mk (st := sLiveLogPresent) l14 c14 k14
  have FLiveLogMarks := fun_mk (st := sLiveLogMarks) l15 c15 k15
  have FLiveLogSpent := fun_mk (st := sLiveLogSpent) l16 c16 k16
  have FLiveLogAppend := fun_mk (st := sLiveLogAppend) l17 c17 k17
  have FLiveLogMark := fun_mk (st := sLiveLogMark) l18 c18 k18
  have FLiveLogCut := fun_mk (st := sLiveLogCut) l19 c19 k19
  have FLiveLogUndo := fun_mk (st := sLiveLogUndo) l20 c20 k20
  have FLiveLogLog := fun_mk (st := sLiveLogLog) l21 c21 k21
  have FLiveLogPreview := fun_mk (st := sLiveLogPreview) l22 c22 k22
  have FLiveLogPerform := fun_mk (st := sLiveLogPerform) l23 c23 k23
  have FLiveLogBehind := fun_mk (st := sLiveLogBehind) l24 c24 k24
  have FBudgetLogInit := fun_mk (st := sBudgetLogInit) l25 c25 k25
  have FBudgetLogEq := fun_mk (st := sBudgetLogEq) l26 c26 k26
  have FBudgetLogBudget := fun_mk (st := sBudgetLogBudget) l27 c27 k27
  have FLawBag := fun_mk (st := sLawBag) l28 c28 k28
  have FLawPick := fun_mk (st := sLawPick) l29 c29 k29
  have FLawOnes := fun_mk (st := sLawOnes) l30 c30 k30
  have FLawCost := fun_mk (st := sLawCost) l31 c31 k31
  have FLawOperation := fun_mk (st := sLawOperation) l32 c32 k32
  have FLawAfter := fun_mk (st := sLawAfter) l33 c33 k33
  have FLawCalled := fun_mk (st := sLawCalled) l34 c34 k34
  have FLawTold := fun_mk (st := sLawTold) l35 c35 k35
  have FLawTried := fun_mk (st := sLawTried) l36 c36 k36
  have FLawLooked := fun_mk (st := sLawLooked) l37 c37 k37
  have FLawDue := fun_mk (st := sLawDue) l38 c38 k38
  have FLawRight := fun_mk (st := sLawRight) l39 c39 k39
  have FLaw := fun_mk (st := sLaw) l40 c40 k40
  have gLiveLog := PySem.W.mg_of X G aCLiveLog
  have TLiveLog : TLog K CLiveLog := ⟨⟨pgLiveLog, hdLiveLog, poLiveLog, saLiveLog⟩, nLiveLog_state, nLiveLog_calls⟩
  have gBudgetLog := PySem.W.mg_of X G aCBudgetLog
  have TBudgetLog : TBud K CBudgetLog := ⟨⟨pgBudgetLog, hdBudgetLog, poBudgetLog, saBudgetLog⟩, nBudgetLog_state, nBudgetLog_calls, nBudgetLog_budget⟩
  have AIsWhole : At K mg "is_whole" f0 (PySem.W.fnOf "is_whole" "is_whole" (defArgs sIsWhole) (defBody sIsWhole) (defScope sIsWhole) .none kV0 dc0 pm0 an0 cd0 ct0) ["value"] := ⟨PySem.W.mg_of X G a0, k0, FIsWhole.binds (ps := ["value"]) fun _ _ _ _ _ _ us hl => match us, hl with | [_], _ => rfl⟩
  have AIsBetween : At K mg "is_between" f1 (PySem.W.fnOf "is_between" "is_between" (defArgs sIsBetween) (defBody sIsBetween) (defScope sIsBetween) .none kV1 dc1 pm1 an1 cd1 ct1) ["value", "low", "high"] := ⟨PySem.W.mg_of X G a1, k1, FIsBetween.binds (ps := ["value", "low", "high"]) fun _ _ _ _ _ _ us hl => match us, hl with | [_, _, _], _ => rfl⟩
  have ACheckSize : At K mg "check_size" f2 (PySem.W.fnOf "check_size" "check_size" (defArgs sCheckSize) (defBody sCheckSize) (defScope sCheckSize) .none kV2 dc2 pm2 an2 cd2 ct2) ["size"] := ⟨PySem.W.mg_of X G a2, k2, FCheckSize.binds (ps := ["size"]) fun _ _ _ _ _ _ us hl => match us, hl with | [_], _ => rfl⟩
  have ACheckOlder : At K mg "check_older" f3 (PySem.W.fnOf "check_older" "check_older" (defArgs sCheckOlder) (defBody sCheckOlder) (defScope sCheckOlder) .none kV3 dc3 pm3 an3 cd3 ct3) ["size", "older"] := ⟨PySem.W.mg_of X G a3, k3, FCheckOlder.binds (ps := ["size", "older"]) fun _ _ _ _ _ _ us hl => match us, hl with | [_, _], _ => rfl⟩
  have ACheckNumberBetween : At K mg "check_number_between" f4 (PySem.W.fnOf "check_number_between" "check_number_between" (defArgs sCheckNumberBetween) (defBody sCheckNumberBetween) (defScope sCheckNumberBetween) .none kV4 dc4 pm4 an4 cd4 ct4) ["number", "least", "most"] := ⟨PySem.W.mg_of X G a4, k4, FCheckNumberBetween.binds (ps := ["number", "least", "most"]) fun _ _ _ _ _ _ us hl => match us, hl with | [_, _, _], _ => rfl⟩
  have APowerWithin : At K mg "power_within" f5 (PySem.W.fnOf "power_within" "power_within" (defArgs sPowerWithin) (defBody sPowerWithin) (defScope sPowerWithin) .none kV5 dc5 pm5 an5 cd5 ct5) ["number"] := ⟨PySem.W.mg_of X G a5, k5, FPowerWithin.binds (ps := ["number"]) fun _ _ _ _ _ _ us hl => match us, hl with | [_], _ => rfl⟩
  have APeaks : At K mg "peaks" f6 (PySem.W.fnOf "peaks" "peaks" (defArgs sPeaks) (defBody sPeaks) (defScope sPeaks) .none kV6 dc6 pm6 an6 cd6 ct6) ["size"] := ⟨PySem.W.mg_of X G a6, k6, FPeaks.binds (ps := ["size"]) fun _ _ _ _ _ _ us hl => match us, hl with | [_], _ => rfl⟩
  have AEdges : At K mg "edges" f7 (PySem.W.fnOf "edges" "edges" (defArgs sEdges) (defBody sEdges) (defScope sEdges) .none kV7 dc7 pm7 an7 cd7 ct7) ["size"] := ⟨PySem.W.mg_of X G a7, k7, FEdges.binds (ps := ["size"]) fun _ _ _ _ _ _ us hl => match us, hl with | [_], _ => rfl⟩
  have AMadeSums : At K mg "_made_sums" f8 (PySem.W.fnOf "_made_sums" "_made_sums" (defArgs sMadeSums) (defBody sMadeSums) (defScope sMadeSums) .none kV8 dc8 pm8 an8 cd8 ct8) ["size"] := ⟨PySem.W.mg_of X G a8, k8, FMadeSums.binds (ps := ["size"]) fun _ _ _ _ _ _ us hl => match us, hl with | [_], _ => rfl⟩
  have AAppendSums : At K mg "append_sums" f9 (PySem.W.fnOf "append_sums" "append_sums" (defArgs sAppendSums) (defBody sAppendSums) (defScope sAppendSums) .none kV9 dc9 pm9 an9 cd9 ct9) ["size", "number"] := ⟨PySem.W.mg_of X G a9, k9, FAppendSums.binds (ps := ["size", "number"]) fun _ _ _ _ _ _ us hl => match us, hl with | [_, _], _ => rfl⟩
  have ARootSums : At K mg "root_sums" f10 (PySem.W.fnOf "root_sums" "root_sums" (defArgs sRootSums) (defBody sRootSums) (defScope sRootSums) .none kV10 dc10 pm10 an10 cd10 ct10) ["size"] := ⟨PySem.W.mg_of X G a10, k10, FRootSums.binds (ps := ["size"]) fun _ _ _ _ _ _ us hl => match us, hl with | [_], _ => rfl⟩
  have AIsOperation : At K mg "_is_operation" f11 (PySem.W.fnOf "_is_operation" "_is_operation" (defArgs sIsOperation) (defBody sIsOperation) (defScope sIsOperation) .none kV11 dc11 pm11 an11 cd11 ct11) ["value"] := ⟨PySem.W.mg_of X G a11, k11, FIsOperation.binds (ps := ["value"]) fun _ _ _ _ _ _ us hl => match us, hl with | [_], _ => rfl⟩
  have BLiveLogInit := FLiveLogInit.binds (ps := ["self", "size"]) fun _ _ _ _ _ _ us hl => match us, hl with | [_, _], _ => rfl
  have MLiveLogInit : Meth K CLiveLog "__init__" f12 := ⟨a12, i12, k12⟩
  have KLiveLog : Mk K CLiveLog f12 := ⟨mkLiveLog, a12, i12, kcLiveLog⟩
  have BLiveLogEq := FLiveLogEq.binds (ps := ["self", "other"]) fun _ _ _ _ _ _ us hl => match us, hl with | [_, _], _ => rfl
  have MLiveLogEq : Meth K CLiveLog "__eq__" f13 := ⟨a13, i13, k13⟩
  have BLiveLogPresent := FLiveLogPresent.binds (ps := ["self"]) fun _ _ _ _ _ _ us hl => match us, hl with | [_], _ => rfl
  have PLiveLogPresent : PropOf K CLiveLog "present" pr14 f14 := ⟨a14, i14, t14, ⟨_, r14⟩⟩
  have BLiveLogMarks := FLiveLogMarks.binds (ps := ["self"]) fun _ _ _ _ _ _ us hl => match us, hl with | [_], _ => rfl
  have PLiveLogMarks : PropOf K CLiveLog "marks" pr15 f15 := ⟨a15, i15, t15, ⟨_, r15⟩⟩
  have BLiveLogSpent := FLiveLogSpent.binds (ps := ["self"]) fun _ _ _ _ _ _ us hl => match us, hl with | [_], _ => rfl
  have PLiveLogSpent : PropOf K CLiveLog "spent" pr16 f16 := ⟨a16, i16, t16, ⟨_, r16⟩⟩
  have BLiveLogAppend := FLiveLogAppend.binds (ps := ["self", "number"]) fun _ _ _ _ _ _ us hl => match us, hl with | [_, _], _ => rfl
  have MLiveLogAppend : Meth K CLiveLog "append" f17 := ⟨a17, i17, k17⟩
  have BLiveLogMark := FLiveLogMark.binds (ps := ["self"]) fun _ _ _ _ _ _ us hl => match us, hl with | [_], _ => rfl
  have MLiveLogMark : Meth K CLiveLog "mark" f18 := ⟨a18, i18, k18⟩
  have BLiveLogCut := FLiveLogCut.binds (ps := ["self", "size"]) fun _ _ _ _ _ _ us hl => match us, hl with | [_, _], _ => rfl
  have MLiveLogCut : Meth K CLiveLog "cut" f19 := ⟨a19, i19, k19⟩
  have BLiveLogUndo := FLiveLogUndo.binds (ps := ["self"]) fun _ _ _ _ _ _ us hl => match us, hl with | [_], _ => rfl
  have MLiveLogUndo : Meth K CLiveLog "undo" f20 := ⟨a20, i20, k20⟩
  have BLiveLogLog := FLiveLogLog.binds (ps := ["self"]) fun _ _ _ _ _ _ us hl => match us, hl with | [_], _ => rfl
  have MLiveLogLog : Meth K CLiveLog "log" f21 := ⟨a21, i21, k21⟩
  have MLiveLogPreview : Meth K CLiveLog "preview" f22 := ⟨a22, i22, k22⟩
  have BLiveLogPerform := FLiveLogPerform.binds (ps := ["self", "operation"]) fun _ _ _ _ _ _ us hl => match us, hl with | [_, _], _ => rfl
  have MLiveLogPerform : Meth K CLiveLog "_perform" f23 := ⟨a23, i23, k23⟩
  have BLiveLogBehind := FLiveLogBehind.binds (ps := ["self", "state", "operation"]) fun _ _ _ _ _ _ us hl => match us, hl with | [_, _, _], _ => rfl
  have MLiveLogBehind : Meth K CLiveLog "_behind" f24 := ⟨a24, i24, k24⟩
  have BBudgetLogInit := FBudgetLogInit.binds (ps := ["self", "size", "budget"]) fun _ _ _ _ _ _ us hl => match us, hl with | [_, _, _], _ => rfl
  have MBudgetLogInit : Meth K CBudgetLog "__init__" f25 := ⟨a25, i25, k25⟩
  have KBudgetLog : Mk K CBudgetLog f25 := ⟨mkBudgetLog, a25, i25, kcBudgetLog⟩
  have BBudgetLogEq := FBudgetLogEq.binds (ps := ["self", "other"]) fun _ _ _ _ _ _ us hl => match us, hl with | [_, _], _ => rfl
  have MBudgetLogEq : Meth K CBudgetLog "__eq__" f26 := ⟨a26, i26, k26⟩
  have BBudgetLogBudget := FBudgetLogBudget.binds (ps := ["self"]) fun _ _ _ _ _ _ us hl => match us, hl with | [_], _ => rfl
  have PBudgetLogBudget : PropOf K CBudgetLog "budget" pr27 f27 := ⟨a27, i27, t27, ⟨_, r27⟩⟩
  have ALawBag : At K mg "_law_bag" f28 (PySem.W.fnOf "_law_bag" "_law_bag" (defArgs sLawBag) (defBody sLawBag) (defScope sLawBag) .none kV28 dc28 pm28 an28 cd28 ct28) ["cell"] := ⟨PySem.W.mg_of X G a28, k28, FLawBag.binds (ps := ["cell"]) fun _ _ _ _ _ _ us hl => match us, hl with | [_], _ => rfl⟩
  have ALawPick : At K mg "_law_pick" f29 (PySem.W.fnOf "_law_pick" "_law_pick" (defArgs sLawPick) (defBody sLawPick) (defScope sLawPick) .none kV29 dc29 pm29 an29 cd29 ct29) ["bag", "many"] := ⟨PySem.W.mg_of X G a29, k29, FLawPick.binds (ps := ["bag", "many"]) fun _ _ _ _ _ _ us hl => match us, hl with | [_, _], _ => rfl⟩
  have ALawOnes : At K mg "_law_ones" f30 (PySem.W.fnOf "_law_ones" "_law_ones" (defArgs sLawOnes) (defBody sLawOnes) (defScope sLawOnes) .none kV30 dc30 pm30 an30 cd30 ct30) ["number"] := ⟨PySem.W.mg_of X G a30, k30, FLawOnes.binds (ps := ["number"]) fun _ _ _ _ _ _ us hl => match us, hl with | [_], _ => rfl⟩
  have ALawCost : At K mg "_law_cost" f31 (PySem.W.fnOf "_law_cost" "_law_cost" (defArgs sLawCost) (defBody sLawCost) (defScope sLawCost) .none kV31 dc31 pm31 an31 cd31 ct31) ["size_here", "number"] := ⟨PySem.W.mg_of X G a31, k31, FLawCost.binds (ps := ["size_here", "number"]) fun _ _ _ _ _ _ us hl => match us, hl with | [_, _], _ => rfl⟩
  have ALawOperation : At K mg "_law_operation" f32 (PySem.W.fnOf "_law_operation" "_law_operation" (defArgs sLawOperation) (defBody sLawOperation) (defScope sLawOperation) .none kV32 dc32 pm32 an32 cd32 ct32) ["bag", "state", "most"] := ⟨PySem.W.mg_of X G a32, k32, FLawOperation.binds (ps := ["bag", "state", "most"]) fun _ _ _ _ _ _ us hl => match us, hl with | [_, _, _], _ => rfl⟩
  have ALawAfter : At K mg "_law_after" f33 (PySem.W.fnOf "_law_after" "_law_after" (defArgs sLawAfter) (defBody sLawAfter) (defScope sLawAfter) .none kV33 dc33 pm33 an33 cd33 ct33) ["state", "step"] := ⟨PySem.W.mg_of X G a33, k33, FLawAfter.binds (ps := ["state", "step"]) fun _ _ _ _ _ _ us hl => match us, hl with | [_, _], _ => rfl⟩
  have ALawCalled : At K mg "_law_called" f34 (PySem.W.fnOf "_law_called" "_law_called" (defArgs sLawCalled) (defBody sLawCalled) (defScope sLawCalled) .none kV34 dc34 pm34 an34 cd34 ct34) ["live", "step"] := ⟨PySem.W.mg_of X G a34, k34, FLawCalled.binds (ps := ["live", "step"]) fun _ _ _ _ _ _ us hl => match us, hl with | [_, _], _ => rfl⟩
  have ALawTold : At K mg "_law_told" f35 (PySem.W.fnOf "_law_told" "_law_told" (defArgs sLawTold) (defBody sLawTold) (defScope sLawTold) .none kV35 dc35 pm35 an35 cd35 ct35) ["live"] := ⟨PySem.W.mg_of X G a35, k35, FLawTold.binds (ps := ["live"]) fun _ _ _ _ _ _ us hl => match us, hl with | [_], _ => rfl⟩
  have ALawTried : At K mg "_law_tried" f36 (PySem.W.fnOf "_law_tried" "_law_tried" (defArgs sLawTried) (defBody sLawTried) (defScope sLawTried) .none kV36 dc36 pm36 an36 cd36 ct36) ["live", "step"] := ⟨PySem.W.mg_of X G a36, k36, FLawTried.binds (ps := ["live", "step"]) fun _ _ _ _ _ _ us hl => match us, hl with | [_, _], _ => rfl⟩
  have ALawLooked : At K mg "_law_looked" f37 (PySem.W.fnOf "_law_looked" "_law_looked" (defArgs sLawLooked) (defBody sLawLooked) (defScope sLawLooked) .none kV37 dc37 pm37 an37 cd37 ct37) ["live", "one", "two"] := ⟨PySem.W.mg_of X G a37, k37, FLawLooked.binds (ps := ["live", "one", "two"]) fun _ _ _ _ _ _ us hl => match us, hl with | [_, _, _], _ => rfl⟩
  have ALawDue : At K mg "_law_due" f38 (PySem.W.fnOf "_law_due" "_law_due" (defArgs sLawDue) (defBody sLawDue) (defScope sLawDue) .none kV38 dc38 pm38 an38 cd38 ct38) ["state", "some", "budget"] := ⟨PySem.W.mg_of X G a38, k38, FLawDue.binds (ps := ["state", "some", "budget"]) fun _ _ _ _ _ _ us hl => match us, hl with | [_, _, _], _ => rfl⟩
  have ALawRight : At K mg "_law_right" f39 (PySem.W.fnOf "_law_right" "_law_right" (defArgs sLawRight) (defBody sLawRight) (defScope sLawRight) .none kV39 dc39 pm39 an39 cd39 ct39) ["bag", "many", "most"] := ⟨PySem.W.mg_of X G a39, k39, FLawRight.binds (ps := ["bag", "many", "most"]) fun _ _ _ _ _ _ us hl => match us, hl with | [_, _, _], _ => rfl⟩
  have z_bool := PySem.W.mg_none_of X G z_bool
  have z_int := PySem.W.mg_none_of X G z_int
  have z_isinstance := PySem.W.mg_none_of X G z_isinstance
  have z_len := PySem.W.mg_none_of X G z_len
  have z_list := PySem.W.mg_none_of X G z_list
  have z_max := PySem.W.mg_none_of X G z_max
  have z_range := PySem.W.mg_none_of X G z_range
  have z_sorted := PySem.W.mg_none_of X G z_sorted
  have z_str := PySem.W.mg_none_of X G z_str
  have z_tuple := PySem.W.mg_none_of X G z_tuple
  have g_MOST_ENTRIES := PySem.W.mg_of X G g_MOST_ENTRIES
  refine ⟨PySem.W.fnOf "law" "law" (defArgs sLaw) (defBody sLaw) (defScope sLaw) .none kV40 dc40 pm40 an40 cd40 ct40, fun s v => .of_eq rfl, fun base _ _ => ?_⟩
  have gPARAMETERS := PySem.W.mg_of X G aP
  have TP : Pars K w DPARAMETERS := ⟨loP, ⟨_, _, _, dkP, klP, nAP, ⟨_, rfl⟩⟩, ⟨_, _, _, dkP, klP, nMP, ⟨_, rfl⟩⟩, ⟨_, _, _, dkP, klP, nCP, ⟨_, rfl⟩⟩⟩
  have TI : TIs K CLiveLog CBudgetLog := ⟨hcl, x_n, x_t, hmr, kit_of iL tL sL sL, kit_of iB tB sB sL⟩
  have TLogB : TLog K CBudgetLog := ⟨TBudgetLog.cl, TBudgetLog.nS, TBudgetLog.nC⟩
  have OOverBudget : OexC K COverBudget := ⟨o_OverBudget, e_OverBudget, b_OverBudget, t_OverBudget, k_OverBudget⟩
  have UOverBudget : SupK l.prog K mg COverBudget "count" := ⟨OOverBudget, f_OverBudget, u_OverBudget, v_OverBudget, w_OverBudget, x_o, x_p, PySem.W.mg_none_of X G x_s⟩
  have XOverBudget : SX l.prog w K mg base "OverBudget" COverBudget "count" := sxOverBudget (PySem.W.mg_of X G n_OverBudget) UOverBudget j_OverBudget
  have y_OverBudget := PySem.W.exm_ref b_OverBudget d_OverBudget t_OverBudget s_OverBudget
  have YOverBudget : XfC K COverBudget := ⟨g_OverBudget, a_OverBudget, b_OverBudget, d_OverBudget⟩
  have FKInit : CFun K CLiveLog (.type "type") "__init__" f12 := ⟨⟨crd, cga⟩, cat, k12⟩
  have KBeh : BehK l.prog K mg CBudgetLog fBeh f24 := beh_of bj iB bs bn bt bo x_o x_p (PySem.W.mg_none_of X G x_s)
  have MBappend : Meth K CBudgetLog "append" f17 := ⟨h_append, i17, k17⟩
  have MBmark : Meth K CBudgetLog "mark" f18 := ⟨h_mark, i18, k18⟩
  have MBcut : Meth K CBudgetLog "cut" f19 := ⟨h_cut, i19, k19⟩
  have MB_perform : Meth K CBudgetLog "_perform" f23 := ⟨h__perform, i23, k23⟩
  have MBlog : Meth K CBudgetLog "log" f21 := ⟨h_log, i21, k21⟩
  have MBpreview : Meth K CBudgetLog "preview" f22 := ⟨h_preview, i22, k22⟩
  have PBpresent : PropOf K CBudgetLog "present" pr14 f14 := ⟨h_present, i14, t14, ⟨_, r14⟩⟩
  have PBmarks : PropOf K CBudgetLog "marks" pr15 f15 := ⟨h_marks, i15, t15, ⟨_, r15⟩⟩
  have PBspent : PropOf K CBudgetLog "spent" pr16 f16 := ⟨h_spent, i16, t16, ⟨_, r16⟩⟩
  have MBbehind : Meth K CBudgetLog "_behind" fBeh := ⟨h_beh, bf, bk⟩
  have GIsWholeV := ok_is_wholeV (P := l.prog) (w := w) (base := base) FIsWhole z_isinstance z_int z_bool
  have GIsWhole := ok_is_whole (P := l.prog) (w := w) (base := base) FIsWhole z_isinstance z_int z_bool
  have GIsBetweenV := ok_is_betweenV FIsBetween GIsWholeV AIsWhole
  have GIsBetween := ok_is_between FIsBetween GIsWhole AIsWhole
  have GCheckSize := ok_check_size FCheckSize GIsBetween AIsBetween g_MOST_ENTRIES
  have GCheckOlder := ok_check_older FCheckOlder GIsBetween AIsBetween
  have GCheckNumberBetween := ok_check_number_between FCheckNumberBetween GIsBetween AIsBetween
  have GPowerWithin := ok_power_within (P := l.prog) (w := w) (mg := mg) (base := base) FPowerWithin
  have GPeaks := ok_peaks FPeaks GCheckSize ACheckSize GPowerWithin APowerWithin
  have GEdges := ok_edges FEdges GPeaks APeaks
  have GRootSums := ok_root_sums FRootSums GEdges AEdges z_len
  have GMadeSums := ok_made_sums FMadeSums GRootSums ARootSums
  have GAppendSums := ok_append_sums FAppendSums GCheckSize ACheckSize GCheckNumberBetween ACheckNumberBetween GMadeSums AMadeSums g_MOST_ENTRIES
  have GIsOperation := ok_is_operation (P := l.prog) (w := w) (base := base) FIsOperation gPARAMETERS TP z_isinstance z_tuple z_str z_len
  have GLiveLogInit := ok_log_init FLiveLogInit TLiveLog GCheckSize ACheckSize
  have GLiveLogPresent := ok_log_present (P := l.prog) (w := w) (mg := mg) (base := base) FLiveLogPresent TLiveLog
  have GLiveLogMarks := ok_log_marks (P := l.prog) (w := w) (base := base) FLiveLogMarks TLiveLog z_list
  have GLiveLogSpent := ok_log_spent (P := l.prog) (w := w) (mg := mg) (base := base) FLiveLogSpent TLiveLog
  have GLiveLogLog := ok_log_log (P := l.prog) (w := w) (mg := mg) (base := base) FLiveLogLog TLiveLog
  have GLiveLogBehind := ok_log_behind FLiveLogBehind GCheckNumberBetween ACheckNumberBetween GAppendSums AAppendSums GCheckOlder ACheckOlder GRootSums ARootSums g_MOST_ENTRIES z_tuple
  have GLiveLogPerform := ok_log_perform FLiveLogPerform TLiveLog GLiveLogBehind MLiveLogBehind BLiveLogBehind
  have GLiveLogAppend := ok_log_append FLiveLogAppend TLiveLog GLiveLogPerform MLiveLogPerform BLiveLogPerform
  have GLiveLogMark := ok_log_mark FLiveLogMark TLiveLog GLiveLogPerform MLiveLogPerform BLiveLogPerform
  have GLiveLogCut := ok_log_cut FLiveLogCut TLiveLog GLiveLogPerform MLiveLogPerform BLiveLogPerform
  have GLiveLogPreview1 := ok_log_preview FLiveLogPreview (Fun.bindsV FLiveLogPreview preview1) TLiveLog GIsOperation AIsOperation GLiveLogBehind MLiveLogBehind BLiveLogBehind
  have GLawBag := ok_law_bag (P := l.prog) (w := w) (base := base) FLawBag z_max
  have GLawPick := ok_law_pick (P := l.prog) (w := w) (base := base) FLawPick z_int
  have GLiveLogInitB := ok_log_init (C := CBudgetLog) FLiveLogInit TLogB GCheckSize ACheckSize
  have GBudgetLogInit := ok_bud_init FBudgetLogInit TBudgetLog gLiveLog FKInit GLiveLogInitB BLiveLogInit GIsWhole AIsWhole
  have GBudgetLogEqO := ok_bud_eq (P := l.prog) (w := w) (base := base) FBudgetLogEq TLiveLog TI gBudgetLog z_isinstance
  have GBP := any_ok fun bu => ok_bud_present (bu := bu) (P := l.prog) (w := w) (mg := mg) (base := base) FLiveLogPresent TBudgetLog
  have GBM := any_ok fun bu => ok_bud_marks (bu := bu) (P := l.prog) (w := w) (base := base) FLiveLogMarks TBudgetLog z_list
  have GBS := any_ok fun bu => ok_bud_spent (bu := bu) (P := l.prog) (w := w) (mg := mg) (base := base) FLiveLogSpent TBudgetLog
  have GBL := any_ok fun bu => ok_bud_log (bu := bu) (P := l.prog) (w := w) (mg := mg) (base := base) FLiveLogLog TBudgetLog
  have MBundo : Meth K CBudgetLog "undo" f20 := ⟨h_undo, i20, k20⟩
  have TIb : TIB K CBudgetLog CLiveLog := ⟨hclB, x_n, x_t, hmrB, kit_of iB tB sBB sBB, kit_of iL tL sBL sBB⟩
  have XInvalidSize : XF K mg "InvalidSize" CInvalidSize := ⟨PySem.W.mg_of X G n_InvalidSize, k_InvalidSize, q_InvalidSize, b_InvalidSize, t_InvalidSize⟩
  have XInvalidNumber : XF K mg "InvalidNumber" CInvalidNumber := ⟨PySem.W.mg_of X G n_InvalidNumber, k_InvalidNumber, q_InvalidNumber, b_InvalidNumber, t_InvalidNumber⟩
  have y_SO := PySem.W.exm_ref b_OverBudget d_OverBudget t_OverBudget s_SO
  have y_SS := PySem.W.exm_ref b_InvalidSize d_InvalidSize t_InvalidSize s_SS
  have neCB : ¬ CLiveLog = CBudgetLog := fun z => by rw [z, sBB] at sB; cases sB
  have GXNB := okX_check_number_between FCheckNumberBetween XInvalidNumber GIsBetweenV AIsBetween
  have GXCO := okX_check_older FCheckOlder XInvalidSize GIsBetweenV AIsBetween
  have GLR := okR_log_behind FLiveLogBehind GXNB ACheckNumberBetween GAppendSums AAppendSums GXCO ACheckOlder GRootSums ARootSums g_MOST_ENTRIES z_tuple
  obtain ⟨fdB, GB0, GBX, GBR, BB⟩ := ok_bud_behind3 KBeh TBudgetLog XOverBudget GLiveLogBehind GLR BLiveLogBehind
  have GBT : FnOk l.prog w K mg base (L2.CX l.prog w) 11 _ _ ["self", "state", "operation"] (spBehindT K CBudgetLog COverBudget CInvalidSize CInvalidNumber) := both62 (any_ok GBX) GBR
  have GBV0 := fun bu => ok_bud_preview (bu := bu) FLiveLogPreview (Fun.bindsV FLiveLogPreview preview2) TBudgetLog GIsOperation AIsOperation (GB0 bu) MBbehind BB
  have GBVX := fun bu => okX_bud_preview (bu := bu) FLiveLogPreview (Fun.bindsV FLiveLogPreview preview2) TBudgetLog GIsOperation AIsOperation GBT MBbehind BB
  have GLook := bothV (anyV_ok fun bu => toXV (GBV0 bu)) (anyV_ok GBVX)
  have GPf := fun bu => ok_bud_perform (bu := bu) FLiveLogPerform TBudgetLog (GBX bu) MBbehind BB
  have GPappend := fun bu => ok_bud_append (bu := bu) FLiveLogAppend TBudgetLog (GPf bu) MB_perform BLiveLogPerform
  have GPmark := fun bu => ok_bud_mark (bu := bu) FLiveLogMark TBudgetLog (GPf bu) MB_perform BLiveLogPerform
  have GPcut := fun bu => ok_bud_cut (bu := bu) FLiveLogCut TBudgetLog (GPf bu) MB_perform BLiveLogPerform
  have GBU := any_ok fun bu => ok_bud_undo (bu := bu) (P := l.prog) (w := w) (mg := mg) (base := base) FLiveLogUndo TBudgetLog
  have GBB := any_ok fun bu => ok_bud_budget (bu := bu) (P := l.prog) (w := w) (mg := mg) (base := base) FBudgetLogBudget TBudgetLog
  have GEQ := both62 (ok_bud_eqB (P := l.prog) (w := w) (base := base) FBudgetLogEq TBudgetLog TIb gBudgetLog z_isinstance) GBudgetLogEqO
  have GXLawCalled := any_ok fun bu => okX_law_called (bu := bu) FLawCalled TBudgetLog (GPmark bu) MBmark BLiveLogMark (GPappend bu) MBappend BLiveLogAppend (GPcut bu) MBcut BLiveLogCut
  have GLawTried := ok_law_tried FLawTried XOverBudget XInvalidSize YOverBudget f_OverBudget y_OverBudget GXLawCalled ALawCalled z_str
  have GLawLooked := ok_law_looked FLawLooked TBudgetLog XOverBudget XInvalidSize YOverBudget f_OverBudget y_OverBudget y_SO y_SS GLook MBpreview z_str
  have GLawOnes := ok_law_ones (P := l.prog) (w := w) (mg := mg) (base := base) FLawOnes
  have GLawCost := ok_law_cost FLawCost GLawOnes ALawOnes
  have GLawOperation := ok_law_operation FLawOperation GLawPick ALawPick
  have GLawAfter := ok_law_after FLawAfter GLawCost ALawCost GLawOnes ALawOnes z_sorted
  have GLawDue := ok_law_due FLawDue GLawAfter ALawAfter z_str
  have GLawTold := ok_law_toldB FLawTold TBudgetLog GBP PBpresent BLiveLogPresent GBM PBmarks BLiveLogMarks GBS PBspent BLiveLogSpent
  have GLawRight := ok_law_right FLawRight TBudgetLog gBudgetLog nFB GLawPick ALawPick KBudgetLog GBudgetLogInit BBudgetLogInit GBU MBundo BLiveLogUndo GBB PBudgetLogBudget BBudgetLogBudget GBL MBlog BLiveLogLog GEQ MBudgetLogEq BBudgetLogEq GLawOperation ALawOperation GLawAfter ALawAfter GLawLooked ALawLooked GLawDue ALawDue GLawTried ALawTried GLawTold ALawTold z_range z_isinstance z_str
  exact ok_law FLaw TBudgetLog TLiveLog TIb gBudgetLog gLiveLog nFB nF neCB sBL GLawBag ALawBag GLawPick ALawPick GLawRight ALawRight KBudgetLog GBudgetLogInit BBudgetLogInit KLiveLog GLiveLogInit BLiveLogInit GEQ MBudgetLogEq BBudgetLogEq GLawTried ALawTried GLawLooked ALawLooked GBS PBspent BLiveLogSpent z_isinstance
end LT
open PySem PySem.W PyProof.Rows
set_option maxRecDepth 100000 in
set_option maxHeartbeats 0 in
theorem PySem.Challenge.cw_logtrees_k42_budgets_of_sums_holds : PySem.Challenge.rw_logtrees_k42_budgets_of_sums.Holds := by
  w_on; o_law; k_head; (case hw => w_witness2)
  k_fill
  refine L2.walk_of (l := PySem.Challenge.rw_logtrees_k42_budgets_of_sums) (n := 63) (k := 17) (x := "script") (CX := fun _ => L2.CX0) (sp := fun w => LT.spLaw _) rfl (by decide) rfl ⟨rfl, by decide, by decide⟩ (fun w h Y => PySem.W.kIn_of Y) ?F (fun _ _ a ns hl _ hS => ⟨a, ns, rfl, hS, hl, fun _ => rfl⟩) (fun _ _ _ _ _ h => h)
  case F =>
    intro w mg fa h KX G hmg
    refine' LT.all_mk KX G hmg ?aCLiveLog ?pgLiveLog ?hdLiveLog ?poLiveLog ?saLiveLog ?mkLiveLog ?kcLiveLog ?nLiveLog_state ?nLiveLog_calls ?aCBudgetLog ?pgBudgetLog ?hdBudgetLog ?poBudgetLog ?saBudgetLog ?mkBudgetLog ?kcBudgetLog ?nBudgetLog_state ?nBudgetLog_calls ?nBudgetLog_budget ?a0 ?l0 ?c0 ?k0 ?a1 ?l1 ?c1 ?k1 ?a2 ?l2 ?c2 ?k2 ?a3 ?l3 ?c3 ?k3 ?a4 ?l4 ?c4 ?k4 ?a5 ?l5 ?c5 ?k5 ?a6 ?l6 ?c6 ?k6 ?a7 ?l7 ?c7 ?k7 ?a8 ?l8 ?c8 ?k8 ?a9 ?l9 ?c9 ?k9 ?a10 ?l10 ?c10 ?k10 ?a11 ?l11 ?c11 ?k11 ?a12 ?i12 ?l12 ?c12 ?k12 ?a13 ?i13 ?l13 ?c13 ?k13 ?a14 ?i14 ?t14 ?r14 ?l14 ?c14 ?k14 ?a15 ?i15 ?t15 ?r15 ?l15 ?c15 ?k15 ?a16 ?i16 ?t16 ?r16 ?l16 ?c16 ?k16 ?a17 ?i17 ?l17 ?c17 ?k17 ?a18 ?i18 ?l18 ?c18 ?k18 ?a19 ?i19 ?l19 ?c19 ?k19 ?a20 ?i20 ?l20 ?c20 ?k20 ?a21 ?i21 ?l21 ?c21 ?k21 ?a22 ?i22 ?l22 ?c22 ?k22 ?a23 ?i23 ?l23 ?c23 ?k23 ?a24 ?i24 ?l24 ?c24 ?k24 ?a25 ?i25 ?l25 ?c25 ?k25 ?a26 ?i26 ?l26 ?c26 ?k26 ?a27 ?i27 ?t27 ?r27 ?l27 ?c27 ?k27 ?a28 ?l28 ?c28 ?k28 ?a29 ?l29 ?c29 ?k29 ?a30 ?l30 ?c30 ?k30 ?a31 ?l31 ?c31 ?k31 ?a32 ?l32 ?c32 ?k32 ?a33 ?l33 ?c33 ?k33 ?a34 ?l34 ?c34 ?k34 ?a35 ?l35 ?c35 ?k35 ?a36 ?l36 ?c36 ?k36 ?a37 ?l37 ?c37 ?k37 ?a38 ?l38 ?c38 ?k38 ?a39 ?l39 ?c39 ?k39 ?a40 ?l40 ?c40 ?k40 ?z_bool ?z_int ?z_isinstance ?z_len ?z_list ?z_max ?z_range ?z_sorted ?z_str ?z_tuple ?g_MOST_ENTRIES ?aP ?dkP ?klP ?loP ?nAP ?nMP ?nCP ?hcl ?x_n ?x_t ?hmr ?iL ?tL ?sL ?iB ?tB ?sB ?nF ?crd ?cga ?cat ?h_append ?h_mark ?h_cut ?h__perform ?h_log ?h_preview ?h_present ?h_marks ?h_spent ?h_beh ?bf ?bk ?bj ?bs ?bn ?bt ?bo ?n_OverBudget ?t_OverBudget ?k_OverBudget ?b_OverBudget ?g_OverBudget ?a_OverBudget ?d_OverBudget ?v_OverBudget ?x_o ?x_s ?x_p ?o_OverBudget ?e_OverBudget ?f_OverBudget ?u_OverBudget ?w_OverBudget ?j_OverBudget ?s_OverBudget ?h_undo ?hclB ?hmrB ?sBB ?sBL ?nFB ?n_InvalidSize ?t_InvalidSize ?k_InvalidSize ?b_InvalidSize ?q_InvalidSize ?n_InvalidNumber ?t_InvalidNumber ?k_InvalidNumber ?b_InvalidNumber ?q_InvalidNumber ?d_InvalidSize ?s_SO ?s_SS
    (case aCLiveLog => k_is)
    (case pgLiveLog => k_is)
    (case hdLiveLog => k_is)
    (case poLiveLog => k_is)
    (case saLiveLog => k_is)
    (case mkLiveLog => k_is)
    (case kcLiveLog => k_is)
    (case nLiveLog_state => k_is)
    (case nLiveLog_calls => k_is)
    (case aCBudgetLog => k_is)
    (case pgBudgetLog => k_is)
    (case hdBudgetLog => k_is)
    (case poBudgetLog => k_is)
    (case saBudgetLog => k_is)
    (case mkBudgetLog => k_is)
    (case kcBudgetLog => k_is)
    (case nBudgetLog_state => k_is)
    (case nBudgetLog_calls => k_is)
    (case nBudgetLog_budget => k_is)
    (case a0 => k_is)
    (case l0 => k_is)
    (case c0 => k_is)
    (case k0 => k_is)
    (case a1 => k_is)
    (case l1 => k_is)
    (case c1 => k_is)
    (case k1 => k_is)
    (case a2 => k_is)
    (case l2 => k_is)
    (case c2 => k_is)
    (case k2 => k_is)
    (case a3 => k_is)
    (case l3 => k_is)
    (case c3 => k_is)
    (case k3 => k_is)
    (case a4 => k_is)
    (case l4 => k_is)
    (case c4 => k_is)
    (case k4 => k_is)
    (case a5 => k_is)
    (case l5 => k_is)
    (case c5 => k_is)
    (case k5 => k_is)
    (case a6 => k_is)
    (case l6 => k_is)
    (case c6 => k_is)
    (case k6 => k_is)
    (case a7 => k_is)
    (case l7 => k_is)
    (case c7 => k_is)
    (case k7 => k_is)
    (case a8 => k_is)
    (case l8 => k_is)
    (case c8 => k_is)
    (case k8 => k_is)
    (case a9 => k_is)
    (case l9 => k_is)
    (case c9 => k_is)
    (case k9 => k_is)
    (case a10 => k_is)
    (case l10 => k_is)
    (case c10 => k_is)
    (case k10 => k_is)
    (case a11 => k_is)
    (case l11 => k_is)
    (case c11 => k_is)
    (case k11 => k_is)
    (case a12 => k_is)
    (case i12 => k_is)
    (case l12 => k_is)
    (case c12 => k_is)
    (case k12 => k_is)
    (case a13 => k_is)
    (case i13 => k_is)
    (case l13 => k_is)
    (case c13 => k_is)
    (case k13 => k_is)
    (case a14 => k_is)
    (case i14 => k_is)
    (case t14 => k_is)
    (case r14 => k_is)
    (case l14 => k_is)
    (case c14 => k_is)
    (case k14 => k_is)
    (case a15 => k_is)
    (case i15 => k_is)
    (case t15 => k_is)
    (case r15 => k_is)
    (case l15 => k_is)
    (case c15 => k_is)
    (case k15 => k_is)
    (case a16 => k_is)
    (case i16 => k_is)
    (case t16 => k_is)
    (case r16 => k_is)
    (case l16 => k_is)
    (case c16 => k_is)
    (case k16 => k_is)
    (case a17 => k_is)
    (case i17 => k_is)
    (case l17 => k_is)
    (case c17 => k_is)
    (case k17 => k_is)
    (case a18 => k_is)
    (case i18 => k_is)
    (case l18 => k_is)
    (case c18 => k_is)
    (case k18 => k_is)
    (case a19 => k_is)
    (case i19 => k_is)
    (case l19 => k_is)
    (case c19 => k_is)
    (case k19 => k_is)
    (case a20 => k_is)
    (case i20 => k_is)
    (case l20 => k_is)
    (case c20 => k_is)
    (case k20 => k_is)
    (case a21 => k_is)
    (case i21 => k_is)
    (case l21 => k_is)
    (case c21 => k_is)
    (case k21 => k_is)
    (case a22 => k_is)
    (case i22 => k_is)
    (case l22 => k_is)
    (case c22 => k_is)
    (case k22 => k_is)
    (case a23 => k_is)
    (case i23 => k_is)
    (case l23 => k_is)
    (case c23 => k_is)
    (case k23 => k_is)
    (case a24 => k_is)
    (case i24 => k_is)
    (case l24 => k_is)
    (case c24 => k_is)
    (case k24 => k_is)
    (case a25 => k_is)
    (case i25 => k_is)
    (case l25 => k_is)
    (case c25 => k_is)
    (case k25 => k_is)
    (case a26 => k_is)
    (case i26 => k_is)
    (case l26 => k_is)
    (case c26 => k_is)
    (case k26 => k_is)
    (case a27 => k_is)
    (case i27 => k_is)
    (case t27 => k_is)
    (case r27 => k_is)
    (case l27 => k_is)
    (case c27 => k_is)
    (case k27 => k_is)
    (case a28 => k_is)
    (case l28 => k_is)
    (case c28 => k_is)
    (case k28 => k_is)
    (case a29 => k_is)
    (case l29 => k_is)
    (case c29 => k_is)
    (case k29 => k_is)
    (case a30 => k_is)
    (case l30 => k_is)
    (case c30 => k_is)
    (case k30 => k_is)
    (case a31 => k_is)
    (case l31 => k_is)
    (case c31 => k_is)
    (case k31 => k_is)
    (case a32 => k_is)
    (case l32 => k_is)
    (case c32 => k_is)
    (case k32 => k_is)
    (case a33 => k_is)
    (case l33 => k_is)
    (case c33 => k_is)
    (case k33 => k_is)
    (case a34 => k_is)
    (case l34 => k_is)
    (case c34 => k_is)
    (case k34 => k_is)
    (case a35 => k_is)
    (case l35 => k_is)
    (case c35 => k_is)
    (case k35 => k_is)
    (case a36 => k_is)
    (case l36 => k_is)
    (case c36 => k_is)
    (case k36 => k_is)
    (case a37 => k_is)
    (case l37 => k_is)
    (case c37 => k_is)
    (case k37 => k_is)
    (case a38 => k_is)
    (case l38 => k_is)
    (case c38 => k_is)
    (case k38 => k_is)
    (case a39 => k_is)
    (case l39 => k_is)
    (case c39 => k_is)
    (case k39 => k_is)
    (case a40 => k_is)
    (case l40 => k_is)
    (case c40 => k_is)
    (case k40 => k_is)
    (case z_bool => k_is)
    (case z_int => k_is)
    (case z_isinstance => k_is)
    (case z_len => k_is)
    (case z_list => k_is)
    (case z_max => k_is)
    (case z_range => k_is)
    (case z_sorted => k_is)
    (case z_str => k_is)
    (case z_tuple => k_is)
    (case g_MOST_ENTRIES => k_is)
    (case aP => k_is)
    (case dkP => k_is)
    (case klP => k_keys)
    (case loP => decide)
    (case nAP => k_is)
    (case nMP => k_is)
    (case nCP => k_is)
    (case hcl => k_is)
    (case x_n => k_is)
    (case x_t => k_is)
    (case hmr => k_is)
    (case iL => k_is)
    (case tL => k_is)
    (case sL => k_is)
    (case iB => k_is)
    (case tB => k_is)
    (case sB => k_is)
    (case nF => k_is)
    (case crd => k_is)
    (case cga => k_is)
    (case cat => k_is)
    (case h_append => k_is)
    (case h_mark => k_is)
    (case h_cut => k_is)
    (case h__perform => k_is)
    (case h_log => k_is)
    (case h_preview => k_is)
    (case h_present => k_is)
    (case h_marks => k_is)
    (case h_spent => k_is)
    (case h_beh => k_is)
    (case bf => k_is)
    (case bk => k_is)
    (case bj => exact ⟨_, _, _, _, _, _, _, _, _, _, _, _, _, _, _, _, _, _, _, by k_is, by k_is, by k_is, by k_is, by exact rfl, by exact rfl⟩)
    (case bs => kernel_rfl)
    (case bn => k_is)
    (case bt => k_is)
    (case bo => k_is)
    (case n_OverBudget => k_is)
    (case t_OverBudget => k_is)
    (case k_OverBudget => k_is)
    (case b_OverBudget => k_is)
    (case g_OverBudget => k_is)
    (case a_OverBudget => k_is)
    (case d_OverBudget => k_is)
    (case v_OverBudget => k_is)
    (case x_o => k_is)
    (case x_s => k_is)
    (case x_p => rfl)
    (case o_OverBudget => exact ⟨_, _, _, _, _, _, _, _, _, _, _, _, _, _, _, by k_is, by decide +kernel⟩)
    (case e_OverBudget => k_is)
    (case f_OverBudget => k_is)
    (case u_OverBudget => kernel_rfl)
    (case w_OverBudget => k_is)
    (case j_OverBudget => exact ⟨_, _, _, _, _, _, _, _, _, _, _, _, _, _, _, _, _, _, _, _, by k_is, by k_is, by k_is, by k_is, by k_is, by k_is, by exact rfl, by exact rfl⟩)
    (case s_OverBudget => k_is)
    (case h_undo => k_is)
    (case hclB => k_is)
    (case hmrB => k_is)
    (case sBB => k_is)
    (case sBL => k_is)
    (case nFB => k_is)
    (case n_InvalidSize => k_is)
    (case t_InvalidSize => k_is)
    (case k_InvalidSize => k_is)
    (case b_InvalidSize => k_is)
    (case q_InvalidSize => k_exc)
    (case n_InvalidNumber => k_is)
    (case t_InvalidNumber => k_is)
    (case k_InvalidNumber => k_is)
    (case b_InvalidNumber => k_is)
    (case q_InvalidNumber => k_exc)
    (case d_InvalidSize => k_is)
    (case s_SO => k_is)
    (case s_SS => k_is)
