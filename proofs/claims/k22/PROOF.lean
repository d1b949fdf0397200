import PyProof.Rows.All
import Wide.All
import OpenK.AllK
import Wide.FinOn
import HandS.ForMost
import HandS.Wide
import HandS.WideBits
import HandS.IsInst
import HandS.Style
import HandS.Deep
import HandS.RaiseMore
import HandS.Conv
import HandS.Flow
import HandS.SortRule
import HandS.NoneIn
import KE.KDictDisplayH
import HandS.TupLen
import HandS.Walk
import PyProof.ReprRoads
import PyProof.Rows.NestShow
import KE.DataMinMax
import KE.SortData
import PySem.Challenge.RW_logtrees_k22_sums_by_counting_nodes
set_option Elab.async false
set_option linter.all false
set_option maxRecDepth 100000
set_option maxHeartbeats 4000000
namespace LT
/-- the greatest power of two less than m (m from 2) -/
def gp (m : Nat) : Nat := 2 ^ Nat.log2 (m - 1)
theorem gp_pos (m : Nat) : 0 < gp m := Nat.pow_pos (by decide)
theorem gp_lt {m : Nat} (h : 2 ≤ m) : gp m < m := by
  have := Nat.log2_self_le (n := m - 1) (by omega)
  unfold gp; omega
theorem gp_ge {m : Nat} (h : 2 ≤ m) : m ≤ 2 * gp m := by
  have := Nat.lt_log2_self (n := m - 1)
  unfold gp; rw [Nat.pow_succ] at this; omega
theorem pow_eq_of {i j : Nat} {m : Nat} (h1 : 2 ^ i < m) (h2 : m ≤ 2 * 2 ^ i) (h3 : 2 ^ j < m) (h4 : m ≤ 2 * 2 ^ j) : i = j := by
  have a : 2 ^ i < 2 ^ (j + 1) := by rw [Nat.pow_succ]; omega
  have b : 2 ^ j < 2 ^ (i + 1) := by rw [Nat.pow_succ]; omega
  have a' := (Nat.pow_lt_pow_iff_right (by decide : 1 < 2)).mp a
  have b' := (Nat.pow_lt_pow_iff_right (by decide : 1 < 2)).mp b
  omega
theorem gp_eq {i m : Nat} (h1 : 2 ^ i < m) (h2 : m ≤ 2 * 2 ^ i) : gp m = 2 ^ i := by
  have h : 2 ≤ m := by have := Nat.pow_pos (a := 2) (n := i) (by decide); omega
  have := pow_eq_of (gp_lt h) (gp_ge h) h1 h2
  unfold gp; rw [this]
theorem gp_pow (i : Nat) : gp (2 ^ (i + 1)) = 2 ^ i := gp_eq (by rw [Nat.pow_succ]; have := Nat.pow_pos (a := 2) (n := i) (by decide); omega) (by rw [Nat.pow_succ]; omega)

/-- siblings from the root's half down to the leaf's: nodes as (begin, length-end) pairs -/
def sib (b m e : Nat) : List (Nat × Nat) :=
  if h : m ≤ 1 then [] else
    if e < b + gp m then (b + gp m, b + m) :: sib b (gp m) e
    else (b, b + gp m) :: sib (b + gp m) (m - gp m) e
termination_by m
decreasing_by
  · exact gp_lt (by omega)
  · have := gp_pos m; omega
theorem sib_one {b m e : Nat} (h : m ≤ 1) : sib b m e = [] := by rw [sib]; simp [h]
theorem sib_low {b m e : Nat} (h : 2 ≤ m) (k : e < b + gp m) : sib b m e = (b + gp m, b + m) :: sib b (gp m) e := by
  rw [sib]; rw [dif_neg (by omega), if_pos k]
theorem sib_high {b m e : Nat} (h : 2 ≤ m) (k : ¬ e < b + gp m) : sib b m e = (b, b + gp m) :: sib (b + gp m) (m - gp m) e := by
  rw [sib]; rw [dif_neg (by omega), if_neg k]

/-! ### joining up again -/
def join (x y : Nat × Nat) : Nat × Nat := (min x.1 y.1, max x.2 y.2)
/-- the halves of a node -/
def halv (x : Nat × Nat) : (Nat × Nat) × (Nat × Nat) := ((x.1, x.1 + gp (x.2 - x.1)), (x.1 + gp (x.2 - x.1), x.2))
def ok1 (x y : Nat × Nat) : Prop := (join x y).1 + 2 ≤ (join x y).2 ∧ (halv (join x y) = (x, y) ∨ halv (join x y) = (y, x))
def oks : Nat × Nat → List (Nat × Nat) → Prop
  | _, [] => True
  | x, y :: r => ok1 x y ∧ oks (join x y) r
def top : Nat × Nat → List (Nat × Nat) → Nat × Nat
  | x, [] => x
  | x, y :: r => top (join x y) r
theorem oks_append : ∀ (x : Nat × Nat) (l r : List (Nat × Nat)), oks x l → oks (top x l) r → oks x (l ++ r)
  | _, [], _, _, h => h
  | x, y :: l, r, h1, h2 => ⟨h1.1, oks_append (join x y) l r h1.2 h2⟩
theorem top_append : ∀ (x : Nat × Nat) (l r : List (Nat × Nat)), top x (l ++ r) = top (top x l) r
  | _, [], _ => rfl
  | x, y :: l, r => top_append (join x y) l r
theorem sib_up : ∀ (m b e : Nat), b ≤ e → e < b + m → oks (e, e + 1) (sib b m e).reverse ∧ top (e, e + 1) (sib b m e).reverse = (b, b + m) := by
  intro m
  induction m using Nat.strongRecOn with
  | ind m ih =>
    intro b e h1 h2
    by_cases hm : m ≤ 1
    · have : m = 1 := by omega
      subst this
      rw [sib_one (by omega)]
      have : e = b := by omega
      subst this
      exact ⟨True.intro, rfl⟩
    · have g1 := gp_lt (m := m) (by omega)
      have g2 := gp_pos m
      by_cases k : e < b + gp m
      · rw [sib_low (by omega) k, List.reverse_cons]
        obtain ⟨p, q⟩ := ih (gp m) g1 b e h1 k
        have j : join (b, b + gp m) (b + gp m, b + m) = (b, b + m) := by
          unfold join; simp only []; rw [Nat.min_eq_left (by omega), Nat.max_eq_right (by omega)]
        refine ⟨oks_append _ _ _ p ?_, ?_⟩
        · rw [q]
          refine ⟨⟨?_, .inl ?_⟩, True.intro⟩
          · rw [j]; simp only []; omega
          · rw [j]; unfold halv; simp only []; rw [Nat.add_sub_cancel_left]
        · rw [top_append, q]; exact j
      · rw [sib_high (by omega) k, List.reverse_cons]
        obtain ⟨p, q⟩ := ih (m - gp m) (by omega) (b + gp m) e (by omega) (by omega)
        have e2 : b + gp m + (m - gp m) = b + m := by omega
        rw [e2] at q
        have j : join (b + gp m, b + m) (b, b + gp m) = (b, b + m) := by
          unfold join; simp only []; rw [Nat.min_eq_right (by omega), Nat.max_eq_left (by omega)]
        refine ⟨oks_append _ _ _ p ?_, ?_⟩
        · rw [q]
          refine ⟨⟨?_, .inr ?_⟩, True.intro⟩
          · rw [j]; simp only []; omega
          · rw [j]; unfold halv; simp only []; rw [Nat.add_sub_cancel_left]
        · rw [top_append, q]; exact j
theorem sib_len_pow (i : Nat) : ∀ (b e : Nat), b ≤ e → e < b + 2 ^ i → (sib b (2 ^ i) e).length = i := by
  induction i with
  | zero => intro b e h1 h2; rw [sib_one (by simp)]; rfl
  | succ i ih =>
    intro b e h1 h2
    have h3 : 2 ≤ 2 ^ (i + 1) := by rw [Nat.pow_succ]; have := Nat.pow_pos (a := 2) (n := i) (by decide); omega
    have g := gp_pow i
    have e2 : 2 ^ (i + 1) - 2 ^ i = 2 ^ i := by rw [Nat.pow_succ]; omega
    by_cases k : e < b + gp (2 ^ (i + 1))
    · rw [sib_low h3 k, List.length_cons, g, ih b e h1 (by omega)]
    · rw [sib_high h3 k, List.length_cons, g, e2, ih (b + 2 ^ i) e (by omega) (by rw [Nat.pow_succ] at h2; omega)]
/-! ### the peaks by digits: (begin, height) -/
def pk : Nat → Nat → Nat → List (Nat × Nat)
  | 0, _, _ => []
  | i + 1, n, b => if n.testBit i then (b, i) :: pk i n (b + 2 ^ i) else pk i n b
theorem mod_succ (n i : Nat) : n % 2 ^ (i + 1) = (if n.testBit i then 2 ^ i else 0) + n % 2 ^ i := by
  rw [Nat.mod_pow_succ, Nat.testBit_eq_decide_div_mod_eq, Nat.add_comm]
  have h : n / 2 ^ i % 2 = 0 ∨ n / 2 ^ i % 2 = 1 := by omega
  rcases h with h | h <;> rw [h] <;> simp
theorem pk_nil : ∀ (i n b : Nat), n % 2 ^ i = 0 → pk i n b = []
  | 0, _, _, _ => rfl
  | i + 1, n, b, h => by
    rw [mod_succ] at h
    have p := Nat.pow_pos (a := 2) (n := i) (by decide)
    unfold pk
    cases t : n.testBit i with
    | true => rw [t] at h; simp at h
    | false => rw [t] at h; simp at h; simp; exact pk_nil i n b h
theorem pk_ne : ∀ (i n b : Nat), n % 2 ^ i ≠ 0 → pk i n b ≠ []
  | 0, _, _, h => by simp [Nat.mod_one] at h
  | i + 1, n, b, h => by
    rw [mod_succ] at h
    unfold pk
    cases t : n.testBit i with
    | true => simp
    | false => rw [t] at h; simp at h; simp; exact pk_ne i n b (by omega)
theorem pk_begin : ∀ (i n b : Nat) (x : Nat × Nat), x ∈ pk i n b → b ≤ x.1 ∧ x.2 < i
  | 0, _, _, _, h => by simp [pk] at h
  | i + 1, n, b, x, h => by
    unfold pk at h
    cases t : n.testBit i with
    | true =>
      rw [t] at h; simp at h
      rcases h with h | h
      · subst h; exact ⟨Nat.le_refl _, Nat.lt_succ_self _⟩
      · have := pk_begin i n _ x h; have p := Nat.pow_pos (a := 2) (n := i) (by decide); omega
    | false =>
      rw [t] at h; simp at h
      have := pk_begin i n _ x h; omega
/-- what the law says of the levels: s the place of the first row, of t rows in all -/
def lev (t : Nat) : Nat → List (Nat × Nat) → List (Nat × Nat × Nat)
  | _, [] => []
  | s, x :: r => (x.1, x.1 + 2 ^ x.2, x.2 + min (s + 1) (t - 1)) :: lev t (s + 1) r
def due (e : Nat) (l : List (Nat × Nat × Nat)) : List Nat := (l.filter fun x => decide (x.1 ≤ e) && decide (e < x.2.1)).map fun x => x.2.2
theorem due_none (t e : Nat) : ∀ (l : List (Nat × Nat)) (s : Nat), (∀ x ∈ l, e < x.1) → due e (lev t s l) = []
  | [], _, _ => rfl
  | x :: r, s, h => by
    have h1 := h x (List.mem_cons_self)
    have ih := due_none t e r (s + 1) fun y hy => h y (List.mem_cons_of_mem _ hy)
    show List.map _ (List.filter _ ((x.1, x.1 + 2 ^ x.2, x.2 + min (s + 1) (t - 1)) :: lev t (s + 1) r)) = []
    rw [List.filter_cons, if_neg (by simp; omega)]
    exact ih
theorem due_is (n e : Nat) : ∀ (i b s : Nat), b ≤ e → e < b + n % 2 ^ i → due e (lev (s + (pk i n b).length) s (pk i n b)) = [(sib b (n % 2 ^ i) e).length + min s (s + (pk i n b).length - 1)] := by
  intro i
  induction i with
  | zero => intro b s h1 h2; simp [Nat.mod_one] at h2; omega
  | succ i ih =>
    intro b s h1 h2
    have p := Nat.pow_pos (a := 2) (n := i) (by decide)
    have ml := Nat.mod_lt n p
    cases t : n.testBit i with
    | false =>
      have e1 : n % 2 ^ (i + 1) = n % 2 ^ i := by rw [mod_succ, t]; simp
      have e2 : pk (i + 1) n b = pk i n b := by show (if n.testBit i = true then _ else _) = _; rw [t]; simp
      rw [e1] at h2
      rw [e1, e2]; exact ih b s h1 h2
    | true =>
      have e1 : n % 2 ^ (i + 1) = 2 ^ i + n % 2 ^ i := by rw [mod_succ, t]; simp
      have e2 : pk (i + 1) n b = (b, i) :: pk i n (b + 2 ^ i) := by show (if n.testBit i = true then _ else _) = _; rw [t]; simp
      rw [e1] at h2
      rw [e1, e2, List.length_cons]
      by_cases r0 : n % 2 ^ i = 0
      · rw [pk_nil i n _ r0, r0]
        rw [r0] at h2
        rw [Nat.add_zero] at h2
        rw [Nat.add_zero (2 ^ i), sib_len_pow i b e h1 h2]
        show List.map _ (List.filter _ [(b, b + 2 ^ i, i + min (s + 1) (s + (0 + 1) - 1))]) = _
        rw [List.filter_cons, if_pos (by simp; omega)]
        simp
      · have hne : 1 ≤ (pk i n (b + 2 ^ i)).length := by
          have := pk_ne i n (b + 2 ^ i) r0
          cases hh : pk i n (b + 2 ^ i) with
          | nil => exact absurd hh this
          | cons _ _ => rw [List.length_cons]; omega
        have g : gp (2 ^ i + n % 2 ^ i) = 2 ^ i := gp_eq (by omega) (by omega)
        by_cases k : e < b + 2 ^ i
        · rw [sib_low (by omega) (by rw [g]; exact k), g, List.length_cons, sib_len_pow i b e h1 k]
          have d := due_none (s + ((pk i n (b + 2 ^ i)).length + 1)) e (pk i n (b + 2 ^ i)) (s + 1) fun x hx => by have := pk_begin _ _ _ x hx; omega
          show List.map _ (List.filter _ ((b, b + 2 ^ i, i + min (s + 1) (s + ((pk i n (b + 2 ^ i)).length + 1) - 1)) :: lev (s + ((pk i n (b + 2 ^ i)).length + 1)) (s + 1) (pk i n (b + 2 ^ i)))) = _
          rw [List.filter_cons, if_pos (by simp; omega), List.map_cons]
          have d' : List.map (fun x => x.2.2) (List.filter (fun x => decide (x.1 ≤ e) && decide (e < x.2.1)) (lev (s + ((pk i n (b + 2 ^ i)).length + 1)) (s + 1) (pk i n (b + 2 ^ i)))) = [] := d
          rw [d']
          simp
          omega
        · rw [sib_high (by omega) (by rw [g]; exact k), g, List.length_cons, Nat.add_sub_cancel_left]
          have q := ih (b + 2 ^ i) (s + 1) (by omega) (by omega)
          have e3 : s + 1 + (pk i n (b + 2 ^ i)).length = s + ((pk i n (b + 2 ^ i)).length + 1) := by omega
          rw [e3] at q
          show List.map _ (List.filter _ ((b, b + 2 ^ i, i + min (s + 1) (s + ((pk i n (b + 2 ^ i)).length + 1) - 1)) :: lev (s + ((pk i n (b + 2 ^ i)).length + 1)) (s + 1) (pk i n (b + 2 ^ i)))) = _
          rw [List.filter_cons, if_neg (by simp; omega)]
          refine Eq.trans q ?_
          congr 1
          omega
/-! ### which pairs are nodes -/
/-- the bits of m - 1 -/
def lb (m : Nat) : Nat := if m ≤ 1 then 0 else Nat.log2 (m - 1) + 1
theorem lb_le {x i : Nat} (h : x ≤ 2 ^ i) : lb x ≤ i := by
  unfold lb
  by_cases k : x ≤ 1
  · rw [if_pos k]; omega
  · rw [if_neg k]
    have h1 := Nat.log2_self_le (n := x - 1) (by omega)
    have h2 : 2 ^ Nat.log2 (x - 1) < 2 ^ i := by omega
    exact (Nat.pow_lt_pow_iff_right (by decide : 1 < 2)).mp h2
theorem lb_ge (x : Nat) : x ≤ 2 ^ lb x := by
  unfold lb
  by_cases k : x ≤ 1
  · rw [if_pos k]; omega
  · rw [if_neg k]
    have := Nat.lt_log2_self (n := x - 1)
    omega
theorem lb_pow (i : Nat) : lb (2 ^ i) = i := by
  have h1 := lb_le (Nat.le_refl (2 ^ i))
  have h2 := (Nat.pow_le_pow_iff_right (by decide : 1 < 2)).mp (lb_ge (2 ^ i))
  omega
theorem lb_gp {m : Nat} (h : 2 ≤ m) : 2 ^ lb m = 2 * gp m := by
  unfold lb gp; rw [if_neg (by omega), Nat.pow_succ]; omega
def tree (n b m : Nat) : Prop := 2 ^ lb m ∣ b ∧ (m = 2 ^ lb m ∨ b + m = n)
theorem tree_root (n : Nat) : tree n 0 n := ⟨Nat.dvd_zero _, .inr (Nat.zero_add _)⟩
theorem tree_low {n b m : Nat} (h : 2 ≤ m) (t : tree n b m) : tree n b (gp m) := by
  obtain ⟨d, _⟩ := t
  rw [lb_gp h] at d
  have e : 2 ^ lb (gp m) = gp m := by unfold gp; rw [lb_pow]
  exact ⟨by rw [e]; exact Nat.dvd_trans (Nat.dvd_mul_left _ _) d, .inl e.symm⟩
theorem tree_high {n b m : Nat} (h : 2 ≤ m) (t : tree n b m) : tree n (b + gp m) (m - gp m) := by
  obtain ⟨d, k⟩ := t
  rw [lb_gp h] at d k
  have g1 := gp_lt h
  have g2 := gp_ge h
  have dg : 2 ^ lb (m - gp m) ∣ gp m := by
    have : lb (m - gp m) ≤ Nat.log2 (m - 1) := lb_le (by unfold gp at g1 g2 ⊢; omega)
    exact Nat.pow_dvd_pow 2 this
  refine ⟨Nat.dvd_add (Nat.dvd_trans dg (Nat.dvd_trans (Nat.dvd_mul_left _ _) d)) dg, ?_⟩
  rcases k with k | k
  · left
    have e : m - gp m = gp m := by omega
    rw [e]
    unfold gp; rw [lb_pow]
  · right; omega
theorem sib_len_le : ∀ (m b e : Nat), b ≤ e → e < b + m → (sib b m e).length ≤ lb m := by
  intro m
  induction m using Nat.strongRecOn with
  | ind m ih =>
    intro b e h1 h2
    by_cases hm : m ≤ 1
    · rw [sib_one hm]; exact Nat.zero_le _
    · have g1 := gp_lt (m := m) (by omega)
      have g2 := gp_ge (m := m) (by omega)
      have g3 := gp_pos m
      have e1 : lb m = Nat.log2 (m - 1) + 1 := by unfold lb; rw [if_neg hm]
      by_cases k : e < b + gp m
      · rw [sib_low (by omega) k, List.length_cons]
        have := ih (gp m) g1 b e h1 k
        have e2 : lb (gp m) = Nat.log2 (m - 1) := by unfold gp; rw [lb_pow]
        omega
      · rw [sib_high (by omega) k, List.length_cons]
        have := ih (m - gp m) (by omega) (b + gp m) e (by omega) (by omega)
        have e2 : lb (m - gp m) ≤ Nat.log2 (m - 1) := lb_le (by unfold gp at g1 g2 ⊢; omega)
        omega
end LT
namespace LT
open PySem PySem.Spec PyProof.Rows L2
def topS (i : Nat) : Stmt := PySem.Challenge.pw_logtrees_k22_sums_by_counting_nodes.main.body.getD i (.Pass ⟨0, 0, 0, 0⟩)
abbrev sIsWhole : Stmt := topS 6
theorem scIsWhole : FnScope ["value"] ["value"] (defScope sIsWhole) := ⟨rfl, rfl, rfl, by decide +kernel, rfl, by decide +kernel, by decide +kernel⟩
abbrev sIsBetween : Stmt := topS 7
theorem scIsBetween : FnScope ["value", "low", "high"] ["value", "low", "high"] (defScope sIsBetween) := ⟨rfl, rfl, rfl, by decide +kernel, rfl, by decide +kernel, by decide +kernel⟩
abbrev sCheckSize : Stmt := topS 8
theorem scCheckSize : FnScope ["size"] ["size"] (defScope sCheckSize) := ⟨rfl, rfl, rfl, by decide +kernel, rfl, by decide +kernel, by decide +kernel⟩
abbrev sCheckNumberFrom : Stmt := topS 9
theorem scCheckNumberFrom : FnScope ["number", "least"] ["number", "least"] (defScope sCheckNumberFrom) := ⟨rfl, rfl, rfl, by decide +kernel, rfl, by decide +kernel, by decide +kernel⟩
abbrev sCheckNumberBetween : Stmt := topS 10
theorem scCheckNumberBetween : FnScope ["number", "least", "most"] ["number", "least", "most"] (defScope sCheckNumberBetween) := ⟨rfl, rfl, rfl, by decide +kernel, rfl, by decide +kernel, by decide +kernel⟩
abbrev sPowerWithin : Stmt := topS 12
theorem scPowerWithin : FnScope ["number"] ["number"] (defScope sPowerWithin) := ⟨rfl, rfl, rfl, by decide +kernel, rfl, by decide +kernel, by decide +kernel⟩
abbrev sPeaks : Stmt := topS 13
theorem scPeaks : FnScope ["size", "found", "begin", "end"] ["size"] (defScope sPeaks) := ⟨rfl, rfl, rfl, by decide +kernel, rfl, by decide +kernel, by decide +kernel⟩
abbrev sEdges : Stmt := topS 14
theorem scEdges : FnScope ["size", "begin", "_"] ["size"] (defScope sEdges) := ⟨rfl, rfl, rfl, by decide +kernel, rfl, by decide +kernel, by decide +kernel⟩
abbrev sMadeSums : Stmt := topS 16
theorem scMadeSums : FnScope ["size"] ["size"] (defScope sMadeSums) := ⟨rfl, rfl, rfl, by decide +kernel, rfl, by decide +kernel, by decide +kernel⟩
abbrev sAppendSums : Stmt := topS 17
theorem scAppendSums : FnScope ["size", "number"] ["size", "number"] (defScope sAppendSums) := ⟨rfl, rfl, rfl, by decide +kernel, rfl, by decide +kernel, by decide +kernel⟩
abbrev sRootSums : Stmt := topS 18
theorem scRootSums : FnScope ["size"] ["size"] (defScope sRootSums) := ⟨rfl, rfl, rfl, by decide +kernel, rfl, by decide +kernel, by decide +kernel⟩
abbrev sQuotientsSum : Stmt := topS 19
theorem scQuotientsSum : FnScope ["first", "step", "number", "divisor", "total"] ["first", "step", "number", "divisor"] (defScope sQuotientsSum) := ⟨rfl, rfl, rfl, by decide +kernel, rfl, by decide +kernel, by decide +kernel⟩
abbrev sRootsAlong : Stmt := topS 20
theorem scRootsAlong : FnScope ["first", "step", "number", "total", "divisor"] ["first", "step", "number"] (defScope sRootsAlong) := ⟨rfl, rfl, rfl, by decide +kernel, rfl, by decide +kernel, by decide +kernel⟩
abbrev sCheckStretch : Stmt := topS 21
theorem scCheckStretch : FnScope ["low", "high"] ["low", "high"] (defScope sCheckStretch) := ⟨rfl, rfl, rfl, by decide +kernel, rfl, by decide +kernel, by decide +kernel⟩
abbrev sRootsTotal : Stmt := topS 22
theorem scRootsTotal : FnScope ["low", "high"] ["low", "high"] (defScope sRootsTotal) := ⟨rfl, rfl, rfl, by decide +kernel, rfl, by decide +kernel, by decide +kernel⟩
abbrev sRootsBySteps : Stmt := topS 23
theorem scRootsBySteps : FnScope ["size", "step", "number"] ["size", "step", "number"] (defScope sRootsBySteps) := ⟨rfl, rfl, rfl, by decide +kernel, rfl, by decide +kernel, by decide +kernel⟩
abbrev sLawWound : Stmt := topS 25
theorem scLawWound : FnScope ["script", "k", "cell"] ["script", "k"] (defScope sLawWound) := ⟨rfl, rfl, rfl, by decide +kernel, rfl, by decide +kernel, by decide +kernel⟩
abbrev sLawSpin : Stmt := topS 26
theorem scLawSpin : FnScope ["reel", "many", "drawn", "mixed"] ["reel", "many"] (defScope sLawSpin) := ⟨rfl, rfl, rfl, by decide +kernel, rfl, by decide +kernel, by decide +kernel⟩
abbrev sLawBelow : Stmt := topS 27
theorem scLawBelow : FnScope ["most", "found"] ["most"] (defScope sLawBelow) := ⟨rfl, rfl, rfl, by decide +kernel, rfl, by decide +kernel, by decide +kernel⟩
abbrev sLawBuilt : Stmt := topS 28
theorem scLawBuilt : FnScope ["size", "found", "todo", "a", "b", "middle", "half"] ["size"] (defScope sLawBuilt) := ⟨rfl, rfl, rfl, by decide +kernel, rfl, by decide +kernel, by decide +kernel⟩
abbrev sLawCounted : Stmt := topS 29
theorem scLawCounted : FnScope ["size", "found", "a", "b", "kind"] ["size"] (defScope sLawCounted) := ⟨rfl, rfl, rfl, by decide +kernel, rfl, by decide +kernel, by decide +kernel⟩
abbrev sLawRight : Stmt := topS 30
theorem scLawRight : FnScope ["reel", "counts", "size", "more", "low", "high", "step", "number", "due", "turn", "some"] ["reel", "counts"] (defScope sLawRight) := ⟨rfl, rfl, rfl, by decide +kernel, rfl, by decide +kernel, by decide +kernel⟩
abbrev sLaw : Stmt := topS 31
theorem scLaw : FnScope ["script", "counts", "k", "reel", "turn", "told", "size", "some"] ["script"] (defScope sLaw) := ⟨rfl, rfl, rfl, by decide +kernel, rfl, by decide +kernel, by decide +kernel⟩
/-- a def as it stands behind the top -/
structure At (K : PySem.W.Frag) (mg : Str → Option Value) (x : Str) (f : Addr) (fd : FuncData) (ps : List Str) : Prop where
  m : mg x = some (.ref f)
  kp : PySem.W.keepIn K (.ref f) = true
  b : Binds K fd ps []
theorem units1 {k : Nat} {A : Around} (r : Room k A) : A.units + 65 < cLine := by have := r.un; omega
/-- all but b as it was -/
def But (b : Addr) (H H' : Hp) : Prop := ∀ a o, a ≠ b → H a = some o → H' a = some o
theorem But.refl (b : Addr) (H : Hp) : But b H H := fun _ _ _ h => h
theorem But.trans {b : Addr} {H H1 H2 : Hp} (x : But b H H1) (y : But b H1 H2) : But b H H2 := fun a o n h => y a o n (x a o n h)
theorem But.of {b : Addr} {H H1 : Hp} (x : Same H H1) : But b H H1 := fun a o _ h => x a o h
theorem same_upd {H : Hp} {p : Addr} {o : HO} (h : H p = none) : Same H (upd H p o) := fun b x e => by
  rw [upd_ne (ne_of_none e h)]
  exact e
def BagAt (H : Hp) (b : Addr) : Prop := ∃ x y z : Int, H b = some (.lst [.int x, .int y, .int z])
theorem BagAt.same {H H' : Hp} {b : Addr} (h : BagAt H b) (s : Same H H') : BagAt H' b := by
  obtain ⟨x, y, z, e⟩ := h
  exact ⟨x, y, z, s _ _ e⟩
/-- a pair of ints -/
def Nd (H : Hp) (v : V) (x : Nat × Nat) : Prop := ∃ p, v = .ref p ∧ H p = some (.tup [.int x.1, .int x.2])
theorem Nd.same {H H' : Hp} {v : V} {x : Nat × Nat} (h : Nd H v x) (s : Same H H') : Nd H' v x := by
  obtain ⟨p, e, q⟩ := h
  exact ⟨p, e, s _ _ q⟩
theorem Nd.dp {K : PySem.W.Frag} {H : Hp} {v : V} {x : Nat × Nat} (h : Nd H v x) : Dp K H v (.tuple [.int x.1, .int x.2]) := by
  obtain ⟨p, rfl, q⟩ := h
  exact .tup (SqT.of q) (.cons (.int _) (.cons (.int _) .nil))
theorem nd_shaped (a b : Int) : SeqAt.shaped (.tuple [.int a, .int b]) = true := by
  show (PyData.canLay0 _ && decide (PyData.depth _ ≤ 64)) = true
  simp [PyData.canLay0, PyData.canLayAll0, PyData.depth, PyData.depthAll]
theorem nd_eqv (a b c d : Int) : PyData.eqv (.tuple [.int a, .int b]) (.tuple [.int c, .int d]) = (decide (a = c) && decide (b = d)) := by
  have e : PyData.eqv (.tuple [.int a, .int b]) (.tuple [.int c, .int d]) = ((a == c) && ((b == d) && true)) := by simp only [PyData.eqv, PyData.eqvAll]
  rw [e, Bool.and_true]
  by_cases h1 : a = c <;> by_cases h2 : b = d <;> simp [h1, h2]
/-- lists of values and what they stand for -/
inductive All2 {α : Type} (R : V → α → Prop) : List V → List α → Prop
  | nil : All2 R [] []
  | cons {v : V} {x : α} {vs : List V} {xs : List α} : R v x → All2 R vs xs → All2 R (v :: vs) (x :: xs)
section
variable {α : Type} {R R' : V → α → Prop}
theorem All2.mono (f : ∀ v x, R v x → R' v x) : ∀ {vs : List V} {xs : List α}, All2 R vs xs → All2 R' vs xs
  | _, _, .nil => .nil
  | _, _, .cons h t => .cons (f _ _ h) (All2.mono f t)
theorem All2.len : ∀ {vs : List V} {xs : List α}, All2 R vs xs → vs.length = xs.length
  | _, _, .nil => rfl
  | _, _, .cons _ t => by rw [List.length_cons, List.length_cons, All2.len t]
theorem All2.app : ∀ {vs : List V} {xs : List α} {us : List V} {ys : List α}, All2 R vs xs → All2 R us ys → All2 R (vs ++ us) (xs ++ ys)
  | _, _, _, _, .nil, h => h
  | _, _, _, _, .cons h t, k => .cons h (All2.app t k)
theorem All2.rev : ∀ {vs : List V} {xs : List α}, All2 R vs xs → All2 R vs.reverse xs.reverse
  | _, _, .nil => .nil
  | _, _, .cons h t => by
    rw [List.reverse_cons, List.reverse_cons]
    exact All2.app (All2.rev t) (.cons h .nil)
theorem All2.nth : ∀ {vs : List V} {xs : List α} {i : Nat} {v : V}, All2 R vs xs → vs[i]? = some v → ∃ x, xs[i]? = some x ∧ R v x
  | _, _, _, _, .nil, h => by simp at h
  | _, _, 0, _, .cons h t, e => by
    have := Option.some.inj e
    subst this
    exact ⟨_, rfl, h⟩
  | _, _, i + 1, _, .cons h t, e => by
    rw [List.getElem?_cons_succ] at e ⊢
    exact All2.nth t e
theorem All2.nth2 : ∀ {vs : List V} {xs : List α} {i : Nat} {x : α}, All2 R vs xs → xs[i]? = some x → ∃ v, vs[i]? = some v ∧ R v x
  | _, _, _, _, .nil, h => by simp at h
  | _, _, 0, _, .cons h t, e => by
    have := Option.some.inj e
    subst this
    exact ⟨_, rfl, h⟩
  | _, _, i + 1, _, .cons h t, e => by
    rw [List.getElem?_cons_succ] at e ⊢
    exact All2.nth2 t e
end

/-! ### rules within a comprehension: what they say of the written part is said of the def's -/
section
open PySem L2
variable {X : Cx} {s : Shared} {H : Hp} {sc : Scope} {ce : Env} {fp : List Addr}
theorem pg_tupB {es : List Expr} {k : Nat} {pos : Pos} {t : TGs} {n : Nat} (hc : X.calm = true) (h : PGs (X.blk s H sc ce fp) es t)
    (hn : (assignEach es (X.blk s H sc ce fp).env).length = n := by rfl) (hst : (assignEach es (X.blk s H sc ce fp).env).findIdx? (·.1) = none := by rfl) : PG (X.blk s H sc ce fp) (.Tuple es k pos) (gTup X.K n t) := pg_tup hc h hn hst
theorem ix_listB : IxR (X.blk s H sc ce fp) (rIxL X.K) := ix_list
theorem ix_tupB : IxR (X.blk s H sc ce fp) (rIxT X.K) := ix_tup
theorem call_len_seqB : CallR (X.blk s H sc ce fp) (.builtin "len") (fun xs H Q => ∃ p ys, xs = [.ref p] ∧ (SqL X.K H p ys ∨ SqT X.K H p ys) ∧ Q (.int ys.length) H) := call_len_seq
theorem op_eqDB (hu : X.A.units + 64 < cLine) : OpR (X.blk s H sc ce fp) (compareOp .Eq) (rEqD X.K) := op_eqD (X := X.blk s H sc ce fp) hu
theorem op_neDB (hu : X.A.units + 64 < cLine) : OpR (X.blk s H sc ce fp) (compareOp .NotEq) (rNeD X.K) := op_neD (X := X.blk s H sc ce fp) hu
theorem op_inDB (hu : X.A.units + 65 < cLine) : OpR (X.blk s H sc ce fp) (compareOp .In) (rInD X.K) := op_inD (X := X.blk s H sc ce fp) hu
theorem op_notInDB (hu : X.A.units + 65 < cLine) : OpR (X.blk s H sc ce fp) (compareOp .NotIn) (rNotInD X.K) := op_notInD (X := X.blk s H sc ce fp) hu
end
theorem Nd.upd {H : Hp} {v : V} {x : Nat × Nat} {s : Addr} {xs : List V} {o : HO} (h : Nd H v x) (hs : H s = some (.lst xs)) : Nd (upd H s o) v x := by
  obtain ⟨p, e, q⟩ := h
  exact ⟨p, e, by rw [upd_ne (ne_of q hs (by intro z; cases z))]; exact q⟩
def full (x : Nat × Nat) : Nat × Nat := (x.1, x.1 + 2 ^ x.2)
theorem pk_len : ∀ (i n b : Nat), (pk i n b).length ≤ i
  | 0, _, _ => Nat.le_refl _
  | i + 1, n, b => by
    show (if n.testBit i = true then (b, i) :: pk i n (b + 2 ^ i) else pk i n b).length ≤ i + 1
    by_cases t : n.testBit i = true
    · rw [if_pos t, List.length_cons]
      exact Nat.succ_le_succ (pk_len i n _)
    · rw [if_neg t]
      exact Nat.le_succ_of_le (pk_len i n b)
theorem take_more {α : Type} : ∀ {l : List α} {i : Nat} {x : α}, l[i]? = some x → l.take (i + 1) = l.take i ++ [x]
  | [], i, x, h => by simp at h
  | a :: l, 0, x, h => by
    have e : a = x := Option.some.inj h
    subst e
    rfl
  | a :: l, i + 1, x, h => by
    have ih := take_more (l := l) (i := i) (x := x) h
    show a :: l.take (i + 1) = a :: l.take i ++ [x]
    rw [ih]
    rfl
theorem szle {n : Nat} (h : n ≤ 100000) : n ≤ sizeLine := Nat.le_trans h (by decide)
theorem szlt {n : Nat} (h : n < 100000) : n < sizeLine := Nat.lt_of_lt_of_le h (by decide)
end LT

namespace LT
open PySem PySem.Spec PyProof.Rows L2
/-- {k: v} whose key is a tuple; the new dict stands empty while the pair is made -/
def tDisp1T (tk tv : TE) : TE := fun σ H Q => ∀ p, H p = none → tk σ (upd H p (.dT [])) fun x H1 => tv σ H1 fun y H2 => ∃ (kt : List L2.Key) (b : Addr), x = .ref b ∧ H2 b = some (.tup (kt.map kV)) ∧ H2 p = some (.dT []) ∧ Q (.ref p) (upd H2 p (.dT [(kt, y)]))
theorem pe_disp1T {X : Cx} {pos : Pos} {k v : Expr} {tk tv : TE} (hu : X.A.units + 1 < cLine) (hk : PE X k tk) (hv : PE X v tv) : PE X (.Dict [some k] [v] pos) (tDisp1T tk tv) := by
  refine ⟨fun pins s σ H Q I q => ?_⟩
  have hn := I.hok.fresh (Nat.le_refl s.heap.objs.size)
  have I1 := I.laid (a := s.heap.objs.size) (o := .dT []) (h' := s.heap.push { cls := .type "dict", data := .dict #[] }) (t' := s.toks) (fun _ _ q => Heap.get?_push_of_some _ q) (Nat.le_refl _) (dt_empty s.heap I.big)
  have hl := pairTrees_length [some k] [v] X.env pos rfl rfl
  have h0 : pairTrees [some k] [v] X.env pos ≠ [] := fun z => by rw [z] at hl; cases hl
  rw [arm_eval_Dict, zip_pairTrees [some k] [v] X.env pos rfl rfl, dictDisplay_pairs (pairTrees [some k] [v] X.env pos) h0 (by rw [hl]; exact (by decide : (1:Nat) < 17))]
  refine wpAny_bind (wpAny_standAt (wpAny_bind (wpAny_subDictH (knd := tupleKind (mixKind X.prog X.w)) (show X.A.units < cLine by omega) (by rw [hl]; show 1 ≤ 15; omega) ?_)))
  refine pairTrees_cons_walk (thn (hk.run pins _ σ _ _ I1 (q _ hn)) fun u s1 ⟨x, H1, I1', rx, q1⟩ => thn (hv.run pins s1 σ H1 _ I1' q1) fun w2 s2 ⟨y, H2, I2, ry, kt, b, ex, eb, e, q2⟩ => pairTrees_nil_walk ?_)
  subst ex
  cases (show u = Value.ref b from rx)
  obtain ⟨z, hd, xs, rel, dd⟩ := dt_of I2.hok e
  cases rel
  refine ⟨[(kt, b, w2)], ⟨rfl, rfl, key_of I2.hok eb, trivial⟩, dd, fun h' tk' dd' hs => wpAny_pure ⟨.ref s.heap.objs.size, _, ?_, rfl, q2⟩⟩
  obtain ⟨ob, es, ep, hq, h2, h3, h4, _, h5⟩ := dd'
  refine d_write I2 (by rw [e]; exact True.intro) hs ⟨ob, hq⟩ ⟨(by show 1 ≤ sizeLine; decide), hd, [(kt, b, w2)], .cons ⟨rfl, ?_, ry⟩ .nil, ob, es, ep, hq, h2, h3, h4, h5⟩
  rw [upd_ne (ne_of eb e (fun z => nomatch z))]
  exact eb
/-- for over the keys of a dict that the walked expression makes: it is locked behind the making, and stays so -/
def iKeysNew (td : TE) : TI := fun σ H R => td σ H fun x H1 => ∃ d ws, x = .ref d ∧ H1 d = some (.dT ws) ∧ ∀ od, R (Itkt d od ws) (upd H1 d (.frz od (.dT ws)))
theorem pi_keysNew {X : Cx} {tg e : Expr} {td : TE} (he : PE X e td) : PI X tg e (iKeysNew td) := by
  refine ⟨fun pins s σ H R I h => ?_⟩
  refine thn (he.run pins s σ H _ I h) fun u s1 ⟨x, H1, I1, rx, d, ws, ex, hd, q⟩ => ?_
  subst ex
  obtain rfl : u = Value.ref d := rx
  obtain ⟨od, I2⟩ := I1.lock hd trivial
  have hd2 : (upd H1 d (.frz od (.dT ws))) d = some (.frz od (.dT ws)) := upd_same
  obtain ⟨hs, hgd, hx, es, ep, hdt, hsz, ent⟩ := I2.frzT hd2
  refine iter_keys hs hgd hx hdt (pi_one (tk := s1.toks) I2 _ (turn_keysT _ hdt) ⟨_, Heap.get?_push_size _ rfl, rfl, ?_⟩ (q od))
  rw [hsz] <;> rfl
end LT

namespace LT
open PySem PySem.Spec PyProof.Rows L2
section
variable {P : Program} {w : World} {K : PySem.W.Frag} {mg : Str → Option Value} {base : Heap}
def spWhole : Sp := fun vs H Q _ => ∃ i : Int, vs = [.int i] ∧ Q (.bl true) H
theorem ok_is_whole {f : Addr} {fd : FuncData} (F : Fun K "is_whole" "is_whole" sIsWhole f fd) (z_isinstance : mg "isinstance" = none) (z_int : mg "int" = none) (z_bool : mg "bool" = none) : FnOk P w K mg base CX0 1 f fd ["value"] spWhole := by
  refine F.ok scIsWhole (fun vs H Q E h => ?_) (fun cdv A outer s H vs Q E hr h => ?_)
  · obtain ⟨i, rfl, _⟩ := h
    rfl
  obtain ⟨i, rfl, q⟩ := h
  refine ⟨_, (pss_one (ps_ret (pe_and (pe_callB call_isi (by rfl) z_isinstance (by decide +kernel) (pa_cons (pv 0) (pa_cons (pe_bltn (v := .ty "int") (u := .type "int") (by rfl) z_int (by decide +kernel) rfl) pa_nil))) (pe_one (pe_not (pe_callB call_isi (by rfl) z_isinstance (by decide +kernel) (pa_cons (pv 0) (pa_cons (pe_bltn (v := .ty "bool") (u := .type "bool") (by rfl) z_bool (by decide +kernel) rfl) pa_nil)))))))), ?_⟩
  refine ⟨_, rfl, _, _, _, _, true, rfl, .ty "int", .base (.int i), kit_ty (by decide +kernel), true, rfl, ?_⟩
  refine ⟨_, rfl, _, _, _, _, false, rfl, .ty "bool", .base (.int i), kit_ty (by decide +kernel), false, rfl, ?_⟩
  exact q
def spBetween : Sp := fun vs H Q _ => ∃ v lo hi : Int, vs = [.int v, .int lo, .int hi] ∧ Q (.bl (decide (lo ≤ v) && decide (v ≤ hi))) H
theorem ok_is_between {f g : Addr} {fd gd : FuncData} (F : Fun K "is_between" "is_between" sIsBetween f fd) (GIsWhole : FnOk P w K mg base CX0 1 g gd ["value"] spWhole) (AIsWhole : At K mg "is_whole" g gd ["value"]) : FnOk P w K mg base CX0 2 f fd ["value", "low", "high"] spBetween := by
  refine F.ok scIsBetween (fun vs H Q E h => ?_) (fun cdv A outer s H vs Q E hr h => ?_)
  · obtain ⟨i, _, _, rfl, _⟩ := h
    rfl
  obtain ⟨v, lo, hi, rfl, q⟩ := h
  refine ⟨_, (pss_one (ps_ret (pe_and (pe_call GIsWhole (hr.mono (by decide)) rfl AIsWhole.m AIsWhole.kp AIsWhole.b .nil pass0 (pa_cons (pv 0) pa_nil)) (pe_one (pe_chain op_le op_le (pv 1) (pv 0) (pv 2)))))), ?_⟩
  refine ⟨_, rfl, v, rfl, true, rfl, ?_⟩
  refine ⟨_, rfl, _, rfl, _, _, rfl, rfl, _, rfl, ?_⟩
  by_cases h1 : lo ≤ v
  · rw [decide_eq_true h1] at q ⊢
    exact ⟨_, rfl, _, _, rfl, rfl, q⟩
  · rw [decide_eq_false h1] at q ⊢
    exact q
def spCheckSize : Sp := fun vs H Q _ => ∃ n : Int, vs = [.int n] ∧ 1 ≤ n ∧ n ≤ 10 ^ 30 ∧ Q .non H
theorem ok_check_size {f g : Addr} {fd gd : FuncData} {t : Tok} (F : Fun K "check_size" "check_size" sCheckSize f fd) (GIsBetween : FnOk P w K mg base CX0 2 g gd ["value", "low", "high"] spBetween) (AIsBetween : At K mg "is_between" g gd ["value", "low", "high"]) (g_MOST_ENTRIES : mg "MOST_ENTRIES" = some (.int 1000000000000000000000000000000 t)) : FnOk P w K mg base CX0 3 f fd ["size"] spCheckSize := by
  refine F.ok scCheckSize (fun vs H Q E h => ?_) (fun cdv A outer s H vs Q E hr h => ?_)
  · obtain ⟨i, rfl, _⟩ := h
    rfl
  obtain ⟨n, rfl, h1, h2, q⟩ := h
  refine ⟨_, (pss_one (ps_if (pt_not (pt_val (pe_call GIsBetween (hr.mono (by decide)) rfl AIsBetween.m AIsBetween.kp AIsBetween.b .nil pass0 (pa_cons (pv 0) (pa_cons pe_int (pa_cons (pe_glob (v := .int 1000000000000000000000000000000) rfl g_MOST_ENTRIES ⟨_, rfl⟩) pa_nil))))))
    (pss_one ps_never)
    pss_nil)), ?_⟩
  refine ⟨_, rfl, n, 1, 1000000000000000000000000000000, rfl, _, rfl, ?_⟩
  rw [decide_eq_true h1, decide_eq_true (show n ≤ 1000000000000000000000000000000 from h2)]
  exact q
end
end LT

namespace LT
/-- the nodes from (b, b + m) down, as the law lists them -/
def nodesF : Nat → Nat → Nat → List (Nat × Nat)
  | 0, _, _ => []
  | i + 1, b, m => if m ≤ 1 then [(b, b + m)] else (b, b + m) :: (nodesF i b (gp m) ++ nodesF i (b + gp m) (m - gp m))
theorem nodesF_one {i b m : Nat} (h : m ≤ 1) : nodesF (i + 1) b m = [(b, b + m)] := if_pos h
theorem nodesF_two {i b m : Nat} (h : ¬ m ≤ 1) : nodesF (i + 1) b m = (b, b + m) :: (nodesF i b (gp m) ++ nodesF i (b + gp m) (m - gp m)) := if_neg h
theorem gp_half {i m : Nat} (h : 2 ≤ m) (k : 2 * m ≤ 2 ^ (i + 1)) : 2 * gp m ≤ 2 ^ i ∧ 2 * (m - gp m) ≤ 2 ^ i := by
  have g1 := gp_lt h
  have g2 := gp_ge h
  have p := Nat.pow_succ (n := 2) (m := i)
  have : gp m < 2 ^ i := by omega
  unfold gp at this ⊢
  have e := (Nat.pow_lt_pow_iff_right (by decide : 1 < 2)).mp this
  have e2 : 2 ^ ((m - 1).log2 + 1) ≤ 2 ^ i := Nat.pow_le_pow_right (by decide) (by omega)
  rw [Nat.pow_succ] at e2
  unfold gp at g1 g2
  omega
theorem nodesF_len : ∀ (i b m : Nat), 1 ≤ m → 2 * m ≤ 2 ^ i → (nodesF i b m).length = 2 * m - 1
  | 0, b, m, h1, h2 => by simp at h2; omega
  | i + 1, b, m, h1, h2 => by
    by_cases c : m ≤ 1
    · rw [nodesF_one c]
      simp
      omega
    · rw [nodesF_two c, List.length_cons, List.length_append]
      have g1 := gp_lt (m := m) (by omega)
      have g3 := gp_pos m
      obtain ⟨k1, k2⟩ := gp_half (by omega) h2
      rw [nodesF_len i b (gp m) g3 k1, nodesF_len i (b + gp m) (m - gp m) (by omega) k2]
      omega
/-- a node of tree(n) -/
def isN (n : Nat) (x : Nat × Nat) : Prop := x.1 < x.2 ∧ x.2 ≤ n ∧ tree n x.1 (x.2 - x.1)
theorem mul_le_of_lt {R a b : Nat} (h1 : R ∣ a) (h2 : R ∣ b) (h : a < b) : a + R ≤ b := by
  obtain ⟨x, rfl⟩ := h1
  obtain ⟨y, rfl⟩ := h2
  have : x < y := Nat.lt_of_mul_lt_mul_left h
  calc R * x + R = R * (x + 1) := by rw [Nat.mul_succ]
    _ ≤ R * y := Nat.mul_le_mul_left R this
/-- a node within another one is it, or lies within one of its halves -/
theorem node_in {n b m : Nat} (h : 2 ≤ m) (t : tree n b m) (hn : b + m ≤ n) {x : Nat × Nat} (hx : isN n x) (h1 : b ≤ x.1) (h2 : x.2 ≤ b + m) : x = (b, b + m) ∨ x.2 ≤ b + gp m ∨ b + gp m ≤ x.1 := by
  obtain ⟨x1, x2⟩ := x
  obtain ⟨k1, k2, d, k3⟩ := hx
  simp only at k1 k2 d k3 h1 h2
  by_cases c1 : x2 ≤ b + gp m
  · exact .inr (.inl c1)
  by_cases c2 : b + gp m ≤ x1
  · exact .inr (.inr c2)
  left
  obtain ⟨td, tk⟩ := t
  have e := lb_gp h
  rw [e] at td tk
  have g1 := gp_lt h
  have g2 := gp_ge h
  have gR : gp m = 2 ^ Nat.log2 (m - 1) := rfl
  generalize hr : lb (x2 - x1) = r at d k3
  have ge := lb_ge (x2 - x1)
  rw [hr] at ge
  by_cases c : r ≤ Nat.log2 (m - 1)
  · -- small: a multiple of 2 ^ r below b + gp m ends there at most
    have dg : 2 ^ r ∣ gp m := by rw [gR]; exact Nat.pow_dvd_pow 2 c
    have db : 2 ^ r ∣ b := Nat.dvd_trans dg (Nat.dvd_trans (Nat.dvd_mul_left _ _) td)
    have := mul_le_of_lt d (Nat.dvd_add db dg) (by omega : x1 < b + gp m)
    omega
  · have dd : 2 * gp m ∣ 2 ^ r := by
      rw [gR, Nat.mul_comm, ← Nat.pow_succ]
      exact Nat.pow_dvd_pow 2 (by omega)
    have dx := Nat.dvd_trans dd d
    have ex : x1 = b := by
      by_cases z : b < x1
      · have := mul_le_of_lt td dx z
        omega
      · omega
    subst ex
    have le : 2 * gp m ≤ 2 ^ r := Nat.le_of_dvd (Nat.pow_pos (by decide)) dd
    have rl : r ≤ Nat.log2 (m - 1) + 1 := by
      rw [← hr]
      refine lb_le ?_
      rw [Nat.pow_succ, ← gR]
      omega
    have e2 : 2 ^ r ≤ 2 * gp m := by
      rw [gR, Nat.mul_comm, ← Nat.pow_succ]
      exact Nat.pow_le_pow_right (by decide) rl
    have : x2 = x1 + m := by
      rcases k3 with k3 | k3 <;> omega
    rw [this]
theorem mem_nodesF (n : Nat) (x : Nat × Nat) : ∀ (i b m : Nat), 1 ≤ m → 2 * m ≤ 2 ^ i → tree n b m → b + m ≤ n → (x ∈ nodesF i b m ↔ isN n x ∧ b ≤ x.1 ∧ x.2 ≤ b + m)
  | 0, b, m, h1, h2, _, _ => by simp at h2; omega
  | i + 1, b, m, h1, h2, t, hn => by
    by_cases c : m ≤ 1
    · have em : m = 1 := by omega
      subst em
      rw [nodesF_one (by omega), List.mem_singleton]
      constructor
      · rintro rfl
        exact ⟨⟨by simp, by simpa using hn, by simpa using t⟩, by simp, by simp⟩
      · rintro ⟨⟨k1, _⟩, k2, k3⟩
        have : x.1 = b ∧ x.2 = b + 1 := by omega
        exact Prod.ext this.1 this.2
    · rw [nodesF_two c, List.mem_cons, List.mem_append]
      have g1 := gp_lt (m := m) (by omega)
      have g3 := gp_pos m
      obtain ⟨k1, k2⟩ := gp_half (by omega) h2
      have e : b + gp m + (m - gp m) = b + m := by omega
      have il := mem_nodesF n x i b (gp m) g3 k1 (tree_low (by omega) t) (by omega)
      have ih := mem_nodesF n x i (b + gp m) (m - gp m) (by omega) k2 (tree_high (by omega) t) (by omega)
      rw [il, ih, e]
      constructor
      · rintro (rfl | ⟨p, q, r⟩ | ⟨p, q, r⟩)
        · exact ⟨⟨by simp; omega, by simpa using hn, by simpa using t⟩, by simp, by simp⟩
        · exact ⟨p, q, by omega⟩
        · exact ⟨p, by omega, r⟩
      · rintro ⟨p, q, r⟩
        rcases node_in (by omega) t hn p q r with z | z | z
        · exact .inl z
        · exact .inr (.inl ⟨p, q, z⟩)
        · exact .inr (.inr ⟨p, z, r⟩)
instance (n : Nat) (x : Nat × Nat) : Decidable (tree n x.1 (x.2 - x.1)) := by unfold tree; infer_instance
instance (n : Nat) (x : Nat × Nat) : Decidable (isN n x) := by unfold isN; infer_instance
end LT

namespace LT
open PySem PySem.Spec PyProof.Rows L2
section
variable {P : Program} {w : World} {K : PySem.W.Frag} {mg : Str → Option Value} {base : Heap}
def spBelow : Sp := fun vs H Q _ => ∃ (m : Nat), vs = [.int m] ∧ 2 ≤ m ∧ Q (.int (gp m)) H
theorem ok_law_below {f : Addr} {fd : FuncData} (F : Fun K "_law_below" "_law_below" sLawBelow f fd) : FnOk P w K mg base CX0 1 f fd ["most"] spBelow := by
  refine F.ok scLawBelow (fun vs H Q E h => ?_) (fun cdv A outer s H vs Q E hr h => ?_)
  · obtain ⟨_, rfl, _⟩ := h
    rfl
  obtain ⟨y, rfl, hy, q⟩ := h
  refine ⟨_, (pss_cons (ps_set (i := 1) scLawBelow.nd rfl (Or.inl rfl) pe_int)
    (pss_cons (ps_while PassesOwn.never (pt_cmpR op_lt (pe_op op_mul pe_int (pv 1)) (pv 0) (nomark _))
    (pss_one (ps_set (i := 1) scLawBelow.nd rfl (Or.inl rfl) (pe_op op_mul pe_int (pv 1)))))
    (pss_one (ps_ret (pv 1))))), ?_⟩
  refine ⟨fun mu σ H' => ∃ j : Nat, σ = [some (.int (y : Int)), some (.int ((2 ^ j : Nat) : Int))] ∧ H' = H ∧ 2 ^ j < y ∧ mu = y - 2 ^ j, ⟨y - 1, 0, rfl, rfl, by simp; omega, by simp⟩, ?_⟩
  rintro m σ H1 ⟨j, rfl, rfl, hj, rfl⟩
  refine ⟨_, rfl, _, _, rfl, rfl, .inl ⟨by decide, by decide⟩, _, rfl, _, _, rfl, rfl, _, rfl, ite2 (fun c => ?_) (fun c => ?_)⟩
  · have c1 : 2 * ((2 ^ j : Nat) : Int) < (y : Int) := of_decide_eq_true c
    have pj : 0 < 2 ^ j := Nat.pow_pos (by decide)
    refine ⟨_, fun σ' H' h => h, _, rfl, _, _, rfl, rfl, .inl ⟨by decide, by decide⟩, ?_⟩
    refine ⟨y - 2 ^ (j + 1), by rw [Nat.pow_succ]; omega, j + 1, ?_, rfl, by rw [Nat.pow_succ]; omega, rfl⟩
    have e : (2 : Int) * ((2 ^ j : Nat) : Int) = ((2 ^ (j + 1) : Nat) : Int) := by rw [Nat.pow_succ]; omega
    rw [← e]
    rfl
  · have c1 : ¬ 2 * ((2 ^ j : Nat) : Int) < (y : Int) := of_decide_eq_false (Bool.eq_false_iff.mpr c)
    have g : gp y = 2 ^ j := gp_eq hj (by omega)
    rw [g] at q
    exact ⟨_, rfl, q⟩
end
end LT

namespace LT
theorem nodesF_fuel : ∀ (i b m : Nat), 1 ≤ m → 2 * m ≤ 2 ^ i → nodesF (i + 1) b m = nodesF i b m
  | 0, _, m, h1, h2 => by simp at h2; omega
  | i + 1, b, m, h1, h2 => by
    by_cases c : m ≤ 1
    · rw [nodesF_one c, nodesF_one c]
    · have g1 := gp_lt (m := m) (by omega)
      have g3 := gp_pos m
      obtain ⟨k1, k2⟩ := gp_half (by omega) h2
      rw [nodesF_two c, nodesF_two c, nodesF_fuel i b (gp m) g3 k1, nodesF_fuel i (b + gp m) (m - gp m) (by omega) k2]
/-- what lies below a node -/
def below (x : Nat × Nat) : List (Nat × Nat) := (nodesF 8 x.1 (x.2 - x.1)).tail
theorem nodes_below {b m : Nat} (h1 : 1 ≤ m) : nodesF 8 b m = (b, b + m) :: below (b, b + m) := by
  unfold below
  rw [show (b, b + m).2 - (b, b + m).1 = m from by simp]
  by_cases c : m ≤ 1
  · rw [nodesF_one c]; rfl
  · rw [nodesF_two c]; rfl
theorem below_one {b m : Nat} (h : m ≤ 1) : below (b, b + m) = [] := by
  unfold below
  rw [show (b, b + m).2 - (b, b + m).1 = m from by simp, nodesF_one h]
  rfl
theorem below_two {b m : Nat} (h : 2 ≤ m) (h2 : m ≤ 70) : below (b, b + m) = (b, b + gp m) :: below (b, b + gp m) ++ ((b + gp m, b + m) :: below (b + gp m, b + m)) := by
  have g1 := gp_lt (m := m) h
  have g3 := gp_pos m
  obtain ⟨k1, k2⟩ := gp_half (i := 7) h (by omega)
  have e1 : nodesF 7 b (gp m) = nodesF 8 b (gp m) := (nodesF_fuel 7 b (gp m) g3 k1).symm
  have e2 : nodesF 7 (b + gp m) (m - gp m) = nodesF 8 (b + gp m) (m - gp m) := (nodesF_fuel 7 (b + gp m) (m - gp m) (by omega) k2).symm
  have e3 : b + gp m + (m - gp m) = b + m := by omega
  have n1 := nodes_below (b := b) (m := gp m) g3
  have n2 := nodes_below (b := b + gp m) (m := m - gp m) (by omega)
  rw [e3] at n2
  rw [← n1, ← n2, ← e1, ← e2]
  show (nodesF 8 b (b + m - b)).tail = _
  rw [show b + m - b = m from by omega, nodesF_two (by omega)]
  rfl
/-- keys and what lies below the nodes to do are all nodes -/
def Inv22 (n : Nat) (ks todo : List (Nat × Nat)) : Prop := List.Perm (ks ++ todo.flatMap below) (nodesF 8 0 n)
theorem inv22_start {n : Nat} (h : 1 ≤ n) : Inv22 n [(0, n)] [(0, n)] := by
  unfold Inv22
  have e := nodes_below (b := 0) (m := n) h
  rw [Nat.zero_add] at e
  rw [e]
  simp
theorem inv22_leaf {n : Nat} {ks todo : List (Nat × Nat)} {b m : Nat} (h : m ≤ 1) (I : Inv22 n ks (todo ++ [(b, b + m)])) : Inv22 n ks todo := by
  unfold Inv22 at *
  rw [List.flatMap_append, List.flatMap_cons, List.flatMap_nil, below_one h] at I
  simpa using I
theorem inv22_two {n : Nat} {ks todo : List (Nat × Nat)} {b m : Nat} (h : 2 ≤ m) (h2 : m ≤ 70) (I : Inv22 n ks (todo ++ [(b, b + m)])) :
    Inv22 n (ks ++ [(b, b + gp m)] ++ [(b + gp m, b + m)]) (todo ++ [(b, b + gp m)] ++ [(b + gp m, b + m)]) := by
  unfold Inv22 at *
  refine List.Perm.trans (List.perm_iff_count.mpr fun x => ?_) I
  simp only [List.flatMap_append, List.flatMap_cons, List.flatMap_nil, List.append_nil, below_two h h2, List.count_append, List.count_cons, List.count_nil]
  omega
theorem nodes_in3 : ∀ (i b m : Nat) (x : Nat × Nat), 1 ≤ m → x ∈ nodesF i b m → b ≤ x.1 ∧ x.1 < x.2 ∧ x.2 ≤ b + m
  | 0, _, _, _, _, h => by simp [nodesF] at h
  | i + 1, b, m, x, h1, h => by
    by_cases c : m ≤ 1
    · rw [nodesF_one c, List.mem_singleton] at h
      subst h
      exact ⟨Nat.le_refl _, by show b < b + m; omega, Nat.le_refl _⟩
    · rw [nodesF_two c, List.mem_cons, List.mem_append] at h
      have g1 := gp_lt (m := m) (by omega)
      have g3 := gp_pos m
      rcases h with h | h | h
      · subst h; exact ⟨Nat.le_refl _, by show b < b + m; omega, Nat.le_refl _⟩
      · have := nodes_in3 i b (gp m) x g3 h
        omega
      · have := nodes_in3 i (b + gp m) (m - gp m) x (by omega) h
        omega
/-- every key is new -/
theorem nodesF_nodup : ∀ (i b m : Nat), 1 ≤ m → (nodesF i b m).Nodup
  | 0, _, _, _ => List.nodup_nil
  | i + 1, b, m, h => by
    by_cases c : m ≤ 1
    · rw [nodesF_one c]; simp
    · have g1 := gp_lt (m := m) (by omega)
      have g3 := gp_pos m
      rw [nodesF_two c, List.nodup_cons, List.nodup_append]
      refine ⟨fun z => ?_, nodesF_nodup i b (gp m) g3, nodesF_nodup i (b + gp m) (m - gp m) (by omega), fun x hx y hy z => ?_⟩
      · rcases List.mem_append.mp z with z | z
        · have := nodes_in3 i b (gp m) _ g3 z; simp at this; omega
        · have := nodes_in3 i (b + gp m) (m - gp m) _ (by omega) z; simp at this; omega
      · subst z
        have a := nodes_in3 i b (gp m) _ g3 hx
        have b' := nodes_in3 i (b + gp m) (m - gp m) _ (by omega) hy
        omega
theorem inv22_new {n : Nat} (hn : 1 ≤ n) {ks todo : List (Nat × Nat)} (I : Inv22 n ks todo) {x : Nat × Nat} (h : x ∈ todo.flatMap below) : x ∉ ks := by
  have nd : (ks ++ todo.flatMap below).Nodup := I.nodup_iff.mpr (nodesF_nodup 8 0 n hn)
  exact fun z => (List.nodup_append.mp nd).2.2 x z x h rfl
end LT

namespace LT
open PySem PySem.Spec PyProof.Rows L2
/-! ### lists of ints as data -/
theorem ints_lay : ∀ ns : List Int, PyData.canLayAll0 (ns.map PyData.int) = true
  | [] => by simp [PyData.canLayAll0]
  | n :: ns => by simp [PyData.canLayAll0, PyData.canLay0, ints_lay ns]
theorem ints_depth : ∀ ns : List Int, PyData.depthAll (ns.map PyData.int) ≤ 1
  | [] => by simp [PyData.depthAll]
  | n :: ns => by
    have := ints_depth ns
    simp only [List.map_cons, PyData.depthAll, PyData.depth]
    omega
theorem ints_shaped (ns : List Int) : SeqAt.shaped (.list (ns.map PyData.int)) = true := by
  have h := ints_depth ns
  have h2 : PyData.depth (.list (ns.map PyData.int)) ≤ 64 := by
    simp only [PyData.depth]
    omega
  show (PyData.canLay0 (.list (ns.map PyData.int)) && decide (PyData.depth (.list (ns.map PyData.int)) ≤ 64)) = true
  rw [Bool.and_eq_true]
  exact ⟨by simp only [PyData.canLay0]; exact ints_lay ns, decide_eq_true h2⟩
theorem ints_dp {K : PySem.W.Frag} {H : Hp} : ∀ ns : List Int, DpAll K H (ns.map V.int) (ns.map PyData.int)
  | [] => .nil
  | n :: ns => .cons (.int n) (ints_dp ns)
theorem ints_nil : ∀ ns : List Int, PyData.eqv (.list (ns.map PyData.int)) (.list []) = ns.isEmpty
  | [] => by simp only [List.map_nil, PyData.eqv, PyData.eqvAll, List.isEmpty_nil]
  | n :: ns => by simp only [List.map_cons, PyData.eqv, PyData.eqvAll, List.isEmpty_cons]
theorem nil_shaped : SeqAt.shaped (.list []) = true := ints_shaped []
end LT

namespace LT
open PySem PySem.Spec PyProof.Rows L2
def nd (x : Nat × Nat) : PyData := .tuple [.int x.1, .int x.2]
theorem nds_lay : ∀ l : List (Nat × Nat), PyData.canLayAll0 (l.map nd) = true
  | [] => by simp [PyData.canLayAll0]
  | x :: l => by simp [PyData.canLayAll0, nd, PyData.canLay0, nds_lay l]
theorem nds_depth : ∀ l : List (Nat × Nat), PyData.depthAll (l.map nd) ≤ 2
  | [] => by simp [PyData.depthAll]
  | x :: l => by
    have := nds_depth l
    simp only [List.map_cons, PyData.depthAll, nd, PyData.depth]
    omega
theorem nds_shaped (l : List (Nat × Nat)) : SeqAt.shaped (.list (l.map nd)) = true := by
  have h := nds_depth l
  have h2 : PyData.depth (.list (l.map nd)) ≤ 64 := by
    simp only [PyData.depth]
    omega
  show (PyData.canLay0 (.list (l.map nd)) && decide (PyData.depth (.list (l.map nd)) ≤ 64)) = true
  rw [Bool.and_eq_true]
  exact ⟨by simp only [PyData.canLay0]; exact nds_lay l, decide_eq_true h2⟩
theorem nds_dp {K : PySem.W.Frag} {H : Hp} : ∀ {vs : List V} {l : List (Nat × Nat)}, All2 (Nd H) vs l → DpAll K H vs (l.map nd)
  | _, _, .nil => .nil
  | _, _, .cons h t => .cons h.dp (nds_dp t)
theorem nds_any (l : List (Nat × Nat)) (x : Nat × Nat) : (l.map nd).any (fun z => PyData.eqv z (.tuple [.int x.1, .int x.2])) = decide (x ∈ l) := by
  induction l with
  | nil => simp
  | cons y l ih =>
    rw [List.map_cons, List.any_cons, ih]
    show (PyData.eqv (.tuple [.int y.1, .int y.2]) _ || _) = _
    rw [nd_eqv]
    by_cases c : x = y
    · subst c
      simp
    · have e : (decide ((y.1 : Int) = (x.1 : Int)) && decide ((y.2 : Int) = (x.2 : Int))) = false := by
        rw [Bool.and_eq_false_iff]
        by_cases c1 : y.1 = x.1
        · right
          refine decide_eq_false (fun z => c (Prod.ext c1.symm ?_))
          omega
        · left
          exact decide_eq_false (fun z => c1 (by omega))
      rw [e, Bool.false_or]
      simp [c]
end LT

namespace LT
open PySem PySem.Spec PyProof.Rows L2
theorem nds_nil (l : List (Nat × Nat)) : PyData.eqv (.list (l.map nd)) (.list []) = l.isEmpty := by
  cases l with
  | nil => simp [PyData.eqv, PyData.eqvAll]
  | cons x l => simp [PyData.eqv, PyData.eqvAll]
theorem nil_shapedL : SeqAt.shaped (.list []) = true := nds_shaped []
theorem splitEnd {α : Type} {R : V → α → Prop} : ∀ {vs : List V} {us : List α} {x : α}, All2 R vs (us ++ [x]) → ∃ vs' v, vs = vs' ++ [v] ∧ All2 R vs' us ∧ R v x
  | _, [], _, .cons h .nil => ⟨[], _, rfl, .nil, h⟩
  | _, u :: us, x, .cons h t => by
    obtain ⟨vs', v, e, a, r⟩ := splitEnd t
    exact ⟨_ :: vs', v, by rw [e]; rfl, .cons h a, r⟩
/-- the key of a node -/
def key2 (x : Nat × Nat) : List L2.Key := [.inl x.1, .inl x.2]
theorem key2_inj {x y : Nat × Nat} (h : key2 x = key2 y) : x = y := by
  obtain ⟨a, b⟩ := x
  obtain ⟨c, d⟩ := y
  injection h with h1 h2
  injection h2 with h3 h4
  have h1 := Sum.inl.inj h1
  have h3 := Sum.inl.inj h3
  simp only at h1 h3
  rw [Int.ofNat.inj h1, Int.ofNat.inj h3]
theorem keys_new {kvs : List (List L2.Key × V)} {ks : List (Nat × Nat)} (h : kvs.map (·.1) = ks.map key2) {x : Nat × Nat} (hx : x ∉ ks) : valV kvs (key2 x) = none := by
  cases hv : valV kvs (key2 x) with
  | none => rfl
  | some v =>
    have a := valV_any (key2 x) kvs
    rw [hv] at a
    obtain ⟨p, hp, e⟩ := List.any_eq_true.mp a
    have e := of_decide_eq_true e
    have m : p.1 ∈ kvs.map (·.1) := List.mem_map.mpr ⟨p, hp, rfl⟩
    rw [h, e] at m
    obtain ⟨y, hy, ey⟩ := List.mem_map.mp m
    rw [key2_inj ey] at hy
    exact absurd hy hx
theorem nd_updD {H : Hp} {v : V} {x : Nat × Nat} {s : Addr} {kvs : List (List L2.Key × V)} {o : HO} (h : Nd H v x) (hs : H s = some (.dT kvs)) : Nd (upd H s o) v x := by
  obtain ⟨p, e, q⟩ := h
  exact ⟨p, e, by rw [upd_ne (ne_of q hs (by intro z; cases z))]; exact q⟩
def wt (l : List (Nat × Nat)) : Nat := (l.map fun x => 2 * (x.2 - x.1) - 1).sum
theorem wt_snoc (l : List (Nat × Nat)) (x : Nat × Nat) : wt (l ++ [x]) = wt l + (2 * (x.2 - x.1) - 1) := by
  unfold wt
  simp
section
variable {P : Program} {w : World} {K : PySem.W.Frag} {mg : Str → Option Value} {base : Heap}
def spBuilt : Sp := fun vs H Q _ => ∃ (n : Nat), vs = [.int n] ∧ 1 ≤ n ∧ n ≤ 70 ∧ ∀ (H' : Hp) (p : Addr) (kvs : List (List L2.Key × V)) (ks : List (Nat × Nat)), Same H H' → H p = none → H' p = some (.dT kvs) → kvs.map (·.1) = ks.map key2 → List.Perm ks (nodesF 8 0 n) → Q (.ref p) H'
theorem ok_law_built {f g1 : Addr} {fd d1 : FuncData} (F : Fun K "_law_built" "_law_built" sLawBuilt f fd)
    (GLawBelow : FnOk P w K mg base CX0 1 g1 d1 ["most"] spBelow) (ALawBelow : At K mg "_law_below" g1 d1 ["most"]) : FnOk P w K mg base CX0 3 f fd ["size"] spBuilt := by
  refine F.ok scLawBuilt (fun vs H Q E h => ?_) (fun cdv A outer s H vs Q E hr h => ?_)
  · obtain ⟨_, rfl, _⟩ := h
    rfl
  obtain ⟨n, rfl, n1, n70, q⟩ := h
  refine ⟨_, (pss_cons (ps_par (i := 1) (j := 2) (by rfl) scLawBuilt.nd rfl rfl (by decide) rfl rfl (pa_cons (pe_disp1T (hu_of hr) (pe_tup (pa_cons pe_int (pa_cons (pv 0) pa_nil))) pe_non) (pa_cons (pe_lst (pa_cons (pe_tup (pa_cons pe_int (pa_cons (pv 0) pa_nil))) pa_nil)) pa_nil)) (by rfl))
    (pss_cons (ps_while PassesOwn.never (pt_cmpR (op_neD hr.units) (pv 2) (pe_lst pa_nil) (nomark _))
    (pss_cons (ps_asg (pe_bm0 PySem.F.plainAttrs_list PySem.F.slot_list_pop PySem.F.type_list_pop mt_pop (pv 2)) (pg_tup (by rfl) (pgs_cons (pg_name (i := 3) scLawBuilt.nd rfl (Or.inl rfl)) (pgs_cons (pg_name (i := 4) scLawBuilt.nd rfl (Or.inl rfl)) pgs_nil))))
    (pss_one (ps_if (pt_cmpR op_gt (pe_op op_sub (pv 4) (pv 3)) pe_int (nomark _))
    (pss_cons (ps_set (i := 5) scLawBuilt.nd rfl (Or.inl rfl) (pe_op op_add (pv 3) (pe_call GLawBelow (hr.mono (by decide)) rfl ALawBelow.m ALawBelow.kp ALawBelow.b .nil pass0 (pa_cons (pe_op op_sub (pv 4) (pv 3)) pa_nil))))
    (pss_one (ps_for PassesOwn.never rfl (pi_tup (pe_tup (pa_cons (pe_tup (pa_cons (pv 3) (pa_cons (pv 5) pa_nil))) (pa_cons (pe_tup (pa_cons (pv 5) (pa_cons (pv 4) pa_nil))) pa_nil)))) (pg_name (i := 6) scLawBuilt.nd rfl (Or.inl rfl))
    (pss_cons (ps_dput (hu_of hr) (pv 1) (pv 6) (pe_tup (pa_cons (pv 3) (pa_cons (pv 4) pa_nil))) rfl)
    (pss_one (ps_expr (pe_bm PySem.F.plainAttrs_list PySem.F.slot_list_append PySem.F.type_list_append mt_append (pv 2) (pa_cons (pv 6) pa_nil))))))))
    pss_nil))))
    (pss_one (ps_ret (pv 1))))), ?_⟩
  have two : 2 ≤ sizeLine := by decide
  have one1 : 1 ≤ sizeLine := by decide
  refine fun p np => ⟨_, rfl, two, fun t1 m1 => ⟨[.inl 0, .inl (n : Int)], t1, rfl, upd_same, by rw [upd_ne (fun z => by rw [z, upd_same] at m1; cases m1)]; exact upd_same, ?_⟩⟩
  refine ⟨_, rfl, two, fun t2 m2 => ⟨one1, fun t m3 => ⟨_, _, rfl, ?_⟩⟩⟩
  dsimp only at m1 m2 m3 ⊢
  have t1p : t1 ≠ p := fun z => by rw [z, upd_same] at m1; cases m1
  have t2p : t2 ≠ p := fun z => by rw [z, upd_same] at m2; cases m2
  have tp : t ≠ p := fun z => by rw [z, upd_ne (fun z2 => t2p z2.symm), upd_same] at m3; cases m3
  have sm0 : Same H (upd (upd (upd (upd (upd H p (.dT [])) t1 (.tup [.int 0, .int n])) p (.dT [([.inl 0, .inl (n : Int)], V.non)])) t2 (.tup [.int 0, .int n])) t (.lst [.ref t2])) := fun a o k => by
    have ap : a ≠ p := ne_of_none k np
    have k1 : (upd H p (.dT [])) a = some o := by rw [upd_ne ap]; exact k
    have k2 := same_upd (o := .tup [.int 0, .int (n : Int)]) m1 _ _ k1
    have k3 : (upd (upd (upd H p (.dT [])) t1 (.tup [.int 0, .int n])) p (.dT [([.inl 0, .inl (n : Int)], V.non)])) a = some o := by rw [upd_ne ap]; exact k2
    exact same_upd m3 _ _ (same_upd m2 _ _ k3)
  have hp0 : (upd (upd (upd (upd (upd H p (.dT [])) t1 (.tup [.int 0, .int n])) p (.dT [([.inl 0, .inl (n : Int)], V.non)])) t2 (.tup [.int 0, .int n])) t (.lst [.ref t2])) p = some (.dT [([.inl 0, .inl (n : Int)], V.non)]) := by
    rw [upd_ne (fun z => tp z.symm), upd_ne (fun z => t2p z.symm)]; exact upd_same
  have ht0 : (upd (upd (upd (upd (upd H p (.dT [])) t1 (.tup [.int 0, .int n])) p (.dT [([.inl 0, .inl (n : Int)], V.non)])) t2 (.tup [.int 0, .int n])) t (.lst [.ref t2])) t = some (.lst [.ref t2]) := upd_same
  have hn0 : All2 (Nd (upd (upd (upd (upd (upd H p (.dT [])) t1 (.tup [.int 0, .int n])) p (.dT [([.inl 0, .inl (n : Int)], V.non)])) t2 (.tup [.int 0, .int n])) t (.lst [.ref t2]))) [.ref t2] [(0, n)] := .cons ⟨t2, rfl, same_upd m3 _ _ upd_same⟩ .nil
  have nt : H t = none := by
    have h1 : (upd (upd (upd H p (.dT [])) t1 (.tup [.int 0, .int n])) p (.dT [([.inl 0, .inl (n : Int)], V.non)])) t = none := (same_upd m2).free m3
    rw [upd_ne tp] at h1
    have h2 := (same_upd m1).free h1
    rw [upd_ne tp] at h2
    exact h2
  generalize (upd (upd (upd (upd (upd H p (.dT [])) t1 (.tup [.int 0, .int n])) p (.dT [([.inl 0, .inl (n : Int)], V.non)])) t2 (.tup [.int 0, .int n])) t (.lst [.ref t2])) = H0 at sm0 hp0 ht0 hn0
  clear m1 m2 m3 t1p t2p
  refine ⟨fun mu σ H' => ∃ (ks todo : List (Nat × Nat)) (kvs : List (List L2.Key × V)) (xs : List V) (v3 v4 v5 v6 : Option V), σ = [some (.int n), some (.ref p), some (.ref t), v3, v4, v5, v6] ∧ Same H H' ∧ H' p = some (.dT kvs) ∧ H' t = some (.lst xs) ∧ All2 (Nd H') xs todo ∧
      kvs.map (·.1) = ks.map key2 ∧ Inv22 n ks todo ∧ (∀ x ∈ todo, x.1 < x.2 ∧ x.2 ≤ n) ∧ todo.length ≤ ks.length ∧ mu = wt todo + 0,
    ⟨2 * n - 1, [(0, n)], [(0, n)], _, _, none, none, none, none, rfl, sm0, hp0, ht0, hn0, rfl, inv22_start n1, fun x hx => by rw [List.mem_singleton] at hx; subst hx; exact ⟨by show 0 < n; omega, Nat.le_refl _⟩, Nat.le_refl _, by show 2 * n - 1 = (2 * (n - 0) - 1) + 0; omega⟩, ?_⟩
  rintro mu σ H1 ⟨ks, todo, kvs, xs, v3, v4, v5, v6, rfl, sm, hp, ht, hx, hk, I, hin, hlen, hmu⟩
  have lenI := I.length_eq
  rw [nodesF_len 8 0 n n1 (by omega), List.length_append] at lenI
  have lk : kvs.length = ks.length := by have := congrArg List.length hk; rwa [List.length_map, List.length_map] at this
  refine ⟨_, rfl, Nat.zero_le _, fun em nem => ⟨.list (todo.map nd), .list [], ?_, .lst (SqL.of upd_same) .nil, nds_shaped _, nil_shapedL, ?_⟩⟩
  · have se := same_upd (o := .lst []) nem
    exact .lst (SqL.of (se _ _ ht)) (nds_dp (hx.mono fun v x (k : Nd H1 v x) => k.same se))
  rw [nds_nil]
  have se := same_upd (o := .lst []) nem
  replace sm := sm.trans se
  replace hp := se _ _ hp
  replace ht := se _ _ ht
  replace hx := hx.mono fun v x (k : Nd H1 v x) => k.same se
  generalize upd H1 em (.lst []) = H2 at sm hp ht hx
  clear se nem
  rcases todo.eq_nil_or_concat with rfl | ⟨td, x, et⟩
  · refine ⟨false, rfl, ?_⟩
    unfold Inv22 at I
    rw [List.flatMap_nil, List.append_nil] at I
    exact ⟨_, rfl, q _ _ _ _ sm np hp hk I⟩
  rw [List.concat_eq_append] at et
  subst et
  obtain ⟨xs', v, rfl, hx', hv⟩ := splitEnd hx
  have hb : (!(td ++ [x]).isEmpty) = true := by cases td <;> rfl
  obtain ⟨x1, x2⟩ := x
  obtain ⟨vp, rfl, hvp⟩ := hv
  obtain ⟨x12, x2n⟩ := hin (x1, x2) (by simp)
  simp only at x12 x2n hvp
  have ixe : (xs' ++ [V.ref vp])[(xs' ++ [V.ref vp]).length - 1]? = some (.ref vp) := by rw [List.length_append, List.length_singleton, Nat.add_sub_cancel]; exact List.getElem?_concat_length
  refine ⟨true, congrArg V.bl hb, _, fun σ' H' h => h, ?_⟩
  refine ⟨_, rfl, .inl ⟨rfl, _, SqL.of ht⟩, t, _, _, rfl, rfl, ht, ixe, ?_⟩
  rw [List.dropLast_concat]
  have vt : vp ≠ t := ne_of hvp ht (fun z => by cases z)
  have tnp : p ≠ t := fun z => tp z.symm
  have sm1 : Same H (upd H2 t (.lst xs')) := fun a o k => by rw [upd_ne (ne_of_none k nt)]; exact sm _ _ k
  have hp1 : (upd H2 t (.lst xs')) p = some (.dT kvs) := by rw [upd_ne tnp]; exact hp
  have ht1 : (upd H2 t (.lst xs')) t = some (.lst xs') := upd_same
  have hx1 := hx'.mono fun v x (k : Nd H2 v x) => k.upd (o := .lst xs') ht
  have hvp1 : (upd H2 t (.lst xs')) vp = some (.tup [.int (x1 : Int), .int (x2 : Int)]) := by rw [upd_ne vt]; exact hvp
  generalize upd H2 t (.lst xs') = H3 at sm1 hp1 ht1 hx1 hvp1
  have hnx : All2 (Nd H3) [V.ref vp] [(x1, x2)] := .cons ⟨vp, rfl, hvp1⟩ .nil
  refine ⟨vp, _, rfl, SqT.of hvp1, rfl, _, _, rfl, _, _, rfl, rfl, ?_⟩
  have hin' : ∀ x ∈ td, x.1 < x.2 ∧ x.2 ≤ n := fun x hx => hin x (by simp [hx])
  rw [wt_snoc] at hmu
  simp only at hmu
  rw [List.length_append, List.length_singleton] at hlen
  obtain ⟨m, rfl⟩ : ∃ m, x2 = x1 + m := ⟨x2 - x1, by omega⟩
  refine ⟨_, rfl, _, rfl, _, _, rfl, rfl, _, _, rfl, rfl, _, rfl, ite2 (fun c => ?_) (fun c => ?_)⟩
  · have c1 : (1 : Int) < ((x1 + m : Nat) : Int) - (x1 : Int) := of_decide_eq_true c
    have m2 : 2 ≤ m := by omega
    have g1 := gp_lt m2
    have g3 := gp_pos m
    refine ⟨_, rfl, _, rfl, _, rfl, _, _, rfl, rfl, m, congrArg (fun z => [V.int z]) (by omega), m2, _, _, rfl, rfl, ?_⟩
    have e2 : (x1 : Int) + ((gp m : Nat) : Int) = ((x1 + gp m : Nat) : Int) := by omega
    dsimp only
    rw [e2]
    refine ⟨_, rfl, _, rfl, two, fun u1 k1 => ⟨_, rfl, _, rfl, two, fun u2 k2 => ⟨two, fun tt k3 => ?_⟩⟩⟩
    have s1 := same_upd (o := .tup [.int (x1 : Int), .int ((x1 + gp m : Nat) : Int)]) k1
    have s2 := same_upd (o := .tup [.int ((x1 + gp m : Nat) : Int), .int ((x1 + m : Nat) : Int)]) k2
    have s3 := same_upd (o := .tup [.ref u1, .ref u2]) k3
    have sA := s1.trans (s2.trans s3)
    have sm2 := sm1.trans sA
    have hp2 := sA _ _ hp1
    have ht2 := sA _ _ ht1
    have hx2 := hx1.mono fun v x (k : Nd H3 v x) => k.same sA
    have hu : All2 (Nd (upd (upd (upd H3 u1 (.tup [.int (x1 : Int), .int ((x1 + gp m : Nat) : Int)])) u2 (.tup [.int ((x1 + gp m : Nat) : Int), .int ((x1 + m : Nat) : Int)])) tt (.tup [.ref u1, .ref u2]))) [.ref u1, .ref u2] [(x1, x1 + gp m), (x1 + gp m, x1 + m)] :=
      .cons ⟨u1, rfl, s3 _ _ (s2 _ _ upd_same)⟩ (.cons ⟨u2, rfl, s3 _ _ upd_same⟩ .nil)
    have htt : (upd (upd (upd H3 u1 (.tup [.int (x1 : Int), .int ((x1 + gp m : Nat) : Int)])) u2 (.tup [.int ((x1 + gp m : Nat) : Int), .int ((x1 + m : Nat) : Int)])) tt (.tup [.ref u1, .ref u2])) tt = some (.tup [.ref u1, .ref u2]) := upd_same
    generalize (upd (upd (upd H3 u1 (.tup [.int (x1 : Int), .int ((x1 + gp m : Nat) : Int)])) u2 (.tup [.int ((x1 + gp m : Nat) : Int), .int ((x1 + m : Nat) : Int)])) tt (.tup [.ref u1, .ref u2])) = H4 at sm2 hp2 ht2 hx2 hu htt
    clear s1 s2 s3 sA k1 k2 k3 hp1 ht1 hx1 hvp1 hnx sm1 hp ht hx sm
    have mem1 : ∀ y, y ∈ [(x1, x1 + gp m), (x1 + gp m, x1 + m)] → y ∈ (td ++ [(x1, x1 + m)]).flatMap below := fun y hy => by
      rw [List.flatMap_append, List.mem_append]
      right
      rw [List.flatMap_cons, List.flatMap_nil, List.append_nil, below_two m2 (by omega)]
      simp only [List.mem_cons, List.not_mem_nil, or_false] at hy
      rcases hy with rfl | rfl <;> simp
    have new : ∀ y, y ∈ [(x1, x1 + gp m), (x1 + gp m, x1 + m)] → y ∉ ks := fun y hy => inv22_new n1 I (mem1 y hy)
    have I2 := inv22_two m2 (by omega) I
    generalize hhs : [(x1, x1 + gp m), (x1 + gp m, x1 + m)] = hs at hu new
    generalize hus : [V.ref u1, V.ref u2] = us at hu htt
    have ul : us.length = 2 := by rw [← hus]; rfl
    refine ⟨tt, rfl, ⟨_, SqT.of htt⟩, for_tup (K := K) (a := tt) (xs := us) (fun i σ H' => ∃ (kvs : List (List L2.Key × V)) (xs : List V) (v6 : Option V), σ = [some (.int n), some (.ref p), some (.ref t), some (.int (x1 : Int)), some (.int ((x1 + m : Nat) : Int)), some (.int ((x1 + gp m : Nat) : Int)), v6] ∧
        Same H H' ∧ H' p = some (.dT kvs) ∧ H' t = some (.lst xs) ∧ All2 (Nd H') xs (td ++ hs.take i) ∧ kvs.map (·.1) = (ks ++ hs.take i).map key2 ∧ All2 (Nd H') us hs ∧ H' tt = some (.tup us)) ?_ (fun i σ H' _ ⟨_, _, _, _, _, _, _, _, _, _, k⟩ => SqT.of k) ?_ ?_⟩
    · exact ⟨kvs, xs', v6, rfl, sm2, hp2, ht2, by rw [List.take_zero, List.append_nil]; exact hx2, by rw [List.take_zero, List.append_nil]; exact hk, hu, htt⟩
    · rintro i y σ H5 hi ⟨kvs5, xs5, w6, rfl, sm5, hp5, ht5, hx5, hk5, hu5, htt5⟩
      obtain ⟨z, hz, hzv⟩ := hu5.nth hi
      obtain ⟨zp, rfl, hzp⟩ := hzv
      have i2 : i < 2 := by rw [← ul]; exact (List.getElem?_eq_some_iff.mp hi).1
      have znew : z ∉ ks ++ hs.take i := fun k => by
        rcases List.mem_append.mp k with k | k
        · exact new z (List.mem_of_getElem? hz) k
        · rcases (by omega : i = 0 ∨ i = 1) with rfl | rfl
          · cases k
          · rw [← hhs] at k hz
            have e1 : (x1 + gp m, x1 + m) = z := Option.some.inj hz
            have e3 := List.mem_singleton.mp k
            rw [← e1] at e3
            have := congrArg Prod.fst e3
            simp only at this
            omega
      have kn := keys_new hk5 znew
      have l5 : kvs5.length ≤ 200 := by
        have a := congrArg List.length hk5
        rw [List.length_map, List.length_map, List.length_append, List.length_take] at a
        omega
      have x5l : xs5.length ≤ 200 := by
        have a := hx5.len
        rw [List.length_append, List.length_take] at a
        omega
      refine ⟨_, rfl, _, rfl, two, fun va nva => ⟨_, rfl, _, rfl, p, _, rfl, DPut.t (k := key2 z) (same_upd nva _ _ hp5) (same_upd nva _ _ hzp) (szlt (by omega)), ?_⟩⟩
      rw [putK_new _ kn]
      have sa := same_upd (o := .tup [.int (x1 : Int), .int ((x1 + m : Nat) : Int)]) nva
      have pne : ∀ {a : Addr} {ys : List V}, (upd H5 va (.tup [.int (x1 : Int), .int ((x1 + m : Nat) : Int)])) a = some (.tup ys) → a ≠ p := fun k => ne_of k (sa _ _ hp5) (fun z => by cases z)
      have smB : Same H (upd (upd H5 va (.tup [.int (x1 : Int), .int ((x1 + m : Nat) : Int)])) p (.dT (kvs5 ++ [(key2 z, .ref va)]))) := fun a o k => by rw [upd_ne (ne_of_none k np)]; exact sa _ _ (sm5 _ _ k)
      have hpB : (upd (upd H5 va (.tup [.int (x1 : Int), .int ((x1 + m : Nat) : Int)])) p (.dT (kvs5 ++ [(key2 z, .ref va)]))) p = some (.dT (kvs5 ++ [(key2 z, .ref va)])) := upd_same
      have htB : (upd (upd H5 va (.tup [.int (x1 : Int), .int ((x1 + m : Nat) : Int)])) p (.dT (kvs5 ++ [(key2 z, .ref va)]))) t = some (.lst xs5) := by rw [upd_ne tp]; exact sa _ _ ht5
      have ndB : ∀ (v : V) (x : Nat × Nat), Nd H5 v x → Nd (upd (upd H5 va (.tup [.int (x1 : Int), .int ((x1 + m : Nat) : Int)])) p (.dT (kvs5 ++ [(key2 z, .ref va)]))) v x := fun v x k => nd_updD (k.same sa) (sa _ _ hp5)
      have hxB := hx5.mono ndB
      have huB := hu5.mono ndB
      have hzB := ndB (.ref zp) z ⟨zp, rfl, hzp⟩
      have htB2 : (upd (upd H5 va (.tup [.int (x1 : Int), .int ((x1 + m : Nat) : Int)])) p (.dT (kvs5 ++ [(key2 z, .ref va)]))) tt = some (.tup us) := by rw [upd_ne (pne (sa _ _ htt5))]; exact sa _ _ htt5
      have hkB : (kvs5 ++ [(key2 z, V.ref va)]).map (·.1) = (ks ++ hs.take (i + 1)).map key2 := by
        rw [List.map_append, hk5, take_more hz, ← List.append_assoc, List.map_append (l₂ := [z])]
        rfl
      generalize (upd (upd H5 va (.tup [.int (x1 : Int), .int ((x1 + m : Nat) : Int)])) p (.dT (kvs5 ++ [(key2 z, .ref va)]))) = H6 at smB hpB htB hxB huB hzB htB2
      refine ⟨_, rfl, .inl ⟨rfl, _, SqL.of htB⟩, _, rfl, t, _, _, rfl, rfl, htB, szlt (by omega), ?_⟩
      refine ⟨_, _, _, rfl, fun a o k => by rw [upd_ne (ne_of_none k nt)]; exact smB _ _ k, by rw [upd_ne (fun z => tp z.symm)]; exact hpB, upd_same, ?_, hkB, huB.mono fun v x k => k.upd htB, by rw [upd_ne (ne_of htB2 htB (fun z => by cases z))]; exact htB2⟩
      rw [take_more hz, ← List.append_assoc]
      exact (hxB.app (.cons hzB .nil)).mono fun v x k => k.upd htB
    · rintro σ H5 ⟨kvs5, xs5, w6, rfl, sm5, hp5, ht5, hx5, hk5, hu5, htt5⟩
      rw [ul, ← hhs] at hx5 hk5
      refine ⟨wt (td ++ [(x1, x1 + gp m)] ++ [(x1 + gp m, x1 + m)]), ?_, ks ++ [(x1, x1 + gp m)] ++ [(x1 + gp m, x1 + m)], td ++ [(x1, x1 + gp m)] ++ [(x1 + gp m, x1 + m)], kvs5, xs5, _, _, _, _, rfl, sm5, hp5, ht5, ?_, ?_, I2, ?_, ?_, rfl⟩
      · rw [wt_snoc, wt_snoc, hmu]
        simp only
        omega
      · rw [List.append_assoc]; exact hx5
      · rw [List.append_assoc]; exact hk5
      · intro y hy
        simp only [List.mem_append, List.mem_singleton] at hy
        rcases hy with (hy | rfl) | rfl
        · exact hin' y hy
        · exact ⟨by show x1 < x1 + gp m; omega, by show x1 + gp m ≤ n; omega⟩
        · exact ⟨by show x1 + gp m < x1 + m; omega, by show x1 + m ≤ n; omega⟩
      · simp only [List.length_append, List.length_singleton]
        omega
  · have c1 : ¬ (1 : Int) < ((x1 + m : Nat) : Int) - (x1 : Int) := of_decide_eq_false (Bool.eq_false_iff.mpr c)
    exact ⟨wt td, by omega, ks, td, kvs, xs', _, _, _, _, rfl, sm1, hp1, ht1, hx1, hk, inv22_leaf (by omega) I, hin', by omega, rfl⟩
end
end LT

namespace LT
open PySem PySem.Spec PyProof.Rows L2
theorem bits_nat (k : Nat) : Builtin.Int.intBits (k : Int) = if k = 0 then 0 else k.log2 + 1 := by
  unfold Builtin.Int.intBits
  by_cases h : k = 0
  · subst h; rfl
  · rw [if_neg h, if_neg (by simpa using h)]
    rfl
theorem bits_lb {m : Nat} (h : 1 ≤ m) : Builtin.Int.intBits ((m - 1 : Nat) : Int) = lb m := by
  rw [bits_nat]
  unfold lb
  by_cases k : m ≤ 1
  · rw [if_pos k, if_pos (by omega)]
  · rw [if_neg k, if_neg (by omega)]
theorem lb100 {m : Nat} (h : m ≤ 10 ^ 30) : lb m ≤ 100 := lb_le (Nat.le_trans h (by decide))
theorem fmod_of_dvd {a b : Nat} (h : a ∣ b) : Int.fmod (b : Int) (a : Int) = 0 := by
  rw [Int.fmod_eq_emod_of_nonneg _ (Int.natCast_nonneg _)]
  exact Int.emod_eq_zero_of_dvd (Int.natCast_dvd_natCast.mpr h)
end LT

namespace LT
open PySem PySem.Spec PyProof.Rows L2
section
variable {P : Program} {w : World} {K : PySem.W.Frag} {mg : Str → Option Value} {base : Heap}
def spPower : Sp := fun vs H Q _ => ∃ (k : Nat), vs = [.int k] ∧ 1 ≤ k ∧ k ≤ 10 ^ 30 ∧ Q (.int ((2 ^ k.log2 : Nat) : Int)) H
theorem ok_power_within {f : Addr} {fd : FuncData} (F : Fun K "power_within" "power_within" sPowerWithin f fd) : FnOk P w K mg base CX0 1 f fd ["number"] spPower := by
  refine F.ok scPowerWithin (fun vs H Q E h => ?_) (fun cdv A outer s H vs Q E hr h => ?_)
  · obtain ⟨_, rfl, _⟩ := h
    rfl
  obtain ⟨k, rfl, h1, h30, q⟩ := h
  refine ⟨_, (pss_one (ps_ret (pe_op op_shl pe_int (pe_op op_sub (pe_bits (pv 0)) pe_int)))), ?_⟩
  refine ⟨_, rfl, _, rfl, _, _, rfl, rfl, ?_⟩
  dsimp only
  have e : ((Builtin.Int.intBits (k : Int) : Nat) : Int) - 1 = ((k.log2 : Nat) : Int) := by
    rw [bits_nat, if_neg (by omega)]
    omega
  rw [e]
  have l100 : k.log2 < 100 := (Nat.log2_lt (by omega)).mpr (Nat.lt_of_le_of_lt h30 (by decide))
  refine ⟨_, _, rfl, rfl, ⟨Int.natCast_nonneg _, by omega, by decide⟩, ?_⟩
  have e2 : (1 : Int) * 2 ^ ((k.log2 : Nat) : Int).toNat = ((2 ^ k.log2 : Nat) : Int) := by rw [Int.one_mul, Int.toNat_natCast]; exact (Int.natCast_pow 2 _).symm
  show Q (.int ((1 : Int) * 2 ^ ((k.log2 : Nat) : Int).toNat)) H
  rw [e2]
  exact q
end
end LT

namespace LT
open PySem PySem.Spec PyProof.Rows L2
theorem log2_is {r h : Nat} (h1 : 2 ^ h ≤ r) (h2 : r < 2 ^ (h + 1)) : r.log2 = h := (Nat.log2_eq_iff (by have := Nat.pow_pos (a := 2) (n := h) (by decide); omega)).mpr ⟨h1, h2⟩
theorem pk_step : ∀ (i n b : Nat), n % 2 ^ i ≠ 0 → ∃ h, h < i ∧ pk i n b = (b, h) :: pk h n (b + 2 ^ h) ∧ n % 2 ^ i = 2 ^ h + n % 2 ^ h
  | 0, n, b, hr => by simp [Nat.mod_one] at hr
  | i + 1, n, b, hr => by
    rw [mod_succ] at hr
    by_cases t : n.testBit i = true
    · refine ⟨i, Nat.lt_succ_self i, ?_, by rw [mod_succ, if_pos t]⟩
      show (if n.testBit i = true then _ else _) = _
      rw [if_pos t]
    · rw [if_neg t, Nat.zero_add] at hr
      obtain ⟨h, h1, h2, h3⟩ := pk_step i n b hr
      refine ⟨h, by omega, ?_, by rw [mod_succ, if_neg t, Nat.zero_add]; exact h3⟩
      show (if n.testBit i = true then _ else _) = _
      rw [if_neg t]
      exact h2
section
variable {P : Program} {w : World} {K : PySem.W.Frag} {mg : Str → Option Value} {base : Heap}
def spTops : Sp := fun vs H Q _ => ∃ (n : Nat), vs = [.int n] ∧ 1 ≤ n ∧ n ≤ 10 ^ 30 ∧ ∀ (H' : Hp) (p : Addr) (xs : List V), Same H H' → H p = none → H' p = some (.lst xs) → All2 (Nd H') xs ((pk 101 n 0).map full) → Q (.ref p) H'
theorem ok_peaks {f g1 g2 : Addr} {fd d1 d2 : FuncData} (F : Fun K "peaks" "peaks" sPeaks f fd) (GCheckSize : FnOk P w K mg base CX0 3 g1 d1 ["size"] spCheckSize) (ACheckSize : At K mg "check_size" g1 d1 ["size"])
    (GPowerWithin : FnOk P w K mg base CX0 1 g2 d2 ["number"] spPower) (APowerWithin : At K mg "power_within" g2 d2 ["number"]) : FnOk P w K mg base CX0 4 f fd ["size"] spTops := by
  refine F.ok scPeaks (fun vs H Q E h => ?_) (fun cdv A outer s H vs Q E hr h => ?_)
  · obtain ⟨_, rfl, _⟩ := h
    rfl
  obtain ⟨n, rfl, h1, h30, q⟩ := h
  refine ⟨_, (pss_cons (ps_expr (pe_call GCheckSize (hr.mono (by decide)) rfl ACheckSize.m ACheckSize.kp ACheckSize.b .nil pass0 (pa_cons (pv 0) pa_nil)))
    (pss_cons (ps_set (i := 1) scPeaks.nd rfl (Or.inl rfl) (pe_lst pa_nil))
    (pss_cons (ps_set (i := 2) scPeaks.nd rfl (Or.inl rfl) pe_int)
    (pss_cons (ps_while PassesOwn.never (pt_cmpR op_lt (pv 2) (pv 0) (nomark _))
    (pss_cons (ps_set (i := 3) scPeaks.nd rfl (Or.inl rfl) (pe_op op_add (pv 2) (pe_call GPowerWithin (hr.mono (by decide)) rfl APowerWithin.m APowerWithin.kp APowerWithin.b .nil pass0 (pa_cons (pe_op op_sub (pv 0) (pv 2)) pa_nil))))
    (pss_cons (ps_expr (pe_bm PySem.F.plainAttrs_list PySem.F.slot_list_append PySem.F.type_list_append mt_append (pv 1) (pa_cons (pe_tup (pa_cons (pv 2) (pa_cons (pv 3) pa_nil))) pa_nil)))
    (pss_one (ps_set (i := 2) scPeaks.nd rfl (Or.inl rfl) (pv 3))))))
    (pss_one (ps_ret (pv 1))))))), ?_⟩
  refine ⟨_, rfl, n, rfl, by omega, by omega, ?_⟩
  refine ⟨Nat.zero_le _, fun fa nf => ?_⟩
  have nm : n % 2 ^ 101 = n := Nat.mod_eq_of_lt (Nat.lt_of_le_of_lt h30 (by decide))
  refine ⟨fun mu σ H' => ∃ (i b : Nat) (v3 : Option V) (xs : List V) (done : List (Nat × Nat)), σ = [some (.int n), some (.ref fa), some (.int b), v3] ∧ Same H H' ∧ H' fa = some (.lst xs) ∧ All2 (Nd H') xs (done.map full) ∧ done ++ pk i n b = pk 101 n 0 ∧ b + n % 2 ^ i = n ∧ mu = n - b,
    ⟨n, 101, 0, none, [], [], rfl, same_upd nf, upd_same, .nil, rfl, by omega, by omega⟩, ?_⟩
  rintro m σ H1 ⟨i, b, v3, xs, done, rfl, sm, hf, hx, hd, hb, rfl⟩
  refine ⟨_, rfl, _, rfl, _, _, rfl, rfl, _, rfl, ite2 (fun c => ?_) (fun c => ?_)⟩
  · have c1 : (b : Int) < (n : Int) := of_decide_eq_true c
    obtain ⟨h, hi, hp, hm⟩ := pk_step i n b (by omega)
    have ph := Nat.pow_pos (a := 2) (n := h) (by decide)
    have lh : (n - b).log2 = h := log2_is (by omega) (by have := Nat.mod_lt n ph; rw [Nat.pow_succ]; omega)
    have dl : done.length ≤ 101 := by
      have k1 := congrArg List.length hd
      rw [List.length_append] at k1
      have k2 := pk_len 101 n 0
      omega
    refine ⟨fun σ' H' => ∃ mu, mu < n - b ∧ ∃ (i b : Nat) (v3 : Option V) (xs : List V) (done : List (Nat × Nat)), σ' = [some (.int n), some (.ref fa), some (.int b), v3] ∧ Same H H' ∧ H' fa = some (.lst xs) ∧ All2 (Nd H') xs (done.map full) ∧ done ++ pk i n b = pk 101 n 0 ∧ b + n % 2 ^ i = n ∧ mu = n - b, fun σ' H' h => h, ?_⟩
    have e1 : (n : Int) - (b : Int) = ((n - b : Nat) : Int) := by omega
    refine ⟨_, rfl, _, rfl, _, rfl, _, _, rfl, rfl, n - b, congrArg (fun z => [V.int z]) e1, by omega, by omega, _, _, rfl, rfl, ?_⟩
    have e2 : (b : Int) + ((2 ^ (n - b).log2 : Nat) : Int) = ((b + 2 ^ h : Nat) : Int) := by rw [lh]; omega
    dsimp only
    rw [e2]
    refine ⟨_, rfl, .inl ⟨rfl, _, SqL.of hf⟩, _, rfl, _, rfl, (by show 2 ≤ sizeLine; decide), fun t nt => ?_⟩
    have s1 := same_upd (o := .tup [.int (b : Int), .int ((b + 2 ^ h : Nat) : Int)]) nt
    have hf1 := s1 _ _ hf
    refine ⟨fa, _, _, rfl, rfl, hf1, szlt (by rw [hx.len, List.length_map]; omega), ?_⟩
    refine ⟨_, rfl, ?_⟩
    refine ⟨n - (b + 2 ^ h), by omega, h, b + 2 ^ h, _, xs ++ [.ref t], done ++ [(b, h)], rfl, ?_, upd_same, ?_, ?_, by omega, rfl⟩
    · exact fun a o k => by rw [upd_ne (ne_of_none k nf)]; exact s1 _ _ (sm _ _ k)
    · rw [List.map_append]
      refine (hx.mono (fun v x (k : Nd H1 v x) => (k.same s1).upd hf1)).app (.cons ?_ .nil)
      exact Nd.upd (x := full (b, h)) ⟨t, rfl, upd_same⟩ hf1
    · rw [← hd, hp, List.append_assoc]
      rfl
  · have c1 : ¬ (b : Int) < (n : Int) := of_decide_eq_false (Bool.eq_false_iff.mpr c)
    rw [pk_nil i n b (by omega), List.append_nil] at hd
    rw [hd] at hx
    exact ⟨_, rfl, q H1 fa xs sm nf hf hx⟩
end
end LT

namespace LT
open PySem PySem.Spec PyProof.Rows L2
theorem cut_last (xs : List V) : cutV xs none (some (-1)) = xs.dropLast := by
  unfold cutV
  have e : HT.sIx xs.length xs.length (some (-1)) = xs.length - 1 := by
    show (if (-1 : Int) < 0 then ((-1 : Int) + (xs.length : Int)).toNat else min (-1 : Int).toNat xs.length) = _
    rw [if_pos (by decide)]
    omega
  rw [e, HT.sIx_none, List.drop_zero, Nat.sub_zero, List.dropLast_eq_take]
theorem All2.droplast {α : Type} {R : V → α → Prop} : ∀ {vs : List V} {xs : List α}, All2 R vs xs → All2 R vs.dropLast xs.dropLast
  | _, _, .nil => .nil
  | _, _, .cons _ .nil => .nil
  | _, _, .cons h (.cons k t) => .cons h (All2.droplast (.cons k t))
section
variable {P : Program} {w : World} {K : PySem.W.Frag} {mg : Str → Option Value} {base : Heap}
def spEdges : Sp := fun vs H Q _ => ∃ (n : Nat), vs = [.int n] ∧ 1 ≤ n ∧ n ≤ 10 ^ 30 ∧ ∀ (H' : Hp) (p : Addr) (xs : List V), Same H H' → H p = none → H' p = some (.lst xs) → All2 (Nd H') xs (((pk 101 n 0).map full).dropLast.map fun x => (x.1, n)) → Q (.ref p) H'
theorem ok_edges {f g1 : Addr} {fd d1 : FuncData} (F : Fun K "edges" "edges" sEdges f fd) (GPeaks : FnOk P w K mg base CX0 4 g1 d1 ["size"] spTops) (APeaks : At K mg "peaks" g1 d1 ["size"]) : FnOk P w K mg base CX0 5 f fd ["size"] spEdges := by
  refine F.ok scEdges (fun vs H Q E h => ?_) (fun cdv A outer s H vs Q E hr h => ?_)
  · obtain ⟨_, rfl, _⟩ := h
    rfl
  obtain ⟨n, rfl, h1, h30, q⟩ := h
  refine ⟨_, (pss_one (ps_ret (pe_lc (own := [("begin", 1), ("_", 2)]) rfl scEdges.nd (pi_list (pe_slice sl_list (pe_call GPeaks (hr.mono (by decide)) rfl APeaks.m APeaks.kp APeaks.b .nil pass0 (pa_cons (pv 0) pa_nil)) po_none (po_some (pe_un un_neg pe_int)))) (blkOk_by (N := ["size", "begin", "_"]) (sc := defScope sEdges) (by decide +kernel)) (fun _ _ _ _ _ => (pg_tupB (n := 2) rfl (pgs_cons (pg_name (i := 1) scEdges.nd rfl (Or.inl rfl)) (pgs_cons (pg_name (i := 2) scEdges.nd rfl (Or.inl rfl)) pgs_nil)))) (fun _ _ _ _ _ => pts_nil) (fun _ _ _ _ _ => (pe_tup (pa_cons (pv 1) (pa_cons (pv 0) pa_nil))))))), ?_⟩
  refine ⟨_, rfl, n, rfl, h1, h30, fun H1 p xs sm np hp hx => ?_⟩
  have L101 : ((pk 101 n 0).map full).length ≤ 101 := by rw [List.length_map]; exact pk_len 101 n 0
  generalize (pk 101 n 0).map full = L at q hx L101
  refine ⟨1, rfl, -1, rfl, p, _, rfl, SqL.of hp, fun c nc => ?_⟩
  have sc := same_upd (o := .lst (cutV xs none (some (-1)))) nc
  have hc : (upd H1 c (.lst (cutV xs none (some (-1))))) c = some (.lst xs.dropLast) := by rw [upd_same, cut_last]
  have hx1 := (hx.mono (fun v x (k : Nd H1 v x) => k.same sc)).droplast
  generalize upd H1 c (.lst (cutV xs none (some (-1)))) = H2 at hc hx1 sc
  refine ⟨c, rfl, ⟨_, SqL.of hc⟩, fun D nD => lc_list (xs := xs.dropLast) (fun i H' => ∃ ys : List V, Same H2 H' ∧ H' D = some (.lst ys) ∧ All2 (Nd H') ys ((L.dropLast.take i).map fun x => (x.1, n))) ⟨[], same_upd nD, upd_same, .nil⟩ (fun i H' _ ⟨_, k, _⟩ => SqL.of (k _ _ hc)) ?_ ?_⟩
  · rintro i x H3 hi ⟨ys, s3, hD, hy3⟩
    obtain ⟨y, hy, xp, rfl, hxp⟩ := hx1.nth hi
    have il : i < L.dropLast.length := (List.getElem?_eq_some_iff.mp hy).1
    rw [List.length_dropLast] at il
    refine ⟨xp, _, rfl, SqT.of (s3 _ _ hxp), rfl, _, _, rfl, _, _, rfl, rfl, rfl, ?_⟩
    refine ⟨_, rfl, _, rfl, (by show 2 ≤ sizeLine; decide), fun t nt => ?_⟩
    have st := same_upd (o := .tup [.int (y.1 : Int), .int (n : Int)]) nt
    refine ⟨ys, st _ _ hD, szlt (by rw [hy3.len, List.length_map, List.length_take, List.length_dropLast]; omega), ys ++ [.ref t], ?_, upd_same, ?_⟩
    · exact fun a o k => by rw [upd_ne (ne_of_none k nD)]; exact st _ _ (s3 _ _ k)
    · rw [take_more hy, List.map_append]
      exact (hy3.mono (fun v x (k : Nd H3 v x) => (k.same st).upd (st _ _ hD))).app (.cons (Nd.upd (x := (y.1, n)) ⟨t, rfl, upd_same⟩ (st _ _ hD)) .nil)
  rintro H3 ⟨ys, s3, hD, hy3⟩
  have et : L.dropLast.take xs.dropLast.length = L.dropLast := List.take_of_length_le (by rw [hx1.len]; exact Nat.le_refl _)
  rw [et] at hy3
  refine q H3 D ys (sm.trans (sc.trans s3)) ?_ hD hy3
  exact (sm.trans sc).free nD
end
end LT

namespace LT
open PySem PySem.Spec PyProof.Rows L2
/-- the digits 1 -/
def ones (n : Nat) : Nat := if h : n = 0 then 0 else n % 2 + ones (n / 2)
termination_by n
decreasing_by omega
theorem ones_zero : ones 0 = 0 := by rw [ones]; rfl
theorem ones_step (n : Nat) : ones n = n % 2 + ones (n / 2) := by
  by_cases h : n = 0
  · subst h; rw [Nat.zero_mod, Nat.zero_div, ones_zero]
  · rw [ones, dif_neg h]
theorem ones_one : ones 1 = 1 := by rw [ones_step]; show 1 + ones 0 = 1; rw [ones_zero]
theorem ones_dbl (n : Nat) : ones (2 * n) = ones n := by rw [ones_step, Nat.mul_mod_right, Nat.zero_add, Nat.mul_div_cancel_left _ (by decide)]
theorem ones_dbl1 (n : Nat) : ones (2 * n + 1) = ones n + 1 := by
  rw [ones_step, show (2 * n + 1) % 2 = 1 by omega, show (2 * n + 1) / 2 = n by omega]; omega
theorem ones_pos {n : Nat} (h : 1 ≤ n) : 1 ≤ ones n := by
  induction n using Nat.strongRecOn with
  | ind n ih =>
    rw [ones_step]
    by_cases c : n % 2 = 1
    · omega
    · have := ih (n / 2) (by omega) (by omega)
      omega
theorem ones_split : ∀ (i a r : Nat), r < 2 ^ i → ones (2 ^ i * a + r) = ones a + ones r
  | 0, a, r, h => by
    have : r = 0 := by simp at h; omega
    subst this
    rw [Nat.pow_zero, Nat.one_mul, Nat.add_zero, ones_zero, Nat.add_zero]
  | i + 1, a, r, h => by
    rw [Nat.pow_succ] at h
    have e : 2 ^ (i + 1) * a + r = 2 * (2 ^ i * a + r / 2) + r % 2 := by
      rw [Nat.pow_succ, Nat.mul_right_comm]
      omega
    have ih := ones_split i a (r / 2) (by omega)
    have s := ones_step r
    have c : r % 2 = 0 ∨ r % 2 = 1 := by omega
    rcases c with c | c
    · rw [e, c, Nat.add_zero, ones_dbl, ih]; omega
    · rw [e, c, ones_dbl1, ih]; omega
theorem ones_pow (i : Nat) : ones (2 ^ i) = 1 := by
  have := ones_split i 1 0 (Nat.pow_pos (by decide))
  rw [Nat.mul_one, Nat.add_zero, ones_one, ones_zero] at this
  exact this
theorem ones_le (i n : Nat) (h : n < 2 ^ i) : ones n ≤ i := by
  induction i generalizing n with
  | zero => have : n = 0 := by simp at h; omega
            subst this; rw [ones_zero]; exact Nat.le_refl _
  | succ i ih =>
    rw [Nat.pow_succ] at h
    have := ih (n / 2) (by omega)
    rw [ones_step]
    omega
theorem ones_le_self (n : Nat) : ones n ≤ n := by
  induction n using Nat.strongRecOn with
  | ind n ih =>
    by_cases c : n = 0
    · subst c; rw [ones_zero]; exact Nat.le_refl _
    · have := ih (n / 2) (by omega)
      rw [ones_step]
      omega
theorem pk_ones : ∀ (i n b : Nat), (pk i n b).length = ones (n % 2 ^ i)
  | 0, n, b => by rw [Nat.pow_zero, Nat.mod_one, ones_zero]; rfl
  | i + 1, n, b => by
    rw [mod_succ]
    have ml := Nat.mod_lt n (Nat.pow_pos (a := 2) (n := i) (by decide))
    by_cases t : n.testBit i = true
    · show (if n.testBit i = true then (b, i) :: pk i n (b + 2 ^ i) else pk i n b).length = _
      rw [if_pos t, if_pos t, List.length_cons, pk_ones i n _]
      have := ones_split i 1 (n % 2 ^ i) ml
      rw [Nat.mul_one, ones_one] at this
      omega
    · show (if n.testBit i = true then (b, i) :: pk i n (b + 2 ^ i) else pk i n b).length = _
      rw [if_neg t, if_neg t, pk_ones i n _, Nat.zero_add]
end LT

namespace LT
open PySem L2
def onesF : Nat → Nat → Nat
  | 0, _ => 0
  | i + 1, n => n % 2 + onesF i (n / 2)
theorem onesF_is : ∀ (i n : Nat), n < 2 ^ i → onesF i n = ones n
  | 0, n, h => by
    have : n = 0 := by simp at h; omega
    subst this
    rw [ones_zero]; rfl
  | i + 1, n, h => by
    rw [Nat.pow_succ] at h
    show n % 2 + onesF i (n / 2) = ones n
    rw [onesF_is i (n / 2) (by omega), ← ones_step]
theorem ne_no {x y : V} (h : x = y) : V.bl (!decide (x = y)) = V.bl false := by rw [decide_eq_true h]; rfl
/-- a node with two or more entries -/
def isTwo (x : Nat × Nat) : Bool := Nat.ble 2 (x.2 - x.1)
/-- that is full -/
def isFull (x : Nat × Nat) : Bool := Nat.beq (2 * gp (x.2 - x.1)) (x.2 - x.1) && Nat.beq (x.1 % (x.2 - x.1)) 0
def nFull (l : List (Nat × Nat)) : Nat := (l.filter fun x => isTwo x && isFull x).length
def nEdge (l : List (Nat × Nat)) : Nat := (l.filter fun x => isTwo x && !isFull x).length
theorem counted_all : ∀ n, n < 71 → 1 ≤ n → nFull (nodesF 8 0 n) + onesF 7 n = n ∧ nEdge (nodesF 8 0 n) + 1 = onesF 7 n := by decide +kernel
theorem counted_is {n : Nat} (h1 : 1 ≤ n) (h : n ≤ 70) {ks : List (Nat × Nat)} (p : List.Perm ks (nodesF 8 0 n)) : nFull ks = n - ones n ∧ nEdge ks = ones n - 1 := by
  have c := counted_all n (by omega) h1
  rw [onesF_is 7 n (by omega)] at c
  have a : nFull ks = nFull (nodesF 8 0 n) := (p.filter _).length_eq
  have b : nEdge ks = nEdge (nodesF 8 0 n) := (p.filter _).length_eq
  omega
end LT

namespace LT
open PySem PySem.Spec PyProof.Rows L2
section
variable {P : Program} {w : World} {K : PySem.W.Frag} {mg : Str → Option Value} {base : Heap}
def spCounted : Sp := fun vs H Q _ => ∃ (n : Nat), vs = [.int n] ∧ 1 ≤ n ∧ n ≤ 70 ∧ ∀ (H' : Hp) (q : Addr), Same H H' → H q = none → H' q = some (.lst [.int ((n - ones n : Nat) : Int), .int ((ones n - 1 : Nat) : Int)]) → Q (.ref q) H'
theorem ok_law_counted {f g1 g2 : Addr} {fd d1 d2 : FuncData} (F : Fun K "_law_counted" "_law_counted" sLawCounted f fd)
    (GLawBelow : FnOk P w K mg base CX0 1 g1 d1 ["most"] spBelow) (ALawBelow : At K mg "_law_below" g1 d1 ["most"])
    (GLawBuilt : FnOk P w K mg base CX0 3 g2 d2 ["size"] spBuilt) (ALawBuilt : At K mg "_law_built" g2 d2 ["size"]) (z_int : mg "int" = none) : FnOk P w K mg base CX0 4 f fd ["size"] spCounted := by
  refine F.ok scLawCounted (fun vs H Q E h => ?_) (fun cdv A outer s H vs Q E hr h => ?_)
  · obtain ⟨_, rfl, _⟩ := h
    rfl
  obtain ⟨n, rfl, n1, n70, q⟩ := h
  refine ⟨_, (pss_cons (ps_set (i := 1) scLawCounted.nd rfl (Or.inl rfl) (pe_lst (pa_cons pe_int (pa_cons pe_int pa_nil))))
    (pss_cons (ps_for PassesOwn.never rfl (pi_keysNew (pe_call GLawBuilt (hr.mono (by decide)) rfl ALawBuilt.m ALawBuilt.kp ALawBuilt.b .nil pass0 (pa_cons (pv 0) pa_nil))) (pg_tup (by rfl) (pgs_cons (pg_name (i := 2) scLawCounted.nd rfl (Or.inl rfl)) (pgs_cons (pg_name (i := 3) scLawCounted.nd rfl (Or.inl rfl)) pgs_nil)))
    (pss_one (ps_if (pt_cmpR op_gt (pe_op op_sub (pv 3) (pv 2)) pe_int (nomark _))
    (pss_cons (ps_set (i := 4) scLawCounted.nd rfl (Or.inl rfl) (pe_callTy call_int1 (by rfl) z_int (by decide +kernel) (pa_cons (pe_or (pe_cmpR op_ne (pe_op op_mul pe_int (pe_call GLawBelow (hr.mono (by decide)) rfl ALawBelow.m ALawBelow.kp ALawBelow.b .nil pass0 (pa_cons (pe_op op_sub (pv 3) (pv 2)) pa_nil))) (pe_op op_sub (pv 3) (pv 2)) (nomark _)) (pe_one (pe_cmpR op_ne (pe_op op_modN (pe_callTy call_int1 (by rfl) z_int (by decide +kernel) (pa_cons (pv 2) pa_nil)) (pe_op op_sub (pv 3) (pv 2))) pe_int (nomark _)))) pa_nil)))
    (pss_one (ps_asg (pe_op op_add (pe_ix ix_list (pv 1) (pv 4) (fun _ _ => rfl)) pe_int) (pg_sub (pv 1) (pv 4) set_list))))
    pss_nil)))
    (pss_one (ps_ret (pv 1))))), ?_⟩
  have two : 2 ≤ sizeLine := by decide
  refine ⟨two, fun fa nfa => ?_⟩
  have s0 := same_upd (o := .lst [.int 0, .int 0]) nfa
  have hf0 : (upd H fa (.lst [.int 0, .int 0])) fa = some (.lst [.int 0, .int 0]) := upd_same
  generalize upd H fa (.lst [.int 0, .int 0]) = H0 at s0 hf0
  refine ⟨_, rfl, n, rfl, n1, n70, fun H1 p kvs ks s1 np hp hk pm => ⟨p, kvs, rfl, hp, fun od => ?_⟩⟩
  have lk : kvs.length = ks.length := by have := congrArg List.length hk; rwa [List.length_map, List.length_map] at this
  have ll := pm.length_eq
  rw [nodesF_len 8 0 n n1 (by omega)] at ll
  have inn : ∀ x ∈ ks, x.1 < x.2 ∧ x.2 ≤ n := fun x hx => by
    have := nodes_in3 8 0 n x n1 (pm.mem_iff.mp hx)
    omega
  have cnt := counted_is n1 n70 pm
  have fap : fa ≠ p := fun z => by rw [z, np] at hf0; cases hf0
  have nfa' : ∀ {a : Addr} {o : HO}, H a = some o → a ≠ fa := fun k => ne_of_none k nfa
  have npH : H p = none := s0.free np
  refine for_it walk_keysT (fun i σ H' => ∃ v2 v3 v4 : Option V, σ = [some (.int n), some (.ref fa), v2, v3, v4] ∧ Same H H' ∧ H' p = some (.frz od (.dT kvs)) ∧ H' fa = some (.lst [.int ((nFull (ks.take i) : Nat) : Int), .int ((nEdge (ks.take i) : Nat) : Int)]))
    ⟨none, none, none, rfl, fun a o k => by rw [upd_ne (ne_of_none k npH)]; exact s1 _ _ (s0 _ _ k), upd_same, by rw [upd_ne fap]; exact s1 _ _ hf0⟩ (fun i σ H' _ ⟨_, _, _, _, _, k, _⟩ => k) ?_ ?_
  · rintro i x σ H2 H3 hi ⟨v2, v3, v4, rfl, sm, hfz, hf⟩ ⟨rfl, kk, v, qa, hkk, rfl, hq⟩
    obtain ⟨z, hz, ez⟩ : ∃ z, ks[i]? = some z ∧ key2 z = kk := by
      have a : (kvs.map (·.1))[i]? = some kk := by rw [List.getElem?_map, hkk]; rfl
      rw [hk, List.getElem?_map] at a
      obtain ⟨z, hz, e⟩ := Option.map_eq_some_iff.mp a
      exact ⟨z, hz, e⟩
    subst ez
    obtain ⟨x1, x2⟩ := z
    have hq : H3 qa = some (.tup [.int (x1 : Int), .int (x2 : Int)]) := hq
    obtain ⟨x12, x2n⟩ := inn _ (List.mem_of_getElem? hz)
    simp only at x12 x2n
    obtain ⟨m, rfl⟩ : ∃ m, x2 = x1 + m := ⟨x2 - x1, by omega⟩
    have il : i < ks.length := (List.getElem?_eq_some_iff.mp hz).1
    have fl : nFull (ks.take i) ≤ 200 := Nat.le_trans (List.length_filter_le _ _) (Nat.le_trans (List.length_take_le _ _) (by omega))
    have el : nEdge (ks.take i) ≤ 200 := Nat.le_trans (List.length_filter_le _ _) (Nat.le_trans (List.length_take_le _ _) (by omega))
    have sF : nFull (ks.take (i + 1)) = nFull (ks.take i) + (if isTwo (x1, x1 + m) && isFull (x1, x1 + m) then 1 else 0) := by
      unfold nFull
      rw [take_more hz, List.filter_append, List.length_append]
      cases h : (isTwo (x1, x1 + m) && isFull (x1, x1 + m)) <;> simp [h]
    have sE : nEdge (ks.take (i + 1)) = nEdge (ks.take i) + (if isTwo (x1, x1 + m) && !isFull (x1, x1 + m) then 1 else 0) := by
      unfold nEdge
      rw [take_more hz, List.filter_append, List.length_append]
      cases h : (isTwo (x1, x1 + m) && !isFull (x1, x1 + m)) <;> simp [h]
    have e1 : x1 + m - x1 = m := by omega
    refine ⟨qa, _, rfl, SqT.of hq, rfl, _, _, rfl, _, _, rfl, rfl, ?_⟩
    refine ⟨_, rfl, _, rfl, _, _, rfl, rfl, _, _, rfl, rfl, _, rfl, ite2 (fun c => ?_) (fun c => ?_)⟩
    · have c1 : (1 : Int) < ((x1 + m : Nat) : Int) - (x1 : Int) := of_decide_eq_true c
      have m2 : 2 ≤ m := by omega
      have g3 := gp_pos m
      have t2 : isTwo (x1, x1 + m) = true := by
        unfold isTwo
        rw [show (x1, x1 + m).2 - (x1, x1 + m).1 = m from e1]
        exact Nat.ble_eq.mpr m2
      have tF : isFull (x1, x1 + m) = (Nat.beq (2 * gp m) m && Nat.beq (x1 % m) 0) := by
        unfold isFull
        rw [show (x1, x1 + m).2 - (x1, x1 + m).1 = m from e1]
      rw [t2, Bool.true_and, tF] at sF sE
      have eM : ((x1 + m : Nat) : Int) - (x1 : Int) = (m : Int) := by omega
      have fa3 : ∀ (G : Hp), G = H3 → Same H G := fun G e => by rw [e]; exact sm
      -- what stands behind the count
      have put : ∀ (κ a b : Nat), κ = 0 ∧ a = nFull (ks.take i) + 1 ∧ b = nEdge (ks.take i) ∨ κ = 1 ∧ a = nFull (ks.take i) ∧ b = nEdge (ks.take i) + 1 → ∃ y, atI [V.int ((nFull (ks.take i) : Nat) : Int), V.int ((nEdge (ks.take i) : Nat) : Int)] (κ : Int) = some (.int y) ∧ ∃ j, ixN 2 (κ : Int) = some j ∧ [V.int ((nFull (ks.take i) : Nat) : Int), V.int ((nEdge (ks.take i) : Nat) : Int)].set j (.int (y + 1)) = [.int (a : Int), .int (b : Int)] := by
        rintro κ a b (⟨rfl, rfl, rfl⟩ | ⟨rfl, rfl, rfl⟩)
        · exact ⟨_, atI_nat (j := 0) rfl, 0, rfl, rfl⟩
        · exact ⟨_, atI_nat (j := 1) rfl, 1, rfl, rfl⟩
      have e2 : (2 : Int) * ((gp m : Nat) : Int) = ((2 * gp m : Nat) : Int) := by omega
      have em : (x1 : Int).fmod (m : Int) = ((x1 % m : Nat) : Int) := by rw [Int.fmod_eq_emod_of_nonneg _ (by omega)]; exact (Int.natCast_emod x1 m).symm
      have hmod : V.int ((x1 : Int).fmod (((x1 + m : Nat) : Int) - (x1 : Int))) = V.int ((x1 % m : Nat) : Int) := by rw [eM, em]
      by_cases d1 : 2 * gp m = m
      · have q1 : V.int ((2 : Int) * ((gp m : Nat) : Int)) = V.int (((x1 + m : Nat) : Int) - (x1 : Int)) := congrArg V.int (by omega)
        by_cases d2 : x1 % m = 0
        · rw [show Nat.beq (2 * gp m) m = true from Nat.beq_eq.mpr d1, show Nat.beq (x1 % m) 0 = true from Nat.beq_eq.mpr d2] at sF sE
          have hd : (!decide (V.int ((x1 : Int).fmod (((x1 + m : Nat) : Int) - (x1 : Int))) = V.int 0)) = false := by rw [hmod, d2]; rfl
          refine ⟨_, rfl, _, rfl, _, _, rfl, rfl, m, congrArg (fun z => [V.int z]) eM, m2, _, _, rfl, rfl, .inl ⟨by decide, by omega⟩, _, rfl, _, rfl, _, _, rfl, rfl, rfl, false, ne_no q1, _, rfl, .inl ⟨_, rfl, _, rfl, _, rfl, _, _, rfl, rfl, _, _, rfl, rfl, by rw [eM]; omega, rfl, .inr ⟨false, congrArg (fun b => [V.bl b]) hd, ?_⟩⟩⟩
          obtain ⟨y, hy, j, hj, hset⟩ := put 0 (nFull (ks.take (i + 1))) (nEdge (ks.take (i + 1))) (.inl ⟨rfl, sF, sE⟩)
          refine ⟨_, rfl, _, rfl, fa, _, (0 : Nat), _, rfl, rfl, SqL.of hf, hy, _, _, rfl, rfl, _, rfl, _, rfl, fa, _, (0 : Nat), j, rfl, rfl, hf, hj, ?_⟩
          exact ⟨_, _, _, rfl, fun a o k => by rw [upd_ne (ne_of_none k nfa)]; exact sm _ _ k, by rw [upd_ne (fun z => fap z.symm)]; exact hfz, by rw [hset]; exact upd_same⟩
        · rw [show Nat.beq (2 * gp m) m = true from Nat.beq_eq.mpr d1, show Nat.beq (x1 % m) 0 = false from Bool.eq_false_iff.mpr (fun z => d2 (Nat.eq_of_beq_eq_true z))] at sF sE
          have hd : (!decide (V.int ((x1 : Int).fmod (((x1 + m : Nat) : Int) - (x1 : Int))) = V.int 0)) = true := by
            rw [hmod, decide_eq_false (fun z => d2 (by have := V.int.inj z; omega))]
            rfl
          refine ⟨_, rfl, _, rfl, _, _, rfl, rfl, m, congrArg (fun z => [V.int z]) eM, m2, _, _, rfl, rfl, .inl ⟨by decide, by omega⟩, _, rfl, _, rfl, _, _, rfl, rfl, rfl, false, ne_no q1, _, rfl, .inl ⟨_, rfl, _, rfl, _, rfl, _, _, rfl, rfl, _, _, rfl, rfl, by rw [eM]; omega, rfl, .inr ⟨true, congrArg (fun b => [V.bl b]) hd, ?_⟩⟩⟩
          obtain ⟨y, hy, j, hj, hset⟩ := put 1 (nFull (ks.take (i + 1))) (nEdge (ks.take (i + 1))) (.inr ⟨rfl, sF, sE⟩)
          refine ⟨_, rfl, _, rfl, fa, _, (1 : Nat), _, rfl, rfl, SqL.of hf, hy, _, _, rfl, rfl, _, rfl, _, rfl, fa, _, (1 : Nat), j, rfl, rfl, hf, hj, ?_⟩
          exact ⟨_, _, _, rfl, fun a o k => by rw [upd_ne (ne_of_none k nfa)]; exact sm _ _ k, by rw [upd_ne (fun z => fap z.symm)]; exact hfz, by rw [hset]; exact upd_same⟩
      · have q1 : ¬ V.int ((2 : Int) * ((gp m : Nat) : Int)) = V.int (((x1 + m : Nat) : Int) - (x1 : Int)) := fun z => d1 (by have := V.int.inj z; omega)
        rw [show Nat.beq (2 * gp m) m = false from Bool.eq_false_iff.mpr (fun z => d1 (Nat.eq_of_beq_eq_true z)), Bool.false_and] at sF sE
        refine ⟨_, rfl, _, rfl, _, _, rfl, rfl, m, congrArg (fun z => [V.int z]) eM, m2, _, _, rfl, rfl, .inl ⟨by decide, by omega⟩, _, rfl, _, rfl, _, _, rfl, rfl, rfl, true, congrArg V.bl (by rw [decide_eq_false q1]; rfl), .inr ⟨true, rfl, ?_⟩⟩
        obtain ⟨y, hy, j, hj, hset⟩ := put 1 (nFull (ks.take (i + 1))) (nEdge (ks.take (i + 1))) (.inr ⟨rfl, sF, sE⟩)
        refine ⟨_, rfl, _, rfl, fa, _, (1 : Nat), _, rfl, rfl, SqL.of hf, hy, _, _, rfl, rfl, _, rfl, _, rfl, fa, _, (1 : Nat), j, rfl, rfl, hf, hj, ?_⟩
        exact ⟨_, _, _, rfl, fun a o k => by rw [upd_ne (ne_of_none k nfa)]; exact sm _ _ k, by rw [upd_ne (fun z => fap z.symm)]; exact hfz, by rw [hset]; exact upd_same⟩
    · have c1 : ¬ (1 : Int) < ((x1 + m : Nat) : Int) - (x1 : Int) := of_decide_eq_false (Bool.eq_false_iff.mpr c)
      have t2 : isTwo (x1, x1 + m) = false := by
        unfold isTwo
        rw [show (x1, x1 + m).2 - (x1, x1 + m).1 = m from e1]
        exact Bool.eq_false_iff.mpr (fun z => by have := Nat.le_of_ble_eq_true z; omega)
      rw [t2] at sF sE
      refine ⟨_, _, _, rfl, sm, hfz, ?_⟩
      rw [sF, sE]
      exact hf
  · rintro σ H2 ⟨v2, v3, v4, rfl, sm, hfz, hf⟩
    rw [show kvs.length = ks.length from lk, List.take_length, cnt.1, cnt.2] at hf
    exact ⟨_, rfl, q _ _ sm nfa hf⟩
end
end LT

namespace LT
open PySem PySem.Spec PyProof.Rows L2
theorem fm0 (x : Int) {m : Int} (h : 0 < m) : 0 ≤ x.fmod m := by
  rw [Int.fmod_eq_emod_of_nonneg _ (by omega)]
  exact Int.emod_nonneg _ (by omega)
theorem fm1 (x : Int) {m : Int} (h : 0 < m) : x.fmod m < m := by
  rw [Int.fmod_eq_emod_of_nonneg _ (by omega)]
  exact Int.emod_lt_of_pos _ h
def CPowW (i j : Int) : Prop := 0 ≤ j ∧ (Builtin.Int.intBits i : Int) * j ≤ 2 ^ 27
theorem op_powW {X : Cx} : OpR X (binaryOp .Pow) (rI CPowW fun i j => .int (i ^ j.toNat)) := opI fun _ _ _ _ _ _ _ hc q => pow_int hc.1 hc.2 q
theorem intBits_le {i : Int} {k : Nat} (h : i.natAbs < 2 ^ k) : Builtin.Int.intBits i ≤ k := by
  unfold Builtin.Int.intBits
  split
  · omega
  · rename_i c
    have : i.natAbs ≠ 0 := by simpa using c
    have := (Nat.log2_lt this).mpr h
    omega
theorem powW3 {i : Int} (h : i.natAbs < 2 ^ 1000) : CPowW i 3 := by
  have := intBits_le h
  refine ⟨by decide, ?_⟩
  omega
/-- a reel: three ints, the last one a count -/
def ReelAt (H : Hp) (b : Addr) (c : Nat) : Prop := ∃ x y z : Int, H b = some (.lst [.int x, .int y, .int z]) ∧ y.natAbs < 2 ^ 200 ∧ 0 ≤ z ∧ z ≤ c
theorem ReelAt.same {H H' : Hp} {b : Addr} {c : Nat} (h : ReelAt H b c) (s : Same H H') : ReelAt H' b c := by
  obtain ⟨x, y, z, e, r⟩ := h
  exact ⟨x, y, z, s _ _ e, r⟩
theorem ReelAt.mono {H : Hp} {b : Addr} {c d : Nat} (h : ReelAt H b c) (k : c ≤ d) : ReelAt H b d := by
  obtain ⟨x, y, z, e, r1, r2, r3⟩ := h
  exact ⟨x, y, z, e, r1, r2, by omega⟩
theorem ReelAt.ne {H : Hp} {b p : Addr} {c : Nat} (h : ReelAt H b c) (n : H p = none) : p ≠ b := fun z => by
  obtain ⟨_, _, _, e, _⟩ := h
  rw [← z, n] at e
  cases e
theorem ReelAt.upd {H : Hp} {b p : Addr} {c : Nat} {o : HO} (h : ReelAt H b c) (n : p ≠ b) : ReelAt (upd H p o) b c := by
  obtain ⟨x, y, z, e, r⟩ := h
  exact ⟨x, y, z, by rw [upd_ne (fun z => n z.symm)]; exact e, r⟩
section
variable {P : Program} {w : World} {K : PySem.W.Frag} {mg : Str → Option Value} {base : Heap}
def spWound (K : PySem.W.Frag) : Sp := fun vs H Q _ => ∃ (a : Addr) (ns : List Int) (k : Nat), vs = [.ref a, .int k] ∧ SqL K H a (ns.map V.int) ∧ k ≤ 63 ∧ ∀ (H' : Hp) (p : Addr), Same H H' → H p = none → ReelAt H' p 0 → Q (.ref p) H'
theorem ok_law_wound {f : Addr} {fd : FuncData} (F : Fun K "_law_wound" "_law_wound" sLawWound f fd) (z_max : mg "max" = none) (z_len : mg "len" = none) (z_int : mg "int" = none) : FnOk P w K mg base CX0 1 f fd ["script", "k"] (spWound K) := by
  refine F.ok scLawWound (fun vs H Q E h => ?_) (fun cdv A outer s H vs Q E hr h => ?_)
  · obtain ⟨_, _, _, rfl, _⟩ := h
    rfl
  obtain ⟨a, ns, k, rfl, hS, hk, q⟩ := h
  refine ⟨_, (pss_cons (ps_set (i := 2) scLawWound.nd rfl (Or.inl rfl) pe_int)
    (pss_cons (ps_if (pt_cmpR op_lt (pv 1) (pe_callB call_len_seq (by rfl) z_len PySem.boot_len (pa_cons (pv 0) pa_nil)) (nomark _))
    (pss_one (ps_set (i := 2) scLawWound.nd rfl (Or.inl rfl) (pe_ix ix_list (pv 0) (pv 1) (fun _ _ => rfl))))
    pss_nil)
    (pss_one (ps_ret (pe_lst (pa_cons (pe_callB (call_max2 rfl) (by rfl) z_max (by decide +kernel) (pa_cons pe_int (pa_cons (pe_op op_sub (pv 2) (pe_op op_pow pe_int pe_int)) pa_nil))) (pa_cons (pe_op op_add (pe_op op_add (pe_op op_mul (pe_op op_modN (pe_callTy call_int1 (by rfl) z_int (by decide +kernel) (pa_cons (pv 2) pa_nil)) (pe_op op_add (pe_op op_pow pe_int pe_int) pe_int)) pe_int) (pe_op op_mul pe_int (pv 1))) pe_int) (pa_cons pe_int pa_nil)))))))), ?_⟩
  have fin : ∀ (cell : Int), Q (.ref 0) H → True := fun _ _ => trivial
  refine ⟨_, rfl, _, rfl, a, _, rfl, .inl hS, _, _, rfl, rfl, _, rfl, ite2 (fun c => ?_) (fun c => ?_)⟩
  · have c1 : (k : Int) < ((ns.map V.int).length : Int) := of_decide_eq_true c
    have c2 : k < (ns.map V.int).length := by omega
    have c3 : k < ns.length := by rw [List.length_map] at c2; exact c2
    have e : (ns.map V.int)[k]? = some (.int ns[k]) := by rw [List.getElem?_map, List.getElem?_eq_getElem c3]; rfl
    generalize ns[k] = cell at e
    refine ⟨_, rfl, _, rfl, a, _, _, _, rfl, rfl, hS, atI_nat e, ?_⟩
    refine ⟨_, rfl, _, _, rfl, rfl, ⟨by decide, by decide, by decide⟩, _, _, rfl, rfl, _, _, rfl, _, rfl, .inl ⟨_, rfl, _, _, rfl, rfl, ⟨by decide, by decide, by decide⟩, _, _, rfl, rfl, _, _, rfl, rfl, (by show (10 ^ (38 : Int).toNat + 133 : Int) ≠ 0; decide), _, _, rfl, rfl, .inr ⟨by decide, by decide⟩, _, rfl, _, _, rfl, rfl, .inl ⟨by decide, by decide⟩, _, _, rfl, rfl, _, _, rfl, rfl, (by show 3 ≤ sizeLine; decide), fun p np => ?_⟩⟩
    have f0 := fm0 cell (m := 10 ^ (38 : Int).toNat + 133) (by decide)
    have f1 := fm1 cell (m := 10 ^ (38 : Int).toNat + 133) (by decide)
    have e10 : (10 : Int) ^ (38 : Int).toNat = 100000000000000000000000000000000000000 := by decide
    rw [e10] at f0 f1
    refine q _ p (same_upd np) np ⟨_, _, _, upd_same, ?_, by decide, by decide⟩
    rw [e10]
    generalize cell.fmod (100000000000000000000000000000000000000 + 133) = z at f0 f1
    omega
  · refine ⟨_, rfl, _, _, rfl, rfl, ⟨by decide, by decide, by decide⟩, _, _, rfl, rfl, _, _, rfl, _, rfl, .inl ⟨_, rfl, _, _, rfl, rfl, ⟨by decide, by decide, by decide⟩, _, _, rfl, rfl, _, _, rfl, rfl, (by show (10 ^ (38 : Int).toNat + 133 : Int) ≠ 0; decide), _, _, rfl, rfl, .inr ⟨by decide, by decide⟩, _, rfl, _, _, rfl, rfl, .inl ⟨by decide, by decide⟩, _, _, rfl, rfl, _, _, rfl, rfl, (by show 3 ≤ sizeLine; decide), fun p np => ?_⟩⟩
    have f0 := fm0 0 (m := 10 ^ (38 : Int).toNat + 133) (by decide)
    have f1 := fm1 0 (m := 10 ^ (38 : Int).toNat + 133) (by decide)
    have e10 : (10 : Int) ^ (38 : Int).toNat = 100000000000000000000000000000000000000 := by decide
    rw [e10] at f0 f1
    refine q _ p (same_upd np) np ⟨_, _, _, upd_same, ?_, by decide, by decide⟩
    rw [e10]
    generalize (0 : Int).fmod (100000000000000000000000000000000000000 + 133) = z at f0 f1
    omega
def spSpin : Sp := fun vs H Q _ => ∃ (b : Addr) (many : Int) (c : Nat), vs = [.ref b, .int many] ∧ 0 < many ∧ many.natAbs < 2 ^ 250 ∧ ReelAt H b c ∧ c ≤ 10 ^ 9 ∧
  ∀ (r : Nat) (H' : Hp), (r : Int) < many → (∀ a, a ≠ b → H' a = H a) → ReelAt H' b (c + 1) → Q (.int r) H'
theorem ok_law_spin {f : Addr} {fd : FuncData} (F : Fun K "_law_spin" "_law_spin" sLawSpin f fd) (z_int : mg "int" = none) : FnOk P w K mg base CX0 1 f fd ["reel", "many"] spSpin := by
  refine F.ok scLawSpin (fun vs H Q E h => ?_) (fun cdv A outer s H vs Q E hr h => ?_)
  · obtain ⟨_, _, _, rfl, _⟩ := h
    rfl
  obtain ⟨b, many, cn, rfl, hm, hm2, ⟨x, y, z, h0, hy, z0, zc⟩, hc, q0⟩ := h
  have q : ∀ (i : Int) (H' : Hp), (∀ a, a ≠ b → H' a = H a) → ReelAt H' b (cn + 1) → Q (.int (i.fmod many)) H' := fun i H' k1 k2 => by
    have a0 := fm0 i hm
    have a1 := fm1 i hm
    obtain ⟨r, e⟩ := Int.eq_ofNat_of_zero_le a0
    rw [e] at a1 ⊢
    exact q0 r H' a1 k1 k2
  refine ⟨_, (pss_cons (ps_if (pt_cmpR op_gt (pe_ix ix_list (pv 0) pe_int (fun _ _ => rfl)) pe_int (nomark _))
    (pss_cons (ps_set (i := 2) scLawSpin.nd rfl (Or.inl rfl) (pe_op op_modN (pe_callTy call_int1 (by rfl) z_int (by decide +kernel) (pa_cons (pe_ix ix_list (pv 0) pe_int (fun _ _ => rfl)) pa_nil)) (pv 1)))
    (pss_cons (ps_asg (pe_op op_fdivW (pe_ix ix_list (pv 0) pe_int (fun _ _ => rfl)) (pv 1)) (pg_sub (pv 0) pe_int set_list))
    (pss_one (ps_ret (pv 2)))))
    pss_nil)
    (pss_cons (ps_asg (pe_op op_add (pe_ix ix_list (pv 0) pe_int (fun _ _ => rfl)) pe_int) (pg_sub (pv 0) pe_int set_list))
    (pss_cons (ps_set (i := 3) scLawSpin.nd rfl (Or.inl rfl) (pe_op op_modN (pe_callTy call_int1 (by rfl) z_int (by decide +kernel) (pa_cons (pe_op op_powW (pe_op op_add (pe_ix ix_list (pv 0) pe_int (fun _ _ => rfl)) (pe_op op_mul pe_int (pe_ix ix_list (pv 0) pe_int (fun _ _ => rfl)))) pe_int) pa_nil)) (pe_op op_add (pe_op op_pow pe_int pe_int) pe_int)))
    (pss_cons (ps_set (i := 3) scLawSpin.nd rfl (Or.inl rfl) (pe_op op_modN (pe_callTy call_int1 (by rfl) z_int (by decide +kernel) (pa_cons (pe_op op_powW (pe_op op_add (pv 3) (pe_op op_mul pe_int (pe_ix ix_list (pv 0) pe_int (fun _ _ => rfl)))) pe_int) pa_nil)) (pe_op op_add (pe_op op_pow pe_int pe_int) pe_int)))
    (pss_one (ps_ret (pe_op op_modN (pe_callTy call_int1 (by rfl) z_int (by decide +kernel) (pa_cons (pe_op op_fdivW (pv 3) pe_int) pa_nil)) (pv 1)))))))), ?_⟩
  refine ⟨_, rfl, b, _, _, _, rfl, rfl, SqL.of h0, atI_nat (j := 0) rfl, _, _, rfl, rfl, _, rfl, ite2 (fun c => ?_) (fun c => ?_)⟩
  · refine ⟨_, rfl, b, _, _, _, rfl, rfl, SqL.of h0, atI_nat (j := 0) rfl, .inl ⟨_, rfl, _, rfl, _, _, rfl, rfl, by omega, ?_⟩⟩
    refine ⟨_, rfl, b, _, _, _, rfl, rfl, SqL.of h0, atI_nat (j := 0) rfl, _, rfl, _, _, rfl, rfl, wide_div hm hm2 (by decide) (by decide), _, rfl, b, _, _, 0, rfl, rfl, h0, rfl, ?_⟩
    refine ⟨_, rfl, ?_⟩
    exact q x _ (fun a ha => upd_ne ha) ⟨_, y, z, upd_same, hy, z0, by omega⟩
  · refine ⟨_, rfl, b, _, _, _, rfl, rfl, SqL.of h0, atI_nat (j := 2) rfl, _, _, rfl, rfl, _, rfl, b, _, _, 2, rfl, rfl, h0, rfl, ?_⟩
    dsimp only
    have h1 : (upd H b (.lst ([.int x, .int y, .int z].set 2 (.int (z + 1))))) b = some (.lst [.int x, .int y, .int (z + 1)]) := upd_same
    have k1 : ∀ a, a ≠ b → (upd H b (.lst ([.int x, .int y, .int z].set 2 (.int (z + 1))))) a = H a := fun a ha => upd_ne ha
    generalize upd H b (.lst ([.int x, .int y, .int z].set 2 (.int (z + 1)))) = H1 at h1 k1
    refine ⟨_, rfl, b, _, _, _, rfl, rfl, SqL.of h1, atI_nat (j := 1) rfl, _, rfl, b, _, _, _, rfl, rfl, SqL.of h1, atI_nat (j := 2) rfl, _, _, rfl, rfl, .inl ⟨by decide, by decide⟩, _, _, rfl, rfl, _, _, rfl, rfl, powW3 (by omega), .inl ⟨_, rfl, _, _, rfl, rfl, ⟨by decide, by decide, by decide⟩, _, _, rfl, rfl, _, _, rfl, rfl, (by show (10 ^ (42 : Int).toNat + 63 : Int) ≠ 0; decide), ?_⟩⟩
    dsimp only
    have e10 : (10 : Int) ^ (42 : Int).toNat = 1000000000000000000000000000000000000000000 := by decide
    rw [e10]
    have a0 := fm0 ((y + 86028121 * (z + 1)) ^ (3 : Int).toNat) (m := 1000000000000000000000000000000000000000000 + 63) (by decide)
    have a1 := fm1 ((y + 86028121 * (z + 1)) ^ (3 : Int).toNat) (m := 1000000000000000000000000000000000000000000 + 63) (by decide)
    generalize ((y + 86028121 * (z + 1)) ^ (3 : Int).toNat).fmod (1000000000000000000000000000000000000000000 + 63) = mi at a0 a1
    refine ⟨_, rfl, _, rfl, b, _, _, _, rfl, rfl, SqL.of h1, atI_nat (j := 2) rfl, _, _, rfl, rfl, .inl ⟨by decide, by decide⟩, _, _, rfl, rfl, _, _, rfl, rfl, powW3 (by omega), .inl ⟨_, rfl, _, _, rfl, rfl, ⟨by decide, by decide, by decide⟩, _, _, rfl, rfl, _, _, rfl, rfl, (by show (10 ^ (44 : Int).toNat + 57 : Int) ≠ 0; decide), ?_⟩⟩
    dsimp only
    generalize ((mi + 67867967 * (z + 1)) ^ (3 : Int).toNat).fmod (10 ^ (44 : Int).toNat + 57) = mj
    refine ⟨_, rfl, _, _, rfl, rfl, wide_div (by decide) (b := 20) (by decide) (by decide) (by decide), .inl ⟨_, rfl, _, rfl, _, _, rfl, rfl, by omega, ?_⟩⟩
    exact q _ _ k1 ⟨_, _, _, h1, hy, by omega, by omega⟩
end
end LT

namespace LT
open PySem PySem.Spec PyProof.Rows L2
/-- f 0 + .. + f (n - 1) -/
def sumR : Nat → (Nat → Nat) → Nat
  | 0, _ => 0
  | n + 1, f => sumR n f + f n
theorem sumR_congr {f g : Nat → Nat} : ∀ {n : Nat}, (∀ i, i < n → f i = g i) → sumR n f = sumR n g
  | 0, _ => rfl
  | n + 1, h => by
    show sumR n f + f n = sumR n g + g n
    rw [sumR_congr fun i hi => h i (by omega), h n (by omega)]
theorem sumR_add (f g : Nat → Nat) : ∀ n, sumR n (fun i => f i + g i) = sumR n f + sumR n g
  | 0 => rfl
  | n + 1 => by
    show sumR n (fun i => f i + g i) + (f n + g n) = sumR n f + f n + (sumR n g + g n)
    rw [sumR_add f g n]; omega
theorem sumR_const (c : Nat) : ∀ n, sumR n (fun _ => c) = n * c
  | 0 => (Nat.zero_mul c).symm
  | n + 1 => by
    show sumR n (fun _ => c) + c = (n + 1) * c
    rw [sumR_const c n, Nat.succ_mul]
theorem sumR_zero {f : Nat → Nat} {n : Nat} (h : ∀ i, i < n → f i = 0) : sumR n f = 0 := by rw [sumR_congr h, sumR_const, Nat.mul_zero]
theorem sumR_le {f g : Nat → Nat} : ∀ {n : Nat}, (∀ i, i < n → f i ≤ g i) → sumR n f ≤ sumR n g
  | 0, _ => Nat.le_refl _
  | n + 1, h => by
    show sumR n f + f n ≤ sumR n g + g n
    have := sumR_le (n := n) fun i hi => h i (by omega)
    have := h n (by omega)
    omega
theorem sumR_split (f : Nat → Nat) (m : Nat) : ∀ k, sumR (m + k) f = sumR m f + sumR k (fun i => f (m + i))
  | 0 => rfl
  | k + 1 => by
    show sumR (m + k) f + f (m + k) = sumR m f + (sumR k (fun i => f (m + i)) + f (m + k))
    rw [sumR_split f m k]; omega
theorem sumR_head (f : Nat → Nat) (n : Nat) : sumR (n + 1) f = f 0 + sumR n (fun i => f (i + 1)) := by
  have := sumR_split f 1 n
  rw [Nat.add_comm 1 n] at this
  rw [this]
  show 0 + f 0 + _ = _
  rw [Nat.zero_add]
  congr 1
  exact sumR_congr fun i _ => by rw [Nat.add_comm]
theorem sumR_rev (f : Nat → Nat) : ∀ n, sumR n f = sumR n (fun i => f (n - 1 - i))
  | 0 => rfl
  | n + 1 => by
    rw [sumR_head (fun i => f (n + 1 - 1 - i)) n]
    show sumR n f + f n = f (n + 1 - 1 - 0) + sumR n (fun i => f (n + 1 - 1 - (i + 1)))
    rw [sumR_rev f n, Nat.add_sub_cancel, Nat.sub_zero, Nat.add_comm]
    congr 1
    exact sumR_congr fun i hi => by rw [show n - 1 - i = n - (i + 1) by omega]
theorem sumR_swap (f : Nat → Nat → Nat) (m : Nat) : ∀ n, sumR n (fun i => sumR m (fun j => f i j)) = sumR m (fun j => sumR n (fun i => f i j))
  | 0 => (sumR_zero fun _ _ => rfl).symm
  | n + 1 => by
    show sumR n (fun i => sumR m (fun j => f i j)) + sumR m (fun j => f n j) = sumR m (fun j => sumR n (fun i => f i j) + f n j)
    rw [sumR_swap f m n, sumR_add]
theorem sumR_below (c : Nat) : ∀ m, sumR m (fun j => if j < c then 1 else 0) = min c m
  | 0 => by show 0 = min c 0; omega
  | m + 1 => by
    show sumR m (fun j => if j < c then 1 else 0) + (if m < c then 1 else 0) = min c (m + 1)
    rw [sumR_below c m]
    split <;> omega
/-- the sum of quotients -/
def fs (n a b d : Nat) : Nat := sumR n (fun i => (a + i * b) / d)
def tri (n : Nat) : Nat := n * (n - 1) / 2
theorem tri_step (n : Nat) : tri (n + 1) = tri n + n := by
  unfold tri
  rw [Nat.add_sub_cancel]
  cases n with
  | zero => rfl
  | succ k =>
    rw [Nat.add_sub_cancel]
    have e : (k + 1 + 1) * (k + 1) = (k + 1) * k + 2 * (k + 1) := by
      rw [Nat.mul_comm (k + 1) k, ← Nat.add_mul]
    rw [e, Nat.add_mul_div_left _ _ (by decide)]
theorem sumR_lin (a b : Nat) : ∀ n, sumR n (fun i => a + i * b) = n * a + tri n * b
  | 0 => by show 0 = 0 * a + 0 * b; omega
  | n + 1 => by
    show sumR n (fun i => a + i * b) + (a + n * b) = (n + 1) * a + tri (n + 1) * b
    rw [sumR_lin a b n, tri_step, Nat.add_mul, Nat.add_mul, Nat.one_mul]
    omega
/-- whole parts taken off -/
theorem fs_off {n a b d : Nat} (hd : 0 < d) : fs n a b d = tri n * (b / d) + n * (a / d) + fs n (a % d) (b % d) d := by
  have e : fs n a b d = sumR n (fun i => (a / d + i * (b / d)) + (a % d + i * (b % d)) / d) := sumR_congr fun i _ => by
    have h : a + i * b = d * (a / d + i * (b / d)) + (a % d + i * (b % d)) := by
      have h1 := Nat.div_add_mod a d
      have h2 := Nat.div_add_mod b d
      have h3 : i * b = i * (d * (b / d)) + i * (b % d) := by rw [← Nat.mul_add, h2]
      have h4 : d * (a / d + i * (b / d)) = d * (a / d) + i * (d * (b / d)) := by rw [Nat.mul_add, Nat.mul_left_comm]
      omega
    rw [h, Nat.mul_add_div hd]
  rw [e, sumR_add, sumR_lin]
  unfold fs
  omega
/-- counted along the other axis -/
theorem fs_turn {n a b d : Nat} (ha : a < d) (hb : b < d) : fs n a b d = fs ((b * n + a) / d) ((b * n + a) % d) d b := by
  have hd : 0 < d := by omega
  have hN := Nat.div_add_mod (b * n + a) d
  have hr := Nat.mod_lt (b * n + a) hd
  generalize (b * n + a) / d = n' at *
  generalize (b * n + a) % d = a' at *
  have c0 : d * n' = n' * d := Nat.mul_comm _ _
  have cb : b * n = n * b := Nat.mul_comm _ _
  have fle : ∀ i, i < n → (a + i * b) / d ≤ n' := fun i hi => by
    have h1 := Nat.mul_le_mul_right b (show i + 1 ≤ n from hi)
    rw [Nat.succ_mul] at h1
    rw [← Nat.lt_succ_iff, Nat.div_lt_iff_lt_mul hd, Nat.succ_mul]
    omega
  by_cases hn : n' = 0
  · subst hn
    show sumR n _ = sumR 0 _
    exact sumR_zero fun i hi => Nat.le_zero.mp (fle i hi)
  have b0 : 0 < b := by
    rcases Nat.eq_zero_or_pos b with z | z
    · subst z
      have := Nat.le_mul_of_pos_right d (Nat.pos_of_ne_zero hn)
      omega
    · exact z
  have gle : ∀ j, j < n' → (a' + j * d) / b ≤ n := fun j hj => by
    have h1 := Nat.mul_le_mul_right d (show j + 1 ≤ n' from hj)
    rw [Nat.succ_mul] at h1
    rw [← Nat.lt_succ_iff, Nat.div_lt_iff_lt_mul b0, Nat.succ_mul]
    omega
  have e1 : fs n a b d = sumR n (fun i => sumR n' (fun j => if j < (a + i * b) / d then 1 else 0)) := sumR_congr fun i hi => by
    rw [sumR_below, Nat.min_eq_left (fle i hi)]
  have e2 : fs n' a' d b = sumR n' (fun j => sumR n (fun i => if i < (a' + j * d) / b then 1 else 0)) := sumR_congr fun j hj => by
    rw [sumR_below, Nat.min_eq_left (gle j hj)]
  rw [e1, e2, sumR_rev, sumR_swap, sumR_rev]
  refine sumR_congr fun j hj => sumR_congr fun i hi => ?_
  have key : (n' - 1 - j < (a + (n - 1 - i) * b) / d) ↔ (i < (a' + j * d) / b) := by
    show (n' - 1 - j + 1 ≤ _) ↔ (i + 1 ≤ _)
    rw [Nat.le_div_iff_mul_le hd, Nat.le_div_iff_mul_le b0]
    have h1 : (n' - 1 - j + 1) * d + j * d = n' * d := by rw [← Nat.add_mul]; congr 1; omega
    have h2 : (n - 1 - i) * b + (i + 1) * b = n * b := by rw [← Nat.add_mul]; congr 1; omega
    omega
  by_cases k : i < (a' + j * d) / b
  · rw [if_pos k, if_pos (key.mpr k)]
  · rw [if_neg k, if_neg (fun z => k (key.mp z))]
/-- a number by its digits 1 and its quotients -/
theorem legendre : ∀ (j x : Nat), x < 2 ^ (j + 1) → x = ones x + sumR j (fun k => x / 2 ^ (k + 1))
  | 0, x, h => by
    have : x = 0 ∨ x = 1 := by simp at h; omega
    rcases this with rfl | rfl
    · rw [ones_zero]; rfl
    · rw [ones_one]; rfl
  | j + 1, x, h => by
    have ih := legendre j (x / 2) (by rw [Nat.pow_succ] at h; omega)
    have s := ones_step x
    have e : sumR (j + 1) (fun k => x / 2 ^ (k + 1)) = x / 2 + sumR j (fun k => x / 2 / 2 ^ (k + 1)) := by
      rw [sumR_head]
      congr 1
      exact sumR_congr fun k _ => by rw [Nat.div_div_eq_div_mul, Nat.pow_succ 2 (k + 1), Nat.mul_comm]
    rw [e]
    omega
theorem quots {n a b j : Nat} (h : ∀ i, i < n → a + i * b < 2 ^ (j + 1)) : n * a + tri n * b = sumR n (fun i => ones (a + i * b)) + sumR j (fun k => fs n a b (2 ^ (k + 1))) := by
  rw [← sumR_lin]
  have e : sumR n (fun i => a + i * b) = sumR n (fun i => ones (a + i * b) + sumR j (fun k => (a + i * b) / 2 ^ (k + 1))) := sumR_congr fun i hi => legendre j _ (h i hi)
  rw [e, sumR_add, sumR_swap]
  rfl
theorem less_one {n : Nat} {f : Nat → Nat} (h : ∀ i, i < n → 1 ≤ f i) : sumR n f = sumR n (fun i => f i - 1) + n := by
  have e : sumR n f = sumR n (fun i => (f i - 1) + 1) := sumR_congr fun i hi => by have := h i hi; omega
  rw [e, sumR_add, sumR_const, Nat.mul_one]
end LT

namespace LT
open PySem PySem.Spec PyProof.Rows L2
theorem npk_ones {n : Nat} (h : n ≤ 10 ^ 30) : (pk 101 n 0).length = ones n := by rw [pk_ones, Nat.mod_eq_of_lt (Nat.lt_of_le_of_lt h (by decide))]
section
variable {P : Program} {w : World} {K : PySem.W.Frag} {mg : Str → Option Value} {base : Heap}
def spRootSums : Sp := fun vs H Q _ => ∃ (n : Nat), vs = [.int n] ∧ 1 ≤ n ∧ n ≤ 10 ^ 30 ∧ ∀ (H' : Hp), Same H H' → Q (.int ((ones n - 1 : Nat) : Int)) H'
theorem ok_root_sums {f g1 : Addr} {fd d1 : FuncData} (F : Fun K "root_sums" "root_sums" sRootSums f fd) (GEdges : FnOk P w K mg base CX0 5 g1 d1 ["size"] spEdges) (AEdges : At K mg "edges" g1 d1 ["size"]) (z_len : mg "len" = none) : FnOk P w K mg base CX0 6 f fd ["size"] spRootSums := by
  refine F.ok scRootSums (fun vs H Q E h => ?_) (fun cdv A outer s H vs Q E hr h => ?_)
  · obtain ⟨_, rfl, _⟩ := h
    rfl
  obtain ⟨n, rfl, h1, h30, q⟩ := h
  refine ⟨_, (pss_one (ps_ret (pe_callB call_len_seq (by rfl) z_len PySem.boot_len (pa_cons (pe_call GEdges (hr.mono (by decide)) rfl AEdges.m AEdges.kp AEdges.b .nil pass0 (pa_cons (pv 0) pa_nil)) pa_nil)))), ?_⟩
  refine ⟨_, rfl, n, rfl, h1, h30, fun H1 p xs sm np hp hx => ⟨p, xs, rfl, .inl (SqL.of hp), ?_⟩⟩
  dsimp only
  rw [hx.len, List.length_map, List.length_dropLast, List.length_map, npk_ones h30]
  exact q H1 sm
end
end LT

namespace LT
open PySem PySem.Spec PyProof.Rows L2
section
variable {P : Program} {w : World} {K : PySem.W.Frag} {mg : Str → Option Value} {base : Heap}
def spStretch : Sp := fun vs H Q _ => ∃ (l h : Nat), vs = [.int l, .int h] ∧ 1 ≤ l ∧ l ≤ h ∧ h ≤ 10 ^ 30 ∧ Q .non H
theorem ok_check_stretch {f g1 : Addr} {fd d1 : FuncData} (F : Fun K "_check_stretch" "_check_stretch" sCheckStretch f fd) (GCheckSize : FnOk P w K mg base CX0 3 g1 d1 ["size"] spCheckSize) (ACheckSize : At K mg "check_size" g1 d1 ["size"]) : FnOk P w K mg base CX0 4 f fd ["low", "high"] spStretch := by
  refine F.ok scCheckStretch (fun vs H Q E h => ?_) (fun cdv A outer s H vs Q E hr h => ?_)
  · obtain ⟨_, _, rfl, _⟩ := h
    rfl
  obtain ⟨l, h, rfl, l1, lh, h30, q⟩ := h
  refine ⟨_, (pss_cons (ps_expr (pe_call GCheckSize (hr.mono (by decide)) rfl ACheckSize.m ACheckSize.kp ACheckSize.b .nil pass0 (pa_cons (pv 0) pa_nil)))
    (pss_cons (ps_expr (pe_call GCheckSize (hr.mono (by decide)) rfl ACheckSize.m ACheckSize.kp ACheckSize.b .nil pass0 (pa_cons (pv 1) pa_nil)))
    (pss_one (ps_if (pt_cmpR op_gt (pv 0) (pv 1) (nomark _))
    (pss_one ps_never)
    pss_nil)))), ?_⟩
  refine ⟨_, rfl, _, rfl, by omega, by omega, _, rfl, _, rfl, by omega, by omega, _, rfl, _, rfl, _, _, rfl, rfl, false, congrArg V.bl (decide_eq_false (by show ¬ (l : Int) > (h : Int); omega)), ?_⟩
  exact q
end
end LT

namespace LT
open PySem PySem.Spec PyProof.Rows L2
theorem ediv_cast (a b : Nat) : (a : Int) / (b : Int) = ((a / b : Nat) : Int) := (Int.natCast_ediv a b).symm
theorem fmod_cast (a b : Nat) : Int.fmod (a : Int) (b : Int) = ((a % b : Nat) : Int) := by
  rw [Int.fmod_eq_emod_of_nonneg _ (Int.natCast_nonneg _)]
  exact (Int.natCast_emod a b).symm
theorem mulW {a b : Nat} {k l : Nat} (h1 : a < 2 ^ k) (h2 : b < 2 ^ l) (k0 : 0 < k) (l0 : 0 < l) (h : k + l ≤ 1000000) : CMulW (a : Int) (b : Int) := wide_mul (by show a < 2 ^ k; exact h1) (by show b < 2 ^ l; exact h2) k0 l0 h
theorem divW {a b : Nat} {l : Nat} (h0 : 0 < b) (h2 : b < 2 ^ l) (l0 : 0 < l) (h : l ≤ 9000) : CDivW (a : Int) (b : Int) := wide_div (by omega) (by show b < 2 ^ l; exact h2) l0 h
theorem mul_lt {a b k l : Nat} (h1 : a < 2 ^ k) (h2 : b < 2 ^ l) : a * b < 2 ^ (k + l) := by
  rw [Nat.pow_add]
  exact Nat.mul_lt_mul'' h1 h2
theorem pred_mul (n : Nat) : (n : Int) * ((n : Int) - 1) = ((n * (n - 1) : Nat) : Int) := by
  cases n with
  | zero => rfl
  | succ k =>
    rw [Nat.add_sub_cancel, show ((k + 1 : Nat) : Int) - 1 = (k : Int) by omega]
    exact (Int.natCast_mul _ _).symm
section
variable {P : Program} {w : World} {K : PySem.W.Frag} {mg : Str → Option Value} {base : Heap}
def spQuot : Sp := fun vs H Q _ => ∃ (a b n d : Nat), vs = [.int a, .int b, .int n, .int d] ∧ a < 2 ^ 200 ∧ b < 2 ^ 200 ∧ n < 2 ^ 200 ∧ d < 2 ^ 200 ∧ 1 ≤ d ∧ Q (.int ((fs n a b d : Nat) : Int)) H
theorem ok_quotients_sum {f : Addr} {fd : FuncData} (F : Fun K "_quotients_sum" "_quotients_sum" sQuotientsSum f fd) : FnOk P w K mg base CX0 1 f fd ["first", "step", "number", "divisor"] spQuot := by
  refine F.ok scQuotientsSum (fun vs H Q E h => ?_) (fun cdv A outer s H vs Q E hr h => ?_)
  · obtain ⟨_, _, _, _, rfl, _⟩ := h
    rfl
  obtain ⟨a0, b0, n0, d0, rfl, ha, hb, hn, hd, d1, q⟩ := h
  refine ⟨_, (pss_cons (ps_set (i := 4) scQuotientsSum.nd rfl (Or.inl rfl) pe_int)
    (pss_cons (ps_while PassesOwn.never (pt_cmpR op_gt (pv 2) pe_int (nomark _))
    (pss_cons (ps_aug (i := 4) scQuotientsSum.nd rfl (Or.inl rfl) (pe_op op_add (pe_op op_mulW (pe_op op_fdivW (pe_op op_mulW (pv 2) (pe_op op_sub (pv 2) pe_int)) pe_int) (pe_op op_fdivW (pv 1) (pv 3))) (pe_op op_mulW (pv 2) (pe_op op_fdivW (pv 0) (pv 3)))) ip_add)
    (pss_cons (ps_par (i := 1) (j := 0) (by rfl) scQuotientsSum.nd rfl rfl (by decide) rfl rfl (pa_cons (pe_op op_modN (pv 1) (pv 3)) (pa_cons (pe_op op_modN (pv 0) (pv 3)) pa_nil)) (by rfl))
    (pss_cons (ps_par (i := 2) (j := 0) (by rfl) scQuotientsSum.nd rfl rfl (by decide) rfl rfl (pa_cons (pe_op op_fdivW (pe_op op_add (pe_op op_mulW (pv 1) (pv 2)) (pv 0)) (pv 3)) (pa_cons (pe_op op_modN (pe_op op_add (pe_op op_mulW (pv 1) (pv 2)) (pv 0)) (pv 3)) pa_nil)) (by rfl))
    (pss_one (ps_par (i := 1) (j := 3) (by rfl) scQuotientsSum.nd rfl rfl (by decide) rfl rfl (pa_cons (pv 3) (pa_cons (pv 1) pa_nil)) (by rfl)))))))
    (pss_one (ps_ret (pv 4))))), ?_⟩
  refine ⟨fun mu σ H' => ∃ (a b n d t : Nat), σ = [some (.int (a : Int)), some (.int (b : Int)), some (.int (n : Int)), some (.int (d : Int)), some (.int (t : Int))] ∧ H' = H ∧ a < 2 ^ 200 ∧ b < 2 ^ 200 ∧ n < 2 ^ 200 ∧ d < 2 ^ 200 ∧ (1 ≤ n → 1 ≤ d) ∧ t + fs n a b d = fs n0 a0 b0 d0 ∧ mu = d + 0,
    ⟨d0, a0, b0, n0, d0, 0, rfl, rfl, ha, hb, hn, hd, fun _ => d1, Nat.zero_add _, rfl⟩, ?_⟩
  rintro mu σ H1 ⟨a, b, n, d, t, rfl, rfl, ha, hb, hn, hd, d1, hf, hmu⟩
  refine ⟨_, rfl, _, _, rfl, rfl, _, rfl, ite2 (fun c1 => ?_) (fun c1 => ?_)⟩
  · have c2 : (n : Int) > 0 := of_decide_eq_true c1
    have dp : 1 ≤ d := d1 (by omega)
    have bd : b % d < d := Nat.mod_lt _ dp
    have ad : a % d < d := Nat.mod_lt _ dp
    have tn : n * (n - 1) < 2 ^ 400 := mul_lt (k := 200) (l := 200) hn (by omega)
    have trin : tri n < 2 ^ 400 := Nat.lt_of_le_of_lt (Nat.div_le_self _ _) tn
    have bq : b / d < 2 ^ 200 := Nat.lt_of_le_of_lt (Nat.div_le_self _ _) hb
    have aq : a / d < 2 ^ 200 := Nat.lt_of_le_of_lt (Nat.div_le_self _ _) ha
    have nn : b % d * n + a % d < d * (n + 1) := by
      have h1 := Nat.mul_le_mul_right n (show b % d + 1 ≤ d from bd)
      rw [Nat.succ_mul] at h1
      rw [Nat.mul_succ]
      omega
    have nle : (b % d * n + a % d) / d ≤ n := by
      rw [← Nat.lt_succ_iff, Nat.div_lt_iff_lt_mul dp, Nat.mul_comm n.succ d]
      exact nn
    have al : (b % d * n + a % d) % d < d := Nat.mod_lt _ dp
    have off := fs_off (n := n) (a := a) (b := b) dp
    have turn := fs_turn (n := n) ad bd
    have hn1 : (n : Int) - 1 = ((n - 1 : Nat) : Int) := by omega
    refine ⟨_, fun σ' H' h => h, _, rfl, _, rfl, _, rfl, _, _, rfl, rfl, _, _, rfl, rfl, ?_, _, _, rfl, rfl, wide_div (b := 2) (by decide) (by decide) (by decide) (by decide), _, rfl, _, rfl, _, _, rfl, rfl, divW (l := 200) dp hd (by decide) (by decide), _, _, rfl, rfl, ?_, _, rfl, _, rfl, _, rfl, _, _, rfl, rfl, divW (l := 200) dp hd (by decide) (by decide), _, _, rfl, rfl, ?_, _, _, rfl, rfl, _, _, rfl, rfl, ?_⟩
    · rw [hn1]
      exact mulW (k := 200) (l := 200) hn (by omega) (by decide) (by decide) (by decide)
    · show CMulW ((n : Int) * ((n : Int) - 1) / 2) ((b : Int) / (d : Int))
      rw [pred_mul, show ((n * (n - 1) : Nat) : Int) / 2 = ((tri n : Nat) : Int) from ediv_cast _ 2, ediv_cast]
      exact mulW trin bq (by decide) (by decide) (by decide)
    · show CMulW (n : Int) ((a : Int) / (d : Int))
      rw [ediv_cast]
      exact mulW hn aq (by decide) (by decide) (by decide)
    dsimp only
    have dne : (d : Int) ≠ 0 := by omega
    refine ⟨_, rfl, _, rfl, _, _, rfl, rfl, dne, _, rfl, _, rfl, _, _, rfl, rfl, dne, _, _, rfl, ?_⟩
    dsimp only
    rw [fmod_cast, fmod_cast]
    have e1 : ((b % d : Nat) : Int) * (n : Int) + ((a % d : Nat) : Int) = ((b % d * n + a % d : Nat) : Int) := by
      rw [show ((b % d : Nat) : Int) * (n : Int) = ((b % d * n : Nat) : Int) from (Int.natCast_mul _ _).symm]
      rfl
    have bm : b % d < 2 ^ 200 := by omega
    refine ⟨_, rfl, _, rfl, _, _, rfl, rfl, mulW bm hn (by decide) (by decide) (by decide), _, rfl, _, _, rfl, rfl, _, rfl, _, _, rfl, rfl, divW (l := 200) dp hd (by decide) (by decide), _, rfl, _, rfl, _, _, rfl, rfl, mulW bm hn (by decide) (by decide) (by decide), _, rfl, _, _, rfl, rfl, _, rfl, _, _, rfl, rfl, dne, _, _, rfl, ?_⟩
    dsimp only
    rw [e1, ediv_cast, fmod_cast]
    refine ⟨_, rfl, _, rfl, _, _, rfl, ?_⟩
    have e2 : (t : Int) + ((n : Int) * ((n : Int) - 1) / 2 * ((b : Int) / (d : Int)) + (n : Int) * ((a : Int) / (d : Int))) = ((t + (tri n * (b / d) + n * (a / d)) : Nat) : Int) := by
      rw [pred_mul, show ((n * (n - 1) : Nat) : Int) / 2 = ((tri n : Nat) : Int) from ediv_cast _ 2, ediv_cast, ediv_cast]
      rw [show ((tri n : Nat) : Int) * ((b / d : Nat) : Int) = ((tri n * (b / d) : Nat) : Int) from (Int.natCast_mul _ _).symm, show (n : Int) * ((a / d : Nat) : Int) = ((n * (a / d) : Nat) : Int) from (Int.natCast_mul _ _).symm]
      rfl
    refine ⟨b % d, by omega, (b % d * n + a % d) % d, d, (b % d * n + a % d) / d, b % d, t + (tri n * (b / d) + n * (a / d)), ?_, rfl, by omega, hd, by omega, by omega, fun z => ?_, by omega, rfl⟩
    · rw [← e2]
      rfl
    · by_cases c : b % d = 0
      · rw [c, Nat.zero_mul, Nat.zero_add, Nat.div_eq_of_lt ad] at z
        omega
      · omega
  · have c2 : ¬ (n : Int) > 0 := of_decide_eq_false (Bool.eq_false_iff.mpr c1)
    have n0' : n = 0 := by omega
    subst n0'
    have z : fs 0 a b d = 0 := rfl
    rw [z, Nat.add_zero] at hf
    subst hf
    exact ⟨_, rfl, q⟩
def spAlong : Sp := fun vs H Q _ => ∃ (a b n : Nat), vs = [.int a, .int b, .int n] ∧ 1 ≤ a ∧ a < 2 ^ 102 ∧ b < 2 ^ 102 ∧ n < 2 ^ 102 ∧ (∀ i, i < n → a + i * b < 2 ^ 102) ∧ Q (.int ((sumR n (fun i => ones (a + i * b) - 1) : Nat) : Int)) H
theorem ok_roots_along {f g1 : Addr} {fd d1 : FuncData} (F : Fun K "_roots_along" "_roots_along" sRootsAlong f fd) (GQuotientsSum : FnOk P w K mg base CX0 1 g1 d1 ["first", "step", "number", "divisor"] spQuot) (AQuotientsSum : At K mg "_quotients_sum" g1 d1 ["first", "step", "number", "divisor"]) : FnOk P w K mg base CX0 2 f fd ["first", "step", "number"] spAlong := by
  refine F.ok scRootsAlong (fun vs H Q E h => ?_) (fun cdv A outer s H vs Q E hr h => ?_)
  · obtain ⟨_, _, _, rfl, _⟩ := h
    rfl
  obtain ⟨a, b, n, rfl, a1, ha, hb, hn, hx, q⟩ := h
  refine ⟨_, (pss_cons (ps_set (i := 3) scRootsAlong.nd rfl (Or.inl rfl) (pe_op op_sub (pe_op op_add (pe_op op_mulW (pv 2) (pv 0)) (pe_op op_mulW (pe_op op_fdivW (pe_op op_mulW (pv 2) (pe_op op_sub (pv 2) pe_int)) pe_int) (pv 1))) (pv 2)))
    (pss_cons (ps_set (i := 4) scRootsAlong.nd rfl (Or.inl rfl) pe_int)
    (pss_cons (ps_while PassesOwn.never (pt_cmpR op_le (pv 4) (pe_op op_add (pv 0) (pe_op op_mulW (pv 1) (pe_op op_sub (pv 2) pe_int))) (nomark _))
    (pss_cons (ps_aug (i := 3) scRootsAlong.nd rfl (Or.inl rfl) (pe_call GQuotientsSum (hr.mono (by decide)) rfl AQuotientsSum.m AQuotientsSum.kp AQuotientsSum.b .nil pass0 (pa_cons (pv 0) (pa_cons (pv 1) (pa_cons (pv 2) (pa_cons (pv 4) pa_nil))))) ip_sub)
    (pss_one (ps_set (i := 4) scRootsAlong.nd rfl (Or.inl rfl) (pe_op op_mulW (pv 4) pe_int)))))
    (pss_one (ps_ret (pv 3)))))), ?_⟩
  have up : ∀ {x : Nat}, x < 2 ^ 102 → x < 2 ^ 200 := fun h => Nat.lt_trans h (by decide)
  have tn : n * (n - 1) < 2 ^ 400 := mul_lt (k := 200) (l := 200) (up hn) (by have := up hn; omega)
  have trin : tri n < 2 ^ 400 := Nat.lt_of_le_of_lt (Nat.div_le_self _ _) tn
  have c1 : CMulW (n : Int) ((n : Int) - 1) := by
    refine wide_mul (a := 200) (b := 200) (by show n < 2 ^ 200; exact up hn) ?_ (by decide) (by decide) (by decide)
    have := up hn
    omega
  have c2 : CMulW ((n : Int) * ((n : Int) - 1) / 2) (b : Int) := by
    rw [pred_mul, show ((n * (n - 1) : Nat) : Int) / 2 = ((tri n : Nat) : Int) from ediv_cast _ 2]
    exact mulW trin (up hb) (by decide) (by decide) (by decide)
  refine ⟨_, rfl, _, rfl, _, _, rfl, rfl, mulW (up hn) (up ha) (by decide) (by decide) (by decide), _, rfl, _, rfl, _, _, rfl, rfl, _, _, rfl, rfl, c1, _, _, rfl, rfl, wide_div (b := 2) (by decide) (by decide) (by decide) (by decide), _, rfl, _, _, rfl, rfl, c2, _, _, rfl, rfl, _, rfl, _, _, rfl, rfl, ?_⟩
  have e0 : (n : Int) * (a : Int) + (n : Int) * ((n : Int) - 1) / 2 * (b : Int) - (n : Int) = ((n * a + tri n * b : Nat) : Int) - (n : Int) := by
    rw [pred_mul, show ((n * (n - 1) : Nat) : Int) / 2 = ((tri n : Nat) : Int) from ediv_cast _ 2, show (n : Int) * (a : Int) = ((n * a : Nat) : Int) from (Int.natCast_mul _ _).symm, show ((tri n : Nat) : Int) * (b : Int) = ((tri n * b : Nat) : Int) from (Int.natCast_mul _ _).symm]
    rfl
  dsimp only
  rw [e0]
  refine ⟨fun mu σ H' => ∃ (j : Nat) (t : Int), σ = [some (.int (a : Int)), some (.int (b : Int)), some (.int (n : Int)), some (.int t), some (.int ((2 ^ (j + 1) : Nat) : Int))] ∧ H' = H ∧ t + ((sumR j (fun k => fs n a b (2 ^ (k + 1))) : Nat) : Int) = ((n * a + tri n * b : Nat) : Int) - (n : Int) ∧ j ≤ 102 ∧ mu = 102 - j,
    ⟨102, 0, _, rfl, rfl, by show _ + ((0 : Nat) : Int) = _; omega, by decide, rfl⟩, ?_⟩
  rintro mu σ H1 ⟨j, t, rfl, rfl, ht, j102, hmu⟩
  have pj := Nat.pow_pos (a := 2) (n := j + 1) (by decide)
  have c3 : CMulW (b : Int) ((n : Int) - 1) := by
    refine wide_mul (a := 200) (b := 200) (by show b < 2 ^ 200; exact up hb) ?_ (by decide) (by decide) (by decide)
    have := up hn
    omega
  have last : (a : Int) + (b : Int) * ((n : Int) - 1) < 2 ^ 102 := by
    cases n with
    | zero =>
      rw [show ((0 : Nat) : Int) - 1 = -1 by omega, Int.mul_neg, Int.mul_one]
      omega
    | succ k =>
      have := hx k (by omega)
      rw [show ((k + 1 : Nat) : Int) - 1 = (k : Int) by omega, show (b : Int) * (k : Int) = ((k * b : Nat) : Int) by rw [Nat.mul_comm]; exact (Int.natCast_mul _ _).symm]
      omega
  have lastx : (a : Int) + (b : Int) * ((n : Int) - 1) < ((2 ^ (j + 1) : Nat) : Int) → ∀ i, i < n → a + i * b < 2 ^ (j + 1) := fun h i hi => by
    cases n with
    | zero => omega
    | succ k =>
      rw [show ((k + 1 : Nat) : Int) - 1 = (k : Int) by omega, show (b : Int) * (k : Int) = ((k * b : Nat) : Int) by rw [Nat.mul_comm]; exact (Int.natCast_mul _ _).symm] at h
      have := Nat.mul_le_mul_right b (show i ≤ k by omega)
      omega
  refine ⟨_, rfl, _, rfl, _, rfl, _, rfl, _, _, rfl, rfl, _, _, rfl, rfl, c3, _, _, rfl, rfl, _, _, rfl, rfl, _, rfl, ite2 (fun c4 => ?_) (fun c4 => ?_)⟩
  · have c5 : ((2 ^ (j + 1) : Nat) : Int) ≤ (a : Int) + (b : Int) * ((n : Int) - 1) := of_decide_eq_true c4
    have jl : j + 1 < 102 := by
      have h1 : ((2 ^ (j + 1) : Nat) : Int) < 2 ^ 102 := Int.lt_of_le_of_lt c5 last
      have h2 : (2 ^ (j + 1) : Nat) < 2 ^ 102 := by omega
      exact (Nat.pow_lt_pow_iff_right (by decide : 1 < 2)).mp h2
    have pjb : 2 ^ (j + 1) < 2 ^ 200 := Nat.lt_of_le_of_lt (Nat.pow_le_pow_right (n := 2) (by decide) (show j + 1 ≤ 102 by omega)) (by decide)
    have er : ((2 ^ (j + 1) : Nat) : Int) * 2 = ((2 ^ (j + 1 + 1) : Nat) : Int) := by rw [Nat.pow_succ 2 (j + 1)]; omega
    refine ⟨_, fun σ' H' h => h, _, rfl, _, rfl, _, rfl, _, rfl, _, rfl, a, b, n, 2 ^ (j + 1), rfl, up ha, up hb, up hn, pjb, pj, _, _, rfl, rfl, _, rfl, _, _, rfl, rfl, mulW (k := 200) (l := 2) pjb (by decide) (by decide) (by decide) (by decide), ?_⟩
    dsimp only
    refine ⟨102 - (j + 1), by omega, j + 1, t - ((fs n a b (2 ^ (j + 1)) : Nat) : Int), ?_, rfl, ?_, by omega, rfl⟩
    · rw [← er]
      rfl
    · show _ + ((sumR j (fun k => fs n a b (2 ^ (k + 1))) + fs n a b (2 ^ (j + 1)) : Nat) : Int) = _
      omega
  · have c5 : ¬ ((2 ^ (j + 1) : Nat) : Int) ≤ (a : Int) + (b : Int) * ((n : Int) - 1) := of_decide_eq_false (Bool.eq_false_iff.mpr c4)
    have hq := quots (j := j) (lastx (by omega))
    have h1 := less_one (n := n) (f := fun i => ones (a + i * b)) (fun i hi => ones_pos (by omega))
    have et : t = ((sumR n (fun i => ones (a + i * b) - 1) : Nat) : Int) := by
      have h2 : sumR n (fun i => ones (a + i * b)) = sumR n (fun i => ones (a + i * b) - 1) + n := h1
      omega
    subst et
    exact ⟨_, rfl, q⟩
end
end LT

namespace LT
open PySem PySem.Spec PyProof.Rows L2
section
variable {P : Program} {w : World} {K : PySem.W.Frag} {mg : Str → Option Value} {base : Heap}
/-- the sum of root_sums of l, l + 1, .., so many -/
def rt (l m : Nat) : Nat := sumR m (fun i => ones (l + i) - 1)
def spTotal : Sp := fun vs H Q _ => ∃ (l h : Nat), vs = [.int l, .int h] ∧ 1 ≤ l ∧ l ≤ h ∧ h ≤ 10 ^ 30 ∧ Q (.int ((rt l (h + 1 - l) : Nat) : Int)) H
theorem ok_roots_total {f g1 g2 : Addr} {fd d1 d2 : FuncData} (F : Fun K "roots_total" "roots_total" sRootsTotal f fd) (GCheckStretch : FnOk P w K mg base CX0 4 g1 d1 ["low", "high"] spStretch) (ACheckStretch : At K mg "_check_stretch" g1 d1 ["low", "high"])
    (GRootsAlong : FnOk P w K mg base CX0 2 g2 d2 ["first", "step", "number"] spAlong) (ARootsAlong : At K mg "_roots_along" g2 d2 ["first", "step", "number"]) : FnOk P w K mg base CX0 5 f fd ["low", "high"] spTotal := by
  refine F.ok scRootsTotal (fun vs H Q E h => ?_) (fun cdv A outer s H vs Q E hr h => ?_)
  · obtain ⟨_, _, rfl, _⟩ := h
    rfl
  obtain ⟨l, h, rfl, l1, lh, h30, q⟩ := h
  refine ⟨_, (pss_cons (ps_expr (pe_call GCheckStretch (hr.mono (by decide)) rfl ACheckStretch.m ACheckStretch.kp ACheckStretch.b .nil pass0 (pa_cons (pv 0) (pa_cons (pv 1) pa_nil))))
    (pss_one (ps_ret (pe_call GRootsAlong (hr.mono (by decide)) rfl ARootsAlong.m ARootsAlong.kp ARootsAlong.b .nil pass0 (pa_cons (pv 0) (pa_cons pe_int (pa_cons (pe_op op_add (pe_op op_sub (pv 1) (pv 0)) pe_int) pa_nil))))))), ?_⟩
  have b30 : (10 : Nat) ^ 30 + 2 < 2 ^ 102 := by decide
  refine ⟨_, rfl, _, rfl, l, h, rfl, l1, lh, h30, ?_⟩
  refine ⟨_, rfl, _, rfl, _, rfl, _, _, rfl, rfl, _, _, rfl, rfl, l, 1, h + 1 - l, congrArg (fun z => [V.int (l : Int), V.int 1, V.int z]) (by omega), l1, by omega, by decide, by omega, fun i hi => by omega, ?_⟩
  have e : sumR (h + 1 - l) (fun i => ones (l + i * 1) - 1) = rt l (h + 1 - l) := sumR_congr fun i _ => by rw [Nat.mul_one]
  rw [e]
  exact q
end
end LT

namespace LT
open PySem PySem.Spec PyProof.Rows L2
section
variable {P : Program} {w : World} {K : PySem.W.Frag} {mg : Str → Option Value} {base : Heap}
def spNumberBetween : Sp := fun vs H Q _ => ∃ n l h : Int, vs = [.int n, .int l, .int h] ∧ l ≤ n ∧ n ≤ h ∧ Q .non H
theorem ok_check_number_between {f g : Addr} {fd gd : FuncData} (F : Fun K "check_number_between" "check_number_between" sCheckNumberBetween f fd) (GIsBetween : FnOk P w K mg base CX0 2 g gd ["value", "low", "high"] spBetween) (AIsBetween : At K mg "is_between" g gd ["value", "low", "high"]) : FnOk P w K mg base CX0 3 f fd ["number", "least", "most"] spNumberBetween := by
  refine F.ok scCheckNumberBetween (fun vs H Q E h => ?_) (fun cdv A outer s H vs Q E hr h => ?_)
  · obtain ⟨_, _, _, rfl, _⟩ := h
    rfl
  obtain ⟨n, l, h, rfl, h1, h2, q⟩ := h
  refine ⟨_, (pss_one (ps_if (pt_not (pt_val (pe_call GIsBetween (hr.mono (by decide)) rfl AIsBetween.m AIsBetween.kp AIsBetween.b .nil pass0 (pa_cons (pv 0) (pa_cons (pv 1) (pa_cons (pv 2) pa_nil))))))
    (pss_one ps_never)
    pss_nil)), ?_⟩
  refine ⟨_, rfl, _, rfl, _, rfl, n, l, h, rfl, _, rfl, ?_⟩
  rw [decide_eq_true h1, decide_eq_true h2]
  exact q
def spMade : Sp := fun vs H Q _ => ∃ (n : Nat), vs = [.int n] ∧ 1 ≤ n ∧ n ≤ 10 ^ 30 ∧ ∀ (H' : Hp), Same H H' → Q (.int ((n - ones n : Nat) : Int)) H'
theorem ok_made_sums {f g1 : Addr} {fd d1 : FuncData} (F : Fun K "_made_sums" "_made_sums" sMadeSums f fd) (GRootSums : FnOk P w K mg base CX0 6 g1 d1 ["size"] spRootSums) (ARootSums : At K mg "root_sums" g1 d1 ["size"]) : FnOk P w K mg base CX0 7 f fd ["size"] spMade := by
  refine F.ok scMadeSums (fun vs H Q E h => ?_) (fun cdv A outer s H vs Q E hr h => ?_)
  · obtain ⟨_, rfl, _⟩ := h
    rfl
  obtain ⟨n, rfl, n1, n30, q⟩ := h
  refine ⟨_, (pss_one (ps_ret (pe_op op_sub (pe_op op_sub (pv 0) (pe_call GRootSums (hr.mono (by decide)) rfl ARootSums.m ARootSums.kp ARootSums.b .nil pass0 (pa_cons (pv 0) pa_nil))) pe_int))), ?_⟩
  have o1 := ones_pos n1
  have o2 := ones_le_self n
  refine ⟨_, rfl, _, rfl, n, rfl, n1, n30, fun H1 s1 => ⟨_, _, rfl, rfl, _, _, rfl, rfl, ?_⟩⟩
  dsimp only
  rw [show (n : Int) - ((ones n - 1 : Nat) : Int) - 1 = ((n - ones n : Nat) : Int) by omega]
  exact q H1 s1
def spAppend : Sp := fun vs H Q _ => ∃ (n m : Nat), vs = [.int n, .int m] ∧ 1 ≤ n ∧ n + m ≤ 10 ^ 30 ∧ ∀ (H' : Hp), Same H H' → Q (.int ((m : Int) - ((ones (n + m) : Nat) : Int) + ((ones n : Nat) : Int))) H'
theorem ok_append_sums {f g1 g2 g3 : Addr} {fd d1 d2 d3 : FuncData} {t : Tok} (F : Fun K "append_sums" "append_sums" sAppendSums f fd) (GCheckSize : FnOk P w K mg base CX0 3 g1 d1 ["size"] spCheckSize) (ACheckSize : At K mg "check_size" g1 d1 ["size"])
    (GCheckNumberBetween : FnOk P w K mg base CX0 3 g2 d2 ["number", "least", "most"] spNumberBetween) (ACheckNumberBetween : At K mg "check_number_between" g2 d2 ["number", "least", "most"])
    (GMadeSums : FnOk P w K mg base CX0 7 g3 d3 ["size"] spMade) (AMadeSums : At K mg "_made_sums" g3 d3 ["size"]) (g_MOST_ENTRIES : mg "MOST_ENTRIES" = some (.int 1000000000000000000000000000000 t)) : FnOk P w K mg base CX0 8 f fd ["size", "number"] spAppend := by
  refine F.ok scAppendSums (fun vs H Q E h => ?_) (fun cdv A outer s H vs Q E hr h => ?_)
  · obtain ⟨_, _, rfl, _⟩ := h
    rfl
  obtain ⟨n, m, rfl, n1, n30, q⟩ := h
  refine ⟨_, (pss_cons (ps_expr (pe_call GCheckSize (hr.mono (by decide)) rfl ACheckSize.m ACheckSize.kp ACheckSize.b .nil pass0 (pa_cons (pv 0) pa_nil)))
    (pss_cons (ps_expr (pe_call GCheckNumberBetween (hr.mono (by decide)) rfl ACheckNumberBetween.m ACheckNumberBetween.kp ACheckNumberBetween.b .nil pass0 (pa_cons (pv 1) (pa_cons pe_int (pa_cons (pe_op op_sub (pe_glob (v := .int 1000000000000000000000000000000) rfl g_MOST_ENTRIES ⟨_, rfl⟩) (pv 0)) pa_nil)))))
    (pss_one (ps_ret (pe_op op_sub (pe_call GMadeSums (hr.mono (by decide)) rfl AMadeSums.m AMadeSums.kp AMadeSums.b .nil pass0 (pa_cons (pe_op op_add (pv 0) (pv 1)) pa_nil)) (pe_call GMadeSums (hr.mono (by decide)) rfl AMadeSums.m AMadeSums.kp AMadeSums.b .nil pass0 (pa_cons (pv 0) pa_nil))))))), ?_⟩
  refine ⟨_, rfl, _, rfl, by omega, by omega, ?_⟩
  refine ⟨_, rfl, _, rfl, _, _, rfl, rfl, _, _, _, rfl, by omega, by omega, ?_⟩
  have o1 := ones_le_self (n + m)
  have o2 := ones_le_self n
  refine ⟨_, rfl, _, rfl, _, _, rfl, rfl, n + m, rfl, by omega, by omega, fun H1 s1 => ⟨_, rfl, n, rfl, n1, by omega, fun H2 s2 => ⟨_, _, rfl, rfl, ?_⟩⟩⟩
  dsimp only
  rw [show ((n + m - ones (n + m) : Nat) : Int) - ((n - ones n : Nat) : Int) = (m : Int) - ((ones (n + m) : Nat) : Int) + ((ones n : Nat) : Int) by omega]
  exact q H2 (s1.trans s2)
end
end LT

namespace LT
open PySem PySem.Spec PyProof.Rows L2
section
variable {P : Program} {w : World} {K : PySem.W.Frag} {mg : Str → Option Value} {base : Heap}
def spNumberFrom : Sp := fun vs H Q _ => ∃ n l : Int, vs = [.int n, .int l] ∧ l ≤ n ∧ Q .non H
theorem ok_check_number_from {f g : Addr} {fd gd : FuncData} (F : Fun K "check_number_from" "check_number_from" sCheckNumberFrom f fd) (GIsWhole : FnOk P w K mg base CX0 1 g gd ["value"] spWhole) (AIsWhole : At K mg "is_whole" g gd ["value"]) : FnOk P w K mg base CX0 2 f fd ["number", "least"] spNumberFrom := by
  refine F.ok scCheckNumberFrom (fun vs H Q E h => ?_) (fun cdv A outer s H vs Q E hr h => ?_)
  · obtain ⟨_, _, rfl, _⟩ := h
    rfl
  obtain ⟨n, l, rfl, h1, q⟩ := h
  refine ⟨_, (pss_one (ps_if (PW.pt (pw_or (pt_not (pt_val (pe_call GIsWhole (hr.mono (by decide)) rfl AIsWhole.m AIsWhole.kp AIsWhole.b .nil pass0 (pa_cons (pv 0) pa_nil)))) (pw_or1 (pt_cmpR op_lt (pv 0) (pv 1) (nomark _)))))
    (pss_one ps_never)
    pss_nil)), ?_⟩
  refine ⟨_, rfl, n, rfl, true, rfl, _, rfl, _, rfl, _, _, rfl, rfl, false, congrArg V.bl (decide_eq_false (by omega)), ?_⟩
  exact q
end
end LT

namespace LT
open PySem PySem.Spec PyProof.Rows L2
/-- the sum of root_sums of n + s, n + 2 s, .., so many -/
def rs (n s m : Nat) : Nat := sumR m (fun i => ones (n + s + i * s) - 1)
section
variable {P : Program} {w : World} {K : PySem.W.Frag} {mg : Str → Option Value} {base : Heap}
def spSteps : Sp := fun vs H Q _ => ∃ (n s m : Nat), vs = [.int n, .int s, .int m] ∧ 1 ≤ n ∧ 1 ≤ s ∧ s < 2 ^ 101 ∧ n + s * m ≤ 10 ^ 30 ∧ Q (.int ((rs n s m : Nat) : Int)) H
theorem ok_roots_by_steps {f g1 g2 g3 g4 : Addr} {fd d1 d2 d3 d4 : FuncData} {t : Tok} (F : Fun K "roots_by_steps" "roots_by_steps" sRootsBySteps f fd) (GCheckSize : FnOk P w K mg base CX0 3 g1 d1 ["size"] spCheckSize) (ACheckSize : At K mg "check_size" g1 d1 ["size"])
    (GCheckNumberFrom : FnOk P w K mg base CX0 2 g2 d2 ["number", "least"] spNumberFrom) (ACheckNumberFrom : At K mg "check_number_from" g2 d2 ["number", "least"])
    (GCheckNumberBetween : FnOk P w K mg base CX0 3 g3 d3 ["number", "least", "most"] spNumberBetween) (ACheckNumberBetween : At K mg "check_number_between" g3 d3 ["number", "least", "most"])
    (GRootsAlong : FnOk P w K mg base CX0 2 g4 d4 ["first", "step", "number"] spAlong) (ARootsAlong : At K mg "_roots_along" g4 d4 ["first", "step", "number"]) (g_MOST_ENTRIES : mg "MOST_ENTRIES" = some (.int 1000000000000000000000000000000 t)) : FnOk P w K mg base CX0 4 f fd ["size", "step", "number"] spSteps := by
  refine F.ok scRootsBySteps (fun vs H Q E h => ?_) (fun cdv A outer s H vs Q E hr h => ?_)
  · obtain ⟨_, _, _, rfl, _⟩ := h
    rfl
  obtain ⟨n, s, m, rfl, n1, s1, s101, h30, q⟩ := h
  refine ⟨_, (pss_cons (ps_expr (pe_call GCheckSize (hr.mono (by decide)) rfl ACheckSize.m ACheckSize.kp ACheckSize.b .nil pass0 (pa_cons (pv 0) pa_nil)))
    (pss_cons (ps_expr (pe_call GCheckNumberFrom (hr.mono (by decide)) rfl ACheckNumberFrom.m ACheckNumberFrom.kp ACheckNumberFrom.b .nil pass0 (pa_cons (pv 1) (pa_cons pe_int pa_nil))))
    (pss_cons (ps_expr (pe_call GCheckNumberBetween (hr.mono (by decide)) rfl ACheckNumberBetween.m ACheckNumberBetween.kp ACheckNumberBetween.b .nil pass0 (pa_cons (pv 2) (pa_cons pe_int (pa_cons (pe_op op_fdivW (pe_op op_sub (pe_glob (v := .int 1000000000000000000000000000000) rfl g_MOST_ENTRIES ⟨_, rfl⟩) (pv 0)) (pv 1)) pa_nil)))))
    (pss_one (ps_ret (pe_call GRootsAlong (hr.mono (by decide)) rfl ARootsAlong.m ARootsAlong.kp ARootsAlong.b .nil pass0 (pa_cons (pe_op op_add (pv 0) (pv 1)) (pa_cons (pv 1) (pa_cons (pv 2) pa_nil))))))))), ?_⟩
  have n30 : n ≤ 10 ^ 30 := by
    have := Nat.zero_le (s * m)
    omega
  have mm : m ≤ s * m := Nat.le_mul_of_pos_left m s1
  have ed : ((1000000000000000000000000000000 : Int) - (n : Int)) / (s : Int) = (((10 ^ 30 - n) / s : Nat) : Int) := by
    rw [show (1000000000000000000000000000000 : Int) - (n : Int) = ((10 ^ 30 - n : Nat) : Int) by omega]
    exact ediv_cast _ _
  have md : m ≤ (10 ^ 30 - n) / s := (Nat.le_div_iff_mul_le s1).mpr (by rw [Nat.mul_comm]; omega)
  refine ⟨_, rfl, _, rfl, by omega, by omega, ?_⟩
  refine ⟨_, rfl, _, _, rfl, by omega, ?_⟩
  refine ⟨_, rfl, _, rfl, _, _, rfl, rfl, _, rfl, _, _, rfl, rfl, wide_div (b := 101) (show (0 : Int) < (s : Int) by omega) (by show s < 2 ^ 101; exact s101) (by decide) (by decide), _, _, _, rfl, by omega, ?_, ?_⟩
  · show (m : Int) ≤ ((1000000000000000000000000000000 : Int) - (n : Int)) / (s : Int)
    rw [ed]
    omega
  have b30 : (10 : Nat) ^ 30 < 2 ^ 101 := by decide
  refine ⟨_, rfl, _, rfl, _, _, rfl, rfl, _, rfl, _, rfl, n + s, s, m, rfl, by omega, by omega, by omega, by omega, fun i hi => ?_, q⟩
  have := Nat.mul_le_mul_right s (show i + 1 ≤ m from hi)
  rw [Nat.succ_mul, Nat.mul_comm m s] at this
  omega
end
end LT

namespace LT
open PySem PySem.Spec PyProof.Rows L2
theorem sumI (f : Nat → Nat) (k : Nat) : ((List.range k).map fun j => ((f j : Nat) : Int)).sum = ((sumR k f : Nat) : Int) := by
  induction k with
  | zero => rfl
  | succ k ih =>
    rw [List.range_succ, List.map_append, List.sum_append, ih]
    show _ + (((f k : Nat) : Int) + 0) = ((sumR k f + f k : Nat) : Int)
    omega
theorem sumR_bound {f : Nat → Nat} {B : Nat} : ∀ m : Nat, (∀ i, i < m → f i ≤ B) → sumR m f ≤ m * B
  | 0, _ => Nat.zero_le _
  | m + 1, h => by
    have a := sumR_bound m (fun i hi => h i (by omega))
    have b := h m (by omega)
    show sumR m f + f m ≤ (m + 1) * B
    rw [Nat.succ_mul]
    omega
theorem log_small {i : Int} (h1 : -(1000000 : Int) ≤ i) (h2 : i ≤ 1000000) : i.natAbs.log2 < 1920 := by
  by_cases c : i.natAbs = 0
  · rw [c]; decide
  · have : i.natAbs < 2 ^ 20 := by omega
    exact Nat.lt_trans ((Nat.log2_lt c).mpr this) (by decide)
section
variable {P : Program} {w : World} {K : PySem.W.Frag} {mg : Str → Option Value} {base : Heap}
/-- the counts of all sizes below seventy -/
def Cnt (H : Hp) (p : Addr) : Prop := ∃ xs : List V, H p = some (.lst xs) ∧ xs.length = 70 ∧ ∀ i, i < 70 → ∃ q, xs[i]? = some (.ref q) ∧ H q = some (.lst [.int ((i - ones i : Nat) : Int), .int ((ones i - 1 : Nat) : Int)])
theorem Cnt.same {H H' : Hp} {p : Addr} (h : Cnt H p) (s : Same H H') : Cnt H' p := by
  obtain ⟨xs, a, l, b⟩ := h
  exact ⟨xs, s _ _ a, l, fun i hi => by obtain ⟨q, e, k⟩ := b i hi; exact ⟨q, e, s _ _ k⟩⟩
def spRight : Sp := fun vs H Q _ => ∃ (b p : Addr) (c : Nat), vs = [.ref b, .ref p] ∧ ReelAt H b c ∧ c ≤ 10 ^ 6 ∧ Cnt H p ∧ ∀ (H' : Hp), But b H H' → ReelAt H' b (c + 20) → Cnt H' p → Q (.bl true) H'
theorem ok_law_right {f g1 g2 g3 g4 : Addr} {fd d1 d2 d3 d4 : FuncData} (F : Fun K "_law_right" "_law_right" sLawRight f fd)
    (GLawSpin : FnOk P w K mg base CX0 1 g1 d1 ["reel", "many"] spSpin) (ALawSpin : At K mg "_law_spin" g1 d1 ["reel", "many"])
    (GAppendSums : FnOk P w K mg base CX0 8 g2 d2 ["size", "number"] spAppend) (AAppendSums : At K mg "append_sums" g2 d2 ["size", "number"])
    (GRootsTotal : FnOk P w K mg base CX0 5 g3 d3 ["low", "high"] spTotal) (ARootsTotal : At K mg "roots_total" g3 d3 ["low", "high"])
    (GRootsBySteps : FnOk P w K mg base CX0 4 g4 d4 ["size", "step", "number"] spSteps) (ARootsBySteps : At K mg "roots_by_steps" g4 d4 ["size", "step", "number"])
    (z_range : mg "range" = none) (z_repr : mg "repr" = none) (z_sum : mg "sum" = none) : FnOk P w K mg base CX0 9 f fd ["reel", "counts"] spRight := by
  refine F.ok scLawRight (fun vs H Q E h => ?_) (fun cdv A outer s H vs Q E hr h => ?_)
  · obtain ⟨_, _, _, rfl, _⟩ := h
    rfl
  obtain ⟨b, p, c, rfl, hb, hc, hC, q⟩ := h
  refine ⟨_, (pss_cons (ps_set (i := 2) scLawRight.nd rfl (Or.inl rfl) (pe_op op_add pe_int (pe_call GLawSpin (hr.mono (by decide)) rfl ALawSpin.m ALawSpin.kp ALawSpin.b .nil pass0 (pa_cons (pv 0) (pa_cons pe_int pa_nil)))))
    (pss_cons (ps_set (i := 3) scLawRight.nd rfl (Or.inl rfl) (pe_call GLawSpin (hr.mono (by decide)) rfl ALawSpin.m ALawSpin.kp ALawSpin.b .nil pass0 (pa_cons (pv 0) (pa_cons (pe_op op_sub pe_int (pv 2)) pa_nil))))
    (pss_cons (ps_if (pt_cmpR op_ne (pe_callB SkE.call_repr_int (by rfl) z_repr (by decide +kernel) (pa_cons (pe_call GAppendSums (hr.mono (by decide)) rfl AAppendSums.m AAppendSums.kp AAppendSums.b .nil pass0 (pa_cons (pv 2) (pa_cons (pv 3) pa_nil))) pa_nil)) (pe_callB SkE.call_repr_int (by rfl) z_repr (by decide +kernel) (pa_cons (pe_op op_sub (pe_ix ix_list (pe_ix ix_list (pv 1) (pe_op op_add (pv 2) (pv 3)) (fun _ _ => rfl)) pe_int (fun _ _ => rfl)) (pe_ix ix_list (pe_ix ix_list (pv 1) (pv 2) (fun _ _ => rfl)) pe_int (fun _ _ => rfl))) pa_nil)) (nomark _))
    (pss_one (ps_ret pe_bl))
    pss_nil)
    (pss_cons (ps_set (i := 4) scLawRight.nd rfl (Or.inr rfl) (pe_op op_add pe_int (pe_call GLawSpin (hr.mono (by decide)) rfl ALawSpin.m ALawSpin.kp ALawSpin.b .nil pass0 (pa_cons (pv 0) (pa_cons pe_int pa_nil)))))
    (pss_cons (ps_set (i := 5) scLawRight.nd rfl (Or.inl rfl) (pe_op op_add (pv 4) (pe_call GLawSpin (hr.mono (by decide)) rfl ALawSpin.m ALawSpin.kp ALawSpin.b .nil pass0 (pa_cons (pv 0) (pa_cons (pe_op op_sub pe_int (pv 4)) pa_nil)))))
    (pss_cons (ps_if (pt_cmpR op_ne (pe_callB SkE.call_repr_int (by rfl) z_repr (by decide +kernel) (pa_cons (pe_call GRootsTotal (hr.mono (by decide)) rfl ARootsTotal.m ARootsTotal.kp ARootsTotal.b .nil pass0 (pa_cons (pv 4) (pa_cons (pv 5) pa_nil))) pa_nil)) (pe_callB SkE.call_repr_int (by rfl) z_repr (by decide +kernel) (pa_cons (pe_callB (cr_sum rfl) (by rfl) z_sum (by decide +kernel) (pa_cons (pe_lc (own := [("some", 10)]) rfl scLawRight.nd (pi_range2 (by rfl) z_range (pa_cons (pv 4) (pa_cons (pe_op op_add (pv 5) pe_int) pa_nil))) (blkOk_by (N := ["reel", "counts", "size", "more", "low", "high", "step", "number", "due", "turn", "some"]) (sc := defScope sLawRight) (by decide +kernel)) (fun _ _ _ _ _ => (pg_name (i := 10) scLawRight.nd rfl (Or.inl rfl))) (fun _ _ _ _ _ => pts_nil) (fun _ _ _ _ _ => (pe_ix ix_listB (pe_ix ix_listB (pv 1) (pv 10) (fun _ _ => rfl)) pe_int (fun _ _ => rfl)))) pa_nil)) pa_nil)) (nomark _))
    (pss_one (ps_ret pe_bl))
    pss_nil)
    (pss_cons (ps_set (i := 6) scLawRight.nd rfl (Or.inr rfl) (pe_op op_add pe_int (pe_call GLawSpin (hr.mono (by decide)) rfl ALawSpin.m ALawSpin.kp ALawSpin.b .nil pass0 (pa_cons (pv 0) (pa_cons pe_int pa_nil)))))
    (pss_cons (ps_set (i := 7) scLawRight.nd rfl (Or.inl rfl) (pe_call GLawSpin (hr.mono (by decide)) rfl ALawSpin.m ALawSpin.kp ALawSpin.b .nil pass0 (pa_cons (pv 0) (pa_cons (pe_op op_add (pe_op op_fdivW (pe_op op_sub pe_int (pv 4)) (pv 6)) pe_int) pa_nil))))
    (pss_cons (ps_set (i := 8) scLawRight.nd rfl (Or.inl rfl) (pe_callB (cr_sum rfl) (by rfl) z_sum (by decide +kernel) (pa_cons (pe_lc (own := [("turn", 9)]) rfl scLawRight.nd (pi_range2 (by rfl) z_range (pa_cons pe_int (pa_cons (pe_op op_add (pv 7) pe_int) pa_nil))) (blkOk_by (N := ["reel", "counts", "size", "more", "low", "high", "step", "number", "due", "turn", "some"]) (sc := defScope sLawRight) (by decide +kernel)) (fun _ _ _ _ _ => (pg_name (i := 9) scLawRight.nd rfl (Or.inl rfl))) (fun _ _ _ _ _ => pts_nil) (fun _ _ _ _ _ => (pe_ix ix_listB (pe_ix ix_listB (pv 1) (pe_op op_add (pv 4) (pe_op op_mul (pv 6) (pv 9))) (fun _ _ => rfl)) pe_int (fun _ _ => rfl)))) pa_nil)))
    (pss_one (ps_ret (pe_cmpR op_eq (pe_callB SkE.call_repr_int (by rfl) z_repr (by decide +kernel) (pa_cons (pe_call GRootsBySteps (hr.mono (by decide)) rfl ARootsBySteps.m ARootsBySteps.kp ARootsBySteps.b .nil pass0 (pa_cons (pv 4) (pa_cons (pv 6) (pa_cons (pv 7) pa_nil)))) pa_nil)) (pe_callB SkE.call_repr_int (by rfl) z_repr (by decide +kernel) (pa_cons (pv 8) pa_nil)) (nomark _))))))))))))), ?_⟩
  have cnt : ∀ {G : Hp} {i : Nat}, Cnt G p → i < 70 → ∃ q, ∃ xs : List V, SqL K G p xs ∧ atI xs (i : Int) = some (.ref q) ∧ SqL K G q [.int ((i - ones i : Nat) : Int), .int ((ones i - 1 : Nat) : Int)] := fun h hi => by
    obtain ⟨xs, a, l, bb⟩ := h
    obtain ⟨q, e, k⟩ := bb _ hi
    exact ⟨q, xs, SqL.of a, atI_nat e, SqL.of k⟩
  have pick : ∀ {G G' : Hp} {d : Nat}, ReelAt G b d → Cnt G p → (∀ a, a ≠ b → G' a = G a) → Cnt G' p := fun hr h k => by
    obtain ⟨xs, a, l, bb⟩ := h
    obtain ⟨_, _, _, er, _⟩ := hr
    refine ⟨xs, by rw [k p (fun z => by rw [z, er] at a; cases a; cases l)]; exact a, l, fun i hi => ?_⟩
    obtain ⟨q, e, kk⟩ := bb i hi
    exact ⟨q, e, by rw [k q (fun z => by rw [z, er] at kk; cases kk)]; exact kk⟩
  refine ⟨_, rfl, b, 60, c, rfl, by decide, by decide, hb, by omega, fun r1 H1 r11 k1 b1 => ⟨_, _, rfl, rfl, ?_⟩⟩
  have C1 := pick hb hC k1
  have e1 : (1 : Int) + (r1 : Int) = ((1 + r1 : Nat) : Int) := rfl
  dsimp only
  rw [e1]
  generalize hn : 1 + r1 = n
  have B1 : But b H H1 := fun a o na k => by rw [k1 a na]; exact k
  refine ⟨_, rfl, _, rfl, _, _, rfl, rfl, b, ((70 - n : Nat) : Int), _, congrArg (fun z => [V.ref b, V.int z]) (by omega), by omega, by omega, b1, by omega, fun r2 H2 r21 k2 b2 => ?_⟩
  have C2 := pick b1 C1 k2
  have B2 : But b H H2 := fun a o na k => by rw [k2 a na]; exact B1 a o na k
  have i2 : n + r2 < 70 := by omega
  have o1 := ones_le_self n
  have o2 := ones_le_self (n + r2)
  have e2 : (n : Int) + (r2 : Int) = ((n + r2 : Nat) : Int) := rfl
  refine ⟨_, rfl, _, rfl, n, r2, rfl, by omega, Nat.le_trans (show n + r2 ≤ 70 by omega) (by decide), fun H3 s3 => ⟨_, rfl, log_small (by omega) (by omega), ?_⟩⟩
  have C3 := C2.same s3
  obtain ⟨q1, xs1, f1, f2, f3⟩ := cnt C3 i2
  obtain ⟨q2, xs2, f4, f5, f6⟩ := cnt C3 (show n < 70 by omega)
  refine ⟨_, rfl, _, rfl, _, rfl, _, _, rfl, rfl, p, xs1, _, _, rfl, rfl, f1, f2, q1, _, _, _, rfl, rfl, f3, atI_nat (j := 0) rfl, _, rfl, _, rfl, p, xs2, _, _, rfl, rfl, f4, f5, q2, _, _, _, rfl, rfl, f6, atI_nat (j := 0) rfl, _, _, rfl, rfl, _, rfl, log_small (by omega) (by omega), rfl, false, ne_no (congrArg (fun z : Int => V.str (Str.ofString (toString z))) (by omega)), ?_⟩
  have b3 := b2.same s3
  have B3 := B2.trans (But.of (b := b) s3)
  refine ⟨_, rfl, b, 69, _, rfl, by decide, by decide, b3, by omega, fun r4 H4 r41 k4 b4 => ⟨_, _, rfl, rfl, ?_⟩⟩
  have C4 := pick b3 C3 k4
  have B4 : But b H H4 := fun a o na k => by rw [k4 a na]; exact B3 a o na k
  dsimp only
  rw [show (1 : Int) + (r4 : Int) = ((1 + r4 : Nat) : Int) from rfl]
  generalize hl : 1 + r4 = l
  refine ⟨_, rfl, _, rfl, _, rfl, _, _, rfl, rfl, b, ((70 - l : Nat) : Int), _, congrArg (fun z => [V.ref b, V.int z]) (by omega), by omega, by omega, b4, by omega, fun r5 H5 r51 k5 b5 => ⟨_, _, rfl, rfl, ?_⟩⟩
  have C5 := pick b4 C4 k5
  have B5 : But b H H5 := fun a o na k => by rw [k5 a na]; exact B4 a o na k
  have rtb : rt l (l + r5 + 1 - l) ≤ (l + r5 + 1 - l) * 70 := sumR_bound _ fun i hi => by
    have := ones_le_self (l + i)
    omega
  refine ⟨_, rfl, _, rfl, l, l + r5, rfl, by omega, by omega, Nat.le_trans (show l + r5 ≤ 70 by omega) (by decide), _, rfl, log_small (by omega) (by omega), ?_⟩
  refine ⟨_, rfl, _, rfl, _, _, rfl, rfl, (l : Int), ((l + r5 + 1 : Nat) : Int), rfl, ⟨by omega, by omega, by omega, by omega⟩, fun D nD => ?_⟩
  have en : (((l + r5 + 1 : Nat) : Int) - (l : Int)).toNat = l + r5 + 1 - l := by omega
  rw [en]
  refine lc_range (lo := (l : Int)) (n := l + r5 + 1 - l) (fun i H' => Same H5 H' ∧ H' D = some (.lst (((List.range i).map fun j => ((ones (l + j) - 1 : Nat) : Int)).map V.int))) ⟨same_upd nD, upd_same⟩ ?_ ?_
  · rintro j H6 hj ⟨s6, hD⟩
    obtain ⟨q1, xs1, f1, f2, f3⟩ := cnt (C5.same s6) (show l + j < 70 by omega)
    refine ⟨rfl, ?_⟩
    refine ⟨_, rfl, _, rfl, p, xs1, _, _, rfl, rfl, f1, f2, q1, _, _, _, rfl, rfl, f3, atI_nat (j := 1) rfl, ?_⟩
    refine ⟨_, hD, szlt (by rw [List.length_map, List.length_map, List.length_range]; omega), ?_, ?_⟩
    · exact fun a o k => by rw [upd_ne (ne_of_none k nD)]; exact s6 _ _ k
    · rw [List.range_succ, List.map_append, List.map_append]
      exact upd_same
  rintro H6 ⟨s6, hD⟩
  refine ⟨D, _, rfl, SqL.of hD, ?_⟩
  rw [sumI (fun j => ones (l + j) - 1)]
  have erl : sumR (l + r5 + 1 - l) (fun j => ones (l + j) - 1) = rt l (l + r5 + 1 - l) := rfl
  rw [erl]
  refine ⟨_, rfl, log_small (by omega) (by omega), rfl, false, ne_no rfl, ?_⟩
  have b6 := b5.same s6
  have C6 := C5.same s6
  have B6 := B5.trans (But.of (b := b) s6)
  clear hD nD
  -- the steps
  refine ⟨_, rfl, b, 9, _, rfl, by decide, by decide, b6, by omega, fun r7 H7 r71 k7 b7 => ⟨_, _, rfl, rfl, ?_⟩⟩
  have C7 := pick b6 C6 k7
  have B7 : But b H H7 := fun a o na k => by rw [k7 a na]; exact B6 a o na k
  dsimp only
  rw [show (1 : Int) + (r7 : Int) = ((1 + r7 : Nat) : Int) from rfl]
  generalize hst : 1 + r7 = st
  have eS : ((69 : Int) - (l : Int)) / (st : Int) = (((69 - l) / st : Nat) : Int) := by
    rw [show (69 : Int) - (l : Int) = ((69 - l : Nat) : Int) by omega]
    exact (Int.natCast_ediv _ _).symm
  have dv : CDivW ((69 : Int) - (l : Int)) (st : Int) := wide_div (b := 7) (by omega) (by omega) (by decide) (by decide)
  refine ⟨_, rfl, _, rfl, _, _, rfl, rfl, _, rfl, _, _, rfl, rfl, dv, _, _, rfl, rfl, ?_⟩
  dsimp only
  rw [eS]
  have dle : (69 - l) / st ≤ 69 := Nat.le_trans (Nat.div_le_self _ _) (by omega)
  have dmul : st * ((69 - l) / st) ≤ 69 - l := Nat.mul_div_le _ _
  generalize (69 - l) / st = dq at dle dmul
  refine ⟨b, ((dq + 1 : Nat) : Int), _, rfl, by omega, by omega, b7, by omega, fun m H8 m1 k8 b8 => ?_⟩
  have C8 := pick b7 C7 k8
  have B8 : But b H H8 := fun a o na k => by rw [k8 a na]; exact B7 a o na k
  have mq : m ≤ dq := by omega
  have smq : st * m ≤ 69 - l := Nat.le_trans (Nat.mul_le_mul_left st mq) dmul
  refine ⟨_, rfl, _, _, rfl, rfl, 1, ((m + 1 : Nat) : Int), rfl, ⟨by omega, by omega, by omega, by omega⟩, fun D nD => ?_⟩
  have en2 : (((m + 1 : Nat) : Int) - 1).toNat = m := by omega
  rw [en2]
  refine lc_range (lo := 1) (n := m) (fun i H' => Same H8 H' ∧ H' D = some (.lst (((List.range i).map fun j => ((ones (l + st + j * st) - 1 : Nat) : Int)).map V.int))) ⟨same_upd nD, upd_same⟩ ?_ ?_
  · rintro j H9 hj ⟨s9, hD⟩
    have ej : (1 : Int) + (j : Int) = ((1 + j : Nat) : Int) := rfl
    have smj : st * (1 + j) ≤ 69 - l := Nat.le_trans (Nat.mul_le_mul_left st (by omega)) smq
    have ix : (l : Int) + (st : Int) * ((1 : Int) + (j : Int)) = ((l + st + j * st : Nat) : Int) := by
      rw [ej, ← Int.natCast_mul, ← Int.natCast_add]
      congr 1
      rw [Nat.mul_add, Nat.mul_one, Nat.mul_comm st j]
      omega
    have lb : l + st + j * st < 70 := by
      have e : st * (1 + j) = st + j * st := by rw [Nat.mul_add, Nat.mul_one, Nat.mul_comm st j]
      omega
    obtain ⟨q1, xs1, f1, f2, f3⟩ := cnt (C8.same s9) lb
    refine ⟨rfl, ?_⟩
    refine ⟨_, rfl, _, rfl, _, rfl, _, rfl, _, _, rfl, rfl, .inl ⟨by omega, by omega⟩, _, _, rfl, rfl, p, xs1, _, _, rfl, rfl, f1, by rw [ix]; exact f2, q1, _, _, _, rfl, rfl, f3, atI_nat (j := 1) rfl, ?_⟩
    refine ⟨_, hD, szlt (by rw [List.length_map, List.length_map, List.length_range]; omega), ?_, ?_⟩
    · exact fun a o k => by rw [upd_ne (ne_of_none k nD)]; exact s9 _ _ k
    · rw [List.range_succ, List.map_append, List.map_append]
      exact upd_same
  rintro H9 ⟨s9, hD⟩
  refine ⟨D, _, rfl, SqL.of hD, ?_⟩
  rw [sumI (fun j => ones (l + st + j * st) - 1)]
  have ers : sumR m (fun j => ones (l + st + j * st) - 1) = rs l st m := rfl
  rw [ers]
  have rsb : rs l st m ≤ m * 140 := sumR_bound _ fun i hi => by
    have := ones_le_self (l + st + i * st)
    have h2 : st * (i + 1) ≤ 69 - l := Nat.le_trans (Nat.mul_le_mul_left st (by omega)) smq
    rw [Nat.mul_add, Nat.mul_one, Nat.mul_comm st i] at h2
    omega
  have b9 := b8.same s9
  refine ⟨_, rfl, _, rfl, _, rfl, l, st, m, rfl, by omega, by omega, Nat.lt_of_lt_of_le (show st < 16 by omega) (by decide), Nat.le_trans (show l + st * m ≤ 70 by omega) (by decide), _, rfl, log_small (by omega) (by omega), ?_⟩
  refine ⟨_, rfl, _, rfl, log_small (by omega) (by omega), rfl, ?_⟩
  rw [decide_eq_true rfl]
  exact q _ (B8.trans (But.of (b := b) s9)) (b9.mono (by omega)) (C8.same s9)
end
end LT

namespace LT
open PySem PySem.Spec PyProof.Rows L2
/-! ### promises of defs that show things: what is being shown around them is told to be nothing -/
structure GOk (P : Program) (w : World) (K : PySem.W.Frag) (mg : Str → Option Value) (base : Heap) (k : Nat) (f : Addr) (fd : FuncData) (ps : List Str) (sp : Sp) : Prop where
  len : ∀ vs H Q E, sp vs H Q E → vs.length = ps.length
  run : ∀ (A : Around) (outer : List Env) (s : Shared) (H : Hp) (args : Args) (us : List Value) (vs : List V) (Q : VK), A.guards = some [] → Room k A → Env0 P w K mg base A outer s H → BindsTo s fd args (ps.zip us) → Vals vs us → sp vs H Q E0 →
    codeAny (model P w) A (.call (.ref f) args) (CR CX0 outer P w H s Q E0) s
section
variable {P : Program} {w : World} {K : PySem.W.Frag} {mg : Str → Option Value} {base : Heap} {k : Nat} {f : Addr} {fd : FuncData} {ps : List Str} {sp : Sp}
theorem GOk.of (F : FnOk P w K mg base CX0 k f fd ps sp) : GOk P w K mg base k f fd ps sp := by
  refine ⟨F.len, ?_⟩
  intro A outer s H args us vs Q _
  exact F.run A outer s H args us vs Q E0
theorem GOk.mono {j : Nat} (F : GOk P w K mg base j f fd ps sp) (h : j ≤ k) : GOk P w K mg base k f fd ps sp := by
  refine ⟨F.len, ?_⟩
  intro A outer s H args us vs Q hg hr
  exact F.run A outer s H args us vs Q hg (hr.mono h)
/-- a def by its body, as Fun.ok -/
theorem okG {x qual : Str} {st : Stmt} {N : List Str} (F : Fun K x qual st f fd) (S : FnScope N ps (defScope st)) (len : ∀ vs H Q E, sp vs H Q E → vs.length = ps.length)
    (body : ∀ (cdv : Value) (A : Around) (outer : List Env) (s : Shared) (H : Hp) (vs : List V) (Q : VK), A.guards = some [] → Room k (A.deeper (envOfC qual (defScope st) s.heap.objs.size f cdv)) → sp vs H Q E0 →
      ∃ t, PSs (cxOf CX0 P w K mg base N qual (defScope st) f cdv A outer s H E0).nox (defBody st) t ∧ t { nx := fun _ H' => Q .non H', rt := Q } (start N vs) H) : GOk P w K mg base (k + 1) f fd ps sp := by
  obtain ⟨oc, od, kV, doc, pm, an, cdv, ct, osl, e, lk, hcd⟩ := F.ex
  subst e
  refine ⟨len, ?_⟩
  intro A outer s H args us vs Q hg hr ev hb rv hsp
  have nvs := len _ _ _ _ hsp
  have there : K.In s.heap := ev.mod.kin.keeps (fun b o q => (ev.bs b o q).1)
  have noLim : s.heap.NoLimit := ev.mod.nolimit.keeps (fun b o q => (ev.bs b o q).1)
  have kinds : ∀ y ∈ ps.zip us, (defScope st).names.lookup y.1 = some .local ∨ ((defScope st).names.lookup y.1 = some .cell ∧ ((cellsFrom (s.heap.objs.size + 1) (defScope st).names []).lookup y.1).isSome = true) := by
    intro y hy
    rcases S.par y.1 (List.of_mem_zip hy).1 with q | q
    · exact Or.inl q
    · exact Or.inr ⟨q, PySem.W.cellsFrom_some _ _ _ (Or.inl q)⟩
  apply codeAny_call_function hr.depth (there _ _ lk) rfl S.co S.gen rfl (PySem.W.codeRec_of there hcd)
  apply hb
  apply wpAny_newFunctionEnv_cells S.kind kinds
  intro env he s1 made
  subst he
  refine ⟨noLim.keeps made.toInCall.keep, codeAny_func ?_⟩
  obtain ⟨t, ht, hq⟩ := body cdv A outer s H vs Q hg (hr.deeper _) hsp
  have I : Inv (cxOf CX0 P w K mg base N qual (defScope st) f cdv A outer s H E0) [] (start N vs) H s1 := inv_start S hr.hd ev nvs rv made
  have ran := ht.nox.run [] s1 (start N vs) H _ I hq
  apply wpAny_mono ran
  · intro fl s' hs
    have fin : ∀ {σ' : L2.St} {H' : Hp} {v : V} {u : Value}, Inv (cxOf CX0 P w K mg base N qual (defScope st) f cdv A outer s H E0) [] σ' H' s' → RelV v u → Q v H' → CE outer P w H s Q u s' := by
      intro σ' H' v u J r q
      exact ⟨v, H', J.os, J.bare, J.base, J.hok, r, q⟩
    match fl, hs with
    | .ret u, ⟨v, σ', H', J, r, q⟩ => exact fin J r q
    | .next, ⟨σ', H', J, q⟩ => exact fin (v := V.non) (u := Value.none) J rfl q
    | .brk, ⟨_, _, _, q⟩ => exact False.elim q
    | .cont, ⟨_, _, _, q⟩ => exact False.elim q
  · intro e s' hs
    exact hs
end
section
variable {X : Cx} {k : Nat} {f : Addr} {fd : FuncData} {ps : List Str} {sp : Sp} {x : Str} {p pos : Pos} {e : Expr} {es : List Expr} {t : TA}
theorem runG {pins : List (Addr × Obj)} {σ : L2.St} {H : Hp} {s : Shared} {Q : VK} {us : List Value} {vs : List V} (F : GOk X.prog X.w X.K X.mg X.base k f fd ps sp) (hg : X.A.guards = some []) (hr : Room k X.A) (hb : Binds X.K fd ps [])
    (I : Inv X pins σ H s) (rv : Vals vs us) (h : sp vs H Q E0) : wpAny (model X.prog X.w) X.A (call (.ref f) us) (EP X pins σ Q) X.xe s := by
  have n : (us ++ []).length = ps.length := by
    rw [List.append_nil, ← rv.length]
    exact F.len _ _ _ _ h
  have b := hb s us I.kIn n
  rw [List.append_nil] at b
  apply wpAny_call
  apply codeAny_mono (F.run X.A X.stack s H ⟨us, []⟩ us vs Q hg hr I.env0 b rv h)
  intro res s' hq
  match res, hq with
  | .error _, hq => exact False.elim hq
  | .ok (.ret u), hq => exact I.after hq
  | .ok .next, hq => exact False.elim hq
  | .ok .brk, hq => exact False.elim hq
  | .ok .cont, hq => exact False.elim hq
theorem pe_callG (F : GOk X.prog X.w X.K X.mg X.base k f fd ps sp) (hgd : X.A.guards = some []) (hr : Room k X.A) (hg : Gl X x) (hm : X.mg x = some (.ref f)) (hk : PySem.W.keepIn X.K (.ref f) = true) (hb : Binds X.K fd ps [])
    (ha : PA X (e :: es) t) (hdb : (x == ("__debug__" : Str)) = false := by decide) (he : starEach (e :: es) X.env = (false, eval e X.env) :: starEach es X.env := by rfl) (hpl : (backTo pos (starEach es X.env)).any (·.1) = false := by rfl) :
    PE X (.Call (.Name x p) (e :: es) [] pos) (tCall sp [] E0 t) := by
  constructor
  intro pins s σ H Q I h
  apply wpAny_Call_Name_kw
  refine ld_glob I hg hm ?_ hdb
  apply PySem.W.callWith_K (h₀ := X.base) I.ok.mod.kin hk _ he hpl
  apply thn (ha.run pos pins s σ H _ I h)
  intro us s1 hh
  obtain ⟨vs, H1, I1, rv, q⟩ := hh
  rw [List.append_nil] at q
  exact ⟨I1.kIn, runG F hgd hr hb I1 rv q⟩
/-- repr of lists and tuples of plain data -/
theorem call_repr (hg : X.A.guards = some []) (hu : X.A.units + 65 < cLine) :
    CallR X (.builtin "repr") (fun xs H Q => ∃ y d, xs = [y] ∧ Dp X.K H y d ∧ PyProof.Rows.isDisplay d = true ∧ SeqAt.shaped d = true ∧ d.showable = true ∧ d.shown.length ≤ sizeLine ∧ Q (.str d.shown) H) := by
  intro pins s σ H xs us Q I r h
  obtain ⟨y, d, rfl, hd, hi, hsh, hs, hl, q⟩ := h
  obtain ⟨u, rfl, r1⟩ := vals1 r
  obtain ⟨as, r2⟩ := Dp.reads I d y u hd r1
  obtain ⟨a, rfl⟩ := PyProof.Rows.isRef_of_reads r2 hi
  have dp := SeqAt.depth_of_shaped hsh
  refine repr_of_reads' r2 hs (PyData.noDict_hsm (PyData.hasDict_of_canLay d (SeqAt.canLay_of_shaped hsh))) hg (by omega) (fun _ _ q => q) ?_ hl
  intro h' u tk kept
  exact ⟨.str d.shown, H, I.kept kept, ⟨_, rfl⟩, q⟩
theorem call_reprB {s : Shared} {H : Hp} {sc : Scope} {ce : Env} {fp : List Addr} (hg : X.A.guards = some []) (hu : X.A.units + 65 < cLine) :
    CallR (X.blk s H sc ce fp) (.builtin "repr") (fun xs H Q => ∃ y d, xs = [y] ∧ Dp X.K H y d ∧ PyProof.Rows.isDisplay d = true ∧ SeqAt.shaped d = true ∧ d.showable = true ∧ d.shown.length ≤ sizeLine ∧ Q (.str d.shown) H) := call_repr (X := X.blk s H sc ce fp) hg hu
end
end LT

namespace LT
open PySem PySem.Spec PyProof.Rows L2
section
variable {P : Program} {w : World} {K : PySem.W.Frag} {mg mb : Str → Option Value} {k : Nat} {fa a : Addr} {fd : FuncData} {x : Str} {sp : Sp} {s₁ : Shared} {vs : List Value} {ns : List Int}
/-- what is told of the heap ahead of the law's call: the script alone, where it is no object of the top -/
def told (K : PySem.W.Frag) (a : Addr) (ob : Obj) (ns : List Int) : Hp := fun b => if b = a ∧ K.lookup a = none then some (.frz ob (.lst (ns.map V.int))) else none
theorem told_at {ob : Obj} {b : Addr} {u : HO} (h : told K a ob ns b = some u) : b = a ∧ K.lookup a = none ∧ u = .frz ob (.lst (ns.map V.int)) := by
  unfold told at h
  by_cases c : b = a ∧ K.lookup a = none
  · rw [if_pos c] at h
    exact ⟨c.1, c.2, (Option.some.inj h).symm⟩
  · rw [if_neg c] at h
    cases h
/-- the law's call, from a promise that asks that nothing is being shown -/
theorem lawG (there : K.In s₁.heap) (globs : s₁.heap.Ns mainGlobals mg) (blts : s₁.heap.Ns builtinsNs mb) (boot : ∀ y : Str, y ≠ "__name__" → mb y = bootBuiltins y) (noLim : s₁.heap.NoLimit) (noGens : s₁.gens = #[])
    (obj : s₁.heap.get? a = some { cls := .type "list", data := .seq vs.toArray }) (areI : IntsAre vs ns) (few : ns.length ≤ sizeLine) (hr : Room k callerA)
    (F : ∀ base : Heap, K.In base → base.Ns mainGlobals mg → GOk P w K mg base k fa fd [x] sp) (binds : ∀ (s : Shared) (u : Value), BindsTo s fd ⟨[u], []⟩ [(x, u)])
    (keeps : ∀ H : Hp, Only H → SqL K H a (ns.map V.int) → sp [.ref a] H (fun v _ => v = .bl true) E0) :
    codeAny (model P w) callerA (.call (.ref fa) ⟨[.ref a], []⟩) (fun r s' => r = .ok (.ret (.bool true)) ∧ OldK s₁.heap s'.heap ∧ s'.os = s₁.os ∧ AllBare s'.gens) s₁ := by
  generalize ho : ({ cls := .type "list", data := .seq vs.toArray } : Obj) = ob at obj
  have items := vals_ints areI
  have only : Only (told K a ob ns) := by
    intro b
    cases q : told K a ob ns b with
    | none => exact Or.inl rfl
    | some u => exact Or.inr ⟨ob, ns.map V.int, by rw [(told_at q).2.2]⟩
  have sq : SqL K (told K a ob ns) a (ns.map V.int) := by
    cases q : K.lookup a with
    | none => exact Or.inl (Or.inr ⟨ob, if_pos ⟨rfl, q⟩⟩)
    | some o =>
      have same : o = ob := Option.some.inj ((there a o q).symm.trans obj)
      subst same
      subst ho
      refine Or.inr ⟨_, vs.toArray, _, q, rfl, rfl, rfl, ?_, by simpa using items⟩
      rw [List.size_toArray, areI.length]
      exact few
  have fits : HOk P w (told K a ob ns) s₁.heap := by
    intro b u q
    obtain ⟨rfl, _, rfl⟩ := told_at q
    subst ho
    exact ⟨obj, by rw [List.length_map]; exact few, vs, _, items, obj⟩
  have behind : ∀ {b : Addr} {o : Obj}, s₁.heap.get? b = some o → told K a ob ns b = none → (hidT s₁.heap (told K a ob ns)).get? b = some o := fun q n => hidT_get q n
  have nsp : ∀ {b : Addr} {m : Str → Option Value}, s₁.heap.Ns b m → (hidT s₁.heap (told K a ob ns)).Ns b m := by
    rintro b m ⟨o, es, ep, q, d, r⟩
    refine ⟨o, es, ep, behind q ?_, d, r⟩
    cases z : told K a ob ns b with
    | none => rfl
    | some u =>
      obtain ⟨rfl, _, _⟩ := told_at z
      rw [obj] at q
      cases q
      subst ho
      cases (show Data.seq vs.toArray _ = Data.dict es ep from d)
  have inB : K.In (hidT s₁.heap (told K a ob ns)) := by
    intro b o q
    refine behind (there b o q) ?_
    cases z : told K a ob ns b with
    | none => rfl
    | some u =>
      obtain ⟨rfl, n, _⟩ := told_at z
      rw [n] at q
      cases q
  have M : Mod K mg (hidT s₁.heap (told K a ob ns)) := by
    obtain ⟨mc, c1, c2⟩ := noLim
    exact ⟨inB, nsp globs, ⟨mb, nsp blts, boot⟩, ⟨mc, nsp c1, c2⟩⟩
  have ev : Env0 P w K mg (hidT s₁.heap (told K a ob ns)) callerA [] s₁ (told K a ob ns) :=
    { frames := rfl, mod := M, bs := fun _ _ q => of_hidT q, bsz := Nat.le_of_eq (hidT_size _ _), funs := trivial, frf := fun b q => absurd (show b ∈ ([] : List Addr) from q) List.not_mem_nil, hok := fits, bare := .of_eq noGens }
  have ran := (F _ inB (nsp globs)).run callerA [] s₁ (told K a ob ns) ⟨[.ref a], []⟩ [.ref a] [.ref a] _ rfl hr ev (binds s₁ (.ref a)) (.cons rfl .nil) (keeps _ only sq)
  apply codeAny_mono ran
  intro res s' h
  match res, h with
  | .error _, h => exact False.elim h
  | .ok .next, h => exact False.elim h
  | .ok .brk, h => exact False.elim h
  | .ok .cont, h => exact False.elim h
  | .ok (.ret u), ⟨v, H', os, bare, un, hok', rv, q⟩ =>
    have qv : v = .bl true := q
    subst qv
    have qu : u = Value.bool true := rv
    subst qu
    refine ⟨rfl, OldK.of_keep ?_, os, bare⟩
    intro b o q1
    cases z : told K a ob ns b with
    | none => exact un.keep b o q1 z (fun m => absurd (show b ∈ ([] : List Addr) from m) List.not_mem_nil) List.not_mem_nil
    | some c =>
      obtain ⟨rfl, n, rfl⟩ := told_at z
      obtain ⟨e1, _⟩ := fits _ _ z
      obtain ⟨e2, _⟩ := hok' _ _ (un.frzs _ _ _ z)
      rw [q1] at e1
      cases e1
      exact e2
end
theorem walkG {l : PySem.W.OpenLaw} {n k : Nat} {q : Program} {loose : List Str} {XP : (Str → Option Value) → Heap → Prop} {YP : World → Heap → Prop} {d : DefRec} {K : Params → PySem.W.Frag} {sp : World → Sp} {x : Str}
    (hn : l.most = some n) (hn2 : n ≤ sizeLine) (hdf : d.params.defaults = []) (hr : Room k callerA) (hY : ∀ (w : World) (h : Heap), YP w h → (K w.params).In h)
    (F : ∀ (w : World) (mg : Str → Option Value) (fa : Addr) (h : Heap), (K w.params).In h → h.Ns mainGlobals mg → mg d.name = some (.ref fa) →
      ∃ fd : FuncData, (∀ (s : Shared) (u : Value), BindsTo s fd ⟨[u], []⟩ [(x, u)]) ∧ ∀ base : Heap, (K w.params).In base → base.Ns mainGlobals mg → GOk l.prog w (K w.params) mg base k fa fd [x] (sp w))
    (keeps : ∀ (w : World) (H : Hp) (a : Addr) (ns : List Int), ns.length ≤ n → Only H → SqL (K w.params) H a (ns.map V.int) → sp w [.ref a] H (fun v _ => v = .bl true) E0) :
    PySem.W.WalkO q loose XP YP l.row.toRowW d [] (fun f vs => PySem.call f vs) := by
  apply Att.attach_call hn hdf
  intro w s₀ s₁ mg mb fa o pm cd doc a vs ns G Y ho hd hcd hmg hobj hints hlen hg
  obtain ⟨fd, hb, hF⟩ := F w mg fa _ (hY w _ Y) G.T.g hmg
  exact lawG (hY w _ Y) G.T.g G.T.b G.T.builtins G.T.nolimit hg hobj hints (Nat.le_trans hlen hn2) hr hF hb (fun H hO hS => keeps w H a ns hlen hO hS)
end LT

namespace LT
open PySem PySem.Spec PyProof.Rows L2
theorem script_at {ns : List Int} {lo hi : Option Int} {i : Nat} {x : V} (h : (cutV (ns.map V.int) lo hi ++ [.int 0])[i]? = some x) : ∃ c : Int, x = .int c := by
  have m := List.mem_of_getElem? h
  rcases List.mem_append.mp m with m | m
  · unfold cutV at m
    have m2 := List.mem_of_mem_drop (List.mem_of_mem_take m)
    obtain ⟨c, _, e⟩ := List.mem_map.mp m2
    exact ⟨c, e.symm⟩
  · exact ⟨0, List.mem_singleton.mp m⟩
theorem sqSame {K : PySem.W.Frag} {H H' : Hp} {a : Addr} {xs : List V} (h : SqL K H a xs) (e : Same H H') : SqL K H' a xs :=
  h.elim (fun h => .inl (h.elim (fun h => .inl (e _ _ h)) fun ⟨o, h⟩ => .inr ⟨o, e _ _ h⟩)) fun h => .inr h
def spLaw (K : PySem.W.Frag) : Sp := fun vs H Q _ => ∃ (a : Addr) (ns : List Int), vs = [.ref a] ∧ SqL K H a (ns.map V.int) ∧ ns.length ≤ 63 ∧ ∀ H', Q (.bl true) H'
end LT

namespace LT
open PySem PySem.Spec PyProof.Rows L2
theorem turns_is (k : Int) (len : Nat) (h : 1 ≤ k) : ∃ m : Nat, m ≤ k.toNat ∧ (if (if (len : Int) < k then (len : Int) else k) > 1 then (if (len : Int) < k then (len : Int) else k) else 1) = (m : Int) := by
  refine ⟨(if (if (len : Int) < k then (len : Int) else k) > 1 then (if (len : Int) < k then (len : Int) else k) else 1).toNat, ?_, ?_⟩ <;> split <;> split <;> omega
theorem cut_first (xs : List V) (h : 1 ≤ xs.length) : cutV xs (some 1) none = xs.drop 1 := by
  unfold cutV
  have e : HT.sIx xs.length 0 (some 1) = 1 := by
    show (if (1 : Int) < 0 then ((1 : Int) + (xs.length : Int)).toNat else min (1 : Int).toNat xs.length) = 1
    rw [if_neg (by decide)]
    show min 1 xs.length = 1
    omega
  rw [e, HT.sIx_none]
  exact List.take_of_length_le (by rw [List.length_drop]; omega)
theorem oF {n : Nat} (h : n < 128) : ones n = onesF 7 n := (onesF_is 7 n h).symm
theorem rt17 : rt 1 (7 + 1 - 1) = 5 := by
  have e : rt 1 (7 + 1 - 1) = sumR 7 (fun i => onesF 7 (1 + i) - 1) := sumR_congr fun i hi => by rw [oF (by omega)]
  rw [e]; decide
theorem rs123 : rs 1 2 3 = 4 := by
  have e : rs 1 2 3 = sumR 3 (fun i => onesF 7 (1 + 2 + i * 2) - 1) := sumR_congr fun i hi => by rw [oF (by omega)]
  rw [e]; decide
theorem ap16 : ((6 : Nat) : Int) - ((ones (1 + 6) : Nat) : Int) + ((ones 1 : Nat) : Int) = 4 := by rw [oF (by decide), oF (by decide)]; decide
theorem ap62 : ((2 : Nat) : Int) - ((ones (6 + 2) : Nat) : Int) + ((ones 6 : Nat) : Int) = 3 := by rw [oF (by decide), oF (by decide)]; decide
theorem ap50 : ((0 : Nat) : Int) - ((ones (5 + 0) : Nat) : Int) + ((ones 5 : Nat) : Int) = 0 := by rw [oF (by decide)]; decide
def oL (k : Nat) : List Int := (List.range k).map fun j => ((ones (1 + j) - 1 : Nat) : Int)
def oLF (k : Nat) : List Int := (List.range k).map fun j => ((onesF 7 (1 + j) - 1 : Nat) : Int)
theorem oL_is {k : Nat} (h : k ≤ 100) : oL k = oLF k := by
  unfold oL oLF
  exact List.map_congr_left fun j hj => by rw [oF (by have := List.mem_range.mp hj; omega)]
theorem oL_succ (k : Nat) : oL (k + 1) = oL k ++ [((ones (1 + k) - 1 : Nat) : Int)] := by
  unfold oL
  rw [List.range_succ, List.map_append]
  rfl
theorem oL_len (k : Nat) : (oL k).length = k := by unfold oL; rw [List.length_map, List.length_range]
theorem oL_shows : (PyData.list ((oL 69).map PyData.int)).showable = true ∧ (PyData.list ((oL 69).map PyData.int)).shown.length ≤ sizeLine := by
  rw [oL_is (by decide)]
  decide +kernel
theorem oL7 : oL 7 = [0, 0, 1, 0, 1, 1, 2] := by rw [oL_is (by decide)]; decide
section
variable {P : Program} {w : World} {K : PySem.W.Frag} {mg : Str → Option Value} {base : Heap}
theorem ok_law {f g1 g2 g3 g4 g5 g6 g7 : Addr} {fd d1 d2 d3 d4 d5 d6 d7 : FuncData} (F : Fun K "law" "law" sLaw f fd)
    (GLawWound : FnOk P w K mg base CX0 1 g1 d1 ["script", "k"] (spWound K)) (ALawWound : At K mg "_law_wound" g1 d1 ["script", "k"])
    (GLawRight : FnOk P w K mg base CX0 9 g2 d2 ["reel", "counts"] spRight) (ALawRight : At K mg "_law_right" g2 d2 ["reel", "counts"])
    (GLawCounted : FnOk P w K mg base CX0 4 g3 d3 ["size"] spCounted) (ALawCounted : At K mg "_law_counted" g3 d3 ["size"])
    (GRootSums : FnOk P w K mg base CX0 6 g4 d4 ["size"] spRootSums) (ARootSums : At K mg "root_sums" g4 d4 ["size"])
    (GAppendSums : FnOk P w K mg base CX0 8 g5 d5 ["size", "number"] spAppend) (AAppendSums : At K mg "append_sums" g5 d5 ["size", "number"])
    (GRootsTotal : FnOk P w K mg base CX0 5 g6 d6 ["low", "high"] spTotal) (ARootsTotal : At K mg "roots_total" g6 d6 ["low", "high"])
    (GRootsBySteps : FnOk P w K mg base CX0 4 g7 d7 ["size", "step", "number"] spSteps) (ARootsBySteps : At K mg "roots_by_steps" g7 d7 ["size", "step", "number"])
    (z_range : mg "range" = none) (z_len : mg "len" = none) (z_max : mg "max" = none) (z_min : mg "min" = none) (z_repr : mg "repr" = none) : GOk P w K mg base 10 f fd ["script"] (spLaw K) := by
  refine okG F scLaw (fun vs H Q E h => ?_) (fun cdv A outer s H vs Q hg hr h => ?_)
  · obtain ⟨_, _, rfl, _⟩ := h
    rfl
  obtain ⟨a, ns, rfl, hS, h63, q⟩ := h
  refine' ⟨_, (pss_cons (ps_set (i := 1) scLaw.nd rfl (Or.inl rfl) (pe_op op_cat (pe_lst (pa_cons (pe_lst (pa_cons pe_int (pa_cons pe_int pa_nil))) pa_nil)) (pe_lc (own := [("size", 6)]) rfl scLaw.nd (pi_range2 (by rfl) z_range (pa_cons pe_int (pa_cons pe_int pa_nil))) (blkOk_by (N := ["script", "counts", "k", "reel", "turn", "told", "size", "some"]) (sc := defScope sLaw) (by decide +kernel)) (fun _ _ _ _ _ => (pg_name (i := 6) scLaw.nd rfl (Or.inl rfl))) (fun _ _ _ _ _ => pts_nil) (fun _ _ _ _ _ => (pe_call GLawCounted (hr.mono (by decide)) rfl ALawCounted.m ALawCounted.kp ALawCounted.b .nil pass0 (pa_cons (pv 6) pa_nil))))))
    (pss_cons (ps_if (pt_cmpR op_ne (pe_callB (call_repr hg (units1 hr)) (by rfl) z_repr (by decide +kernel) (pa_cons (pe_lc (own := [("size", 6)]) rfl scLaw.nd (pi_range2 (by rfl) z_range (pa_cons pe_int (pa_cons pe_int pa_nil))) (blkOk_by (N := ["script", "counts", "k", "reel", "turn", "told", "size", "some"]) (sc := defScope sLaw) (by decide +kernel)) (fun _ _ _ _ _ => (pg_name (i := 6) scLaw.nd rfl (Or.inl rfl))) (fun _ _ _ _ _ => pts_nil) (fun _ _ _ _ _ => (pe_call GRootSums (hr.mono (by decide)) rfl ARootSums.m ARootSums.kp ARootSums.b .nil pass0 (pa_cons (pv 6) pa_nil)))) pa_nil)) (pe_callB (call_repr hg (units1 hr)) (by rfl) z_repr (by decide +kernel) (pa_cons (pe_lc (own := [("some", 7)]) rfl scLaw.nd (pi_list (pe_slice sl_list (pv 1) (po_some pe_int) po_none)) (blkOk_by (N := ["script", "counts", "k", "reel", "turn", "told", "size", "some"]) (sc := defScope sLaw) (by decide +kernel)) (fun _ _ _ _ _ => (pg_name (i := 7) scLaw.nd rfl (Or.inl rfl))) (fun _ _ _ _ _ => pts_nil) (fun _ _ _ _ _ => (pe_ix ix_listB (pv 7) pe_int (fun _ _ => rfl)))) pa_nil)) (nomark _))
    (pss_one (ps_ret pe_bl))
    pss_nil)
    (pss_cons (ps_for PassesOwn.never rfl (pi_range1 (by rfl) z_range (pa_cons (pe_callB (call_max2 rfl) (by rfl) z_max (by decide +kernel) (pa_cons pe_int (pa_cons (pe_callB (call_min2 rfl) (by rfl) z_min (by decide +kernel) (pa_cons pe_int (pa_cons (pe_callB call_len_seq (by rfl) z_len PySem.boot_len (pa_cons (pv 0) pa_nil)) pa_nil))) pa_nil))) pa_nil)) (pg_name (i := 2) scLaw.nd rfl (Or.inl rfl))
    (pss_cons (ps_set (i := 3) scLaw.nd rfl (Or.inl rfl) (pe_call GLawWound (hr.mono (by decide)) rfl ALawWound.m ALawWound.kp ALawWound.b .nil pass0 (pa_cons (pv 0) (pa_cons (pv 2) pa_nil))))
    (pss_one (ps_for PassesOwn.never rfl (pi_range1 (by rfl) z_range (pa_cons pe_int pa_nil)) (pg_name (i := 4) scLaw.nd rfl (Or.inl rfl))
    (pss_one (ps_if (pt_not (pt_val (pe_call GLawRight (hr.mono (by decide)) rfl ALawRight.m ALawRight.kp ALawRight.b .nil pass0 (pa_cons (pv 3) (pa_cons (pv 1) pa_nil)))))
    (pss_one (ps_ret pe_bl))
    pss_nil))))))
    (pss_cons (ps_set (i := 5) scLaw.nd rfl (Or.inl rfl) (pe_lst (pa_cons (pe_call GAppendSums (hr.mono (by decide)) rfl AAppendSums.m AAppendSums.kp AAppendSums.b .nil pass0 (pa_cons pe_int (pa_cons pe_int pa_nil))) (pa_cons (pe_call GAppendSums (hr.mono (by decide)) rfl AAppendSums.m AAppendSums.kp AAppendSums.b .nil pass0 (pa_cons pe_int (pa_cons pe_int pa_nil))) (pa_cons (pe_call GRootsTotal (hr.mono (by decide)) rfl ARootsTotal.m ARootsTotal.kp ARootsTotal.b .nil pass0 (pa_cons pe_int (pa_cons pe_int pa_nil))) (pa_cons (pe_call GRootsBySteps (hr.mono (by decide)) rfl ARootsBySteps.m ARootsBySteps.kp ARootsBySteps.b .nil pass0 (pa_cons pe_int (pa_cons pe_int (pa_cons pe_int pa_nil)))) (pa_cons (pe_call GAppendSums (hr.mono (by decide)) rfl AAppendSums.m AAppendSums.kp AAppendSums.b .nil pass0 (pa_cons pe_int (pa_cons pe_int pa_nil))) pa_nil)))))))
    (pss_one (ps_ret (pe_and (pe_cmpR (op_eqD hr.units) (pv 5) (pe_lst (pa_cons pe_int (pa_cons pe_int (pa_cons pe_int (pa_cons pe_int (pa_cons pe_int pa_nil)))))) (nomark _)) (pe_one (pe_cmpR (op_eqD hr.units) (pe_lc (own := [("size", 6)]) rfl scLaw.nd (pi_range2 (by rfl) z_range (pa_cons pe_int (pa_cons pe_int pa_nil))) (blkOk_by (N := ["script", "counts", "k", "reel", "turn", "told", "size", "some"]) (sc := defScope sLaw) (by decide +kernel)) (fun _ _ _ _ _ => (pg_name (i := 6) scLaw.nd rfl (Or.inl rfl))) (fun _ _ _ _ _ => pts_nil) (fun _ _ _ _ _ => (pe_call GRootSums (hr.mono (by decide)) rfl ARootSums.m ARootSums.kp ARootSums.b .nil pass0 (pa_cons (pv 6) pa_nil)))) (pe_lst (pa_cons pe_int (pa_cons pe_int (pa_cons pe_int (pa_cons pe_int (pa_cons pe_int (pa_cons pe_int (pa_cons pe_int pa_nil)))))))) (nomark _)))))))))), ?_⟩
  have two : 2 ≤ sizeLine := by decide
  have one1 : 1 ≤ sizeLine := by decide
  refine ⟨two, fun i0 m0 => ⟨one1, fun l0 n0 => ?_⟩⟩
  have s1 := same_upd (o := .lst [.int 0, .int 0]) m0
  have s2 := same_upd (o := .lst [.ref i0]) n0
  have s12 := s1.trans s2
  have hi0 := s2 _ _ (upd_same (H := H) (a := i0) (o := .lst [.int 0, .int 0]))
  have hl0 : (upd (upd H i0 (.lst [.int 0, .int 0])) l0 (.lst [.ref i0])) l0 = some (.lst [.ref i0]) := upd_same
  generalize upd (upd H i0 (.lst [.int 0, .int 0])) l0 (.lst [.ref i0]) = H0 at s12 hi0 hl0
  refine ⟨1, 70, rfl, ⟨by decide, by decide, by decide, by decide⟩, fun D nD => ?_⟩
  refine lc_range (lo := 1) (n := 69) (fun i H' => ∃ vs : List V, Same H0 H' ∧ H' D = some (.lst vs) ∧ vs.length = i ∧ ∀ j, j < i → ∃ q, vs[j]? = some (.ref q) ∧ H' q = some (.lst [.int ((1 + j - ones (1 + j) : Nat) : Int), .int ((ones (1 + j) - 1 : Nat) : Int)])) ⟨[], same_upd nD, upd_same, rfl, fun j hj => absurd hj (by omega)⟩ ?_ ?_
  · rintro i H1 hi ⟨vs, sm, hD, hlen, hv⟩
    refine ⟨rfl, ?_⟩
    refine ⟨_, rfl, 1 + i, rfl, by omega, by omega, fun H2 q s2' nq hq => ?_⟩
    have nDq : q ≠ D := fun z => by rw [z, hD] at nq; cases nq
    refine ⟨vs, s2' _ _ hD, szlt (by omega), vs ++ [.ref q], fun a o k => by rw [upd_ne (ne_of_none k nD)]; exact s2' _ _ (sm _ _ k), upd_same, by rw [List.length_append, List.length_singleton, hlen], fun j hj => ?_⟩
    by_cases c : j < i
    · obtain ⟨q1, e1, e2⟩ := hv j c
      refine ⟨q1, by rw [List.getElem?_append_left (by omega)]; exact e1, ?_⟩
      have : q1 ≠ D := fun z => by
        rw [z, hD] at e2
        injection e2 with e2
        injection e2 with e2
        have a := congrArg (fun l : List V => l[j]?) e2
        rw [e1] at a
        rcases j with _ | _ | j
        · cases a
        · cases a
        · cases a
      rw [upd_ne this]
      exact s2' _ _ e2
    · have : j = i := by omega
      subst this
      refine ⟨q, by rw [← hlen]; exact List.getElem?_concat_length, ?_⟩
      rw [upd_ne nDq]
      exact hq
  rintro H1 ⟨vs, sm, hD, hlen, hv⟩
  have hlen : vs.length = 69 := hlen
  refine ⟨l0, D, _, _, rfl, rfl, sm _ _ hl0, hD, szle (by rw [List.length_singleton]; omega), fun r nr => ?_⟩
  have s3 := same_upd (o := .lst ([.ref i0] ++ vs)) nr
  have hr : (upd H1 r (.lst ([.ref i0] ++ vs))) r = some (.lst ([.ref i0] ++ vs)) := upd_same
  have C : Cnt (upd H1 r (.lst ([.ref i0] ++ vs))) r := by
    refine ⟨_, hr, by rw [List.length_append, List.length_singleton]; omega, fun i hi => ?_⟩
    cases i with
    | zero => exact ⟨i0, rfl, by rw [ones_zero]; exact s3 _ _ (sm _ _ hi0)⟩
    | succ i =>
      obtain ⟨q, e1, e2⟩ := hv i (show i < 69 by omega)
      refine ⟨q, e1, ?_⟩
      rw [Nat.add_comm 1 i] at e2
      exact s3 _ _ e2
  have sA := s12.trans (sm.trans s3)
  generalize upd H1 r (.lst ([.ref i0] ++ vs)) = H2 at hr C sA
  clear s3 s1 s2 hD sm hi0 hl0 nD nr hv
  -- root_sums of all sizes
  refine ⟨1, 70, rfl, ⟨by decide, by decide, by decide, by decide⟩, fun D nD => ?_⟩
  refine lc_range (lo := 1) (n := 69) (fun i H' => Same H2 H' ∧ H' D = some (.lst ((oL i).map V.int))) ⟨same_upd nD, upd_same⟩ ?_ ?_
  · rintro i H3 hi ⟨s4, hD⟩
    refine ⟨rfl, ?_⟩
    refine ⟨_, rfl, 1 + i, rfl, by omega, Nat.le_trans (show 1 + i ≤ 70 by omega) (by decide), fun H4 s5 => ?_⟩
    refine ⟨_, s5 _ _ hD, szlt (by rw [List.length_map, oL_len]; omega), ?_, ?_⟩
    · exact fun a o k => by rw [upd_ne (ne_of_none k nD)]; exact s5 _ _ (s4 _ _ k)
    · rw [oL_succ, List.map_append]
      exact upd_same
  rintro H3 ⟨s4, hD⟩
  refine ⟨_, _, rfl, .lst (SqL.of hD) (ints_dp (oL 69)), rfl, ints_shaped _, oL_shows.1, oL_shows.2, ?_⟩
  have C3 := C.same s4
  refine ⟨_, rfl, 1, rfl, r, _, rfl, SqL.of (s4 _ _ hr), fun cu ncu => ?_⟩
  have hr3 := s4 _ _ hr
  have sx := same_upd (o := .lst (cutV ([V.ref i0] ++ vs) (some 1) none)) ncu
  have hcu : (upd H3 cu (.lst (cutV ([V.ref i0] ++ vs) (some 1) none))) cu = some (.lst (cutV ([V.ref i0] ++ vs) (some 1) none)) := upd_same
  have ecut : cutV ([V.ref i0] ++ vs) (some 1) none = vs := by rw [cut_first _ (by rw [List.length_append, List.length_singleton]; omega)]; rfl
  have C4 := C3.same sx
  have hr4 := sx _ _ hr3
  generalize upd H3 cu (.lst (cutV ([V.ref i0] ++ vs) (some 1) none)) = H4 at sx hcu C4 hr4
  rw [ecut] at hcu
  have at4 : ∀ i, i < 69 → ∃ q, vs[i]? = some (.ref q) ∧ H4 q = some (.lst [.int ((1 + i - ones (1 + i) : Nat) : Int), .int ((ones (1 + i) - 1 : Nat) : Int)]) := fun i hi => by
    obtain ⟨xs, a1, a2, a3⟩ := C4
    rw [hr4] at a1
    cases a1
    obtain ⟨q, e1, e2⟩ := a3 (i + 1) (by omega)
    rw [Nat.add_comm i 1] at e2
    exact ⟨q, e1, e2⟩
  refine ⟨cu, rfl, ⟨_, SqL.of hcu⟩, fun D2 nD2 => lc_list (xs := vs) (fun i H' => Same H4 H' ∧ H' D2 = some (.lst ((oL i).map V.int))) ⟨same_upd nD2, upd_same⟩ (fun i H' _ ⟨k, _⟩ => SqL.of (k _ _ hcu)) ?_ ?_⟩
  · rintro i x H5 hi ⟨s6, hD2⟩
    have il : i < 69 := by rw [← hlen]; exact (List.getElem?_eq_some_iff.mp hi).1
    obtain ⟨q1, e1, e2⟩ := at4 i il
    rw [hi] at e1
    cases e1
    refine ⟨rfl, ?_⟩
    refine ⟨_, rfl, q1, _, _, _, rfl, rfl, SqL.of (s6 _ _ e2), atI_nat (j := 1) rfl, ?_⟩
    refine ⟨_, hD2, szlt (by rw [List.length_map, oL_len]; omega), ?_, ?_⟩
    · exact fun a o k => by rw [upd_ne (ne_of_none k nD2)]; exact s6 _ _ k
    · rw [oL_succ, List.map_append]
      exact upd_same
  rintro H5 ⟨s6, hD2⟩
  rw [hlen] at hD2
  refine ⟨_, _, rfl, .lst (SqL.of hD2) (ints_dp (oL 69)), rfl, ints_shaped _, oL_shows.1, oL_shows.2, rfl, false, ne_no rfl, ?_⟩
  have C5 := C4.same s6
  have sB := (sA.trans s4).trans (sx.trans s6)
  clear hD hD2 s4 sx s6 C C3 C4 hcu hr4 at4 hr hr3
  -- the turns
  obtain ⟨m, m6, em⟩ := turns_is 6 (ns.map V.int).length (by decide)
  refine ⟨_, rfl, a, _, rfl, .inl (sqSame hS sB), ?_⟩
  refine ⟨_, _, rfl, _, _, rfl, ?_⟩
  refine ⟨(m : Int), congrArg (fun z => [V.int z]) em, by omega, by omega, for_range (lo := 0) (n := m) (fun i σ H' => ∃ v2 v3 v4 : Option V, σ = [some (.ref a), some (.ref r), v2, v3, v4, none, none, none] ∧ Same H5 H') ⟨none, none, none, rfl, Same.refl _⟩ ?_ ?_⟩
  · rintro k σ H6 hk ⟨v2, v3, v4, rfl, s7⟩
    have ek : (0 : Int) + (k : Int) = ((k : Nat) : Int) := by omega
    rw [ek]
    refine ⟨_, rfl, _, rfl, a, ns, k, rfl, sqSame hS (sB.trans s7), by omega, fun H7 b s8 nb hb => ?_⟩
    have nb1 : H5 b = none := s7.free nb
    refine ⟨8, rfl, by decide, by decide, for_range (lo := 0) (n := 8) (fun i σ H' => ∃ v4 : Option V, σ = [some (.ref a), some (.ref r), some (.int (k : Int)), some (.ref b), v4, none, none, none] ∧ But b H5 H' ∧ ReelAt H' b (i * 20) ∧ Cnt H' r) ⟨v4, rfl, But.of (s7.trans s8), hb, (C5.same s7).same s8⟩ ?_ ?_⟩
    · rintro j σ H8 hj ⟨v4, rfl, B8, hb8, C8⟩
      refine ⟨_, rfl, _, rfl, b, r, _, rfl, hb8, by omega, C8, fun H9 B9 hb9 C9 => ⟨true, rfl, ?_⟩⟩
      exact ⟨_, rfl, B8.trans B9, hb9.mono (by omega), C9⟩
    · rintro σ H8 ⟨v4, rfl, B8, hb8, C8⟩
      exact ⟨_, _, _, rfl, fun u o z => B8 _ _ (ne_of_none z nb1) z⟩
  rintro σ H6 ⟨v2, v3, v4, rfl, s7⟩
  refine ⟨1, 6, rfl, by decide, by decide, fun Ha sa => ⟨6, 2, rfl, by decide, by decide, fun Hb sb => ⟨1, 7, rfl, by decide, by decide, by decide, 1, 2, 3, rfl, by decide, by decide, by decide, by decide, 5, 0, rfl, by decide, by decide, fun Hc sc => ⟨(by show 5 ≤ sizeLine; decide), fun l nl => ?_⟩⟩⟩⟩
  rw [ap16, ap62, ap50, rt17, rs123]
  have u1 := same_upd (o := .lst ([4, 3, 5, 4, 0].map V.int)) nl
  have hl : (upd Hc l (.lst ([4, 3, 5, 4, 0].map V.int))) l = some (.lst ([4, 3, 5, 4, 0].map V.int)) := upd_same
  have go : ∀ G : Hp, G l = some (.lst ([4, 3, 5, 4, 0].map V.int)) → ∀ l2, G l2 = none → Dp K (upd G l2 (.lst ([4, 3, 5, 4, 0].map V.int))) (.ref l) (.list ([4, 3, 5, 4, 0].map PyData.int)) := fun G k l2 n2 => .lst (SqL.of (same_upd n2 _ _ k)) (ints_dp _)
  refine ⟨_, rfl, (by show 5 ≤ sizeLine; decide), fun l2 nl2 => ⟨.list ([4, 3, 5, 4, 0].map PyData.int), .list ([4, 3, 5, 4, 0].map PyData.int), go _ hl l2 nl2, .lst (SqL.of upd_same) (ints_dp [4, 3, 5, 4, 0]), ints_shaped _, ints_shaped _, true, congrArg V.bl (SeqAt.eqv_refl _ (SeqAt.canLay_of_shaped (ints_shaped _))), ?_⟩⟩
  refine ⟨1, 8, rfl, ⟨by decide, by decide, by decide, by decide⟩, fun D3 nD3 => ?_⟩
  generalize upd (upd Hc l _) l2 _ = H9 at nD3
  refine lc_range (lo := 1) (n := 7) (fun i H' => Same H9 H' ∧ H' D3 = some (.lst ((oL i).map V.int))) ⟨same_upd nD3, upd_same⟩ ?_ ?_
  · rintro i H3' hi ⟨s4, hD⟩
    refine ⟨rfl, ?_⟩
    refine ⟨_, rfl, 1 + i, rfl, by omega, Nat.le_trans (show 1 + i ≤ 70 by omega) (by decide), fun H4' s5 => ?_⟩
    refine ⟨_, s5 _ _ hD, szlt (by rw [List.length_map, oL_len]; omega), ?_, ?_⟩
    · exact fun a o k => by rw [upd_ne (ne_of_none k nD3)]; exact s5 _ _ (s4 _ _ k)
    · rw [oL_succ, List.map_append]
      exact upd_same
  rintro H10 ⟨s4, hD⟩
  rw [oL7] at hD
  refine ⟨(by show 7 ≤ sizeLine; decide), fun l3 nl3 => ?_⟩
  have u3 := same_upd (o := .lst ([0, 0, 1, 0, 1, 1, 2].map V.int)) nl3
  refine ⟨.list ([0, 0, 1, 0, 1, 1, 2].map PyData.int), .list ([0, 0, 1, 0, 1, 1, 2].map PyData.int), .lst (SqL.of (u3 _ _ hD)) (ints_dp _), .lst (SqL.of upd_same) (ints_dp [0, 0, 1, 0, 1, 1, 2]), ints_shaped _, ints_shaped _, ?_⟩
  rw [SeqAt.eqv_refl _ (SeqAt.canLay_of_shaped (ints_shaped _))]
  exact q _
end
end LT

namespace LT
open PySem PySem.Spec PyProof.Rows L2
theorem all_mk {l : PySem.W.OpenLaw} {w : World} {K : PySem.W.Frag} {h : Heap} {mg : Str → Option Value} {fa f0 f1 f2 f3 f4 f5 f6 f7 f8 f9 f10 f11 f12 f13 f14 f15 f16 f17 f18 f19 f20 f21 f22 : Addr} (X : K.In h) (G : h.Ns mainGlobals mg) (hfa : mg "law" = some (.ref fa))
    {od0 an0 od1 an1 od2 an2 od3 an3 od4 an4 od5 an5 od6 an6 od7 an7 od8 an8 od9 an9 od10 an10 od11 an11 od12 an12 od13 an13 od14 an14 od15 an15 od16 an16 od17 an17 od18 an18 od19 an19 od20 an20 od21 an21 od22 an22 : Option Addr} {sl0 sl1 sl2 sl3 sl4 sl5 sl6 sl7 sl8 sl9 sl10 sl11 sl12 sl13 sl14 sl15 sl16 sl17 sl18 sl19 sl20 sl21 sl22 : Array (Option Value)} {oc0 kV0 dc0 pm0 cd0 ct0 oc1 kV1 dc1 pm1 cd1 ct1 oc2 kV2 dc2 pm2 cd2 ct2 oc3 kV3 dc3 pm3 cd3 ct3 oc4 kV4 dc4 pm4 cd4 ct4 oc5 kV5 dc5 pm5 cd5 ct5 oc6 kV6 dc6 pm6 cd6 ct6 oc7 kV7 dc7 pm7 cd7 ct7 oc8 kV8 dc8 pm8 cd8 ct8 oc9 kV9 dc9 pm9 cd9 ct9 oc10 kV10 dc10 pm10 cd10 ct10 oc11 kV11 dc11 pm11 cd11 ct11 oc12 kV12 dc12 pm12 cd12 ct12 oc13 kV13 dc13 pm13 cd13 ct13 oc14 kV14 dc14 pm14 cd14 ct14 oc15 kV15 dc15 pm15 cd15 ct15 oc16 kV16 dc16 pm16 cd16 ct16 oc17 kV17 dc17 pm17 cd17 ct17 oc18 kV18 dc18 pm18 cd18 ct18 oc19 kV19 dc19 pm19 cd19 ct19 oc20 kV20 dc20 pm20 cd20 ct20 oc21 kV21 dc21 pm21 cd21 ct21 oc22 kV22 dc22 pm22 cd22 ct22 : Value}
    (a0 : PySem.W.nsIn K mainGlobals "is_whole" = some (some (.ref f0))) (l0 : K.lookup f0 = some ⟨oc0, od0, .func (PySem.W.fnOf "is_whole" "is_whole" (defArgs sIsWhole) (defBody sIsWhole) (defScope sIsWhole) .none kV0 dc0 pm0 an0 cd0 ct0), sl0⟩) (c0 : PySem.W.codeIn K cd0 "is_whole" = true) (k0 : PySem.W.keepIn K (.ref f0) = true)
    (a1 : PySem.W.nsIn K mainGlobals "is_between" = some (some (.ref f1))) (l1 : K.lookup f1 = some ⟨oc1, od1, .func (PySem.W.fnOf "is_between" "is_between" (defArgs sIsBetween) (defBody sIsBetween) (defScope sIsBetween) .none kV1 dc1 pm1 an1 cd1 ct1), sl1⟩) (c1 : PySem.W.codeIn K cd1 "is_between" = true) (k1 : PySem.W.keepIn K (.ref f1) = true)
    (a2 : PySem.W.nsIn K mainGlobals "check_size" = some (some (.ref f2))) (l2 : K.lookup f2 = some ⟨oc2, od2, .func (PySem.W.fnOf "check_size" "check_size" (defArgs sCheckSize) (defBody sCheckSize) (defScope sCheckSize) .none kV2 dc2 pm2 an2 cd2 ct2), sl2⟩) (c2 : PySem.W.codeIn K cd2 "check_size" = true) (k2 : PySem.W.keepIn K (.ref f2) = true)
    (a3 : PySem.W.nsIn K mainGlobals "check_number_from" = some (some (.ref f3))) (l3 : K.lookup f3 = some ⟨oc3, od3, .func (PySem.W.fnOf "check_number_from" "check_number_from" (defArgs sCheckNumberFrom) (defBody sCheckNumberFrom) (defScope sCheckNumberFrom) .none kV3 dc3 pm3 an3 cd3 ct3), sl3⟩) (c3 : PySem.W.codeIn K cd3 "check_number_from" = true) (k3 : PySem.W.keepIn K (.ref f3) = true)
    (a4 : PySem.W.nsIn K mainGlobals "check_number_between" = some (some (.ref f4))) (l4 : K.lookup f4 = some ⟨oc4, od4, .func (PySem.W.fnOf "check_number_between" "check_number_between" (defArgs sCheckNumberBetween) (defBody sCheckNumberBetween) (defScope sCheckNumberBetween) .none kV4 dc4 pm4 an4 cd4 ct4), sl4⟩) (c4 : PySem.W.codeIn K cd4 "check_number_between" = true) (k4 : PySem.W.keepIn K (.ref f4) = true)
    (a5 : PySem.W.nsIn K mainGlobals "power_within" = some (some (.ref f5))) (l5 : K.lookup f5 = some ⟨oc5, od5, .func (PySem.W.fnOf "power_within" "power_within" (defArgs sPowerWithin) (defBody sPowerWithin) (defScope sPowerWithin) .none kV5 dc5 pm5 an5 cd5 ct5), sl5⟩) (c5 : PySem.W.codeIn K cd5 "power_within" = true) (k5 : PySem.W.keepIn K (.ref f5) = true)
    (a6 : PySem.W.nsIn K mainGlobals "peaks" = some (some (.ref f6))) (l6 : K.lookup f6 = some ⟨oc6, od6, .func (PySem.W.fnOf "peaks" "peaks" (defArgs sPeaks) (defBody sPeaks) (defScope sPeaks) .none kV6 dc6 pm6 an6 cd6 ct6), sl6⟩) (c6 : PySem.W.codeIn K cd6 "peaks" = true) (k6 : PySem.W.keepIn K (.ref f6) = true)
    (a7 : PySem.W.nsIn K mainGlobals "edges" = some (some (.ref f7))) (l7 : K.lookup f7 = some ⟨oc7, od7, .func (PySem.W.fnOf "edges" "edges" (defArgs sEdges) (defBody sEdges) (defScope sEdges) .none kV7 dc7 pm7 an7 cd7 ct7), sl7⟩) (c7 : PySem.W.codeIn K cd7 "edges" = true) (k7 : PySem.W.keepIn K (.ref f7) = true)
    (a8 : PySem.W.nsIn K mainGlobals "_made_sums" = some (some (.ref f8))) (l8 : K.lookup f8 = some ⟨oc8, od8, .func (PySem.W.fnOf "_made_sums" "_made_sums" (defArgs sMadeSums) (defBody sMadeSums) (defScope sMadeSums) .none kV8 dc8 pm8 an8 cd8 ct8), sl8⟩) (c8 : PySem.W.codeIn K cd8 "_made_sums" = true) (k8 : PySem.W.keepIn K (.ref f8) = true)
    (a9 : PySem.W.nsIn K mainGlobals "append_sums" = some (some (.ref f9))) (l9 : K.lookup f9 = some ⟨oc9, od9, .func (PySem.W.fnOf "append_sums" "append_sums" (defArgs sAppendSums) (defBody sAppendSums) (defScope sAppendSums) .none kV9 dc9 pm9 an9 cd9 ct9), sl9⟩) (c9 : PySem.W.codeIn K cd9 "append_sums" = true) (k9 : PySem.W.keepIn K (.ref f9) = true)
    (a10 : PySem.W.nsIn K mainGlobals "root_sums" = some (some (.ref f10))) (l10 : K.lookup f10 = some ⟨oc10, od10, .func (PySem.W.fnOf "root_sums" "root_sums" (defArgs sRootSums) (defBody sRootSums) (defScope sRootSums) .none kV10 dc10 pm10 an10 cd10 ct10), sl10⟩) (c10 : PySem.W.codeIn K cd10 "root_sums" = true) (k10 : PySem.W.keepIn K (.ref f10) = true)
    (a11 : PySem.W.nsIn K mainGlobals "_quotients_sum" = some (some (.ref f11))) (l11 : K.lookup f11 = some ⟨oc11, od11, .func (PySem.W.fnOf "_quotients_sum" "_quotients_sum" (defArgs sQuotientsSum) (defBody sQuotientsSum) (defScope sQuotientsSum) .none kV11 dc11 pm11 an11 cd11 ct11), sl11⟩) (c11 : PySem.W.codeIn K cd11 "_quotients_sum" = true) (k11 : PySem.W.keepIn K (.ref f11) = true)
    (a12 : PySem.W.nsIn K mainGlobals "_roots_along" = some (some (.ref f12))) (l12 : K.lookup f12 = some ⟨oc12, od12, .func (PySem.W.fnOf "_roots_along" "_roots_along" (defArgs sRootsAlong) (defBody sRootsAlong) (defScope sRootsAlong) .none kV12 dc12 pm12 an12 cd12 ct12), sl12⟩) (c12 : PySem.W.codeIn K cd12 "_roots_along" = true) (k12 : PySem.W.keepIn K (.ref f12) = true)
    (a13 : PySem.W.nsIn K mainGlobals "_check_stretch" = some (some (.ref f13))) (l13 : K.lookup f13 = some ⟨oc13, od13, .func (PySem.W.fnOf "_check_stretch" "_check_stretch" (defArgs sCheckStretch) (defBody sCheckStretch) (defScope sCheckStretch) .none kV13 dc13 pm13 an13 cd13 ct13), sl13⟩) (c13 : PySem.W.codeIn K cd13 "_check_stretch" = true) (k13 : PySem.W.keepIn K (.ref f13) = true)
    (a14 : PySem.W.nsIn K mainGlobals "roots_total" = some (some (.ref f14))) (l14 : K.lookup f14 = some ⟨oc14, od14, .func (PySem.W.fnOf "roots_total" "roots_total" (defArgs sRootsTotal) (defBody sRootsTotal) (defScope sRootsTotal) .none kV14 dc14 pm14 an14 cd14 ct14), sl14⟩) (c14 : PySem.W.codeIn K cd14 "roots_total" = true) (k14 : PySem.W.keepIn K (.ref f14) = true)
    (a15 : PySem.W.nsIn K mainGlobals "roots_by_steps" = some (some (.ref f15))) (l15 : K.lookup f15 = some ⟨oc15, od15, .func (PySem.W.fnOf "roots_by_steps" "roots_by_steps" (defArgs sRootsBySteps) (defBody sRootsBySteps) (defScope sRootsBySteps) .none kV15 dc15 pm15 an15 cd15 ct15), sl15⟩) (c15 : PySem.W.codeIn K cd15 "roots_by_steps" = true) (k15 : PySem.W.keepIn K (.ref f15) = true)
    (a16 : PySem.W.nsIn K mainGlobals "_law_wound" = some (some (.ref f16))) (l16 : K.lookup f16 = some ⟨oc16, od16, .func (PySem.W.fnOf "_law_wound" "_law_wound" (defArgs sLawWound) (defBody sLawWound) (defScope sLawWound) .none kV16 dc16 pm16 an16 cd16 ct16), sl16⟩) (c16 : PySem.W.codeIn K cd16 "_law_wound" = true) (k16 : PySem.W.keepIn K (.ref f16) = true)
    (a17 : PySem.W.nsIn K mainGlobals "_law_spin" = some (some (.ref f17))) (l17 : K.lookup f17 = some ⟨oc17, od17, .func (PySem.W.fnOf "_law_spin" "_law_spin" (defArgs sLawSpin) (defBody sLawSpin) (defScope sLawSpin) .none kV17 dc17 pm17 an17 cd17 ct17), sl17⟩) (c17 : PySem.W.codeIn K cd17 "_law_spin" = true) (k17 : PySem.W.keepIn K (.ref f17) = true)
    (a18 : PySem.W.nsIn K mainGlobals "_law_below" = some (some (.ref f18))) (l18 : K.lookup f18 = some ⟨oc18, od18, .func (PySem.W.fnOf "_law_below" "_law_below" (defArgs sLawBelow) (defBody sLawBelow) (defScope sLawBelow) .none kV18 dc18 pm18 an18 cd18 ct18), sl18⟩) (c18 : PySem.W.codeIn K cd18 "_law_below" = true) (k18 : PySem.W.keepIn K (.ref f18) = true)
    (a19 : PySem.W.nsIn K mainGlobals "_law_built" = some (some (.ref f19))) (l19 : K.lookup f19 = some ⟨oc19, od19, .func (PySem.W.fnOf "_law_built" "_law_built" (defArgs sLawBuilt) (defBody sLawBuilt) (defScope sLawBuilt) .none kV19 dc19 pm19 an19 cd19 ct19), sl19⟩) (c19 : PySem.W.codeIn K cd19 "_law_built" = true) (k19 : PySem.W.keepIn K (.ref f19) = true)
    (a20 : PySem.W.nsIn K mainGlobals "_law_counted" = some (some (.ref f20))) (l20 : K.lookup f20 = some ⟨oc20, od20, .func (PySem.W.fnOf "_law_counted" "_law_counted" (defArgs sLawCounted) (defBody sLawCounted) (defScope sLawCounted) .none kV20 dc20 pm20 an20 cd20 ct20), sl20⟩) (c20 : PySem.W.codeIn K cd20 "_law_counted" = true) (k20 : PySem.W.keepIn K (.ref f20) = true)
    (a21 : PySem.W.nsIn K mainGlobals "_law_right" = some (some (.ref f21))) (l21 : K.lookup f21 = some ⟨oc21, od21, .func (PySem.W.fnOf "_law_right" "_law_right" (defArgs sLawRight) (defBody sLawRight) (defScope sLawRight) .none kV21 dc21 pm21 an21 cd21 ct21), sl21⟩) (c21 : PySem.W.codeIn K cd21 "_law_right" = true) (k21 : PySem.W.keepIn K (.ref f21) = true)
    (a22 : PySem.W.nsIn K mainGlobals "law" = some (some (.ref f22))) (l22 : K.lookup f22 = some ⟨oc22, od22, .func (PySem.W.fnOf "law" "law" (defArgs sLaw) (defBody sLaw) (defScope sLaw) .none kV22 dc22 pm22 an22 cd22 ct22), sl22⟩) (c22 : PySem.W.codeIn K cd22 "law" = true) (k22 : PySem.W.keepIn K (.ref f22) = true)
    (z_bool : PySem.W.nsIn K mainGlobals "bool" = some none)
    (z_int : PySem.W.nsIn K mainGlobals "int" = some none)
    (z_isinstance : PySem.W.nsIn K mainGlobals "isinstance" = some none)
    (z_len : PySem.W.nsIn K mainGlobals "len" = some none)
    (z_max : PySem.W.nsIn K mainGlobals "max" = some none)
    (z_min : PySem.W.nsIn K mainGlobals "min" = some none)
    (z_range : PySem.W.nsIn K mainGlobals "range" = some none)
    (z_repr : PySem.W.nsIn K mainGlobals "repr" = some none)
    (z_sum : PySem.W.nsIn K mainGlobals "sum" = some none)
    {t_MOST_ENTRIES : Tok} (g_MOST_ENTRIES : PySem.W.nsIn K mainGlobals "MOST_ENTRIES" = some (some (.int 1000000000000000000000000000000 t_MOST_ENTRIES)))
    : ∃ fd : FuncData, (∀ (s : Shared) (v : Value), BindsTo s fd ⟨[v], []⟩ [("script", v)]) ∧ ∀ base : Heap, K.In base → base.Ns mainGlobals mg → GOk l.prog w K mg base 10 fa fd ["script"] (spLaw K) := by
  have e := hfa.symm.trans (PySem.W.mg_of X G a22)
  cases e
  have FIsWhole := fun_mk (st := sIsWhole) l0 c0 k0
  have FIsBetween := fun_mk (st := sIsBetween) l1 c1 k1
  have FCheckSize := fun_mk (st := sCheckSize) l2 c2 k2
  have FCheckNumberFrom := fun_mk (st := sCheckNumberFrom) l3 c3 k3
  have FCheckNumberBetween := fun_mk (st := sCheckNumberBetween) l4 c4 k4
  have FPowerWithin := fun_mk (st := sPowerWithin) l5 c5 k5
  have FPeaks := fun_mk (st := sPeaks) l6 c6 k6
  have FEdges := fun_mk (st := sEdges) l7 c7 k7
  have FMadeSums := fun_mk (st := sMadeSums) l8 c8 k8
  have FAppendSums := fun_mk (st := sAppendSums) l9 c9 k9
  have FRootSums := fun_mk (st := sRootSums) l10 c10 k10
  have FQuotientsSum := fun_mk (st := sQuotientsSum) l11 c11 k11
  have FRootsAlong := fun_mk (st := sRootsAlong) l12 c12 k12
  have FCheckStretch := fun_mk (st := sCheckStretch) l13 c13 k13
  have FRootsTotal := fun_mk (st := sRootsTotal) l14 c14 k14
  have FRootsBySteps := fun_mk (st := sRootsBySteps) l15 c15 k15
  have FLawWound := fun_mk (st := sLawWound) l16 c16 k16
  have FLawSpin := fun_mk (st := sLawSpin) l17 c17 k17
  have FLawBelow := fun_mk (st := sLawBelow) l18 c18 k18
  have FLawBuilt := fun_mk (st := sLawBuilt) l19 c19 k19
  have FLawCounted := fun_mk (st := sLawCounted) l20 c20 k20
  have FLawRight := fun_mk (st := sLawRight) l21 c21 k21
  have FLaw := fun_mk (st := sLaw) l22 c22 k22
  have AIsWhole : At K mg "is_whole" f0 (PySem.W.fnOf "is_whole" "is_whole" (defArgs sIsWhole) (defBody sIsWhole) (defScope sIsWhole) .none kV0 dc0 pm0 an0 cd0 ct0) ["value"] := ⟨PySem.W.mg_of X G a0, k0, FIsWhole.binds (ps := ["value"]) fun _ _ _ _ _ _ us hl => match us, hl with | [_], _ => rfl⟩
  have AIsBetween : At K mg "is_between" f1 (PySem.W.fnOf "is_between" "is_between" (defArgs sIsBetween) (defBody sIsBetween) (defScope sIsBetween) .none kV1 dc1 pm1 an1 cd1 ct1) ["value", "low", "high"] := ⟨PySem.W.mg_of X G a1, k1, FIsBetween.binds (ps := ["value", "low", "high"]) fun _ _ _ _ _ _ us hl => match us, hl with | [_, _, _], _ => rfl⟩
  have ACheckSize : At K mg "check_size" f2 (PySem.W.fnOf "check_size" "check_size" (defArgs sCheckSize) (defBody sCheckSize) (defScope sCheckSize) .none kV2 dc2 pm2 an2 cd2 ct2) ["size"] := ⟨PySem.W.mg_of X G a2, k2, FCheckSize.binds (ps := ["size"]) fun _ _ _ _ _ _ us hl => match us, hl with | [_], _ => rfl⟩
  have ACheckNumberFrom : At K mg "check_number_from" f3 (PySem.W.fnOf "check_number_from" "check_number_from" (defArgs sCheckNumberFrom) (defBody sCheckNumberFrom) (defScope sCheckNumberFrom) .none kV3 dc3 pm3 an3 cd3 ct3) ["number", "least"] := ⟨PySem.W.mg_of X G a3, k3, FCheckNumberFrom.binds (ps := ["number", "least"]) fun _ _ _ _ _ _ us hl => match us, hl with | [_, _], _ => rfl⟩
  have ACheckNumberBetween : At K mg "check_number_between" f4 (PySem.W.fnOf "check_number_between" "check_number_between" (defArgs sCheckNumberBetween) (defBody sCheckNumberBetween) (defScope sCheckNumberBetween) .none kV4 dc4 pm4 an4 cd4 ct4) ["number", "least", "most"] := ⟨PySem.W.mg_of X G a4, k4, FCheckNumberBetween.binds (ps := ["number", "least", "most"]) fun _ _ _ _ _ _ us hl => match us, hl with | [_, _, _], _ => rfl⟩
  have APowerWithin : At K mg "power_within" f5 (PySem.W.fnOf "power_within" "power_within" (defArgs sPowerWithin) (defBody sPowerWithin) (defScope sPowerWithin) .none kV5 dc5 pm5 an5 cd5 ct5) ["number"] := ⟨PySem.W.mg_of X G a5, k5, FPowerWithin.binds (ps := ["number"]) fun _ _ _ _ _ _ us hl => match us, hl with | [_], _ => rfl⟩
  have APeaks : At K mg "peaks" f6 (PySem.W.fnOf "peaks" "peaks" (defArgs sPeaks) (defBody sPeaks) (defScope sPeaks) .none kV6 dc6 pm6 an6 cd6 ct6) ["size"] := ⟨PySem.W.mg_of X G a6, k6, FPeaks.binds (ps := ["size"]) fun _ _ _ _ _ _ us hl => match us, hl with | [_], _ => rfl⟩
  have AEdges : At K mg "edges" f7 (PySem.W.fnOf "edges" "edges" (defArgs sEdges) (defBody sEdges) (defScope sEdges) .none kV7 dc7 pm7 an7 cd7 ct7) ["size"] := ⟨PySem.W.mg_of X G a7, k7, FEdges.binds (ps := ["size"]) fun _ _ _ _ _ _ us hl => match us, hl with | [_], _ => rfl⟩
  have AMadeSums : At K mg "_made_sums" f8 (PySem.W.fnOf "_made_sums" "_made_sums" (defArgs sMadeSums) (defBody sMadeSums) (defScope sMadeSums) .none kV8 dc8 pm8 an8 cd8 ct8) ["size"] := ⟨PySem.W.mg_of X G a8, k8, FMadeSums.binds (ps := ["size"]) fun _ _ _ _ _ _ us hl => match us, hl with | [_], _ => rfl⟩
  have AAppendSums : At K mg "append_sums" f9 (PySem.W.fnOf "append_sums" "append_sums" (defArgs sAppendSums) (defBody sAppendSums) (defScope sAppendSums) .none kV9 dc9 pm9 an9 cd9 ct9) ["size", "number"] := ⟨PySem.W.mg_of X G a9, k9, FAppendSums.binds (ps := ["size", "number"]) fun _ _ _ _ _ _ us hl => match us, hl with | [_, _], _ => rfl⟩
  have ARootSums : At K mg "root_sums" f10 (PySem.W.fnOf "root_sums" "root_sums" (defArgs sRootSums) (defBody sRootSums) (defScope sRootSums) .none kV10 dc10 pm10 an10 cd10 ct10) ["size"] := ⟨PySem.W.mg_of X G a10, k10, FRootSums.binds (ps := ["size"]) fun _ _ _ _ _ _ us hl => match us, hl with | [_], _ => rfl⟩
  have AQuotientsSum : At K mg "_quotients_sum" f11 (PySem.W.fnOf "_quotients_sum" "_quotients_sum" (defArgs sQuotientsSum) (defBody sQuotientsSum) (defScope sQuotientsSum) .none kV11 dc11 pm11 an11 cd11 ct11) ["first", "step", "number", "divisor"] := ⟨PySem.W.mg_of X G a11, k11, FQuotientsSum.binds (ps := ["first", "step", "number", "divisor"]) fun _ _ _ _ _ _ us hl => match us, hl with | [_, _, _, _], _ => rfl⟩
  have ARootsAlong : At K mg "_roots_along" f12 (PySem.W.fnOf "_roots_along" "_roots_along" (defArgs sRootsAlong) (defBody sRootsAlong) (defScope sRootsAlong) .none kV12 dc12 pm12 an12 cd12 ct12) ["first", "step", "number"] := ⟨PySem.W.mg_of X G a12, k12, FRootsAlong.binds (ps := ["first", "step", "number"]) fun _ _ _ _ _ _ us hl => match us, hl with | [_, _, _], _ => rfl⟩
  have ACheckStretch : At K mg "_check_stretch" f13 (PySem.W.fnOf "_check_stretch" "_check_stretch" (defArgs sCheckStretch) (defBody sCheckStretch) (defScope sCheckStretch) .none kV13 dc13 pm13 an13 cd13 ct13) ["low", "high"] := ⟨PySem.W.mg_of X G a13, k13, FCheckStretch.binds (ps := ["low", "high"]) fun _ _ _ _ _ _ us hl => match us, hl with | [_, _], _ => rfl⟩
  have ARootsTotal : At K mg "roots_total" f14 (PySem.W.fnOf "roots_total" "roots_total" (defArgs sRootsTotal) (defBody sRootsTotal) (defScope sRootsTotal) .none kV14 dc14 pm14 an14 cd14 ct14) ["low", "high"] := ⟨PySem.W.mg_of X G a14, k14, FRootsTotal.binds (ps := ["low", "high"]) fun _ _ _ _ _ _ us hl => match us, hl with | [_, _], _ => rfl⟩
  have ARootsBySteps : At K mg "roots_by_steps" f15 (PySem.W.fnOf "roots_by_steps" "roots_by_steps" (defArgs sRootsBySteps) (defBody sRootsBySteps) (defScope sRootsBySteps) .none kV15 dc15 pm15 an15 cd15 ct15) ["size", "step", "number"] := ⟨PySem.W.mg_of X G a15, k15, FRootsBySteps.binds (ps := ["size", "step", "number"]) fun _ _ _ _ _ _ us hl => match us, hl with | [_, _, _], _ => rfl⟩
  have ALawWound : At K mg "_law_wound" f16 (PySem.W.fnOf "_law_wound" "_law_wound" (defArgs sLawWound) (defBody sLawWound) (defScope sLawWound) .none kV16 dc16 pm16 an16 cd16 ct16) ["script", "k"] := ⟨PySem.W.mg_of X G a16, k16, FLawWound.binds (ps := ["script", "k"]) fun _ _ _ _ _ _ us hl => match us, hl with | [_, _], _ => rfl⟩
  have ALawSpin : At K mg "_law_spin" f17 (PySem.W.fnOf "_law_spin" "_law_spin" (defArgs sLawSpin) (defBody sLawSpin) (defScope sLawSpin) .none kV17 dc17 pm17 an17 cd17 ct17) ["reel", "many"] := ⟨PySem.W.mg_of X G a17, k17, FLawSpin.binds (ps := ["reel", "many"]) fun _ _ _ _ _ _ us hl => match us, hl with | [_, _], _ => rfl⟩
  have ALawBelow : At K mg "_law_below" f18 (PySem.W.fnOf "_law_below" "_law_below" (defArgs sLawBelow) (defBody sLawBelow) (defScope sLawBelow) .none kV18 dc18 pm18 an18 cd18 ct18) ["most"] := ⟨PySem.W.mg_of X G a18, k18, FLawBelow.binds (ps := ["most"]) fun _ _ _ _ _ _ us hl => match us, hl with | [_], _ => rfl⟩
  have ALawBuilt : At K mg "_law_built" f19 (PySem.W.fnOf "_law_built" "_law_built" (defArgs sLawBuilt) (defBody sLawBuilt) (defScope sLawBuilt) .none kV19 dc19 pm19 an19 cd19 ct19) ["size"] := ⟨PySem.W.mg_of X G a19, k19, FLawBuilt.binds (ps := ["size"]) fun _ _ _ _ _ _ us hl => match us, hl with | [_], _ => rfl⟩
  have ALawCounted : At K mg "_law_counted" f20 (PySem.W.fnOf "_law_counted" "_law_counted" (defArgs sLawCounted) (defBody sLawCounted) (defScope sLawCounted) .none kV20 dc20 pm20 an20 cd20 ct20) ["size"] := ⟨PySem.W.mg_of X G a20, k20, FLawCounted.binds (ps := ["size"]) fun _ _ _ _ _ _ us hl => match us, hl with | [_], _ => rfl⟩
  have ALawRight : At K mg "_law_right" f21 (PySem.W.fnOf "_law_right" "_law_right" (defArgs sLawRight) (defBody sLawRight) (defScope sLawRight) .none kV21 dc21 pm21 an21 cd21 ct21) ["reel", "counts"] := ⟨PySem.W.mg_of X G a21, k21, FLawRight.binds (ps := ["reel", "counts"]) fun _ _ _ _ _ _ us hl => match us, hl with | [_, _], _ => rfl⟩
  have z_bool := PySem.W.mg_none_of X G z_bool
  have z_int := PySem.W.mg_none_of X G z_int
  have z_isinstance := PySem.W.mg_none_of X G z_isinstance
  have z_len := PySem.W.mg_none_of X G z_len
  have z_max := PySem.W.mg_none_of X G z_max
  have z_min := PySem.W.mg_none_of X G z_min
  have z_range := PySem.W.mg_none_of X G z_range
  have z_repr := PySem.W.mg_none_of X G z_repr
  have z_sum := PySem.W.mg_none_of X G z_sum
  have g_MOST_ENTRIES := PySem.W.mg_of X G g_MOST_ENTRIES
  refine ⟨PySem.W.fnOf "law" "law" (defArgs sLaw) (defBody sLaw) (defScope sLaw) .none kV22 dc22 pm22 an22 cd22 ct22, fun s v => .of_eq rfl, fun base _ _ => ?_⟩
  have GIsWhole := ok_is_whole (P := l.prog) (w := w) (base := base) FIsWhole z_isinstance z_int z_bool
  have GIsBetween := ok_is_between FIsBetween GIsWhole AIsWhole
  have GCheckSize := ok_check_size FCheckSize GIsBetween AIsBetween g_MOST_ENTRIES
  have GCheckNumberFrom := ok_check_number_from FCheckNumberFrom GIsWhole AIsWhole
  have GCheckNumberBetween := ok_check_number_between FCheckNumberBetween GIsBetween AIsBetween
  have GPowerWithin := ok_power_within (P := l.prog) (w := w) (mg := mg) (base := base) FPowerWithin
  have GPeaks := ok_peaks FPeaks GCheckSize ACheckSize GPowerWithin APowerWithin
  have GEdges := ok_edges FEdges GPeaks APeaks
  have GRootSums := ok_root_sums FRootSums GEdges AEdges z_len
  have GMadeSums := ok_made_sums FMadeSums GRootSums ARootSums
  have GAppendSums := ok_append_sums FAppendSums GCheckSize ACheckSize GCheckNumberBetween ACheckNumberBetween GMadeSums AMadeSums g_MOST_ENTRIES
  have GQuotientsSum := ok_quotients_sum (P := l.prog) (w := w) (mg := mg) (base := base) FQuotientsSum
  have GRootsAlong := ok_roots_along FRootsAlong GQuotientsSum AQuotientsSum
  have GCheckStretch := ok_check_stretch FCheckStretch GCheckSize ACheckSize
  have GRootsTotal := ok_roots_total FRootsTotal GCheckStretch ACheckStretch GRootsAlong ARootsAlong
  have GRootsBySteps := ok_roots_by_steps FRootsBySteps GCheckSize ACheckSize GCheckNumberFrom ACheckNumberFrom GCheckNumberBetween ACheckNumberBetween GRootsAlong ARootsAlong g_MOST_ENTRIES
  have GLawWound := ok_law_wound (P := l.prog) (w := w) (base := base) FLawWound z_max z_len z_int
  have GLawSpin := ok_law_spin (P := l.prog) (w := w) (base := base) FLawSpin z_int
  have GLawBelow := ok_law_below (P := l.prog) (w := w) (mg := mg) (base := base) FLawBelow
  have GLawBuilt := ok_law_built FLawBuilt GLawBelow ALawBelow
  have GLawCounted := ok_law_counted FLawCounted GLawBelow ALawBelow GLawBuilt ALawBuilt z_int
  have GLawRight := ok_law_right FLawRight GLawSpin ALawSpin GAppendSums AAppendSums GRootsTotal ARootsTotal GRootsBySteps ARootsBySteps z_range z_repr z_sum
  exact ok_law FLaw GLawWound ALawWound GLawRight ALawRight GLawCounted ALawCounted GRootSums ARootSums GAppendSums AAppendSums GRootsTotal ARootsTotal GRootsBySteps ARootsBySteps z_range z_len z_max z_min z_repr
end LT
open PySem PySem.W PyProof.Rows
set_option maxRecDepth 100000 in
set_option maxHeartbeats 0 in
theorem PySem.Challenge.cw_logtrees_k22_sums_by_counting_nodes_holds : PySem.Challenge.rw_logtrees_k22_sums_by_counting_nodes.Holds := by
  w_on; o_law; k_head; (case hw => w_witness2)
  k_fill
  refine LT.walkG (l := PySem.Challenge.rw_logtrees_k22_sums_by_counting_nodes) (n := 63) (k := 10) (x := "script") (sp := fun w => LT.spLaw _) rfl (by decide) rfl ⟨rfl, by decide, by decide⟩ (fun w h Y => PySem.W.kIn_of Y) ?F (fun _ _ a ns hl _ hS => ⟨a, ns, rfl, hS, hl, fun _ => rfl⟩)
  case F =>
    intro w mg fa h KX G hmg
    refine' LT.all_mk KX G hmg ?a0 ?l0 ?c0 ?k0 ?a1 ?l1 ?c1 ?k1 ?a2 ?l2 ?c2 ?k2 ?a3 ?l3 ?c3 ?k3 ?a4 ?l4 ?c4 ?k4 ?a5 ?l5 ?c5 ?k5 ?a6 ?l6 ?c6 ?k6 ?a7 ?l7 ?c7 ?k7 ?a8 ?l8 ?c8 ?k8 ?a9 ?l9 ?c9 ?k9 ?a10 ?l10 ?c10 ?k10 ?a11 ?l11 ?c11 ?k11 ?a12 ?l12 ?c12 ?k12 ?a13 ?l13 ?c13 ?k13 ?a14 ?l14 ?c14 ?k14 ?a15 ?l15 ?c15 ?k15 ?a16 ?l16 ?c16 ?k16 ?a17 ?l17 ?c17 ?k17 ?a18 ?l18 ?c18 ?k18 ?a19 ?l19 ?c19 ?k19 ?a20 ?l20 ?c20 ?k20 ?a21 ?l21 ?c21 ?k21 ?a22 ?l22 ?c22 ?k22 ?z_bool ?z_int ?z_isinstance ?z_len ?z_max ?z_min ?z_range ?z_repr ?z_sum ?g_MOST_ENTRIES
    (case a0 => k_is)
    (case l0 => k_is)
    (case c0 => k_is)
    (case k0 => k_is)
    (case a1 => k_is)
    (case l1 => k_is)
    (case c1 => k_is)
    (case k1 => k_is)
    (case a2 => k_is)
    (case l2 => k_is)
    (case c2 => k_is)
    (case k2 => k_is)
    (case a3 => k_is)
    (case l3 => k_is)
    (case c3 => k_is)
    (case k3 => k_is)
    (case a4 => k_is)
    (case l4 => k_is)
    (case c4 => k_is)
    (case k4 => k_is)
    (case a5 => k_is)
    (case l5 => k_is)
    (case c5 => k_is)
    (case k5 => k_is)
    (case a6 => k_is)
    (case l6 => k_is)
    (case c6 => k_is)
    (case k6 => k_is)
    (case a7 => k_is)
    (case l7 => k_is)
    (case c7 => k_is)
    (case k7 => k_is)
    (case a8 => k_is)
    (case l8 => k_is)
    (case c8 => k_is)
    (case k8 => k_is)
    (case a9 => k_is)
    (case l9 => k_is)
    (case c9 => k_is)
    (case k9 => k_is)
    (case a10 => k_is)
    (case l10 => k_is)
    (case c10 => k_is)
    (case k10 => k_is)
    (case a11 => k_is)
    (case l11 => k_is)
    (case c11 => k_is)
    (case k11 => k_is)
    (case a12 => k_is)
    (case l12 => k_is)
    (case c12 => k_is)
    (case k12 => k_is)
    (case a13 => k_is)
    (case l13 => k_is)
    (case c13 => k_is)
    (case k13 => k_is)
    (case a14 => k_is)
    (case l14 => k_is)
    (case c14 => k_is)
    (case k14 => k_is)
    (case a15 => k_is)
    (case l15 => k_is)
    (case c15 => k_is)
    (case k15 => k_is)
    (case a16 => k_is)
    (case l16 => k_is)
    (case c16 => k_is)
    (case k16 => k_is)
    (case a17 => k_is)
    (case l17 => k_is)
    (case c17 => k_is)
    (case k17 => k_is)
    (case a18 => k_is)
    (case l18 => k_is)
    (case c18 => k_is)
    (case k18 => k_is)
    (case a19 => k_is)
    (case l19 => k_is)
    (case c19 => k_is)
    (case k19 => k_is)
    (case a20 => k_is)
    (case l20 => k_is)
    (case c20 => k_is)
    (case k20 => k_is)
    (case a21 => k_is)
    (case l21 => k_is)
    (case c21 => k_is)
    (case k21 => k_is)
    (case a22 => k_is)
    (case l22 => k_is)
    (case c22 => k_is)
    (case k22 => k_is)
    (case z_bool => k_is)
    (case z_int => k_is)
    (case z_isinstance => k_is)
    (case z_len => k_is)
    (case z_max => k_is)
    (case z_min => k_is)
    (case z_range => k_is)
    (case z_repr => k_is)
    (case z_sum => k_is)
    (case g_MOST_ENTRIES => k_is)
