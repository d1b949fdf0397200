import PyProof.Rows.All
import Wide.All
import OpenK.AllK
import Wide.FinOn
import HandS.ForMost
import HandS.Wide
import HandS.WideBits
import HandS.IsInst
import HandS.Style
import HandS.Deep
import HandS.RaiseMore
import HandS.Conv
import HandS.Flow
import HandS.SortRule
import HandS.NoneIn
import KE.KDictDisplayH
import HandS.TupLen
import HandS.Walk
import PyProof.ReprRoads
import PyProof.Rows.NestShow
import KE.DataMinMax
import KE.SortData
import PySem.Challenge.RW_logtrees_k50_whole_depths_and_counts
set_option Elab.async false
set_option linter.all false
set_option maxRecDepth 100000
set_option maxHeartbeats 4000000
namespace LT
/-- the greatest power of two less than m (m from 2) -/
def gp (m : Nat) : Nat := 2 ^ Nat.log2 (m - 1)
theorem gp_pos (m : Nat) : 0 < gp m := Nat.pow_pos (by decide)
theorem gp_lt {m : Nat} (h : 2 ≤ m) : gp m < m := by
  have := Nat.log2_self_le (n := m - 1) (by omega)
  unfold gp; omega
theorem gp_ge {m : Nat} (h : 2 ≤ m) : m ≤ 2 * gp m := by
  have := Nat.lt_log2_self (n := m - 1)
  unfold gp; rw [Nat.pow_succ] at this; omega
theorem pow_eq_of {i j : Nat} {m : Nat} (h1 : 2 ^ i < m) (h2 : m ≤ 2 * 2 ^ i) (h3 : 2 ^ j < m) (h4 : m ≤ 2 * 2 ^ j) : i = j := by
  have a : 2 ^ i < 2 ^ (j + 1) := by rw [Nat.pow_succ]; omega
  have b : 2 ^ j < 2 ^ (i + 1) := by rw [Nat.pow_succ]; omega
  have a' := (Nat.pow_lt_pow_iff_right (by decide : 1 < 2)).mp a
  have b' := (Nat.pow_lt_pow_iff_right (by decide : 1 < 2)).mp b
  omega
theorem gp_eq {i m : Nat} (h1 : 2 ^ i < m) (h2 : m ≤ 2 * 2 ^ i) : gp m = 2 ^ i := by
  have h : 2 ≤ m := by have := Nat.pow_pos (a := 2) (n := i) (by decide); omega
  have := pow_eq_of (gp_lt h) (gp_ge h) h1 h2
  unfold gp; rw [this]
theorem gp_pow (i : Nat) : gp (2 ^ (i + 1)) = 2 ^ i := gp_eq (by rw [Nat.pow_succ]; have := Nat.pow_pos (a := 2) (n := i) (by decide); omega) (by rw [Nat.pow_succ]; omega)

/-- siblings from the root's half down to the leaf's: nodes as (begin, length-end) pairs -/
def sib (b m e : Nat) : List (Nat × Nat) :=
  if h : m ≤ 1 then [] else
    if e < b + gp m then (b + gp m, b + m) :: sib b (gp m) e
    else (b, b + gp m) :: sib (b + gp m) (m - gp m) e
termination_by m
decreasing_by
  · exact gp_lt (by omega)
  · have := gp_pos m; omega
theorem sib_one {b m e : Nat} (h : m ≤ 1) : sib b m e = [] := by rw [sib]; simp [h]
theorem sib_low {b m e : Nat} (h : 2 ≤ m) (k : e < b + gp m) : sib b m e = (b + gp m, b + m) :: sib b (gp m) e := by
  rw [sib]; rw [dif_neg (by omega), if_pos k]
theorem sib_high {b m e : Nat} (h : 2 ≤ m) (k : ¬ e < b + gp m) : sib b m e = (b, b + gp m) :: sib (b + gp m) (m - gp m) e := by
  rw [sib]; rw [dif_neg (by omega), if_neg k]

/-! ### joining up again -/
def join (x y : Nat × Nat) : Nat × Nat := (min x.1 y.1, max x.2 y.2)
/-- the halves of a node -/
def halv (x : Nat × Nat) : (Nat × Nat) × (Nat × Nat) := ((x.1, x.1 + gp (x.2 - x.1)), (x.1 + gp (x.2 - x.1), x.2))
def ok1 (x y : Nat × Nat) : Prop := (join x y).1 + 2 ≤ (join x y).2 ∧ (halv (join x y) = (x, y) ∨ halv (join x y) = (y, x))
def oks : Nat × Nat → List (Nat × Nat) → Prop
  | _, [] => True
  | x, y :: r => ok1 x y ∧ oks (join x y) r
def top : Nat × Nat → List (Nat × Nat) → Nat × Nat
  | x, [] => x
  | x, y :: r => top (join x y) r
theorem oks_append : ∀ (x : Nat × Nat) (l r : List (Nat × Nat)), oks x l → oks (top x l) r → oks x (l ++ r)
  | _, [], _, _, h => h
  | x, y :: l, r, h1, h2 => ⟨h1.1, oks_append (join x y) l r h1.2 h2⟩
theorem top_append : ∀ (x : Nat × Nat) (l r : List (Nat × Nat)), top x (l ++ r) = top (top x l) r
  | _, [], _ => rfl
  | x, y :: l, r => top_append (join x y) l r
theorem sib_up : ∀ (m b e : Nat), b ≤ e → e < b + m → oks (e, e + 1) (sib b m e).reverse ∧ top (e, e + 1) (sib b m e).reverse = (b, b + m) := by
  intro m
  induction m using Nat.strongRecOn with
  | ind m ih =>
    intro b e h1 h2
    by_cases hm : m ≤ 1
    · have : m = 1 := by omega
      subst this
      rw [sib_one (by omega)]
      have : e = b := by omega
      subst this
      exact ⟨True.intro, rfl⟩
    · have g1 := gp_lt (m := m) (by omega)
      have g2 := gp_pos m
      by_cases k : e < b + gp m
      · rw [sib_low (by omega) k, List.reverse_cons]
        obtain ⟨p, q⟩ := ih (gp m) g1 b e h1 k
        have j : join (b, b + gp m) (b + gp m, b + m) = (b, b + m) := by
          unfold join; simp only []; rw [Nat.min_eq_left (by omega), Nat.max_eq_right (by omega)]
        refine ⟨oks_append _ _ _ p ?_, ?_⟩
        · rw [q]
          refine ⟨⟨?_, .inl ?_⟩, True.intro⟩
          · rw [j]; simp only []; omega
          · rw [j]; unfold halv; simp only []; rw [Nat.add_sub_cancel_left]
        · rw [top_append, q]; exact j
      · rw [sib_high (by omega) k, List.reverse_cons]
        obtain ⟨p, q⟩ := ih (m - gp m) (by omega) (b + gp m) e (by omega) (by omega)
        have e2 : b + gp m + (m - gp m) = b + m := by omega
        rw [e2] at q
        have j : join (b + gp m, b + m) (b, b + gp m) = (b, b + m) := by
          unfold join; simp only []; rw [Nat.min_eq_right (by omega), Nat.max_eq_left (by omega)]
        refine ⟨oks_append _ _ _ p ?_, ?_⟩
        · rw [q]
          refine ⟨⟨?_, .inr ?_⟩, True.intro⟩
          · rw [j]; simp only []; omega
          · rw [j]; unfold halv; simp only []; rw [Nat.add_sub_cancel_left]
        · rw [top_append, q]; exact j
theorem sib_len_pow (i : Nat) : ∀ (b e : Nat), b ≤ e → e < b + 2 ^ i → (sib b (2 ^ i) e).length = i := by
  induction i with
  | zero => intro b e h1 h2; rw [sib_one (by simp)]; rfl
  | succ i ih =>
    intro b e h1 h2
    have h3 : 2 ≤ 2 ^ (i + 1) := by rw [Nat.pow_succ]; have := Nat.pow_pos (a := 2) (n := i) (by decide); omega
    have g := gp_pow i
    have e2 : 2 ^ (i + 1) - 2 ^ i = 2 ^ i := by rw [Nat.pow_succ]; omega
    by_cases k : e < b + gp (2 ^ (i + 1))
    · rw [sib_low h3 k, List.length_cons, g, ih b e h1 (by omega)]
    · rw [sib_high h3 k, List.length_cons, g, e2, ih (b + 2 ^ i) e (by omega) (by rw [Nat.pow_succ] at h2; omega)]
/-! ### the peaks by digits: (begin, height) -/
def pk : Nat → Nat → Nat → List (Nat × Nat)
  | 0, _, _ => []
  | i + 1, n, b => if n.testBit i then (b, i) :: pk i n (b + 2 ^ i) else pk i n b
theorem mod_succ (n i : Nat) : n % 2 ^ (i + 1) = (if n.testBit i then 2 ^ i else 0) + n % 2 ^ i := by
  rw [Nat.mod_pow_succ, Nat.testBit_eq_decide_div_mod_eq, Nat.add_comm]
  have h : n / 2 ^ i % 2 = 0 ∨ n / 2 ^ i % 2 = 1 := by omega
  rcases h with h | h <;> rw [h] <;> simp
theorem pk_nil : ∀ (i n b : Nat), n % 2 ^ i = 0 → pk i n b = []
  | 0, _, _, _ => rfl
  | i + 1, n, b, h => by
    rw [mod_succ] at h
    have p := Nat.pow_pos (a := 2) (n := i) (by decide)
    unfold pk
    cases t : n.testBit i with
    | true => rw [t] at h; simp at h
    | false => rw [t] at h; simp at h; simp; exact pk_nil i n b h
theorem pk_ne : ∀ (i n b : Nat), n % 2 ^ i ≠ 0 → pk i n b ≠ []
  | 0, _, _, h => by simp [Nat.mod_one] at h
  | i + 1, n, b, h => by
    rw [mod_succ] at h
    unfold pk
    cases t : n.testBit i with
    | true => simp
    | false => rw [t] at h; simp at h; simp; exact pk_ne i n b (by omega)
theorem pk_begin : ∀ (i n b : Nat) (x : Nat × Nat), x ∈ pk i n b → b ≤ x.1 ∧ x.2 < i
  | 0, _, _, _, h => by simp [pk] at h
  | i + 1, n, b, x, h => by
    unfold pk at h
    cases t : n.testBit i with
    | true =>
      rw [t] at h; simp at h
      rcases h with h | h
      · subst h; exact ⟨Nat.le_refl _, Nat.lt_succ_self _⟩
      · have := pk_begin i n _ x h; have p := Nat.pow_pos (a := 2) (n := i) (by decide); omega
    | false =>
      rw [t] at h; simp at h
      have := pk_begin i n _ x h; omega
/-- what the law says of the levels: s the place of the first row, of t rows in all -/
def lev (t : Nat) : Nat → List (Nat × Nat) → List (Nat × Nat × Nat)
  | _, [] => []
  | s, x :: r => (x.1, x.1 + 2 ^ x.2, x.2 + min (s + 1) (t - 1)) :: lev t (s + 1) r
def due (e : Nat) (l : List (Nat × Nat × Nat)) : List Nat := (l.filter fun x => decide (x.1 ≤ e) && decide (e < x.2.1)).map fun x => x.2.2
theorem due_none (t e : Nat) : ∀ (l : List (Nat × Nat)) (s : Nat), (∀ x ∈ l, e < x.1) → due e (lev t s l) = []
  | [], _, _ => rfl
  | x :: r, s, h => by
    have h1 := h x (List.mem_cons_self)
    have ih := due_none t e r (s + 1) fun y hy => h y (List.mem_cons_of_mem _ hy)
    show List.map _ (List.filter _ ((x.1, x.1 + 2 ^ x.2, x.2 + min (s + 1) (t - 1)) :: lev t (s + 1) r)) = []
    rw [List.filter_cons, if_neg (by simp; omega)]
    exact ih
theorem due_is (n e : Nat) : ∀ (i b s : Nat), b ≤ e → e < b + n % 2 ^ i → due e (lev (s + (pk i n b).length) s (pk i n b)) = [(sib b (n % 2 ^ i) e).length + min s (s + (pk i n b).length - 1)] := by
  intro i
  induction i with
  | zero => intro b s h1 h2; simp [Nat.mod_one] at h2; omega
  | succ i ih =>
    intro b s h1 h2
    have p := Nat.pow_pos (a := 2) (n := i) (by decide)
    have ml := Nat.mod_lt n p
    cases t : n.testBit i with
    | false =>
      have e1 : n % 2 ^ (i + 1) = n % 2 ^ i := by rw [mod_succ, t]; simp
      have e2 : pk (i + 1) n b = pk i n b := by show (if n.testBit i = true then _ else _) = _; rw [t]; simp
      rw [e1] at h2
      rw [e1, e2]; exact ih b s h1 h2
    | true =>
      have e1 : n % 2 ^ (i + 1) = 2 ^ i + n % 2 ^ i := by rw [mod_succ, t]; simp
      have e2 : pk (i + 1) n b = (b, i) :: pk i n (b + 2 ^ i) := by show (if n.testBit i = true then _ else _) = _; rw [t]; simp
      rw [e1] at h2
      rw [e1, e2, List.length_cons]
      by_cases r0 : n % 2 ^ i = 0
      · rw [pk_nil i n _ r0, r0]
        rw [r0] at h2
        rw [Nat.add_zero] at h2
        rw [Nat.add_zero (2 ^ i), sib_len_pow i b e h1 h2]
        show List.map _ (List.filter _ [(b, b + 2 ^ i, i + min (s + 1) (s + (0 + 1) - 1))]) = _
        rw [List.filter_cons, if_pos (by simp; omega)]
        simp
      · have hne : 1 ≤ (pk i n (b + 2 ^ i)).length := by
          have := pk_ne i n (b + 2 ^ i) r0
          cases hh : pk i n (b + 2 ^ i) with
          | nil => exact absurd hh this
          | cons _ _ => rw [List.length_cons]; omega
        have g : gp (2 ^ i + n % 2 ^ i) = 2 ^ i := gp_eq (by omega) (by omega)
        by_cases k : e < b + 2 ^ i
        · rw [sib_low (by omega) (by rw [g]; exact k), g, List.length_cons, sib_len_pow i b e h1 k]
          have d := due_none (s + ((pk i n (b + 2 ^ i)).length + 1)) e (pk i n (b + 2 ^ i)) (s + 1) fun x hx => by have := pk_begin _ _ _ x hx; omega
          show List.map _ (List.filter _ ((b, b + 2 ^ i, i + min (s + 1) (s + ((pk i n (b + 2 ^ i)).length + 1) - 1)) :: lev (s + ((pk i n (b + 2 ^ i)).length + 1)) (s + 1) (pk i n (b + 2 ^ i)))) = _
          rw [List.filter_cons, if_pos (by simp; omega), List.map_cons]
          have d' : List.map (fun x => x.2.2) (List.filter (fun x => decide (x.1 ≤ e) && decide (e < x.2.1)) (lev (s + ((pk i n (b + 2 ^ i)).length + 1)) (s + 1) (pk i n (b + 2 ^ i)))) = [] := d
          rw [d']
          simp
          omega
        · rw [sib_high (by omega) (by rw [g]; exact k), g, List.length_cons, Nat.add_sub_cancel_left]
          have q := ih (b + 2 ^ i) (s + 1) (by omega) (by omega)
          have e3 : s + 1 + (pk i n (b + 2 ^ i)).length = s + ((pk i n (b + 2 ^ i)).length + 1) := by omega
          rw [e3] at q
          show List.map _ (List.filter _ ((b, b + 2 ^ i, i + min (s + 1) (s + ((pk i n (b + 2 ^ i)).length + 1) - 1)) :: lev (s + ((pk i n (b + 2 ^ i)).length + 1)) (s + 1) (pk i n (b + 2 ^ i)))) = _
          rw [List.filter_cons, if_neg (by simp; omega)]
          refine Eq.trans q ?_
          congr 1
          omega
/-! ### which pairs are nodes -/
/-- the bits of m - 1 -/
def lb (m : Nat) : Nat := if m ≤ 1 then 0 else Nat.log2 (m - 1) + 1
theorem lb_le {x i : Nat} (h : x ≤ 2 ^ i) : lb x ≤ i := by
  unfold lb
  by_cases k : x ≤ 1
  · rw [if_pos k]; omega
  · rw [if_neg k]
    have h1 := Nat.log2_self_le (n := x - 1) (by omega)
    have h2 : 2 ^ Nat.log2 (x - 1) < 2 ^ i := by omega
    exact (Nat.pow_lt_pow_iff_right (by decide : 1 < 2)).mp h2
theorem lb_ge (x : Nat) : x ≤ 2 ^ lb x := by
  unfold lb
  by_cases k : x ≤ 1
  · rw [if_pos k]; omega
  · rw [if_neg k]
    have := Nat.lt_log2_self (n := x - 1)
    omega
theorem lb_pow (i : Nat) : lb (2 ^ i) = i := by
  have h1 := lb_le (Nat.le_refl (2 ^ i))
  have h2 := (Nat.pow_le_pow_iff_right (by decide : 1 < 2)).mp (lb_ge (2 ^ i))
  omega
theorem lb_gp {m : Nat} (h : 2 ≤ m) : 2 ^ lb m = 2 * gp m := by
  unfold lb gp; rw [if_neg (by omega), Nat.pow_succ]; omega
def tree (n b m : Nat) : Prop := 2 ^ lb m ∣ b ∧ (m = 2 ^ lb m ∨ b + m = n)
theorem tree_root (n : Nat) : tree n 0 n := ⟨Nat.dvd_zero _, .inr (Nat.zero_add _)⟩
theorem tree_low {n b m : Nat} (h : 2 ≤ m) (t : tree n b m) : tree n b (gp m) := by
  obtain ⟨d, _⟩ := t
  rw [lb_gp h] at d
  have e : 2 ^ lb (gp m) = gp m := by unfold gp; rw [lb_pow]
  exact ⟨by rw [e]; exact Nat.dvd_trans (Nat.dvd_mul_left _ _) d, .inl e.symm⟩
theorem tree_high {n b m : Nat} (h : 2 ≤ m) (t : tree n b m) : tree n (b + gp m) (m - gp m) := by
  obtain ⟨d, k⟩ := t
  rw [lb_gp h] at d k
  have g1 := gp_lt h
  have g2 := gp_ge h
  have dg : 2 ^ lb (m - gp m) ∣ gp m := by
    have : lb (m - gp m) ≤ Nat.log2 (m - 1) := lb_le (by unfold gp at g1 g2 ⊢; omega)
    exact Nat.pow_dvd_pow 2 this
  refine ⟨Nat.dvd_add (Nat.dvd_trans dg (Nat.dvd_trans (Nat.dvd_mul_left _ _) d)) dg, ?_⟩
  rcases k with k | k
  · left
    have e : m - gp m = gp m := by omega
    rw [e]
    unfold gp; rw [lb_pow]
  · right; omega
theorem sib_len_le : ∀ (m b e : Nat), b ≤ e → e < b + m → (sib b m e).length ≤ lb m := by
  intro m
  induction m using Nat.strongRecOn with
  | ind m ih =>
    intro b e h1 h2
    by_cases hm : m ≤ 1
    · rw [sib_one hm]; exact Nat.zero_le _
    · have g1 := gp_lt (m := m) (by omega)
      have g2 := gp_ge (m := m) (by omega)
      have g3 := gp_pos m
      have e1 : lb m = Nat.log2 (m - 1) + 1 := by unfold lb; rw [if_neg hm]
      by_cases k : e < b + gp m
      · rw [sib_low (by omega) k, List.length_cons]
        have := ih (gp m) g1 b e h1 k
        have e2 : lb (gp m) = Nat.log2 (m - 1) := by unfold gp; rw [lb_pow]
        omega
      · rw [sib_high (by omega) k, List.length_cons]
        have := ih (m - gp m) (by omega) (b + gp m) e (by omega) (by omega)
        have e2 : lb (m - gp m) ≤ Nat.log2 (m - 1) := lb_le (by unfold gp at g1 g2 ⊢; omega)
        omega
end LT
namespace LT
open PySem PySem.Spec PyProof.Rows L2
def topS (i : Nat) : Stmt := PySem.Challenge.pw_logtrees_k50_whole_depths_and_counts.main.body.getD i (.Pass ⟨0, 0, 0, 0⟩)
abbrev sIsWhole : Stmt := topS 9
theorem scIsWhole : FnScope ["value"] ["value"] (defScope sIsWhole) := ⟨rfl, rfl, rfl, by decide +kernel, rfl, by decide +kernel, by decide +kernel⟩
abbrev sIsBetween : Stmt := topS 10
theorem scIsBetween : FnScope ["value", "low", "high"] ["value", "low", "high"] (defScope sIsBetween) := ⟨rfl, rfl, rfl, by decide +kernel, rfl, by decide +kernel, by decide +kernel⟩
abbrev sCheckSize : Stmt := topS 12
theorem scCheckSize : FnScope ["size"] ["size"] (defScope sCheckSize) := ⟨rfl, rfl, rfl, by decide +kernel, rfl, by decide +kernel, by decide +kernel⟩
abbrev sCheckEntry : Stmt := topS 13
theorem scCheckEntry : FnScope ["size", "entry"] ["size", "entry"] (defScope sCheckEntry) := ⟨rfl, rfl, rfl, by decide +kernel, rfl, by decide +kernel, by decide +kernel⟩
abbrev sCheckNode : Stmt := topS 14
theorem scCheckNode : FnScope ["size", "node"] ["size", "node"] (defScope sCheckNode) := ⟨rfl, rfl, rfl, by decide +kernel, rfl, by decide +kernel, by decide +kernel⟩
abbrev sCheckSpan : Stmt := topS 15
theorem scCheckSpan : FnScope ["size", "begin", "end"] ["size", "begin", "end"] (defScope sCheckSpan) := ⟨rfl, rfl, rfl, by decide +kernel, rfl, by decide +kernel, by decide +kernel⟩
abbrev sCheckNumber : Stmt := topS 16
theorem scCheckNumber : FnScope ["number"] ["number"] (defScope sCheckNumber) := ⟨rfl, rfl, rfl, by decide +kernel, rfl, by decide +kernel, by decide +kernel⟩
abbrev sCheckNumberBetween : Stmt := topS 17
theorem scCheckNumberBetween : FnScope ["number", "least", "most"] ["number", "least", "most"] (defScope sCheckNumberBetween) := ⟨rfl, rfl, rfl, by decide +kernel, rfl, by decide +kernel, by decide +kernel⟩
abbrev sIsTreeNode : Stmt := topS 11
theorem scIsTreeNode : FnScope ["size", "value", "begin", "end", "room"] ["size", "value"] (defScope sIsTreeNode) := ⟨rfl, rfl, rfl, by decide +kernel, rfl, by decide +kernel, by decide +kernel⟩
abbrev sPowerWithin : Stmt := topS 19
theorem scPowerWithin : FnScope ["number"] ["number"] (defScope sPowerWithin) := ⟨rfl, rfl, rfl, by decide +kernel, rfl, by decide +kernel, by decide +kernel⟩
abbrev sPeaks : Stmt := topS 20
theorem scPeaks : FnScope ["size", "found", "begin", "end"] ["size"] (defScope sPeaks) := ⟨rfl, rfl, rfl, by decide +kernel, rfl, by decide +kernel, by decide +kernel⟩
abbrev sEdges : Stmt := topS 21
theorem scEdges : FnScope ["size", "begin", "_"] ["size"] (defScope sEdges) := ⟨rfl, rfl, rfl, by decide +kernel, rfl, by decide +kernel, by decide +kernel⟩
abbrev sHalves : Stmt := topS 22
theorem scHalves : FnScope ["size", "node", "begin", "end", "middle"] ["size", "node"] (defScope sHalves) := ⟨rfl, rfl, rfl, by decide +kernel, rfl, by decide +kernel, by decide +kernel⟩
abbrev sNodeCount : Stmt := topS 23
theorem scNodeCount : FnScope ["size", "cut"] ["size"] (defScope sNodeCount) := ⟨rfl, rfl, rfl, by decide +kernel, rfl, by decide +kernel, by decide +kernel⟩
abbrev sCommonCount : Stmt := topS 24
theorem scCommonCount : FnScope ["size", "other", "full", "cut"] ["size", "other"] (defScope sCommonCount) := ⟨rfl, rfl, rfl, by decide +kernel, rfl, by decide +kernel, by decide +kernel⟩
abbrev sHeightCount : Stmt := topS 25
theorem scHeightCount : FnScope ["size", "number", "beside"] ["size", "number"] (defScope sHeightCount) := ⟨rfl, rfl, rfl, by decide +kernel, rfl, by decide +kernel, by decide +kernel⟩
abbrev sDepth : Stmt := topS 27
theorem scDepth : FnScope ["size", "entry"] ["size", "entry"] (defScope sDepth) := ⟨rfl, rfl, rfl, by decide +kernel, rfl, by decide +kernel, by decide +kernel⟩
abbrev sPath : Stmt := topS 28
theorem scPath : FnScope ["size", "entry", "siblings", "node", "low", "high"] ["size", "entry"] (defScope sPath) := ⟨rfl, rfl, rfl, by decide +kernel, rfl, by decide +kernel, by decide +kernel⟩
abbrev sPeakDepths : Stmt := topS 29
theorem scPeakDepths : FnScope ["size", "tops", "rows", "place", "begin", "end", "above"] ["size"] (defScope sPeakDepths) := ⟨rfl, rfl, rfl, by decide +kernel, rfl, by decide +kernel, by decide +kernel⟩
abbrev sDepthsBetween : Stmt := topS 30
theorem scDepthsBetween : FnScope ["size", "begin", "end", "rows", "first", "last", "deep", "count"] ["size", "begin", "end"] (defScope sDepthsBetween) := ⟨rfl, rfl, rfl, by decide +kernel, rfl, by decide +kernel, by decide +kernel⟩
abbrev sDepthSum : Stmt := topS 31
theorem scDepthSum : FnScope ["size", "begin", "end", "count", "deep"] ["size", "begin", "end"] (defScope sDepthSum) := ⟨rfl, rfl, rfl, by decide +kernel, rfl, by decide +kernel, by decide +kernel⟩
abbrev sDepthRange : Stmt := topS 32
theorem scDepthRange : FnScope ["size", "begin", "end", "found", "_", "deep"] ["size", "begin", "end"] (defScope sDepthRange) := ⟨rfl, rfl, rfl, by decide +kernel, rfl, by decide +kernel, by decide +kernel⟩
abbrev sFirstOfDepth : Stmt := topS 33
theorem scFirstOfDepth : FnScope ["size", "number", "first", "_", "deep"] ["size", "number"] (defScope sFirstOfDepth) := ⟨rfl, rfl, rfl, by decide +kernel, rfl, by decide +kernel, by decide +kernel⟩
abbrev sMadeSums : Stmt := topS 35
theorem scMadeSums : FnScope ["size"] ["size"] (defScope sMadeSums) := ⟨rfl, rfl, rfl, by decide +kernel, rfl, by decide +kernel, by decide +kernel⟩
abbrev sAppendSums : Stmt := topS 36
theorem scAppendSums : FnScope ["size", "number"] ["size", "number"] (defScope sAppendSums) := ⟨rfl, rfl, rfl, by decide +kernel, rfl, by decide +kernel, by decide +kernel⟩
abbrev sRootSums : Stmt := topS 37
theorem scRootSums : FnScope ["size"] ["size"] (defScope sRootSums) := ⟨rfl, rfl, rfl, by decide +kernel, rfl, by decide +kernel, by decide +kernel⟩
abbrev sLawBag : Stmt := topS 39
theorem scLawBag : FnScope ["cell"] ["cell"] (defScope sLawBag) := ⟨rfl, rfl, rfl, by decide +kernel, rfl, by decide +kernel, by decide +kernel⟩
abbrev sLawPick : Stmt := topS 40
theorem scLawPick : FnScope ["bag", "many", "told", "seed", "turn", "first", "second", "drawn"] ["bag", "many"] (defScope sLawPick) := ⟨rfl, rfl, rfl, by decide +kernel, rfl, by decide +kernel, by decide +kernel⟩
abbrev sLawSize : Stmt := topS 41
theorem scLawSize : FnScope ["bag", "size"] ["bag"] (defScope sLawSize) := ⟨rfl, rfl, rfl, by decide +kernel, rfl, by decide +kernel, by decide +kernel⟩
abbrev sLawRight : Stmt := topS 42
theorem scLawRight : FnScope ["bag", "size", "other", "full", "bare", "heights", "due", "least", "greatest_depth", "number", "entry", "ours", "told", "h", "begin", "end"] ["bag"] (defScope sLawRight) := ⟨rfl, rfl, rfl, by decide +kernel, rfl, by decide +kernel, by decide +kernel⟩
abbrev sLaw : Stmt := topS 43
theorem scLaw : FnScope ["script", "cell", "bag", "turn"] ["script"] (defScope sLaw) := ⟨rfl, rfl, rfl, by decide +kernel, rfl, by decide +kernel, by decide +kernel⟩
/-- a def as it stands behind the top -/
structure At (K : PySem.W.Frag) (mg : Str → Option Value) (x : Str) (f : Addr) (fd : FuncData) (ps : List Str) : Prop where
  m : mg x = some (.ref f)
  kp : PySem.W.keepIn K (.ref f) = true
  b : Binds K fd ps []
theorem units1 {k : Nat} {A : Around} (r : Room k A) : A.units + 65 < cLine := by have := r.un; omega
/-- all but b as it was -/
def But (b : Addr) (H H' : Hp) : Prop := ∀ a o, a ≠ b → H a = some o → H' a = some o
theorem But.refl (b : Addr) (H : Hp) : But b H H := fun _ _ _ h => h
theorem But.trans {b : Addr} {H H1 H2 : Hp} (x : But b H H1) (y : But b H1 H2) : But b H H2 := fun a o n h => y a o n (x a o n h)
theorem But.of {b : Addr} {H H1 : Hp} (x : Same H H1) : But b H H1 := fun a o _ h => x a o h
theorem same_upd {H : Hp} {p : Addr} {o : HO} (h : H p = none) : Same H (upd H p o) := fun b x e => by
  rw [upd_ne (ne_of_none e h)]
  exact e
def BagAt (H : Hp) (b : Addr) : Prop := ∃ x y z : Int, H b = some (.lst [.int x, .int y, .int z])
theorem BagAt.same {H H' : Hp} {b : Addr} (h : BagAt H b) (s : Same H H') : BagAt H' b := by
  obtain ⟨x, y, z, e⟩ := h
  exact ⟨x, y, z, s _ _ e⟩
/-- a pair of ints -/
def Nd (H : Hp) (v : V) (x : Nat × Nat) : Prop := ∃ p, v = .ref p ∧ H p = some (.tup [.int x.1, .int x.2])
theorem Nd.same {H H' : Hp} {v : V} {x : Nat × Nat} (h : Nd H v x) (s : Same H H') : Nd H' v x := by
  obtain ⟨p, e, q⟩ := h
  exact ⟨p, e, s _ _ q⟩
theorem Nd.dp {K : PySem.W.Frag} {H : Hp} {v : V} {x : Nat × Nat} (h : Nd H v x) : Dp K H v (.tuple [.int x.1, .int x.2]) := by
  obtain ⟨p, rfl, q⟩ := h
  exact .tup (SqT.of q) (.cons (.int _) (.cons (.int _) .nil))
theorem nd_shaped (a b : Int) : SeqAt.shaped (.tuple [.int a, .int b]) = true := by
  show (PyData.canLay0 _ && decide (PyData.depth _ ≤ 64)) = true
  simp [PyData.canLay0, PyData.canLayAll0, PyData.depth, PyData.depthAll]
theorem nd_eqv (a b c d : Int) : PyData.eqv (.tuple [.int a, .int b]) (.tuple [.int c, .int d]) = (decide (a = c) && decide (b = d)) := by
  have e : PyData.eqv (.tuple [.int a, .int b]) (.tuple [.int c, .int d]) = ((a == c) && ((b == d) && true)) := by simp only [PyData.eqv, PyData.eqvAll]
  rw [e, Bool.and_true]
  by_cases h1 : a = c <;> by_cases h2 : b = d <;> simp [h1, h2]
/-- lists of values and what they stand for -/
inductive All2 {α : Type} (R : V → α → Prop) : List V → List α → Prop
  | nil : All2 R [] []
  | cons {v : V} {x : α} {vs : List V} {xs : List α} : R v x → All2 R vs xs → All2 R (v :: vs) (x :: xs)
section
variable {α : Type} {R R' : V → α → Prop}
theorem All2.mono (f : ∀ v x, R v x → R' v x) : ∀ {vs : List V} {xs : List α}, All2 R vs xs → All2 R' vs xs
  | _, _, .nil => .nil
  | _, _, .cons h t => .cons (f _ _ h) (All2.mono f t)
theorem All2.len : ∀ {vs : List V} {xs : List α}, All2 R vs xs → vs.length = xs.length
  | _, _, .nil => rfl
  | _, _, .cons _ t => by rw [List.length_cons, List.length_cons, All2.len t]
theorem All2.app : ∀ {vs : List V} {xs : List α} {us : List V} {ys : List α}, All2 R vs xs → All2 R us ys → All2 R (vs ++ us) (xs ++ ys)
  | _, _, _, _, .nil, h => h
  | _, _, _, _, .cons h t, k => .cons h (All2.app t k)
theorem All2.rev : ∀ {vs : List V} {xs : List α}, All2 R vs xs → All2 R vs.reverse xs.reverse
  | _, _, .nil => .nil
  | _, _, .cons h t => by
    rw [List.reverse_cons, List.reverse_cons]
    exact All2.app (All2.rev t) (.cons h .nil)
theorem All2.nth : ∀ {vs : List V} {xs : List α} {i : Nat} {v : V}, All2 R vs xs → vs[i]? = some v → ∃ x, xs[i]? = some x ∧ R v x
  | _, _, _, _, .nil, h => by simp at h
  | _, _, 0, _, .cons h t, e => by
    have := Option.some.inj e
    subst this
    exact ⟨_, rfl, h⟩
  | _, _, i + 1, _, .cons h t, e => by
    rw [List.getElem?_cons_succ] at e ⊢
    exact All2.nth t e
theorem All2.nth2 : ∀ {vs : List V} {xs : List α} {i : Nat} {x : α}, All2 R vs xs → xs[i]? = some x → ∃ v, vs[i]? = some v ∧ R v x
  | _, _, _, _, .nil, h => by simp at h
  | _, _, 0, _, .cons h t, e => by
    have := Option.some.inj e
    subst this
    exact ⟨_, rfl, h⟩
  | _, _, i + 1, _, .cons h t, e => by
    rw [List.getElem?_cons_succ] at e ⊢
    exact All2.nth2 t e
end

/-! ### rules within a comprehension: what they say of the written part is said of the def's -/
section
open PySem L2
variable {X : Cx} {s : Shared} {H : Hp} {sc : Scope} {ce : Env} {fp : List Addr}
theorem pg_tupB {es : List Expr} {k : Nat} {pos : Pos} {t : TGs} {n : Nat} (hc : X.calm = true) (h : PGs (X.blk s H sc ce fp) es t)
    (hn : (assignEach es (X.blk s H sc ce fp).env).length = n := by rfl) (hst : (assignEach es (X.blk s H sc ce fp).env).findIdx? (·.1) = none := by rfl) : PG (X.blk s H sc ce fp) (.Tuple es k pos) (gTup X.K n t) := pg_tup hc h hn hst
theorem ix_listB : IxR (X.blk s H sc ce fp) (rIxL X.K) := ix_list
theorem ix_tupB : IxR (X.blk s H sc ce fp) (rIxT X.K) := ix_tup
theorem call_len_seqB : CallR (X.blk s H sc ce fp) (.builtin "len") (fun xs H Q => ∃ p ys, xs = [.ref p] ∧ (SqL X.K H p ys ∨ SqT X.K H p ys) ∧ Q (.int ys.length) H) := call_len_seq
theorem op_eqDB (hu : X.A.units + 64 < cLine) : OpR (X.blk s H sc ce fp) (compareOp .Eq) (rEqD X.K) := op_eqD (X := X.blk s H sc ce fp) hu
theorem op_neDB (hu : X.A.units + 64 < cLine) : OpR (X.blk s H sc ce fp) (compareOp .NotEq) (rNeD X.K) := op_neD (X := X.blk s H sc ce fp) hu
theorem op_inDB (hu : X.A.units + 65 < cLine) : OpR (X.blk s H sc ce fp) (compareOp .In) (rInD X.K) := op_inD (X := X.blk s H sc ce fp) hu
theorem op_notInDB (hu : X.A.units + 65 < cLine) : OpR (X.blk s H sc ce fp) (compareOp .NotIn) (rNotInD X.K) := op_notInD (X := X.blk s H sc ce fp) hu
end
theorem Nd.upd {H : Hp} {v : V} {x : Nat × Nat} {s : Addr} {xs : List V} {o : HO} (h : Nd H v x) (hs : H s = some (.lst xs)) : Nd (upd H s o) v x := by
  obtain ⟨p, e, q⟩ := h
  exact ⟨p, e, by rw [upd_ne (ne_of q hs (by intro z; cases z))]; exact q⟩
def full (x : Nat × Nat) : Nat × Nat := (x.1, x.1 + 2 ^ x.2)
theorem pk_len : ∀ (i n b : Nat), (pk i n b).length ≤ i
  | 0, _, _ => Nat.le_refl _
  | i + 1, n, b => by
    show (if n.testBit i = true then (b, i) :: pk i n (b + 2 ^ i) else pk i n b).length ≤ i + 1
    by_cases t : n.testBit i = true
    · rw [if_pos t, List.length_cons]
      exact Nat.succ_le_succ (pk_len i n _)
    · rw [if_neg t]
      exact Nat.le_succ_of_le (pk_len i n b)
theorem take_more {α : Type} : ∀ {l : List α} {i : Nat} {x : α}, l[i]? = some x → l.take (i + 1) = l.take i ++ [x]
  | [], i, x, h => by simp at h
  | a :: l, 0, x, h => by
    have e : a = x := Option.some.inj h
    subst e
    rfl
  | a :: l, i + 1, x, h => by
    have ih := take_more (l := l) (i := i) (x := x) h
    show a :: l.take (i + 1) = a :: l.take i ++ [x]
    rw [ih]
    rfl
theorem szle {n : Nat} (h : n ≤ 100000) : n ≤ sizeLine := Nat.le_trans h (by decide)
theorem szlt {n : Nat} (h : n < 100000) : n < sizeLine := Nat.lt_of_lt_of_le h (by decide)
end LT

namespace LT
open PySem PySem.Spec PyProof.Rows L2
section
variable {P : Program} {w : World} {K : PySem.W.Frag} {mg : Str → Option Value} {base : Heap}
def spWhole : Sp := fun vs H Q _ => ∃ i : Int, vs = [.int i] ∧ Q (.bl true) H
theorem ok_is_whole {f : Addr} {fd : FuncData} (F : Fun K "is_whole" "is_whole" sIsWhole f fd) (z_isinstance : mg "isinstance" = none) (z_int : mg "int" = none) (z_bool : mg "bool" = none) : FnOk P w K mg base CX0 1 f fd ["value"] spWhole := by
  refine F.ok scIsWhole (fun vs H Q E h => ?_) (fun cdv A outer s H vs Q E hr h => ?_)
  · obtain ⟨i, rfl, _⟩ := h
    rfl
  obtain ⟨i, rfl, q⟩ := h
  refine ⟨_, (pss_one (ps_ret (pe_and (pe_callB call_isi (by rfl) z_isinstance (by decide +kernel) (pa_cons (pv 0) (pa_cons (pe_bltn (v := .ty "int") (u := .type "int") (by rfl) z_int (by decide +kernel) rfl) pa_nil))) (pe_one (pe_not (pe_callB call_isi (by rfl) z_isinstance (by decide +kernel) (pa_cons (pv 0) (pa_cons (pe_bltn (v := .ty "bool") (u := .type "bool") (by rfl) z_bool (by decide +kernel) rfl) pa_nil)))))))), ?_⟩
  refine ⟨_, rfl, _, _, _, _, true, rfl, .ty "int", .base (.int i), kit_ty (by decide +kernel), true, rfl, ?_⟩
  refine ⟨_, rfl, _, _, _, _, false, rfl, .ty "bool", .base (.int i), kit_ty (by decide +kernel), false, rfl, ?_⟩
  exact q
def spBetween : Sp := fun vs H Q _ => ∃ v lo hi : Int, vs = [.int v, .int lo, .int hi] ∧ Q (.bl (decide (lo ≤ v) && decide (v ≤ hi))) H
theorem ok_is_between {f g : Addr} {fd gd : FuncData} (F : Fun K "is_between" "is_between" sIsBetween f fd) (GIsWhole : FnOk P w K mg base CX0 1 g gd ["value"] spWhole) (AIsWhole : At K mg "is_whole" g gd ["value"]) : FnOk P w K mg base CX0 2 f fd ["value", "low", "high"] spBetween := by
  refine F.ok scIsBetween (fun vs H Q E h => ?_) (fun cdv A outer s H vs Q E hr h => ?_)
  · obtain ⟨i, _, _, rfl, _⟩ := h
    rfl
  obtain ⟨v, lo, hi, rfl, q⟩ := h
  refine ⟨_, (pss_one (ps_ret (pe_and (pe_call GIsWhole (hr.mono (by decide)) rfl AIsWhole.m AIsWhole.kp AIsWhole.b .nil pass0 (pa_cons (pv 0) pa_nil)) (pe_one (pe_chain op_le op_le (pv 1) (pv 0) (pv 2)))))), ?_⟩
  refine ⟨_, rfl, v, rfl, true, rfl, ?_⟩
  refine ⟨_, rfl, _, rfl, _, _, rfl, rfl, _, rfl, ?_⟩
  by_cases h1 : lo ≤ v
  · rw [decide_eq_true h1] at q ⊢
    exact ⟨_, rfl, _, _, rfl, rfl, q⟩
  · rw [decide_eq_false h1] at q ⊢
    exact q
def spCheckSize : Sp := fun vs H Q _ => ∃ n : Int, vs = [.int n] ∧ 1 ≤ n ∧ n ≤ 10 ^ 30 ∧ Q .non H
theorem ok_check_size {f g : Addr} {fd gd : FuncData} {t : Tok} (F : Fun K "check_size" "check_size" sCheckSize f fd) (GIsBetween : FnOk P w K mg base CX0 2 g gd ["value", "low", "high"] spBetween) (AIsBetween : At K mg "is_between" g gd ["value", "low", "high"]) (g_MOST_ENTRIES : mg "MOST_ENTRIES" = some (.int 1000000000000000000000000000000 t)) : FnOk P w K mg base CX0 3 f fd ["size"] spCheckSize := by
  refine F.ok scCheckSize (fun vs H Q E h => ?_) (fun cdv A outer s H vs Q E hr h => ?_)
  · obtain ⟨i, rfl, _⟩ := h
    rfl
  obtain ⟨n, rfl, h1, h2, q⟩ := h
  refine ⟨_, (pss_one (ps_if (pt_not (pt_val (pe_call GIsBetween (hr.mono (by decide)) rfl AIsBetween.m AIsBetween.kp AIsBetween.b .nil pass0 (pa_cons (pv 0) (pa_cons pe_int (pa_cons (pe_glob (v := .int 1000000000000000000000000000000) rfl g_MOST_ENTRIES ⟨_, rfl⟩) pa_nil))))))
    (pss_one ps_never)
    pss_nil)), ?_⟩
  refine ⟨_, rfl, n, 1, 1000000000000000000000000000000, rfl, _, rfl, ?_⟩
  rw [decide_eq_true h1, decide_eq_true (show n ≤ 1000000000000000000000000000000 from h2)]
  exact q
end
end LT

namespace LT
open PySem PySem.Spec PyProof.Rows L2
section
variable {P : Program} {w : World} {K : PySem.W.Frag} {mg : Str → Option Value} {base : Heap}
def spCheckEntry : Sp := fun vs H Q _ => ∃ n e : Int, vs = [.int n, .int e] ∧ 0 ≤ e ∧ e < n ∧ Q .non H
theorem ok_check_entry {f g : Addr} {fd gd : FuncData} (F : Fun K "check_entry" "check_entry" sCheckEntry f fd) (GIsBetween : FnOk P w K mg base CX0 2 g gd ["value", "low", "high"] spBetween) (AIsBetween : At K mg "is_between" g gd ["value", "low", "high"]) : FnOk P w K mg base CX0 3 f fd ["size", "entry"] spCheckEntry := by
  refine F.ok scCheckEntry (fun vs H Q E h => ?_) (fun cdv A outer s H vs Q E hr h => ?_)
  · obtain ⟨i, _, rfl, _⟩ := h
    rfl
  obtain ⟨n, e, rfl, h1, h2, q⟩ := h
  refine ⟨_, (pss_one (ps_if (pt_not (pt_val (pe_call GIsBetween (hr.mono (by decide)) rfl AIsBetween.m AIsBetween.kp AIsBetween.b .nil pass0 (pa_cons (pv 1) (pa_cons pe_int (pa_cons (pe_op op_sub (pv 0) pe_int) pa_nil))))))
    (pss_one ps_never)
    pss_nil)), ?_⟩
  refine ⟨_, rfl, _, rfl, _, _, rfl, rfl, e, 0, n - 1, rfl, _, rfl, ?_⟩
  rw [decide_eq_true h1, decide_eq_true (show e ≤ n - 1 by omega)]
  exact q
end
end LT

namespace LT
open PySem PySem.Spec PyProof.Rows L2
theorem bits_nat (k : Nat) : Builtin.Int.intBits (k : Int) = if k = 0 then 0 else k.log2 + 1 := by
  unfold Builtin.Int.intBits
  by_cases h : k = 0
  · subst h; rfl
  · rw [if_neg h, if_neg (by simpa using h)]
    rfl
theorem bits_lb {m : Nat} (h : 1 ≤ m) : Builtin.Int.intBits ((m - 1 : Nat) : Int) = lb m := by
  rw [bits_nat]
  unfold lb
  by_cases k : m ≤ 1
  · rw [if_pos k, if_pos (by omega)]
  · rw [if_neg k, if_neg (by omega)]
theorem lb100 {m : Nat} (h : m ≤ 10 ^ 30) : lb m ≤ 100 := lb_le (Nat.le_trans h (by decide))
theorem fmod_of_dvd {a b : Nat} (h : a ∣ b) : Int.fmod (b : Int) (a : Int) = 0 := by
  rw [Int.fmod_eq_emod_of_nonneg _ (Int.natCast_nonneg _)]
  exact Int.emod_eq_zero_of_dvd (Int.natCast_dvd_natCast.mpr h)
end LT

namespace LT
open PySem PySem.Spec PyProof.Rows L2
section
variable {P : Program} {w : World} {K : PySem.W.Frag} {mg : Str → Option Value} {base : Heap}
def spTree : Sp := fun vs H Q _ => ∃ (n b m : Nat) (v : V), vs = [.int n, v] ∧ Nd H v (b, b + m) ∧ 1 ≤ m ∧ b + m ≤ n ∧ n ≤ 10 ^ 30 ∧ tree n b m ∧ Q (.bl true) H
theorem ok_is_tree_node {f g : Addr} {fd gd : FuncData} (F : Fun K "is_tree_node" "is_tree_node" sIsTreeNode f fd) (GIsBetween : FnOk P w K mg base CX0 2 g gd ["value", "low", "high"] spBetween) (AIsBetween : At K mg "is_between" g gd ["value", "low", "high"])
    (z_isinstance : mg "isinstance" = none) (z_tuple : mg "tuple" = none) (z_len : mg "len" = none) : FnOk P w K mg base CX0 3 f fd ["size", "value"] spTree := by
  refine F.ok scIsTreeNode (fun vs H Q E h => ?_) (fun cdv A outer s H vs Q E hr h => ?_)
  · obtain ⟨_, _, _, _, rfl, _⟩ := h
    rfl
  obtain ⟨n, b, m, v, rfl, ⟨p, rfl, hp⟩, hm, hn, h30, ht, q⟩ := h
  refine ⟨_, (pss_cons (ps_if (PW.pt (pw_or (pt_not (pt_val (pe_callB call_isi (by rfl) z_isinstance (by decide +kernel) (pa_cons (pv 1) (pa_cons (pe_bltn (v := .ty "tuple") (u := .type "tuple") (by rfl) z_tuple (by decide +kernel) rfl) pa_nil))))) (pw_or1 (pt_cmpR op_ne (pe_callB call_len_seq (by rfl) z_len PySem.boot_len (pa_cons (pv 1) pa_nil)) pe_int (nomark _)))))
    (pss_one (ps_ret pe_bl))
    pss_nil)
    (pss_cons (ps_asg (pv 1) (pg_tup (by rfl) (pgs_cons (pg_name (i := 2) scIsTreeNode.nd rfl (Or.inl rfl)) (pgs_cons (pg_name (i := 3) scIsTreeNode.nd rfl (Or.inl rfl)) pgs_nil))))
    (pss_cons (ps_if (PW.pt (pw_or (pt_not (pt_val (pe_call GIsBetween (hr.mono (by decide)) rfl AIsBetween.m AIsBetween.kp AIsBetween.b .nil pass0 (pa_cons (pv 2) (pa_cons pe_int (pa_cons (pe_op op_sub (pv 0) pe_int) pa_nil)))))) (pw_or1 (pt_not (pt_val (pe_call GIsBetween (hr.mono (by decide)) rfl AIsBetween.m AIsBetween.kp AIsBetween.b .nil pass0 (pa_cons (pv 3) (pa_cons (pe_op op_add (pv 2) pe_int) (pa_cons (pv 0) pa_nil)))))))))
    (pss_one (ps_ret pe_bl))
    pss_nil)
    (pss_cons (ps_set (i := 4) scIsTreeNode.nd rfl (Or.inl rfl) (pe_op op_shl pe_int (pe_bits (pe_op op_sub (pe_op op_sub (pv 3) (pv 2)) pe_int))))
    (pss_one (ps_ret (pe_and (pe_cmpR op_eq (pe_op op_modN (pv 2) (pv 4)) pe_int (nomark _)) (pe_one (pe_or (pe_cmpR op_eq (pe_op op_sub (pv 3) (pv 2)) (pv 4) (nomark _)) (pe_one (pe_cmpR op_eq (pv 3) (pv 0) (nomark _)))))))))))), ?_⟩
  refine ⟨_, rfl, _, _, _, _, true, rfl, .ty "tuple", .base (.tup hp), kit_ty (by decide +kernel), true, rfl, ?_⟩
  refine ⟨_, rfl, p, _, rfl, .inr (SqT.of hp), rfl, false, rfl, ?_⟩
  refine ⟨_, rfl, p, _, rfl, SqT.of hp, rfl, _, _, rfl, _, _, rfl, rfl, ?_⟩
  refine ⟨_, rfl, _, rfl, _, _, rfl, rfl, _, _, _, rfl, true, ?_, ?_⟩
  · exact congrArg V.bl (by rw [Bool.and_eq_true]; exact ⟨decide_eq_true (by omega), decide_eq_true (by show (b : Int) ≤ n - 1; omega)⟩)
  refine ⟨_, rfl, _, rfl, _, _, rfl, rfl, _, rfl, _, _, _, rfl, true, ?_, ?_⟩
  · exact congrArg V.bl (by rw [Bool.and_eq_true]; exact ⟨decide_eq_true (by show (b : Int) + 1 ≤ ((b + m : Nat) : Int); omega), decide_eq_true (by show ((b + m : Nat) : Int) ≤ n; omega)⟩)
  have e1 : ((b + m : Nat) : Int) - (b : Int) - 1 = ((m - 1 : Nat) : Int) := by omega
  refine ⟨_, rfl, _, rfl, _, _, rfl, rfl, _, _, rfl, rfl, _, rfl, ?_⟩
  dsimp only
  rw [e1, bits_lb hm]
  have l100 := lb100 (show m ≤ 10 ^ 30 by omega)
  refine ⟨_, _, rfl, rfl, ⟨Int.natCast_nonneg _, by omega, by decide⟩, ?_⟩
  have e2 : (1 : Int) * 2 ^ ((lb m : Nat) : Int).toNat = ((2 ^ lb m : Nat) : Int) := by rw [Int.one_mul, Int.toNat_natCast]; exact (Int.natCast_pow 2 (lb m)).symm
  dsimp only
  rw [e2]
  obtain ⟨d, k⟩ := ht
  have pz : 0 < 2 ^ lb m := Nat.pow_pos (by decide)
  generalize 2 ^ lb m = R at d k pz
  refine ⟨_, rfl, _, rfl, _, _, rfl, rfl, by omega, rfl, true, ?_, ?_⟩
  · show V.bl (decide (V.int (Int.fmod (b : Int) (R : Int)) = V.int 0)) = V.bl true
    rw [fmod_of_dvd d, decide_eq_true rfl]
  refine ⟨_, rfl, _, rfl, _, _, rfl, rfl, _, rfl, rfl, _, rfl, ite2 (fun c => q) (fun c => ?_)⟩
  have c1 : ¬ V.int (((b + m : Nat) : Int) - (b : Int)) = V.int (R : Int) := of_decide_eq_false (Bool.eq_false_iff.mpr c)
  refine ⟨_, rfl, _, rfl, rfl, ?_⟩
  have e4 : b + m = n := by
    rcases k with k | k
    · exact absurd (congrArg V.int (by omega)) c1
    · exact k
  show Q (V.bl (decide (V.int ((b + m : Nat) : Int) = V.int (n : Int)))) H
  rw [decide_eq_true (by rw [e4])]
  exact q
def spCheckNode : Sp := fun vs H Q _ => ∃ (n b m : Nat) (v : V), vs = [.int n, v] ∧ Nd H v (b, b + m) ∧ 1 ≤ m ∧ b + m ≤ n ∧ n ≤ 10 ^ 30 ∧ tree n b m ∧ Q .non H
theorem ok_check_node {f g : Addr} {fd gd : FuncData} (F : Fun K "check_node" "check_node" sCheckNode f fd) (GIsTreeNode : FnOk P w K mg base CX0 3 g gd ["size", "value"] spTree) (AIsTreeNode : At K mg "is_tree_node" g gd ["size", "value"]) : FnOk P w K mg base CX0 4 f fd ["size", "node"] spCheckNode := by
  refine F.ok scCheckNode (fun vs H Q E h => ?_) (fun cdv A outer s H vs Q E hr h => ?_)
  · obtain ⟨_, _, _, _, rfl, _⟩ := h
    rfl
  obtain ⟨n, b, m, v, rfl, hv, hm, hn, h30, ht, q⟩ := h
  refine ⟨_, (pss_one (ps_if (pt_not (pt_val (pe_call GIsTreeNode (hr.mono (by decide)) rfl AIsTreeNode.m AIsTreeNode.kp AIsTreeNode.b .nil pass0 (pa_cons (pv 0) (pa_cons (pv 1) pa_nil)))))
    (pss_one ps_never)
    pss_nil)), ?_⟩
  refine ⟨_, rfl, _, rfl, n, b, m, v, rfl, hv, hm, hn, h30, ht, true, rfl, q⟩
end
end LT

namespace LT
open PySem PySem.Spec PyProof.Rows L2
section
variable {P : Program} {w : World} {K : PySem.W.Frag} {mg : Str → Option Value} {base : Heap}
def spPower : Sp := fun vs H Q _ => ∃ (k : Nat), vs = [.int k] ∧ 1 ≤ k ∧ k ≤ 10 ^ 30 ∧ Q (.int ((2 ^ k.log2 : Nat) : Int)) H
theorem ok_power_within {f : Addr} {fd : FuncData} (F : Fun K "power_within" "power_within" sPowerWithin f fd) : FnOk P w K mg base CX0 1 f fd ["number"] spPower := by
  refine F.ok scPowerWithin (fun vs H Q E h => ?_) (fun cdv A outer s H vs Q E hr h => ?_)
  · obtain ⟨_, rfl, _⟩ := h
    rfl
  obtain ⟨k, rfl, h1, h30, q⟩ := h
  refine ⟨_, (pss_one (ps_ret (pe_op op_shl pe_int (pe_op op_sub (pe_bits (pv 0)) pe_int)))), ?_⟩
  refine ⟨_, rfl, _, rfl, _, _, rfl, rfl, ?_⟩
  dsimp only
  have e : ((Builtin.Int.intBits (k : Int) : Nat) : Int) - 1 = ((k.log2 : Nat) : Int) := by
    rw [bits_nat, if_neg (by omega)]
    omega
  rw [e]
  have l100 : k.log2 < 100 := (Nat.log2_lt (by omega)).mpr (Nat.lt_of_le_of_lt h30 (by decide))
  refine ⟨_, _, rfl, rfl, ⟨Int.natCast_nonneg _, by omega, by decide⟩, ?_⟩
  have e2 : (1 : Int) * 2 ^ ((k.log2 : Nat) : Int).toNat = ((2 ^ k.log2 : Nat) : Int) := by rw [Int.one_mul, Int.toNat_natCast]; exact (Int.natCast_pow 2 _).symm
  show Q (.int ((1 : Int) * 2 ^ ((k.log2 : Nat) : Int).toNat)) H
  rw [e2]
  exact q
end
end LT

namespace LT
open PySem PySem.Spec PyProof.Rows L2
section
variable {P : Program} {w : World} {K : PySem.W.Frag} {mg : Str → Option Value} {base : Heap}
def spHalves : Sp := fun vs H Q _ => ∃ (n b m : Nat) (v : V), vs = [.int n, v] ∧ Nd H v (b, b + m) ∧ 2 ≤ m ∧ b + m ≤ n ∧ n ≤ 10 ^ 30 ∧ tree n b m ∧
  ∀ (H' : Hp) (q : Addr) (l h : V), Same H H' → H q = none → H' q = some (.tup [l, h]) → Nd H' l (b, b + gp m) → Nd H' h (b + gp m, b + m) → Q (.ref q) H'
theorem ok_halves {f g1 g2 g3 : Addr} {fd d1 d2 d3 : FuncData} (F : Fun K "halves" "halves" sHalves f fd) (GCheckSize : FnOk P w K mg base CX0 3 g1 d1 ["size"] spCheckSize) (ACheckSize : At K mg "check_size" g1 d1 ["size"])
    (GCheckNode : FnOk P w K mg base CX0 4 g2 d2 ["size", "node"] spCheckNode) (ACheckNode : At K mg "check_node" g2 d2 ["size", "node"]) (GPowerWithin : FnOk P w K mg base CX0 1 g3 d3 ["number"] spPower) (APowerWithin : At K mg "power_within" g3 d3 ["number"]) :
    FnOk P w K mg base CX0 5 f fd ["size", "node"] spHalves := by
  refine F.ok scHalves (fun vs H Q E h => ?_) (fun cdv A outer s H vs Q E hr h => ?_)
  · obtain ⟨_, _, _, _, rfl, _⟩ := h
    rfl
  obtain ⟨n, b, m, v, rfl, hv, hm, hn, h30, ht, q⟩ := h
  refine ⟨_, (pss_cons (ps_expr (pe_call GCheckSize (hr.mono (by decide)) rfl ACheckSize.m ACheckSize.kp ACheckSize.b .nil pass0 (pa_cons (pv 0) pa_nil)))
    (pss_cons (ps_expr (pe_call GCheckNode (hr.mono (by decide)) rfl ACheckNode.m ACheckNode.kp ACheckNode.b .nil pass0 (pa_cons (pv 0) (pa_cons (pv 1) pa_nil))))
    (pss_cons (ps_asg (pv 1) (pg_tup (by rfl) (pgs_cons (pg_name (i := 2) scHalves.nd rfl (Or.inl rfl)) (pgs_cons (pg_name (i := 3) scHalves.nd rfl (Or.inl rfl)) pgs_nil))))
    (pss_cons (ps_if (pt_cmpR op_eq (pe_op op_sub (pv 3) (pv 2)) pe_int (nomark _))
    (pss_one (ps_ret pe_non))
    pss_nil)
    (pss_cons (ps_set (i := 4) scHalves.nd rfl (Or.inl rfl) (pe_op op_add (pv 2) (pe_call GPowerWithin (hr.mono (by decide)) rfl APowerWithin.m APowerWithin.kp APowerWithin.b .nil pass0 (pa_cons (pe_op op_sub (pe_op op_sub (pv 3) (pv 2)) pe_int) pa_nil))))
    (pss_one (ps_ret (pe_tup (pa_cons (pe_tup (pa_cons (pv 2) (pa_cons (pv 4) pa_nil))) (pa_cons (pe_tup (pa_cons (pv 4) (pa_cons (pv 3) pa_nil))) pa_nil)))))))))), ?_⟩
  refine ⟨_, rfl, n, rfl, by omega, by omega, ?_⟩
  refine ⟨_, rfl, _, rfl, n, b, m, v, rfl, hv, by omega, hn, h30, ht, ?_⟩
  obtain ⟨p, rfl, hp⟩ := id hv
  refine ⟨_, rfl, p, _, rfl, SqT.of hp, rfl, _, _, rfl, _, _, rfl, rfl, ?_⟩
  refine ⟨_, rfl, _, rfl, _, _, rfl, rfl, rfl, _, rfl, ite2 (fun c => ?_) (fun _ => ?_)⟩
  · have c1 : V.int (((b + m : Nat) : Int) - (b : Int)) = V.int 1 := of_decide_eq_true c
    have := V.int.inj c1
    omega
  have e1 : ((b + m : Nat) : Int) - (b : Int) - 1 = ((m - 1 : Nat) : Int) := by omega
  refine ⟨_, rfl, _, rfl, _, rfl, _, _, rfl, rfl, _, _, rfl, rfl, m - 1, congrArg (fun z => [V.int z]) e1, by omega, by omega, _, _, rfl, rfl, ?_⟩
  have e2 : (b : Int) + ((2 ^ (m - 1).log2 : Nat) : Int) = ((b + gp m : Nat) : Int) := by unfold gp; omega
  have two : 2 ≤ sizeLine := by decide
  refine ⟨_, rfl, _, rfl, two, fun t1 n1 => ⟨_, rfl, _, rfl, two, fun t2 n2 => ⟨two, fun t3 n3 => ?_⟩⟩⟩
  dsimp only
  have s1 := same_upd (o := .tup [.int (b : Int), .int ((b : Int) + ((2 ^ (m - 1).log2 : Nat) : Int))]) n1
  have s2 := same_upd (o := .tup [.int ((b : Int) + ((2 ^ (m - 1).log2 : Nat) : Int)), .int ((b + m : Nat) : Int)]) n2
  have s3 := same_upd (o := .tup [.ref t1, .ref t2]) n3
  refine q _ t3 (.ref t1) (.ref t2) (s1.trans (s2.trans s3)) ((s1.trans s2).free n3) upd_same ⟨t1, rfl, s3 _ _ (s2 _ _ ?_)⟩ ⟨t2, rfl, s3 _ _ ?_⟩
  · rw [upd_same]
    dsimp only
    rw [e2]
  · rw [upd_same]
    dsimp only
    rw [e2]
def spPath : Sp := fun vs H Q _ => ∃ (n e : Nat), vs = [.int n, .int e] ∧ e < n ∧ n ≤ 10 ^ 30 ∧
  ∀ (H' : Hp) (p : Addr) (xs : List V), Same H H' → H p = none → H' p = some (.lst xs) → All2 (Nd H') xs (sib 0 n e).reverse → Q (.ref p) H'
theorem ok_path {f g1 g2 g3 : Addr} {fd d1 d2 d3 : FuncData} (F : Fun K "path" "path" sPath f fd) (GCheckSize : FnOk P w K mg base CX0 3 g1 d1 ["size"] spCheckSize) (ACheckSize : At K mg "check_size" g1 d1 ["size"])
    (GCheckEntry : FnOk P w K mg base CX0 3 g2 d2 ["size", "entry"] spCheckEntry) (ACheckEntry : At K mg "check_entry" g2 d2 ["size", "entry"]) (GHalves : FnOk P w K mg base CX0 5 g3 d3 ["size", "node"] spHalves) (AHalves : At K mg "halves" g3 d3 ["size", "node"]) :
    FnOk P w K mg base CX0 6 f fd ["size", "entry"] spPath := by
  refine F.ok scPath (fun vs H Q E h => ?_) (fun cdv A outer s H vs Q E hr h => ?_)
  · obtain ⟨_, _, rfl, _⟩ := h
    rfl
  obtain ⟨n, e, rfl, he, h30, q⟩ := h
  refine ⟨_, (pss_cons (ps_expr (pe_call GCheckSize (hr.mono (by decide)) rfl ACheckSize.m ACheckSize.kp ACheckSize.b .nil pass0 (pa_cons (pv 0) pa_nil)))
    (pss_cons (ps_expr (pe_call GCheckEntry (hr.mono (by decide)) rfl ACheckEntry.m ACheckEntry.kp ACheckEntry.b .nil pass0 (pa_cons (pv 0) (pa_cons (pv 1) pa_nil))))
    (pss_cons (ps_set (i := 2) scPath.nd rfl (Or.inl rfl) (pe_lst pa_nil))
    (pss_cons (ps_set (i := 3) scPath.nd rfl (Or.inl rfl) (pe_tup (pa_cons pe_int (pa_cons (pv 0) pa_nil))))
    (pss_cons (ps_while PassesOwn.never (pt_cmpR (op_neD hr.units) (pv 3) (pe_tup (pa_cons (pv 1) (pa_cons (pe_op op_add (pv 1) pe_int) pa_nil))) (nomark _))
    (pss_cons (ps_asg (pe_call GHalves (hr.mono (by decide)) rfl AHalves.m AHalves.kp AHalves.b .nil pass0 (pa_cons (pv 0) (pa_cons (pv 3) pa_nil))) (pg_tup (by rfl) (pgs_cons (pg_name (i := 4) scPath.nd rfl (Or.inl rfl)) (pgs_cons (pg_name (i := 5) scPath.nd rfl (Or.inl rfl)) pgs_nil))))
    (pss_one (ps_if (pt_cmpR op_lt (pv 1) (pe_ix ix_tup (pv 4) pe_int (fun _ _ => rfl)) (nomark _))
    (pss_cons (ps_set (i := 3) scPath.nd rfl (Or.inl rfl) (pv 4))
    (pss_one (ps_expr (pe_bm PySem.F.plainAttrs_list PySem.F.slot_list_append PySem.F.type_list_append mt_append (pv 2) (pa_cons (pv 5) pa_nil)))))
    (pss_cons (ps_set (i := 3) scPath.nd rfl (Or.inl rfl) (pv 5))
    (pss_one (ps_expr (pe_bm PySem.F.plainAttrs_list PySem.F.slot_list_append PySem.F.type_list_append mt_append (pv 2) (pa_cons (pv 4) pa_nil)))))))))
    (pss_one (ps_ret (pe_revL (pv 2))))))))), ?_⟩
  refine ⟨_, rfl, n, rfl, by omega, by omega, ?_⟩
  refine ⟨_, rfl, _, rfl, n, e, rfl, by omega, by omega, ?_⟩
  have two : 2 ≤ sizeLine := by decide
  refine ⟨Nat.zero_le _, fun sb nsb => ?_⟩
  have z1 := same_upd (o := .lst []) nsb
  refine ⟨_, rfl, two, fun t0 n0 => ?_⟩
  have z2 := same_upd (o := .tup [.int 0, .int (n : Int)]) n0
  refine ⟨fun mu σ H' => ∃ (b : Nat) (nv : V) (v4 v5 : Option V) (xs : List V) (done : List (Nat × Nat)), σ = [some (.int n), some (.int e), some (.ref sb), some nv, v4, v5] ∧ Same H H' ∧ H' sb = some (.lst xs) ∧ All2 (Nd H') xs done ∧
      Nd H' nv (b, b + mu) ∧ 1 ≤ mu ∧ b ≤ e ∧ e < b + mu ∧ b + mu ≤ n ∧ tree n b mu ∧ done ++ sib b mu e = sib 0 n e,
    ⟨n, 0, .ref t0, none, none, [], [], rfl, z1.trans z2, z2 _ _ upd_same, .nil, ⟨t0, rfl, by rw [upd_same]; simp⟩, by omega, by omega, by omega, by omega, tree_root n, rfl⟩, ?_⟩
  rintro m σ H1 ⟨b, nv, v4, v5, xs, done, rfl, sm, hs, hx, hv, hm, hb, hb2, hn, ht, hd⟩
  refine ⟨_, rfl, _, rfl, _, rfl, _, _, rfl, rfl, two, fun t nt => ?_⟩
  have s1 := same_upd (o := .tup [.int (e : Int), .int ((e : Int) + 1)]) nt
  refine ⟨_, _, (hv.same s1).dp, .tup (SqT.of upd_same) (.cons (.int _) (.cons (.int _) .nil)), nd_shaped _ _, nd_shaped _ _, ?_⟩
  rw [nd_eqv]
  have hlen : done.length ≤ 100 := by
    have k1 := sib_len_le n 0 e (Nat.zero_le _) (by omega)
    have k2 := lb100 h30
    have k3 := congrArg List.length hd
    rw [List.length_append] at k3
    omega
  have hs1 : (upd H1 t (.tup [.int (e : Int), .int ((e : Int) + 1)])) sb = some (.lst xs) := s1 _ _ hs
  have hx1 := hx.mono (fun v x (k : Nd H1 v x) => k.same s1)
  have hv1 := hv.same s1
  have sm1 := sm.trans s1
  generalize upd H1 t (.tup [.int (e : Int), .int ((e : Int) + 1)]) = H2 at hs1 hx1 hv1 sm1
  by_cases h1 : m = 1
  · refine ⟨false, ?_, iteF ?_⟩
    · subst h1
      have : b = e := by omega
      subst this
      simp
    · subst h1
      rw [sib_one (by omega), List.append_nil] at hd
      refine ⟨_, rfl, sb, xs, rfl, SqL.of hs1, fun p np => ?_⟩
      have s3 := same_upd (o := .lst xs.reverse) np
      refine q _ p xs.reverse (sm1.trans s3) (sm1.free np) upd_same ?_
      rw [← hd]
      exact (hx1.mono (fun v x (k : Nd H2 v x) => k.same s3)).rev
  · refine ⟨true, ?_, iteT ⟨fun σ' H' => ∃ mu, mu < m ∧ ∃ (b : Nat) (nv : V) (v4 v5 : Option V) (xs : List V) (done : List (Nat × Nat)), σ' = [some (.int n), some (.int e), some (.ref sb), some nv, v4, v5] ∧ Same H H' ∧ H' sb = some (.lst xs) ∧ All2 (Nd H') xs done ∧
      Nd H' nv (b, b + mu) ∧ 1 ≤ mu ∧ b ≤ e ∧ e < b + mu ∧ b + mu ≤ n ∧ tree n b mu ∧ done ++ sib b mu e = sib 0 n e, fun σ' H' h => h, ?_⟩⟩
    · refine congrArg V.bl ?_
      rw [Bool.not_eq_true', Bool.and_eq_false_iff]
      by_cases c : b = e
      · right
        exact decide_eq_false (by show ¬ ((b + m : Nat) : Int) = (e : Int) + 1; omega)
      · left
        exact decide_eq_false (by show ¬ (b : Int) = (e : Int); omega)
    have hm2 : 2 ≤ m := by omega
    have gl := gp_lt hm2
    have gg := gp_pos m
    refine ⟨_, rfl, _, rfl, n, b, m, nv, rfl, hv1, hm2, hn, h30, ht, fun H3 qa l h s3 nqa hqa hl hh => ?_⟩
    refine ⟨qa, _, rfl, SqT.of hqa, rfl, _, _, rfl, _, _, rfl, rfl, ?_⟩
    obtain ⟨lp, rfl, hlp⟩ := id hl
    refine ⟨_, rfl, _, rfl, lp, _, _, _, rfl, rfl, SqT.of hlp, (atI_nat (j := 1) rfl), _, _, rfl, rfl, _, rfl, ite2 (fun c => ?_) (fun c => ?_)⟩
    · have c1 : (e : Int) < ((b + gp m : Nat) : Int) := of_decide_eq_true c
      have hs3 := s3 _ _ hs1
      refine ⟨_, rfl, ?_⟩
      refine ⟨_, rfl, .inl ⟨rfl, _, SqL.of hs3⟩, _, rfl, sb, _, _, rfl, rfl, hs3, szlt (by rw [hx.len]; omega), ?_⟩
      refine ⟨gp m, gl, b, _, _, _, xs ++ [h], done ++ [(b + gp m, b + m)], rfl, ?_, upd_same, ?_, hl.upd hs3, by omega, hb, by omega, by omega, tree_low hm2 ht, ?_⟩
      · exact fun a o k => by rw [upd_ne (ne_of_none k nsb)]; exact s3 _ _ (sm1 _ _ k)
      · exact (hx1.mono (fun v x (k : Nd H2 v x) => (k.same s3).upd hs3)).app (.cons (hh.upd hs3) .nil)
      · rw [sib_low hm2 (by omega)] at hd
        rw [← hd, List.append_assoc]
        rfl
    · have c1 : ¬ (e : Int) < ((b + gp m : Nat) : Int) := of_decide_eq_false (Bool.eq_false_iff.mpr c)
      have hs3 := s3 _ _ hs1
      refine ⟨_, rfl, ?_⟩
      refine ⟨_, rfl, .inl ⟨rfl, _, SqL.of hs3⟩, _, rfl, sb, _, _, rfl, rfl, hs3, szlt (by rw [hx.len]; omega), ?_⟩
      have e5 : b + gp m + (m - gp m) = b + m := by omega
      refine ⟨m - gp m, by omega, b + gp m, _, _, _, xs ++ [.ref lp], done ++ [(b, b + gp m)], rfl, ?_, upd_same, ?_, by rw [e5]; exact hh.upd hs3, by omega, by omega, by omega, by omega, tree_high hm2 ht, ?_⟩
      · exact fun a o k => by rw [upd_ne (ne_of_none k nsb)]; exact s3 _ _ (sm1 _ _ k)
      · exact (hx1.mono (fun v x (k : Nd H2 v x) => (k.same s3).upd hs3)).app (.cons (hl.upd hs3) .nil)
      · rw [sib_high hm2 (by omega)] at hd
        rw [← hd, List.append_assoc]
        rfl
def spDepth : Sp := fun vs H Q _ => ∃ (n e : Nat), vs = [.int n, .int e] ∧ e < n ∧ n ≤ 10 ^ 30 ∧ ∀ (H' : Hp), Same H H' → Q (.int (((sib 0 n e).length : Nat) : Int)) H'
theorem ok_depth {f g1 : Addr} {fd d1 : FuncData} (F : Fun K "depth" "depth" sDepth f fd) (GPath : FnOk P w K mg base CX0 6 g1 d1 ["size", "entry"] spPath) (APath : At K mg "path" g1 d1 ["size", "entry"]) (z_len : mg "len" = none) :
    FnOk P w K mg base CX0 7 f fd ["size", "entry"] spDepth := by
  refine F.ok scDepth (fun vs H Q E h => ?_) (fun cdv A outer s H vs Q E hr h => ?_)
  · obtain ⟨_, _, rfl, _⟩ := h
    rfl
  obtain ⟨n, e, rfl, he, h30, q⟩ := h
  refine ⟨_, (pss_one (ps_ret (pe_callB call_len_seq (by rfl) z_len PySem.boot_len (pa_cons (pe_call GPath (hr.mono (by decide)) rfl APath.m APath.kp APath.b .nil pass0 (pa_cons (pv 0) (pa_cons (pv 1) pa_nil))) pa_nil)))), ?_⟩
  refine ⟨_, rfl, _, rfl, n, e, rfl, he, h30, fun H' p xs sm np hp hx => ⟨p, xs, rfl, .inl (SqL.of hp), ?_⟩⟩
  have k := hx.len
  rw [List.length_reverse] at k
  rw [k]
  exact q H' sm
end
end LT

namespace LT
open PySem PySem.Spec PyProof.Rows L2
section
variable {P : Program} {w : World} {K : PySem.W.Frag} {mg : Str → Option Value} {base : Heap}
def spBag : Sp := fun vs H Q _ => ∃ c : Int, vs = [.int c] ∧ ∀ (H' : Hp) (p : Addr), Same H H' → H p = none → BagAt H' p → Q (.ref p) H'
theorem ok_law_bag {f : Addr} {fd : FuncData} (F : Fun K "_law_bag" "_law_bag" sLawBag f fd) (z_max : mg "max" = none) : FnOk P w K mg base CX0 1 f fd ["cell"] spBag := by
  refine F.ok scLawBag (fun vs H Q E h => ?_) (fun cdv A outer s H vs Q E hr h => ?_)
  · obtain ⟨_, rfl, _⟩ := h
    rfl
  obtain ⟨c, rfl, q⟩ := h
  refine ⟨_, (pss_one (ps_ret (pe_lst (pa_cons (pe_callB (call_max2 rfl) (by rfl) z_max (by decide +kernel) (pa_cons pe_int (pa_cons (pe_op op_sub (pv 0) (pe_op op_pow pe_int pe_int)) pa_nil))) (pa_cons (pv 0) (pa_cons pe_int pa_nil)))))), ?_⟩
  refine ⟨_, rfl, _, _, rfl, rfl, ⟨by decide, by decide, by decide⟩, _, _, rfl, rfl, _, _, rfl, _, rfl, (by show 3 ≤ sizeLine; decide), fun p np => ?_⟩
  exact q _ p (same_upd np) np ⟨_, _, _, upd_same⟩
theorem fm0 (x : Int) {m : Int} (h : 0 < m) : 0 ≤ x.fmod m := by
  rw [Int.fmod_eq_emod_of_nonneg _ (by omega)]
  exact Int.emod_nonneg _ (by omega)
theorem fm1 (x : Int) {m : Int} (h : 0 < m) : x.fmod m < m := by
  rw [Int.fmod_eq_emod_of_nonneg _ (by omega)]
  exact Int.emod_lt_of_pos _ h
def spPick : Sp := fun vs H Q _ => ∃ (b : Addr) (many : Int), vs = [.ref b, .int many] ∧ 0 < many ∧ many.natAbs < 2 ^ 250 ∧ BagAt H b ∧
  ∀ (r : Int) (H' : Hp), 0 ≤ r → r < many → (∀ a, a ≠ b → H' a = H a) → BagAt H' b → Q (.int r) H'
theorem ok_law_pick {f : Addr} {fd : FuncData} (F : Fun K "_law_pick" "_law_pick" sLawPick f fd) (z_int : mg "int" = none) : FnOk P w K mg base CX0 1 f fd ["bag", "many"] spPick := by
  refine F.ok scLawPick (fun vs H Q E h => ?_) (fun cdv A outer s H vs Q E hr h => ?_)
  · obtain ⟨_, _, rfl, _⟩ := h
    rfl
  obtain ⟨b, many, rfl, hm, hm2, ⟨x, y, z, h0⟩, q⟩ := h
  refine ⟨_, (pss_cons (ps_asg (pe_op op_add (pe_ix ix_list (pv 0) pe_int (fun _ _ => rfl)) pe_int) (pg_sub (pv 0) pe_int set_list))
    (pss_cons (ps_if (pt_cmpR op_gt (pe_ix ix_list (pv 0) pe_int (fun _ _ => rfl)) pe_int (nomark _))
    (pss_cons (ps_set (i := 2) scLawPick.nd rfl (Or.inl rfl) (pe_op op_modN (pe_callTy call_int1 (by rfl) z_int (by decide +kernel) (pa_cons (pe_ix ix_list (pv 0) pe_int (fun _ _ => rfl)) pa_nil)) (pv 1)))
    (pss_cons (ps_asg (pe_op op_fdivW (pe_callTy call_int1 (by rfl) z_int (by decide +kernel) (pa_cons (pe_ix ix_list (pv 0) pe_int (fun _ _ => rfl)) pa_nil)) (pv 1)) (pg_sub (pv 0) pe_int set_list))
    (pss_one (ps_ret (pv 2)))))
    pss_nil)
    (pss_cons (ps_par (i := 3) (j := 4) (by rfl) scLawPick.nd rfl rfl (by decide) rfl rfl (pa_cons (pe_callTy call_int1 (by rfl) z_int (by decide +kernel) (pa_cons (pe_ix ix_list (pv 0) pe_int (fun _ _ => rfl)) pa_nil)) (pa_cons (pe_callTy call_int1 (by rfl) z_int (by decide +kernel) (pa_cons (pe_ix ix_list (pv 0) pe_int (fun _ _ => rfl)) pa_nil)) pa_nil)) (by rfl))
    (pss_cons (ps_set (i := 5) scLawPick.nd rfl (Or.inl rfl) (pe_op op_modN (pe_callTy call_int1 (by rfl) z_int (by decide +kernel) (pa_cons (pe_op op_add (pe_op op_add (pe_op op_mul (pe_op op_modN (pv 3) pe_int) pe_int) (pe_op op_mul (pv 4) pe_int)) pe_int) pa_nil)) pe_int))
    (pss_cons (ps_set (i := 6) scLawPick.nd rfl (Or.inl rfl) (pe_op op_modN (pe_callTy call_int1 (by rfl) z_int (by decide +kernel) (pa_cons (pe_op op_add (pe_op op_mul (pv 5) (pv 5)) (pe_op op_mul (pv 4) pe_int)) pa_nil)) pe_int))
    (pss_cons (ps_set (i := 7) scLawPick.nd rfl (Or.inl rfl) (pe_op op_fdivW (pe_callTy call_int1 (by rfl) z_int (by decide +kernel) (pa_cons (pe_op op_add (pe_op op_mul (pv 5) pe_int) (pv 6)) pa_nil)) pe_int))
    (pss_cons (ps_if (pt_cmpR op_gt (pv 1) (pe_op op_pow pe_int pe_int) (nomark _))
    (pss_one (ps_set (i := 7) scLawPick.nd rfl (Or.inl rfl) (pe_op op_add (pe_op op_pow (pv 7) pe_int) (pv 6))))
    pss_nil)
    (pss_one (ps_ret (pe_op op_modN (pe_callTy call_int1 (by rfl) z_int (by decide +kernel) (pa_cons (pv 7) pa_nil)) (pv 1))))))))))), ?_⟩
  refine ⟨_, rfl, b, _, _, _, rfl, rfl, SqL.of h0, atI_nat (j := 2) rfl, _, _, rfl, rfl, _, rfl, b, _, _, 2, rfl, rfl, h0, rfl, ?_⟩
  dsimp only
  have h1 : (upd H b (.lst ([.int x, .int y, .int z].set 2 (.int (z + 1))))) b = some (.lst [.int x, .int y, .int (z + 1)]) := upd_same
  have k1 : ∀ a, a ≠ b → (upd H b (.lst ([.int x, .int y, .int z].set 2 (.int (z + 1))))) a = H a := fun a ha => upd_ne ha
  generalize upd H b (.lst ([.int x, .int y, .int z].set 2 (.int (z + 1)))) = H1 at h1 k1
  refine ⟨_, rfl, b, _, _, _, rfl, rfl, SqL.of h1, atI_nat (j := 0) rfl, _, _, rfl, rfl, _, rfl, ite2 (fun c => ?_) (fun c => ?_)⟩
  · refine ⟨_, rfl, b, _, _, _, rfl, rfl, SqL.of h1, atI_nat (j := 0) rfl, .inl ⟨_, rfl, _, rfl, _, _, rfl, rfl, by omega, ?_⟩⟩
    refine ⟨_, rfl, b, _, _, _, rfl, rfl, SqL.of h1, atI_nat (j := 0) rfl, .inl ⟨_, rfl, _, rfl, _, _, rfl, rfl, wide_div hm hm2 (by decide) (by decide), _, rfl, b, _, _, 0, rfl, rfl, h1, rfl, ?_⟩⟩
    refine ⟨_, rfl, ?_⟩
    exact q _ _ (fm0 x hm) (fm1 x hm) (fun a ha => by rw [upd_ne ha]; exact k1 a ha) ⟨_, _, _, upd_same⟩
  · refine ⟨_, rfl, b, _, _, _, rfl, rfl, SqL.of h1, atI_nat (j := 1) rfl, .inl ⟨_, rfl, _, rfl, b, _, _, _, rfl, rfl, SqL.of h1, atI_nat (j := 2) rfl, .inl ⟨_, rfl, _, _, rfl, ?_⟩⟩⟩
    refine ⟨_, rfl, _, _, rfl, rfl, (by show (2147483629 : Int) ≠ 0; decide), _, _, rfl, rfl, .inr ⟨by decide, by decide⟩, _, rfl, _, _, rfl, rfl, .inr ⟨by decide, by decide⟩, _, _, rfl, rfl, _, _, rfl, rfl, .inl ⟨_, rfl, _, _, rfl, rfl, (by show (2147483647 : Int) ≠ 0; decide), ?_⟩⟩
    dsimp only
    have a0 := fm0 (y.fmod 2147483629 * 48271 + (z + 1) * 69621 + 12345) (m := 2147483647) (by decide)
    have a1 := fm1 (y.fmod 2147483629 * 48271 + (z + 1) * 69621 + 12345) (m := 2147483647) (by decide)
    generalize (y.fmod 2147483629 * 48271 + (z + 1) * 69621 + 12345).fmod 2147483647 = fi at a0 a1
    refine ⟨_, rfl, _, rfl, _, _, rfl, rfl, .inl ⟨by omega, by omega⟩, _, rfl, _, _, rfl, rfl, .inr ⟨by decide, by decide⟩, _, _, rfl, rfl, .inl ⟨_, rfl, _, _, rfl, rfl, (by show (2147483587 : Int) ≠ 0; decide), ?_⟩⟩
    dsimp only
    have b0 := fm0 (fi * fi + (z + 1) * 40692) (m := 2147483587) (by decide)
    have b1 := fm1 (fi * fi + (z + 1) * 40692) (m := 2147483587) (by decide)
    generalize (fi * fi + (z + 1) * 40692).fmod 2147483587 = se at b0 b1
    refine ⟨_, rfl, _, _, rfl, rfl, .inl ⟨by omega, by omega⟩, _, rfl, _, _, rfl, rfl, .inl ⟨_, rfl, _, _, rfl, rfl, wide_div (b := 6) (by decide) (by decide) (by decide) (by decide), ?_⟩⟩
    dsimp only
    have c0 : 0 ≤ (fi * 2147483587 + se) / 32 := by omega
    have c1 : (fi * 2147483587 + se) / 32 < 2 ^ 62 := by omega
    generalize (fi * 2147483587 + se) / 32 = dr at c0 c1
    refine ⟨_, rfl, _, _, rfl, rfl, ⟨by decide, by decide, by decide⟩, _, _, rfl, rfl, _, rfl, ite2 (fun c => ?_) (fun c => ?_)⟩
    · refine ⟨_, rfl, _, _, rfl, rfl, ⟨by decide, by decide, by omega⟩, _, rfl, _, _, rfl, rfl, ?_⟩
      refine ⟨_, rfl, .inl ⟨_, rfl, _, rfl, _, _, rfl, rfl, by omega, ?_⟩⟩
      exact q _ _ (fm0 _ hm) (fm1 _ hm) k1 ⟨_, _, _, h1⟩
    · refine ⟨_, rfl, .inl ⟨_, rfl, _, rfl, _, _, rfl, rfl, by omega, ?_⟩⟩
      exact q _ _ (fm0 _ hm) (fm1 _ hm) k1 ⟨_, _, _, h1⟩
end
end LT

namespace LT
open PySem PySem.Spec PyProof.Rows L2
section
variable {P : Program} {w : World} {K : PySem.W.Frag} {mg : Str → Option Value} {base : Heap}
/-! ### walking an enumerate -/
theorem for_enum {a : Addr} {xs : List V} {g : TG} {tb : TS} {D : Ends} {σ : L2.St} {H : Hp} (Pv : Nat → L2.St → Hp → Prop) (h0 : Pv 0 σ H) (hl : ∀ i σ H, i ≤ xs.length → Pv i σ H → SqL K H a xs)
    (hs : ∀ i x σ H T, xs[i]? = some x → Pv i σ H → H T = none → g (.ref T) σ (upd H T (.tup [.int (i : Nat), x])) fun σ2 H2 => tb { D with nx := Pv (i + 1), ct := Pv (i + 1), bk := D.nx } σ2 H2) (hd : ∀ σ H, Pv xs.length σ H → D.nx σ H) :
    ∃ W : Nat → Nat → L2.St → Hp → Prop, (∃ m, W 0 m σ H) ∧ ∀ i m σ H, W i m σ H →
      ((Ite K a).stop i H ∧ D.nx σ H) ∨ ((Ite K a).go i H ∧ ∃ N : L2.St → Hp → Prop, (∀ σ' H', N σ' H' → ∃ m', m' < m ∧ W (i + 1) m' σ' H') ∧ ∀ x H', (Ite K a).yld i H x H' → g x σ H' fun σ2 H2 => tb { D with nx := N, ct := N, bk := D.nx } σ2 H2) := by
  refine ⟨fun i m σ H => m = xs.length - i ∧ i ≤ xs.length ∧ Pv i σ H, ⟨xs.length, by simp, Nat.zero_le _, h0⟩, ?_⟩
  rintro i m σ H ⟨rfl, hi, p⟩
  have q := hl i σ H hi p
  by_cases hlt : i < xs.length
  · refine .inr ⟨⟨xs, xs[i], q, by simp [hlt]⟩, Pv (i + 1), fun σ' H' p' => ⟨xs.length - (i + 1), by omega, rfl, hlt, p'⟩, fun x H' y => ?_⟩
    obtain ⟨T, x1, rfl, nT, rfl, f⟩ := y
    exact hs i x1 σ H T (f xs q) p nT
  · have e : i = xs.length := by omega
    subst e
    exact .inl ⟨⟨xs, q, Nat.le_refl _⟩, hd σ H p⟩
end
end LT

namespace LT
open PySem PySem.Spec PyProof.Rows L2
/-- three ints -/
def Tr (H : Hp) (v : V) (x : Nat × Nat × Nat) : Prop := ∃ p, v = .ref p ∧ H p = some (.tup [.int x.1, .int x.2.1, .int x.2.2])
theorem Tr.same {H H' : Hp} {v : V} {x : Nat × Nat × Nat} (h : Tr H v x) (s : Same H H') : Tr H' v x := by
  obtain ⟨p, e, q⟩ := h
  exact ⟨p, e, s _ _ q⟩
theorem Tr.upd {H : Hp} {v : V} {x : Nat × Nat × Nat} {s : Addr} {xs : List V} {o : HO} (h : Tr H v x) (hs : H s = some (.lst xs)) : Tr (upd H s o) v x := by
  obtain ⟨p, e, q⟩ := h
  exact ⟨p, e, by rw [upd_ne (ne_of q hs (by intro z; cases z))]; exact q⟩
theorem lev_len (t : Nat) : ∀ (l : List (Nat × Nat)) (s : Nat), (lev t s l).length = l.length
  | [], _ => rfl
  | x :: r, s => by
    show (lev t (s + 1) r).length + 1 = r.length + 1
    rw [lev_len t r (s + 1)]
theorem lev_app (t : Nat) : ∀ (l r : List (Nat × Nat)) (s : Nat), lev t s (l ++ r) = lev t s l ++ lev t (s + l.length) r
  | [], r, s => rfl
  | x :: l, r, s => by
    show _ :: lev t (s + 1) (l ++ r) = _ :: (lev t (s + 1) l ++ lev t (s + (l.length + 1)) r)
    rw [lev_app t l r (s + 1), show s + 1 + l.length = s + (l.length + 1) by omega]
end LT

namespace LT
open PySem PySem.Spec PyProof.Rows L2
section
variable {P : Program} {w : World} {K : PySem.W.Frag} {mg : Str → Option Value} {base : Heap}
def spCheckNumber : Sp := fun vs H Q _ => ∃ n : Int, vs = [.int n] ∧ Q .non H
theorem ok_check_number {f g : Addr} {fd gd : FuncData} (F : Fun K "check_number" "check_number" sCheckNumber f fd) (GIsWhole : FnOk P w K mg base CX0 1 g gd ["value"] spWhole) (AIsWhole : At K mg "is_whole" g gd ["value"]) : FnOk P w K mg base CX0 2 f fd ["number"] spCheckNumber := by
  refine F.ok scCheckNumber (fun vs H Q E h => ?_) (fun cdv A outer s H vs Q E hr h => ?_)
  · obtain ⟨_, rfl, _⟩ := h
    rfl
  obtain ⟨n, rfl, q⟩ := h
  refine ⟨_, (pss_one (ps_if (pt_not (pt_val (pe_call GIsWhole (hr.mono (by decide)) rfl AIsWhole.m AIsWhole.kp AIsWhole.b .nil pass0 (pa_cons (pv 0) pa_nil))))
    (pss_one ps_never)
    pss_nil)), ?_⟩
  exact ⟨_, rfl, n, rfl, true, rfl, q⟩
end
end LT

namespace LT
open PySem PySem.Spec PyProof.Rows L2
theorem log2_is {r h : Nat} (h1 : 2 ^ h ≤ r) (h2 : r < 2 ^ (h + 1)) : r.log2 = h := (Nat.log2_eq_iff (by have := Nat.pow_pos (a := 2) (n := h) (by decide); omega)).mpr ⟨h1, h2⟩
theorem pk_step : ∀ (i n b : Nat), n % 2 ^ i ≠ 0 → ∃ h, h < i ∧ pk i n b = (b, h) :: pk h n (b + 2 ^ h) ∧ n % 2 ^ i = 2 ^ h + n % 2 ^ h
  | 0, n, b, hr => by simp [Nat.mod_one] at hr
  | i + 1, n, b, hr => by
    rw [mod_succ] at hr
    by_cases t : n.testBit i = true
    · refine ⟨i, Nat.lt_succ_self i, ?_, by rw [mod_succ, if_pos t]⟩
      show (if n.testBit i = true then _ else _) = _
      rw [if_pos t]
    · rw [if_neg t, Nat.zero_add] at hr
      obtain ⟨h, h1, h2, h3⟩ := pk_step i n b hr
      refine ⟨h, by omega, ?_, by rw [mod_succ, if_neg t, Nat.zero_add]; exact h3⟩
      show (if n.testBit i = true then _ else _) = _
      rw [if_neg t]
      exact h2
section
variable {P : Program} {w : World} {K : PySem.W.Frag} {mg : Str → Option Value} {base : Heap}
def spTops : Sp := fun vs H Q _ => ∃ (n : Nat), vs = [.int n] ∧ 1 ≤ n ∧ n ≤ 10 ^ 30 ∧ ∀ (H' : Hp) (p : Addr) (xs : List V), Same H H' → H p = none → H' p = some (.lst xs) → All2 (Nd H') xs ((pk 101 n 0).map full) → Q (.ref p) H'
theorem ok_peaks {f g1 g2 : Addr} {fd d1 d2 : FuncData} (F : Fun K "peaks" "peaks" sPeaks f fd) (GCheckSize : FnOk P w K mg base CX0 3 g1 d1 ["size"] spCheckSize) (ACheckSize : At K mg "check_size" g1 d1 ["size"])
    (GPowerWithin : FnOk P w K mg base CX0 1 g2 d2 ["number"] spPower) (APowerWithin : At K mg "power_within" g2 d2 ["number"]) : FnOk P w K mg base CX0 4 f fd ["size"] spTops := by
  refine F.ok scPeaks (fun vs H Q E h => ?_) (fun cdv A outer s H vs Q E hr h => ?_)
  · obtain ⟨_, rfl, _⟩ := h
    rfl
  obtain ⟨n, rfl, h1, h30, q⟩ := h
  refine ⟨_, (pss_cons (ps_expr (pe_call GCheckSize (hr.mono (by decide)) rfl ACheckSize.m ACheckSize.kp ACheckSize.b .nil pass0 (pa_cons (pv 0) pa_nil)))
    (pss_cons (ps_set (i := 1) scPeaks.nd rfl (Or.inl rfl) (pe_lst pa_nil))
    (pss_cons (ps_set (i := 2) scPeaks.nd rfl (Or.inl rfl) pe_int)
    (pss_cons (ps_while PassesOwn.never (pt_cmpR op_lt (pv 2) (pv 0) (nomark _))
    (pss_cons (ps_set (i := 3) scPeaks.nd rfl (Or.inl rfl) (pe_op op_add (pv 2) (pe_call GPowerWithin (hr.mono (by decide)) rfl APowerWithin.m APowerWithin.kp APowerWithin.b .nil pass0 (pa_cons (pe_op op_sub (pv 0) (pv 2)) pa_nil))))
    (pss_cons (ps_expr (pe_bm PySem.F.plainAttrs_list PySem.F.slot_list_append PySem.F.type_list_append mt_append (pv 1) (pa_cons (pe_tup (pa_cons (pv 2) (pa_cons (pv 3) pa_nil))) pa_nil)))
    (pss_one (ps_set (i := 2) scPeaks.nd rfl (Or.inl rfl) (pv 3))))))
    (pss_one (ps_ret (pv 1))))))), ?_⟩
  refine ⟨_, rfl, n, rfl, by omega, by omega, ?_⟩
  refine ⟨Nat.zero_le _, fun fa nf => ?_⟩
  have nm : n % 2 ^ 101 = n := Nat.mod_eq_of_lt (Nat.lt_of_le_of_lt h30 (by decide))
  refine ⟨fun mu σ H' => ∃ (i b : Nat) (v3 : Option V) (xs : List V) (done : List (Nat × Nat)), σ = [some (.int n), some (.ref fa), some (.int b), v3] ∧ Same H H' ∧ H' fa = some (.lst xs) ∧ All2 (Nd H') xs (done.map full) ∧ done ++ pk i n b = pk 101 n 0 ∧ b + n % 2 ^ i = n ∧ mu = n - b,
    ⟨n, 101, 0, none, [], [], rfl, same_upd nf, upd_same, .nil, rfl, by omega, by omega⟩, ?_⟩
  rintro m σ H1 ⟨i, b, v3, xs, done, rfl, sm, hf, hx, hd, hb, rfl⟩
  refine ⟨_, rfl, _, rfl, _, _, rfl, rfl, _, rfl, ite2 (fun c => ?_) (fun c => ?_)⟩
  · have c1 : (b : Int) < (n : Int) := of_decide_eq_true c
    obtain ⟨h, hi, hp, hm⟩ := pk_step i n b (by omega)
    have ph := Nat.pow_pos (a := 2) (n := h) (by decide)
    have lh : (n - b).log2 = h := log2_is (by omega) (by have := Nat.mod_lt n ph; rw [Nat.pow_succ]; omega)
    have dl : done.length ≤ 101 := by
      have k1 := congrArg List.length hd
      rw [List.length_append] at k1
      have k2 := pk_len 101 n 0
      omega
    refine ⟨fun σ' H' => ∃ mu, mu < n - b ∧ ∃ (i b : Nat) (v3 : Option V) (xs : List V) (done : List (Nat × Nat)), σ' = [some (.int n), some (.ref fa), some (.int b), v3] ∧ Same H H' ∧ H' fa = some (.lst xs) ∧ All2 (Nd H') xs (done.map full) ∧ done ++ pk i n b = pk 101 n 0 ∧ b + n % 2 ^ i = n ∧ mu = n - b, fun σ' H' h => h, ?_⟩
    have e1 : (n : Int) - (b : Int) = ((n - b : Nat) : Int) := by omega
    refine ⟨_, rfl, _, rfl, _, rfl, _, _, rfl, rfl, n - b, congrArg (fun z => [V.int z]) e1, by omega, by omega, _, _, rfl, rfl, ?_⟩
    have e2 : (b : Int) + ((2 ^ (n - b).log2 : Nat) : Int) = ((b + 2 ^ h : Nat) : Int) := by rw [lh]; omega
    dsimp only
    rw [e2]
    refine ⟨_, rfl, .inl ⟨rfl, _, SqL.of hf⟩, _, rfl, _, rfl, (by show 2 ≤ sizeLine; decide), fun t nt => ?_⟩
    have s1 := same_upd (o := .tup [.int (b : Int), .int ((b + 2 ^ h : Nat) : Int)]) nt
    have hf1 := s1 _ _ hf
    refine ⟨fa, _, _, rfl, rfl, hf1, szlt (by rw [hx.len, List.length_map]; omega), ?_⟩
    refine ⟨_, rfl, ?_⟩
    refine ⟨n - (b + 2 ^ h), by omega, h, b + 2 ^ h, _, xs ++ [.ref t], done ++ [(b, h)], rfl, ?_, upd_same, ?_, ?_, by omega, rfl⟩
    · exact fun a o k => by rw [upd_ne (ne_of_none k nf)]; exact s1 _ _ (sm _ _ k)
    · rw [List.map_append]
      refine (hx.mono (fun v x (k : Nd H1 v x) => (k.same s1).upd hf1)).app (.cons ?_ .nil)
      exact Nd.upd (x := full (b, h)) ⟨t, rfl, upd_same⟩ hf1
    · rw [← hd, hp, List.append_assoc]
      rfl
  · have c1 : ¬ (b : Int) < (n : Int) := of_decide_eq_false (Bool.eq_false_iff.mpr c)
    rw [pk_nil i n b (by omega), List.append_nil] at hd
    rw [hd] at hx
    exact ⟨_, rfl, q H1 fa xs sm nf hf hx⟩
end
end LT

namespace LT
/-- the nodes from (b, b + m) down, as the law lists them -/
def nodesF : Nat → Nat → Nat → List (Nat × Nat)
  | 0, _, _ => []
  | i + 1, b, m => if m ≤ 1 then [(b, b + m)] else (b, b + m) :: (nodesF i b (gp m) ++ nodesF i (b + gp m) (m - gp m))
theorem nodesF_one {i b m : Nat} (h : m ≤ 1) : nodesF (i + 1) b m = [(b, b + m)] := if_pos h
theorem nodesF_two {i b m : Nat} (h : ¬ m ≤ 1) : nodesF (i + 1) b m = (b, b + m) :: (nodesF i b (gp m) ++ nodesF i (b + gp m) (m - gp m)) := if_neg h
theorem gp_half {i m : Nat} (h : 2 ≤ m) (k : 2 * m ≤ 2 ^ (i + 1)) : 2 * gp m ≤ 2 ^ i ∧ 2 * (m - gp m) ≤ 2 ^ i := by
  have g1 := gp_lt h
  have g2 := gp_ge h
  have p := Nat.pow_succ (n := 2) (m := i)
  have : gp m < 2 ^ i := by omega
  unfold gp at this ⊢
  have e := (Nat.pow_lt_pow_iff_right (by decide : 1 < 2)).mp this
  have e2 : 2 ^ ((m - 1).log2 + 1) ≤ 2 ^ i := Nat.pow_le_pow_right (by decide) (by omega)
  rw [Nat.pow_succ] at e2
  unfold gp at g1 g2
  omega
theorem nodesF_len : ∀ (i b m : Nat), 1 ≤ m → 2 * m ≤ 2 ^ i → (nodesF i b m).length = 2 * m - 1
  | 0, b, m, h1, h2 => by simp at h2; omega
  | i + 1, b, m, h1, h2 => by
    by_cases c : m ≤ 1
    · rw [nodesF_one c]
      simp
      omega
    · rw [nodesF_two c, List.length_cons, List.length_append]
      have g1 := gp_lt (m := m) (by omega)
      have g3 := gp_pos m
      obtain ⟨k1, k2⟩ := gp_half (by omega) h2
      rw [nodesF_len i b (gp m) g3 k1, nodesF_len i (b + gp m) (m - gp m) (by omega) k2]
      omega
/-- a node of tree(n) -/
def isN (n : Nat) (x : Nat × Nat) : Prop := x.1 < x.2 ∧ x.2 ≤ n ∧ tree n x.1 (x.2 - x.1)
theorem mul_le_of_lt {R a b : Nat} (h1 : R ∣ a) (h2 : R ∣ b) (h : a < b) : a + R ≤ b := by
  obtain ⟨x, rfl⟩ := h1
  obtain ⟨y, rfl⟩ := h2
  have : x < y := Nat.lt_of_mul_lt_mul_left h
  calc R * x + R = R * (x + 1) := by rw [Nat.mul_succ]
    _ ≤ R * y := Nat.mul_le_mul_left R this
/-- a node within another one is it, or lies within one of its halves -/
theorem node_in {n b m : Nat} (h : 2 ≤ m) (t : tree n b m) (hn : b + m ≤ n) {x : Nat × Nat} (hx : isN n x) (h1 : b ≤ x.1) (h2 : x.2 ≤ b + m) : x = (b, b + m) ∨ x.2 ≤ b + gp m ∨ b + gp m ≤ x.1 := by
  obtain ⟨x1, x2⟩ := x
  obtain ⟨k1, k2, d, k3⟩ := hx
  simp only at k1 k2 d k3 h1 h2
  by_cases c1 : x2 ≤ b + gp m
  · exact .inr (.inl c1)
  by_cases c2 : b + gp m ≤ x1
  · exact .inr (.inr c2)
  left
  obtain ⟨td, tk⟩ := t
  have e := lb_gp h
  rw [e] at td tk
  have g1 := gp_lt h
  have g2 := gp_ge h
  have gR : gp m = 2 ^ Nat.log2 (m - 1) := rfl
  generalize hr : lb (x2 - x1) = r at d k3
  have ge := lb_ge (x2 - x1)
  rw [hr] at ge
  by_cases c : r ≤ Nat.log2 (m - 1)
  · -- small: a multiple of 2 ^ r below b + gp m ends there at most
    have dg : 2 ^ r ∣ gp m := by rw [gR]; exact Nat.pow_dvd_pow 2 c
    have db : 2 ^ r ∣ b := Nat.dvd_trans dg (Nat.dvd_trans (Nat.dvd_mul_left _ _) td)
    have := mul_le_of_lt d (Nat.dvd_add db dg) (by omega : x1 < b + gp m)
    omega
  · have dd : 2 * gp m ∣ 2 ^ r := by
      rw [gR, Nat.mul_comm, ← Nat.pow_succ]
      exact Nat.pow_dvd_pow 2 (by omega)
    have dx := Nat.dvd_trans dd d
    have ex : x1 = b := by
      by_cases z : b < x1
      · have := mul_le_of_lt td dx z
        omega
      · omega
    subst ex
    have le : 2 * gp m ≤ 2 ^ r := Nat.le_of_dvd (Nat.pow_pos (by decide)) dd
    have rl : r ≤ Nat.log2 (m - 1) + 1 := by
      rw [← hr]
      refine lb_le ?_
      rw [Nat.pow_succ, ← gR]
      omega
    have e2 : 2 ^ r ≤ 2 * gp m := by
      rw [gR, Nat.mul_comm, ← Nat.pow_succ]
      exact Nat.pow_le_pow_right (by decide) rl
    have : x2 = x1 + m := by
      rcases k3 with k3 | k3 <;> omega
    rw [this]
theorem mem_nodesF (n : Nat) (x : Nat × Nat) : ∀ (i b m : Nat), 1 ≤ m → 2 * m ≤ 2 ^ i → tree n b m → b + m ≤ n → (x ∈ nodesF i b m ↔ isN n x ∧ b ≤ x.1 ∧ x.2 ≤ b + m)
  | 0, b, m, h1, h2, _, _ => by simp at h2; omega
  | i + 1, b, m, h1, h2, t, hn => by
    by_cases c : m ≤ 1
    · have em : m = 1 := by omega
      subst em
      rw [nodesF_one (by omega), List.mem_singleton]
      constructor
      · rintro rfl
        exact ⟨⟨by simp, by simpa using hn, by simpa using t⟩, by simp, by simp⟩
      · rintro ⟨⟨k1, _⟩, k2, k3⟩
        have : x.1 = b ∧ x.2 = b + 1 := by omega
        exact Prod.ext this.1 this.2
    · rw [nodesF_two c, List.mem_cons, List.mem_append]
      have g1 := gp_lt (m := m) (by omega)
      have g3 := gp_pos m
      obtain ⟨k1, k2⟩ := gp_half (by omega) h2
      have e : b + gp m + (m - gp m) = b + m := by omega
      have il := mem_nodesF n x i b (gp m) g3 k1 (tree_low (by omega) t) (by omega)
      have ih := mem_nodesF n x i (b + gp m) (m - gp m) (by omega) k2 (tree_high (by omega) t) (by omega)
      rw [il, ih, e]
      constructor
      · rintro (rfl | ⟨p, q, r⟩ | ⟨p, q, r⟩)
        · exact ⟨⟨by simp; omega, by simpa using hn, by simpa using t⟩, by simp, by simp⟩
        · exact ⟨p, q, by omega⟩
        · exact ⟨p, by omega, r⟩
      · rintro ⟨p, q, r⟩
        rcases node_in (by omega) t hn p q r with z | z | z
        · exact .inl z
        · exact .inr (.inl ⟨p, q, z⟩)
        · exact .inr (.inr ⟨p, z, r⟩)
instance (n : Nat) (x : Nat × Nat) : Decidable (tree n x.1 (x.2 - x.1)) := by unfold tree; infer_instance
instance (n : Nat) (x : Nat × Nat) : Decidable (isN n x) := by unfold isN; infer_instance
end LT

namespace LT
open PySem PySem.Spec PyProof.Rows L2
theorem cut_last (xs : List V) : cutV xs none (some (-1)) = xs.dropLast := by
  unfold cutV
  have e : HT.sIx xs.length xs.length (some (-1)) = xs.length - 1 := by
    show (if (-1 : Int) < 0 then ((-1 : Int) + (xs.length : Int)).toNat else min (-1 : Int).toNat xs.length) = _
    rw [if_pos (by decide)]
    omega
  rw [e, HT.sIx_none, List.drop_zero, Nat.sub_zero, List.dropLast_eq_take]
theorem All2.droplast {α : Type} {R : V → α → Prop} : ∀ {vs : List V} {xs : List α}, All2 R vs xs → All2 R vs.dropLast xs.dropLast
  | _, _, .nil => .nil
  | _, _, .cons _ .nil => .nil
  | _, _, .cons h (.cons k t) => .cons h (All2.droplast (.cons k t))
/-- how many peaks -/
def npk (n : Nat) : Nat := (pk 101 n 0).length
theorem npk_pos {n : Nat} (h : 1 ≤ n) (h30 : n ≤ 10 ^ 30) : 1 ≤ npk n := by
  have k := pk_ne 101 n 0 (by rw [Nat.mod_eq_of_lt (Nat.lt_of_le_of_lt h30 (by decide))]; omega)
  unfold npk
  cases hh : pk 101 n 0 with
  | nil => exact absurd hh k
  | cons _ _ => rw [List.length_cons]; omega
/-- how many of each height -/
def hcount (n : Nat) (k : Int) : Int := if k < 0 ∨ k > ((Builtin.Int.intBits (n : Int) : Nat) : Int) then 0 else if k = 0 then (n : Int) else (((n : Int) - 1) / 2 ^ (k - 1).toNat + 1) / 2
def ccount (n o : Nat) : Int := if n = o then 2 * (min n o : Nat) - 1 else 2 * (min n o : Nat) - 1 - ((npk (min n o) - 1 : Nat) : Int)
section
variable {P : Program} {w : World} {K : PySem.W.Frag} {mg : Str → Option Value} {base : Heap}
def spEdges : Sp := fun vs H Q _ => ∃ (n : Nat), vs = [.int n] ∧ 1 ≤ n ∧ n ≤ 10 ^ 30 ∧ ∀ (H' : Hp) (p : Addr) (xs : List V), Same H H' → H p = none → H' p = some (.lst xs) → All2 (Nd H') xs (((pk 101 n 0).map full).dropLast.map fun x => (x.1, n)) → Q (.ref p) H'
theorem ok_edges {f g1 : Addr} {fd d1 : FuncData} (F : Fun K "edges" "edges" sEdges f fd) (GPeaks : FnOk P w K mg base CX0 4 g1 d1 ["size"] spTops) (APeaks : At K mg "peaks" g1 d1 ["size"]) : FnOk P w K mg base CX0 5 f fd ["size"] spEdges := by
  refine F.ok scEdges (fun vs H Q E h => ?_) (fun cdv A outer s H vs Q E hr h => ?_)
  · obtain ⟨_, rfl, _⟩ := h
    rfl
  obtain ⟨n, rfl, h1, h30, q⟩ := h
  refine ⟨_, (pss_one (ps_ret (pe_lc (own := [("begin", 1), ("_", 2)]) rfl scEdges.nd (pi_list (pe_slice sl_list (pe_call GPeaks (hr.mono (by decide)) rfl APeaks.m APeaks.kp APeaks.b .nil pass0 (pa_cons (pv 0) pa_nil)) po_none (po_some (pe_un un_neg pe_int)))) (blkOk_by (N := ["size", "begin", "_"]) (sc := defScope sEdges) (by decide +kernel)) (fun _ _ _ _ _ => (pg_tupB (n := 2) rfl (pgs_cons (pg_name (i := 1) scEdges.nd rfl (Or.inl rfl)) (pgs_cons (pg_name (i := 2) scEdges.nd rfl (Or.inl rfl)) pgs_nil)))) (fun _ _ _ _ _ => pts_nil) (fun _ _ _ _ _ => (pe_tup (pa_cons (pv 1) (pa_cons (pv 0) pa_nil))))))), ?_⟩
  refine ⟨_, rfl, n, rfl, h1, h30, fun H1 p xs sm np hp hx => ?_⟩
  have L101 : ((pk 101 n 0).map full).length ≤ 101 := by rw [List.length_map]; exact pk_len 101 n 0
  generalize (pk 101 n 0).map full = L at q hx L101
  refine ⟨1, rfl, -1, rfl, p, _, rfl, SqL.of hp, fun c nc => ?_⟩
  have sc := same_upd (o := .lst (cutV xs none (some (-1)))) nc
  have hc : (upd H1 c (.lst (cutV xs none (some (-1))))) c = some (.lst xs.dropLast) := by rw [upd_same, cut_last]
  have hx1 := (hx.mono (fun v x (k : Nd H1 v x) => k.same sc)).droplast
  generalize upd H1 c (.lst (cutV xs none (some (-1)))) = H2 at hc hx1 sc
  refine ⟨c, rfl, ⟨_, SqL.of hc⟩, fun D nD => lc_list (xs := xs.dropLast) (fun i H' => ∃ ys : List V, Same H2 H' ∧ H' D = some (.lst ys) ∧ All2 (Nd H') ys ((L.dropLast.take i).map fun x => (x.1, n))) ⟨[], same_upd nD, upd_same, .nil⟩ (fun i H' _ ⟨_, k, _⟩ => SqL.of (k _ _ hc)) ?_ ?_⟩
  · rintro i x H3 hi ⟨ys, s3, hD, hy3⟩
    obtain ⟨y, hy, xp, rfl, hxp⟩ := hx1.nth hi
    have il : i < L.dropLast.length := (List.getElem?_eq_some_iff.mp hy).1
    rw [List.length_dropLast] at il
    refine ⟨xp, _, rfl, SqT.of (s3 _ _ hxp), rfl, _, _, rfl, _, _, rfl, rfl, rfl, ?_⟩
    refine ⟨_, rfl, _, rfl, (by show 2 ≤ sizeLine; decide), fun t nt => ?_⟩
    have st := same_upd (o := .tup [.int (y.1 : Int), .int (n : Int)]) nt
    refine ⟨ys, st _ _ hD, szlt (by rw [hy3.len, List.length_map, List.length_take, List.length_dropLast]; omega), ys ++ [.ref t], ?_, upd_same, ?_⟩
    · exact fun a o k => by rw [upd_ne (ne_of_none k nD)]; exact st _ _ (s3 _ _ k)
    · rw [take_more hy, List.map_append]
      exact (hy3.mono (fun v x (k : Nd H3 v x) => (k.same st).upd (st _ _ hD))).app (.cons (Nd.upd (x := (y.1, n)) ⟨t, rfl, upd_same⟩ (st _ _ hD)) .nil)
  rintro H3 ⟨ys, s3, hD, hy3⟩
  have et : L.dropLast.take xs.dropLast.length = L.dropLast := List.take_of_length_le (by rw [hx1.len]; exact Nat.le_refl _)
  rw [et] at hy3
  refine q H3 D ys (sm.trans (sc.trans s3)) ?_ hD hy3
  exact (sm.trans sc).free nD
def spNodeCount : Sp := fun vs H Q _ => ∃ (n : Nat), vs = [.int n] ∧ 1 ≤ n ∧ n ≤ 10 ^ 30 ∧ ∀ (H' : Hp) (p : Addr), Same H H' → H' p = some (.tup [.int (2 * (n : Int) - 1 - ((npk n - 1 : Nat) : Int)), .int ((npk n - 1 : Nat) : Int)]) → Q (.ref p) H'
theorem ok_node_count {f g1 : Addr} {fd d1 : FuncData} (F : Fun K "node_count" "node_count" sNodeCount f fd) (GEdges : FnOk P w K mg base CX0 5 g1 d1 ["size"] spEdges) (AEdges : At K mg "edges" g1 d1 ["size"]) (z_len : mg "len" = none) : FnOk P w K mg base CX0 6 f fd ["size"] spNodeCount := by
  refine F.ok scNodeCount (fun vs H Q E h => ?_) (fun cdv A outer s H vs Q E hr h => ?_)
  · obtain ⟨_, rfl, _⟩ := h
    rfl
  obtain ⟨n, rfl, h1, h30, q⟩ := h
  refine ⟨_, (pss_cons (ps_set (i := 1) scNodeCount.nd rfl (Or.inl rfl) (pe_callB call_len_seq (by rfl) z_len PySem.boot_len (pa_cons (pe_call GEdges (hr.mono (by decide)) rfl AEdges.m AEdges.kp AEdges.b .nil pass0 (pa_cons (pv 0) pa_nil)) pa_nil)))
    (pss_one (ps_ret (pe_tup (pa_cons (pe_op op_sub (pe_op op_sub (pe_op op_mul pe_int (pv 0)) pe_int) (pv 1)) (pa_cons (pv 1) pa_nil)))))), ?_⟩
  refine ⟨_, rfl, n, rfl, h1, h30, fun H1 p xs sm np hp hx => ?_⟩
  have xl : xs.length = npk n - 1 := by
    rw [hx.len, List.length_map, List.length_dropLast, List.length_map]
    rfl
  refine ⟨p, xs, rfl, .inl (SqL.of hp), ?_⟩
  dsimp only
  rw [xl]
  refine ⟨_, rfl, _, _, rfl, rfl, .inl ⟨by decide, by decide⟩, _, _, rfl, rfl, _, rfl, _, _, rfl, rfl, _, rfl, (by show 2 ≤ sizeLine; decide), fun t nt => ?_⟩
  exact q _ t (sm.trans (same_upd nt)) upd_same
def spCommon : Sp := fun vs H Q _ => ∃ (n o : Nat), vs = [.int n, .int o] ∧ 1 ≤ n ∧ n ≤ 10 ^ 30 ∧ 1 ≤ o ∧ o ≤ 10 ^ 30 ∧ ∀ (H' : Hp), Same H H' → Q (.int (ccount n o)) H'
theorem min_castC (a c : Nat) : (if ((c : Nat) : Int) < (a : Int) then (c : Int) else (a : Int)) = ((min a c : Nat) : Int) := by split <;> omega
theorem ok_common_count {f g1 g2 : Addr} {fd d1 d2 : FuncData} (F : Fun K "common_count" "common_count" sCommonCount f fd) (GCheckSize : FnOk P w K mg base CX0 3 g1 d1 ["size"] spCheckSize) (ACheckSize : At K mg "check_size" g1 d1 ["size"])
    (GNodeCount : FnOk P w K mg base CX0 6 g2 d2 ["size"] spNodeCount) (ANodeCount : At K mg "node_count" g2 d2 ["size"]) (z_min : mg "min" = none) : FnOk P w K mg base CX0 7 f fd ["size", "other"] spCommon := by
  refine F.ok scCommonCount (fun vs H Q E h => ?_) (fun cdv A outer s H vs Q E hr h => ?_)
  · obtain ⟨_, _, rfl, _⟩ := h
    rfl
  obtain ⟨n, o, rfl, h1, h30, o1, o30, q⟩ := h
  refine ⟨_, (pss_cons (ps_expr (pe_call GCheckSize (hr.mono (by decide)) rfl ACheckSize.m ACheckSize.kp ACheckSize.b .nil pass0 (pa_cons (pv 0) pa_nil)))
    (pss_cons (ps_expr (pe_call GCheckSize (hr.mono (by decide)) rfl ACheckSize.m ACheckSize.kp ACheckSize.b .nil pass0 (pa_cons (pv 1) pa_nil)))
    (pss_cons (ps_asg (pe_call GNodeCount (hr.mono (by decide)) rfl ANodeCount.m ANodeCount.kp ANodeCount.b .nil pass0 (pa_cons (pe_callB (call_min2 rfl) (by rfl) z_min (by decide +kernel) (pa_cons (pv 0) (pa_cons (pv 1) pa_nil))) pa_nil)) (pg_tup (by rfl) (pgs_cons (pg_name (i := 2) scCommonCount.nd rfl (Or.inl rfl)) (pgs_cons (pg_name (i := 3) scCommonCount.nd rfl (Or.inl rfl)) pgs_nil))))
    (pss_cons (ps_if (pt_cmpR op_eq (pv 0) (pv 1) (nomark _))
    (pss_one (ps_ret (pe_op op_add (pv 2) (pv 3))))
    pss_nil)
    (pss_one (ps_ret (pv 2))))))), ?_⟩
  refine ⟨_, rfl, n, rfl, by omega, by omega, ?_⟩
  refine ⟨_, rfl, o, rfl, by omega, by omega, ?_⟩
  refine ⟨_, rfl, _, rfl, _, _, rfl, min n o, congrArg (fun z => [V.int z]) (min_castC n o), by omega, by omega, fun H1 p sm hp => ?_⟩
  refine ⟨p, _, rfl, SqT.of hp, rfl, _, _, rfl, _, _, rfl, rfl, ?_⟩
  have np := npk_pos (n := min n o) (by omega) (by omega)
  refine ⟨_, rfl, _, rfl, rfl, _, rfl, ite2 (fun c => ?_) (fun c => ?_)⟩
  · have c1 : V.int (n : Int) = V.int (o : Int) := of_decide_eq_true c
    have c2 := V.int.inj c1
    refine ⟨_, rfl, _, rfl, _, _, rfl, rfl, ?_⟩
    have k := q _ sm
    unfold ccount at k
    rw [if_pos (by omega)] at k
    have e : 2 * ((min n o : Nat) : Int) - 1 - ((npk (min n o) - 1 : Nat) : Int) + ((npk (min n o) - 1 : Nat) : Int) = 2 * ((min n o : Nat) : Int) - 1 := by omega
    show Q (.int (2 * ((min n o : Nat) : Int) - 1 - ((npk (min n o) - 1 : Nat) : Int) + ((npk (min n o) - 1 : Nat) : Int))) H1
    rw [e]
    exact k
  · have c1 : ¬ V.int (n : Int) = V.int (o : Int) := of_decide_eq_false (Bool.eq_false_iff.mpr c)
    have k := q _ sm
    unfold ccount at k
    rw [if_neg (fun z => c1 (by rw [z]))] at k
    exact ⟨_, rfl, k⟩
def spHeights : Sp := fun vs H Q _ => ∃ (n : Nat) (k : Int), vs = [.int n, .int k] ∧ 1 ≤ n ∧ n ≤ 10 ^ 30 ∧ Q (.int (hcount n k)) H
theorem ok_height_count {f g1 g2 : Addr} {fd d1 d2 : FuncData} (F : Fun K "height_count" "height_count" sHeightCount f fd) (GCheckSize : FnOk P w K mg base CX0 3 g1 d1 ["size"] spCheckSize) (ACheckSize : At K mg "check_size" g1 d1 ["size"])
    (GCheckNumber : FnOk P w K mg base CX0 2 g2 d2 ["number"] spCheckNumber) (ACheckNumber : At K mg "check_number" g2 d2 ["number"]) : FnOk P w K mg base CX0 4 f fd ["size", "number"] spHeights := by
  refine F.ok scHeightCount (fun vs H Q E h => ?_) (fun cdv A outer s H vs Q E hr h => ?_)
  · obtain ⟨_, _, rfl, _⟩ := h
    rfl
  obtain ⟨n, k, rfl, h1, h30, q⟩ := h
  unfold hcount at q
  refine ⟨_, (pss_cons (ps_expr (pe_call GCheckSize (hr.mono (by decide)) rfl ACheckSize.m ACheckSize.kp ACheckSize.b .nil pass0 (pa_cons (pv 0) pa_nil)))
    (pss_cons (ps_expr (pe_call GCheckNumber (hr.mono (by decide)) rfl ACheckNumber.m ACheckNumber.kp ACheckNumber.b .nil pass0 (pa_cons (pv 1) pa_nil)))
    (pss_cons (ps_if (PW.pt (pw_or (pt_cmpR op_lt (pv 1) pe_int (nomark _)) (pw_or1 (pt_cmpR op_gt (pv 1) (pe_bits (pv 0)) (nomark _)))))
    (pss_one (ps_ret pe_int))
    pss_nil)
    (pss_cons (ps_if (pt_cmpR op_eq (pv 1) pe_int (nomark _))
    (pss_one (ps_ret (pv 0)))
    pss_nil)
    (pss_cons (ps_set (i := 2) scHeightCount.nd rfl (Or.inl rfl) (pe_op op_add (pe_op op_shr (pe_op op_sub (pv 0) pe_int) (pe_op op_sub (pv 1) pe_int)) pe_int))
    (pss_one (ps_ret (pe_op op_fdivW (pv 2) pe_int)))))))), ?_⟩
  refine ⟨_, rfl, n, rfl, by omega, by omega, ?_⟩
  refine ⟨_, rfl, k, rfl, ?_⟩
  refine ⟨_, rfl, _, _, rfl, rfl, _, rfl, ite2 (fun c => ?_) (fun c => ?_)⟩
  · have c1 : k < 0 := of_decide_eq_true c
    rw [if_pos (Or.inl c1)] at q
    exact q
  have c1 : ¬ k < 0 := of_decide_eq_false (Bool.eq_false_iff.mpr c)
  refine ⟨_, rfl, _, rfl, _, rfl, _, _, rfl, rfl, _, rfl, ite2 (fun c => ?_) (fun c => ?_)⟩
  · have c2 : k > ((Builtin.Int.intBits (n : Int) : Nat) : Int) := of_decide_eq_true c
    rw [if_pos (Or.inr c2)] at q
    exact q
  have c2 : ¬ k > ((Builtin.Int.intBits (n : Int) : Nat) : Int) := of_decide_eq_false (Bool.eq_false_iff.mpr c)
  rw [if_neg (fun z => z.elim c1 c2)] at q
  refine ⟨_, rfl, rfl, _, rfl, ite2 (fun c => ?_) (fun c => ?_)⟩
  · have c3 : V.int k = V.int 0 := of_decide_eq_true c
    rw [if_pos (V.int.inj c3)] at q
    exact ⟨_, rfl, q⟩
  have c3 : ¬ V.int k = V.int 0 := of_decide_eq_false (Bool.eq_false_iff.mpr c)
  rw [if_neg (fun z => c3 (by rw [z]))] at q
  have k0 : k ≠ 0 := fun z => c3 (by rw [z])
  refine ⟨_, rfl, _, _, rfl, rfl, _, rfl, _, _, rfl, rfl, _, _, rfl, rfl, (show 0 ≤ k - 1 by omega), _, _, rfl, rfl, ?_⟩
  exact ⟨_, rfl, _, _, rfl, rfl, wide_div (b := 2) (by decide) (by decide) (by decide) (by decide), q⟩
end
end LT

namespace LT
open PySem PySem.Spec PyProof.Rows L2
/-- the parts of a stretch within the rows -/
def db (b e : Nat) (T : List (Nat × Nat × Nat)) : List (Nat × Nat) := (T.filter fun x => decide (max b x.1 < min e x.2.1)).map fun x => (min e x.2.1 - max b x.1, x.2.2)
def total (b e : Nat) (T : List (Nat × Nat × Nat)) : Nat := ((db b e T).map fun p => p.1 * p.2).sum
theorem db_len (b e : Nat) (T : List (Nat × Nat × Nat)) : (db b e T).length ≤ T.length := by
  unfold db
  rw [List.length_map]
  exact List.length_filter_le _ _
theorem db_more {b e i : Nat} {T : List (Nat × Nat × Nat)} {y : Nat × Nat × Nat} (h : T[i]? = some y) : db b e (T.take (i + 1)) = db b e (T.take i) ++ (if max b y.1 < min e y.2.1 then [(min e y.2.1 - max b y.1, y.2.2)] else []) := by
  rw [take_more h]
  unfold db
  rw [List.filter_append, List.map_append, List.filter_cons, List.filter_nil]
  by_cases c : max b y.1 < min e y.2.1
  · rw [if_pos (decide_eq_true c), if_pos c]; rfl
  · rw [if_neg (by simpa using c), if_neg c]; rfl
theorem sum_cast : ∀ l : List Nat, (l.map fun x => ((x : Nat) : Int)).sum = ((l.sum : Nat) : Int)
  | [] => rfl
  | x :: l => by
    rw [List.map_cons, List.sum_cons, List.sum_cons, sum_cast l]
    omega
theorem lev_deep (t : Nat) : ∀ (l : List (Nat × Nat)) (s : Nat) (x : Nat × Nat × Nat), x ∈ lev t s l → (∀ y ∈ l, y.2 ≤ 100) → t ≤ 101 → x.2.2 ≤ 201
  | [], _, _, h, _, _ => by simp [lev] at h
  | y :: r, s, x, h, hl, ht => by
    have h' : x ∈ (y.1, y.1 + 2 ^ y.2, y.2 + min (s + 1) (t - 1)) :: lev t (s + 1) r := h
    rcases List.mem_cons.mp h' with h | h
    · subst h
      have := hl y List.mem_cons_self
      simp only []
      omega
    · exact lev_deep t r (s + 1) x h (fun z hz => hl z (List.mem_cons_of_mem _ hz)) ht
theorem rows_deep (n : Nat) (x : Nat × Nat × Nat) (h : x ∈ lev (pk 101 n 0).length 0 (pk 101 n 0)) : x.2.2 ≤ 201 :=
  lev_deep _ _ _ x h (fun y hy => by have := (pk_begin 101 n 0 y hy).2; omega) (pk_len 101 n 0)
theorem db_deep {b e n : Nat} (p : Nat × Nat) (h : p ∈ db b e (lev (pk 101 n 0).length 0 (pk 101 n 0))) : p.2 ≤ 201 := by
  unfold db at h
  obtain ⟨x, h1, h2⟩ := List.mem_map.mp h
  have := rows_deep n x (List.mem_filter.mp h1).1
  rw [← h2]
  exact this
theorem rows_len (n : Nat) : (lev (pk 101 n 0).length 0 (pk 101 n 0)).length ≤ 101 := by
  rw [lev_len]
  exact pk_len 101 n 0
theorem min_castA (a c : Nat) : (if ((c : Nat) : Int) < (a : Int) then (c : Int) else (a : Int)) = ((min a c : Nat) : Int) := by split <;> omega
theorem max_castA (a c : Nat) : (if ((c : Nat) : Int) > (a : Int) then (c : Int) else (a : Int)) = ((max a c : Nat) : Int) := by split <;> omega
section
variable {P : Program} {w : World} {K : PySem.W.Frag} {mg : Str → Option Value} {base : Heap}
def spCheckSpan : Sp := fun vs H Q _ => ∃ n b e : Nat, vs = [.int n, .int b, .int e] ∧ b < e ∧ e ≤ n ∧ Q .non H
theorem ok_check_span {f g : Addr} {fd gd : FuncData} (F : Fun K "check_span" "check_span" sCheckSpan f fd) (GIsBetween : FnOk P w K mg base CX0 2 g gd ["value", "low", "high"] spBetween) (AIsBetween : At K mg "is_between" g gd ["value", "low", "high"]) : FnOk P w K mg base CX0 3 f fd ["size", "begin", "end"] spCheckSpan := by
  refine F.ok scCheckSpan (fun vs H Q E h => ?_) (fun cdv A outer s H vs Q E hr h => ?_)
  · obtain ⟨_, _, _, rfl, _⟩ := h
    rfl
  obtain ⟨n, b, e, rfl, h1, h2, q⟩ := h
  refine ⟨_, (pss_cons (ps_if (pt_not (pt_val (pe_call GIsBetween (hr.mono (by decide)) rfl AIsBetween.m AIsBetween.kp AIsBetween.b .nil pass0 (pa_cons (pv 1) (pa_cons pe_int (pa_cons (pe_op op_sub (pv 0) pe_int) pa_nil))))))
    (pss_one ps_never)
    pss_nil)
    (pss_one (ps_if (pt_not (pt_val (pe_call GIsBetween (hr.mono (by decide)) rfl AIsBetween.m AIsBetween.kp AIsBetween.b .nil pass0 (pa_cons (pv 2) (pa_cons (pe_op op_add (pv 1) pe_int) (pa_cons (pv 0) pa_nil))))))
    (pss_one ps_never)
    pss_nil))), ?_⟩
  refine ⟨_, rfl, _, rfl, _, _, rfl, rfl, _, _, _, rfl, true, ?_, ?_⟩
  · exact congrArg V.bl (by rw [Bool.and_eq_true]; exact ⟨decide_eq_true (by omega), decide_eq_true (by show (b : Int) ≤ n - 1; omega)⟩)
  refine ⟨_, rfl, _, rfl, _, _, rfl, rfl, _, rfl, _, _, _, rfl, true, ?_, ?_⟩
  · exact congrArg V.bl (by rw [Bool.and_eq_true]; exact ⟨decide_eq_true (by show (b : Int) + 1 ≤ (e : Int); omega), decide_eq_true (by show (e : Int) ≤ n; omega)⟩)
  exact q
def spRows : Sp := fun vs H Q _ => ∃ (n : Nat), vs = [.int n] ∧ 1 ≤ n ∧ n ≤ 10 ^ 30 ∧ ∀ (H' : Hp) (p : Addr) (xs : List V), Same H H' → H p = none → H' p = some (.lst xs) → All2 (Tr H') xs (lev (pk 101 n 0).length 0 (pk 101 n 0)) → Q (.ref p) H'
theorem ok_peak_depths {f g1 : Addr} {fd d1 : FuncData} (F : Fun K "_peak_depths" "_peak_depths" sPeakDepths f fd) (GPeaks : FnOk P w K mg base CX0 4 g1 d1 ["size"] spTops) (APeaks : At K mg "peaks" g1 d1 ["size"])
    (z_min : mg "min" = none) (z_enumerate : mg "enumerate" = none) (z_len : mg "len" = none) : FnOk P w K mg base CX0 5 f fd ["size"] spRows := by
  refine F.ok scPeakDepths (fun vs H Q E h => ?_) (fun cdv A outer s H vs Q E hr h => ?_)
  · obtain ⟨_, rfl, _⟩ := h
    rfl
  obtain ⟨n, rfl, h1, h30, q⟩ := h
  refine ⟨_, (pss_cons (ps_set (i := 1) scPeakDepths.nd rfl (Or.inl rfl) (pe_call GPeaks (hr.mono (by decide)) rfl APeaks.m APeaks.kp APeaks.b .nil pass0 (pa_cons (pv 0) pa_nil)))
    (pss_cons (ps_set (i := 2) scPeakDepths.nd rfl (Or.inl rfl) (pe_lst pa_nil))
    (pss_cons (ps_for PassesOwn.never rfl (pi_enum (by rfl) z_enumerate (pa_cons (pv 1) pa_nil)) (pg_tup (by rfl) (pgs_cons (pg_name (i := 3) scPeakDepths.nd rfl (Or.inl rfl)) (pgs_cons (pg_tup (by rfl) (pgs_cons (pg_name (i := 4) scPeakDepths.nd rfl (Or.inl rfl)) (pgs_cons (pg_name (i := 5) scPeakDepths.nd rfl (Or.inl rfl)) pgs_nil))) pgs_nil)))
    (pss_cons (ps_set (i := 6) scPeakDepths.nd rfl (Or.inl rfl) (pe_callB (call_min2 rfl) (by rfl) z_min (by decide +kernel) (pa_cons (pe_op op_add (pv 3) pe_int) (pa_cons (pe_op op_sub (pe_callB call_len_seq (by rfl) z_len PySem.boot_len (pa_cons (pv 1) pa_nil)) pe_int) pa_nil))))
    (pss_one (ps_expr (pe_bm PySem.F.plainAttrs_list PySem.F.slot_list_append PySem.F.type_list_append mt_append (pv 2) (pa_cons (pe_tup (pa_cons (pv 4) (pa_cons (pv 5) (pa_cons (pe_op op_sub (pe_op op_add (pv 6) (pe_bits (pe_op op_sub (pv 5) (pv 4)))) pe_int) pa_nil)))) pa_nil))))))
    (pss_one (ps_ret (pv 2)))))), ?_⟩
  refine ⟨_, rfl, n, rfl, h1, h30, fun H1 pa xs sm0 npa hpa hxs => ?_⟩
  refine ⟨Nat.zero_le _, fun fa nf => ?_⟩
  have nf0 : H fa = none := sm0.free nf
  have sf := same_upd (o := .lst []) nf
  refine ⟨_, rfl, pa, xs, rfl, sf.seq (SqL.of hpa), ?_⟩
  have L101 := pk_len 101 n 0
  have pkb : ∀ x ∈ pk 101 n 0, x.2 ≤ 100 := fun x hx => by have := (pk_begin 101 n 0 x hx).2; omega
  generalize pk 101 n 0 = L at q hxs L101 pkb
  refine for_enum (a := pa) (xs := xs) (fun i σ H' => ∃ (v3 v4 v5 v6 : Option V) (ys : List V), σ = [some (.int n), some (.ref pa), some (.ref fa), v3, v4, v5, v6] ∧ Same H1 H' ∧ H' fa = some (.lst ys) ∧ All2 (Tr H') ys (lev L.length 0 (L.take i)))
    ⟨none, none, none, none, [], rfl, sf, upd_same, .nil⟩ (fun i σ H' _ ⟨_, _, _, _, _, _, sm, _⟩ => SqL.of (sm _ _ hpa)) ?_ ?_
  · rintro i x σ H2 T hi ⟨v3, v4, v5, v6, ys, rfl, sm, hf, hy⟩ nT
    obtain ⟨⟨b, h⟩, hbh, hnd⟩ : ∃ y : Nat × Nat, L[i]? = some y ∧ Nd H1 x (full y) := by
      obtain ⟨y, e1, e2⟩ := hxs.nth hi
      rw [List.getElem?_map] at e1
      cases e3 : L[i]? with
      | none => rw [e3] at e1; cases e1
      | some z => rw [e3] at e1; exact ⟨z, rfl, by rw [show full z = y from Option.some.inj e1]; exact e2⟩
    have hh : h ≤ 100 := pkb _ (List.mem_of_getElem? hbh)
    obtain ⟨p, rfl, hp⟩ := hnd
    have sT := same_upd (o := .tup [.int ((i : Nat) : Int), .ref p]) nT
    refine ⟨T, _, rfl, SqT.of upd_same, rfl, _, _, rfl, _, _, rfl, p, _, rfl, SqT.of (sT _ _ (sm _ _ hp)), rfl, _, _, rfl, _, _, rfl, rfl, rfl, ?_⟩
    have hpa3 := sT _ _ (sm _ _ hpa)
    have hf3 := sT _ _ hf
    have hy3 := hy.mono (fun v x (k : Tr H2 v x) => k.same sT)
    have sm3 := sm.trans sT
    generalize upd H2 T (.tup [.int ((i : Nat) : Int), .ref p]) = H3 at hpa3 hf3 hy3 sm3
    have xl : xs.length = L.length := by rw [hxs.len, List.length_map]
    have il : i < L.length := (List.getElem?_eq_some_iff.mp hbh).1
    refine ⟨_, rfl, _, _, rfl, rfl, _, rfl, pa, _, rfl, .inl (SqL.of hpa3), _, _, rfl, rfl, _, _, rfl, ?_⟩
    have e6 : (if ((xs.length : Nat) : Int) - 1 < (i : Int) + 1 then ((xs.length : Nat) : Int) - 1 else (i : Int) + 1) = ((min (i + 1) (L.length - 1) : Nat) : Int) := by
      rw [xl]
      split <;> omega
    dsimp only
    rw [e6]
    refine ⟨_, rfl, .inl ⟨rfl, _, SqL.of hf3⟩, _, rfl, _, rfl, _, rfl, _, rfl, _, rfl, _, _, rfl, rfl, _, rfl, _, _, rfl, rfl, _, _, rfl, rfl, (by show 3 ≤ sizeLine; decide), fun t nt => ?_⟩
    have e7 : ((b + 2 ^ h : Nat) : Int) - (b : Int) = ((2 ^ h : Nat) : Int) := by omega
    have e8 : ((min (i + 1) (L.length - 1) : Nat) : Int) + ((Builtin.Int.intBits (((b + 2 ^ h : Nat) : Int) - (b : Int)) : Nat) : Int) - 1 = ((h + min (i + 1) (L.length - 1) : Nat) : Int) := by
      have ph := Nat.pow_pos (a := 2) (n := h) (by decide)
      rw [e7, bits_nat, if_neg (by omega), log2_is (Nat.le_refl _) (by rw [Nat.pow_succ]; omega)]
      omega
    dsimp only
    have e8' : ((min (i + 1) (L.length - 1) : Nat) : Int) + ((Builtin.Int.intBits (((full (b, h)).2 : Int) - ((full (b, h)).1 : Int)) : Nat) : Int) - 1 = ((h + min (i + 1) (L.length - 1) : Nat) : Int) := e8
    rw [e8']
    have st := same_upd (o := .tup [.int ((full (b, h)).1 : Int), .int ((full (b, h)).2 : Int), .int ((h + min (i + 1) (L.length - 1) : Nat) : Int)]) nt
    have hf5 := st _ _ hf3
    have hlen : (lev L.length 0 (L.take i)).length ≤ 101 := by rw [lev_len, List.length_take]; omega
    refine ⟨fa, _, _, rfl, rfl, hf5, szlt (by rw [hy.len]; omega), ?_⟩
    refine ⟨_, _, _, _, ys ++ [.ref t], rfl, ?_, upd_same, ?_⟩
    · exact fun a o k => by rw [upd_ne (ne_of_none k nf)]; exact st _ _ (sm3 _ _ k)
    · rw [take_more hbh, lev_app]
      refine (hy3.mono (fun v x (k : Tr H3 v x) => (k.same st).upd hf5)).app (.cons ?_ .nil)
      have e9 : 0 + (L.take i).length = i := by rw [List.length_take]; omega
      rw [e9]
      exact Tr.upd (x := (b, b + 2 ^ h, h + min (i + 1) (L.length - 1))) ⟨t, rfl, upd_same⟩ hf5
  · rintro σ H2 ⟨v3, v4, v5, v6, ys, rfl, sm, hf, hy⟩
    have e : L.take xs.length = L := List.take_of_length_le (by rw [hxs.len, List.length_map]; exact Nat.le_refl _)
    rw [e] at hy
    exact ⟨_, rfl, q H2 fa ys (sm0.trans sm) nf0 hf hy⟩
def spBetweenRows : Sp := fun vs H Q _ => ∃ (n b e : Nat), vs = [.int n, .int b, .int e] ∧ 1 ≤ n ∧ n ≤ 10 ^ 30 ∧ ∀ (H' : Hp) (p : Addr) (xs : List V), Same H H' → H p = none → H' p = some (.lst xs) → All2 (Nd H') xs (db b e (lev (pk 101 n 0).length 0 (pk 101 n 0))) → Q (.ref p) H'
theorem ok_depths_between {f g1 : Addr} {fd d1 : FuncData} (F : Fun K "_depths_between" "_depths_between" sDepthsBetween f fd) (GPeakDepths : FnOk P w K mg base CX0 5 g1 d1 ["size"] spRows) (APeakDepths : At K mg "_peak_depths" g1 d1 ["size"])
    (z_min : mg "min" = none) (z_max : mg "max" = none) : FnOk P w K mg base CX0 6 f fd ["size", "begin", "end"] spBetweenRows := by
  refine F.ok scDepthsBetween (fun vs H Q E h => ?_) (fun cdv A outer s H vs Q E hr h => ?_)
  · obtain ⟨_, _, _, rfl, _⟩ := h
    rfl
  obtain ⟨n, b, e, rfl, h1, h30, q⟩ := h
  refine ⟨_, (pss_cons (ps_set (i := 3) scDepthsBetween.nd rfl (Or.inl rfl) (pe_lst pa_nil))
    (pss_cons (ps_for PassesOwn.never rfl (pi_list (pe_call GPeakDepths (hr.mono (by decide)) rfl APeakDepths.m APeakDepths.kp APeakDepths.b .nil pass0 (pa_cons (pv 0) pa_nil))) (pg_tup (by rfl) (pgs_cons (pg_name (i := 4) scDepthsBetween.nd rfl (Or.inl rfl)) (pgs_cons (pg_name (i := 5) scDepthsBetween.nd rfl (Or.inl rfl)) (pgs_cons (pg_name (i := 6) scDepthsBetween.nd rfl (Or.inl rfl)) pgs_nil))))
    (pss_cons (ps_set (i := 7) scDepthsBetween.nd rfl (Or.inl rfl) (pe_op op_sub (pe_callB (call_min2 rfl) (by rfl) z_min (by decide +kernel) (pa_cons (pv 2) (pa_cons (pv 5) pa_nil))) (pe_callB (call_max2 rfl) (by rfl) z_max (by decide +kernel) (pa_cons (pv 1) (pa_cons (pv 4) pa_nil)))))
    (pss_one (ps_if (pt_cmpR op_gt (pv 7) pe_int (nomark _))
    (pss_one (ps_expr (pe_bm PySem.F.plainAttrs_list PySem.F.slot_list_append PySem.F.type_list_append mt_append (pv 3) (pa_cons (pe_tup (pa_cons (pv 7) (pa_cons (pv 6) pa_nil))) pa_nil))))
    pss_nil))))
    (pss_one (ps_ret (pv 3))))), ?_⟩
  refine ⟨Nat.zero_le _, fun fa nf => ?_⟩
  have sf := same_upd (o := .lst []) nf
  refine ⟨_, rfl, n, rfl, h1, h30, fun H1 pa xs sm0 npa hpa hxs => ?_⟩
  have T101 := rows_len n
  generalize lev (pk 101 n 0).length 0 (pk 101 n 0) = T at q hxs T101
  refine ⟨pa, rfl, ⟨_, SqL.of hpa⟩, for_list (K := K) (a := pa) (xs := xs) (fun i σ H' => ∃ (v4 v5 v6 v7 : Option V) (ys : List V), σ = [some (.int n), some (.int b), some (.int e), some (.ref fa), v4, v5, v6, v7] ∧ (∀ a o, a ≠ fa → H1 a = some o → H' a = some o) ∧ H' fa = some (.lst ys) ∧ All2 (Nd H') ys (db b e (T.take i)))
    ⟨none, none, none, none, [], rfl, fun a o _ k => k, sm0 _ _ upd_same, .nil⟩ (fun i σ H' _ ⟨_, _, _, _, _, _, sm, _⟩ => SqL.of (sm _ _ (fun z => by rw [z, upd_same] at npa; cases npa) hpa)) ?_ ?_⟩
  · rintro i x σ H2 hi ⟨v4, v5, v6, v7, ys, rfl, sm, hf, hy⟩
    obtain ⟨y, hyT, p, rfl, hp⟩ := hxs.nth hi
    have pf : p ≠ fa := fun z => by
      have k := sm0 _ _ (upd_same (H := H) (a := fa) (o := .lst []))
      rw [← z, hp] at k
      cases k
    have hp2 := sm _ _ pf hp
    have hdl : (db b e (T.take i)).length ≤ 101 := Nat.le_trans (db_len _ _ _) (by rw [List.length_take]; omega)
    refine ⟨p, _, rfl, SqT.of hp2, rfl, _, _, rfl, _, _, rfl, _, _, rfl, rfl, ?_⟩
    refine ⟨_, rfl, _, rfl, _, _, rfl, _, rfl, _, rfl, _, _, rfl, _, _, rfl, rfl, ?_⟩
    dsimp only
    rw [min_castA, max_castA]
    refine ⟨_, rfl, _, _, rfl, rfl, _, rfl, ite2 (fun c => ?_) (fun c => ?_)⟩
    · have c1 : ((min e y.2.1 : Nat) : Int) - ((max b y.1 : Nat) : Int) > 0 := of_decide_eq_true c
      have e1 : ((min e y.2.1 : Nat) : Int) - ((max b y.1 : Nat) : Int) = ((min e y.2.1 - max b y.1 : Nat) : Int) := by omega
      rw [e1]
      refine ⟨_, rfl, .inl ⟨rfl, _, SqL.of hf⟩, _, rfl, _, rfl, (by show 2 ≤ sizeLine; decide), fun t nt => ?_⟩
      have st := same_upd (o := .tup [.int ((min e y.2.1 - max b y.1 : Nat) : Int), .int (y.2.2 : Int)]) nt
      have hf5 := st _ _ hf
      refine ⟨fa, _, _, rfl, rfl, hf5, szlt (by rw [hy.len]; omega), ?_⟩
      refine ⟨_, _, _, _, ys ++ [.ref t], rfl, ?_, upd_same, ?_⟩
      · exact fun a o n k => by rw [upd_ne n]; exact st _ _ (sm _ _ n k)
      · rw [db_more hyT, if_pos (by omega)]
        refine (hy.mono (fun v x (k : Nd H2 v x) => (k.same st).upd hf5)).app (.cons ?_ .nil)
        exact Nd.upd (x := (min e y.2.1 - max b y.1, y.2.2)) ⟨t, rfl, upd_same⟩ hf5
    · have c1 : ¬ ((min e y.2.1 : Nat) : Int) - ((max b y.1 : Nat) : Int) > 0 := of_decide_eq_false (Bool.eq_false_iff.mpr c)
      refine ⟨_, _, _, _, ys, rfl, sm, hf, ?_⟩
      rw [db_more hyT, if_neg (by omega), List.append_nil]
      exact hy
  · rintro σ H2 ⟨v4, v5, v6, v7, ys, rfl, sm, hf, hy⟩
    have e : T.take xs.length = T := List.take_of_length_le (by rw [hxs.len]; exact Nat.le_refl _)
    rw [e] at hy
    exact ⟨_, rfl, q H2 fa ys (fun a o k => sm _ _ (ne_of_none k nf) (sm0 _ _ (sf _ _ k))) nf hf hy⟩
def spDepthSum : Sp := fun vs H Q _ => ∃ (n b e : Nat), vs = [.int n, .int b, .int e] ∧ b < e ∧ e ≤ n ∧ n ≤ 10 ^ 30 ∧ ∀ (H' : Hp), Same H H' → Q (.int ((total b e (lev (pk 101 n 0).length 0 (pk 101 n 0)) : Nat) : Int)) H'
theorem ok_depth_sum {f g1 g2 g3 : Addr} {fd d1 d2 d3 : FuncData} (F : Fun K "depth_sum" "depth_sum" sDepthSum f fd) (GCheckSize : FnOk P w K mg base CX0 3 g1 d1 ["size"] spCheckSize) (ACheckSize : At K mg "check_size" g1 d1 ["size"])
    (GCheckSpan : FnOk P w K mg base CX0 3 g2 d2 ["size", "begin", "end"] spCheckSpan) (ACheckSpan : At K mg "check_span" g2 d2 ["size", "begin", "end"])
    (GDepthsBetween : FnOk P w K mg base CX0 6 g3 d3 ["size", "begin", "end"] spBetweenRows) (ADepthsBetween : At K mg "_depths_between" g3 d3 ["size", "begin", "end"]) (z_sum : mg "sum" = none) : FnOk P w K mg base CX0 7 f fd ["size", "begin", "end"] spDepthSum := by
  refine F.ok scDepthSum (fun vs H Q E h => ?_) (fun cdv A outer s H vs Q E hr h => ?_)
  · obtain ⟨_, _, _, rfl, _⟩ := h
    rfl
  obtain ⟨n, b, e, rfl, h1, h2, h30, q⟩ := h
  refine ⟨_, (pss_cons (ps_expr (pe_call GCheckSize (hr.mono (by decide)) rfl ACheckSize.m ACheckSize.kp ACheckSize.b .nil pass0 (pa_cons (pv 0) pa_nil)))
    (pss_cons (ps_expr (pe_call GCheckSpan (hr.mono (by decide)) rfl ACheckSpan.m ACheckSpan.kp ACheckSpan.b .nil pass0 (pa_cons (pv 0) (pa_cons (pv 1) (pa_cons (pv 2) pa_nil)))))
    (pss_one (ps_ret (pe_callB (cr_sum rfl) (by rfl) z_sum (by decide +kernel) (pa_cons (pe_lc (own := [("count", 3), ("deep", 4)]) rfl scDepthSum.nd (pi_list (pe_call GDepthsBetween (hr.mono (by decide)) rfl ADepthsBetween.m ADepthsBetween.kp ADepthsBetween.b .nil pass0 (pa_cons (pv 0) (pa_cons (pv 1) (pa_cons (pv 2) pa_nil))))) (blkOk_by (N := ["size", "begin", "end", "count", "deep"]) (sc := defScope sDepthSum) (by decide +kernel)) (fun _ _ _ _ _ => (pg_tupB (n := 2) rfl (pgs_cons (pg_name (i := 3) scDepthSum.nd rfl (Or.inl rfl)) (pgs_cons (pg_name (i := 4) scDepthSum.nd rfl (Or.inl rfl)) pgs_nil)))) (fun _ _ _ _ _ => pts_nil) (fun _ _ _ _ _ => (pe_op op_mul (pv 3) (pv 4)))) pa_nil)))))), ?_⟩
  refine ⟨_, rfl, n, rfl, by omega, by omega, ?_⟩
  refine ⟨_, rfl, _, rfl, _, rfl, n, b, e, rfl, h1, h2, ?_⟩
  refine ⟨_, rfl, _, rfl, _, rfl, n, b, e, rfl, by omega, h30, fun H1 p xs sm np hp hx => ?_⟩
  have hd : ∀ z ∈ db b e (lev (pk 101 n 0).length 0 (pk 101 n 0)), z.2 ≤ 201 := fun z hz => db_deep z hz
  have hl : (db b e (lev (pk 101 n 0).length 0 (pk 101 n 0))).length ≤ 101 := Nat.le_trans (db_len _ _ _) (rows_len n)
  have q' : ∀ H', Same H H' → Q (.int ((((db b e (lev (pk 101 n 0).length 0 (pk 101 n 0))).map fun p => p.1 * p.2).sum : Nat) : Int)) H' := q
  generalize db b e (lev (pk 101 n 0).length 0 (pk 101 n 0)) = T at q' hx hd hl
  refine ⟨p, rfl, ⟨_, SqL.of hp⟩, fun D nD => lc_list (xs := xs) (fun i H' => Same H1 H' ∧ H' D = some (.lst (((T.take i).map fun z => ((z.1 * z.2 : Nat) : Int)).map V.int))) ⟨same_upd nD, upd_same⟩ (fun i H' _ k => SqL.of (k.1 _ _ hp)) ?_ ?_⟩
  · rintro i x H2 hi ⟨s2, hD⟩
    obtain ⟨y, hy, xp, rfl, hxp⟩ := hx.nth hi
    have il : i < T.length := (List.getElem?_eq_some_iff.mp hy).1
    have y2 := hd y (List.mem_of_getElem? hy)
    refine ⟨xp, _, rfl, SqT.of (s2 _ _ hxp), rfl, _, _, rfl, _, _, rfl, rfl, rfl, ?_⟩
    refine ⟨_, rfl, _, rfl, _, _, rfl, rfl, .inr ⟨by omega, by omega⟩, _, hD, szlt (by rw [List.length_map, List.length_map, List.length_take]; omega), ?_, ?_⟩
    · exact fun a o k => by rw [upd_ne (ne_of_none k nD)]; exact s2 _ _ k
    · rw [take_more hy, List.map_append, List.map_append]
      have em : ((y.1 : Nat) : Int) * ((y.2 : Nat) : Int) = ((y.1 * y.2 : Nat) : Int) := (Int.natCast_mul _ _).symm
      dsimp only
      rw [em]
      exact upd_same
  rintro H2 ⟨s2, hD⟩
  have et : T.take xs.length = T := List.take_of_length_le (by rw [hx.len]; exact Nat.le_refl _)
  rw [et] at hD
  refine ⟨D, _, rfl, SqL.of hD, ?_⟩
  have es : (T.map fun z => ((z.1 * z.2 : Nat) : Int)).sum = (((T.map fun p => p.1 * p.2).sum : Nat) : Int) := by
    rw [← sum_cast, List.map_map]
    rfl
  rw [es]
  exact q' _ (sm.trans s2)
def least (m : Int) (l : List (Nat × Nat)) : Prop := (∃ z ∈ l, m = (z.2 : Int)) ∧ ∀ z ∈ l, m ≤ (z.2 : Int)
def most (m : Int) (l : List (Nat × Nat)) : Prop := (∃ z ∈ l, m = (z.2 : Int)) ∧ ∀ z ∈ l, (z.2 : Int) ≤ m
def spDepthRange : Sp := fun vs H Q _ => ∃ (n b e : Nat), vs = [.int n, .int b, .int e] ∧ b < e ∧ e ≤ n ∧ n ≤ 10 ^ 30 ∧ db b e (lev (pk 101 n 0).length 0 (pk 101 n 0)) ≠ [] ∧
  ∀ (H' : Hp) (p : Addr) (lo hi : Int), Same H H' → H' p = some (.tup [.int lo, .int hi]) → least lo (db b e (lev (pk 101 n 0).length 0 (pk 101 n 0))) → most hi (db b e (lev (pk 101 n 0).length 0 (pk 101 n 0))) → Q (.ref p) H'
theorem ok_depth_range {f g1 g2 g3 : Addr} {fd d1 d2 d3 : FuncData} (F : Fun K "depth_range" "depth_range" sDepthRange f fd) (GCheckSize : FnOk P w K mg base CX0 3 g1 d1 ["size"] spCheckSize) (ACheckSize : At K mg "check_size" g1 d1 ["size"])
    (GCheckSpan : FnOk P w K mg base CX0 3 g2 d2 ["size", "begin", "end"] spCheckSpan) (ACheckSpan : At K mg "check_span" g2 d2 ["size", "begin", "end"])
    (GDepthsBetween : FnOk P w K mg base CX0 6 g3 d3 ["size", "begin", "end"] spBetweenRows) (ADepthsBetween : At K mg "_depths_between" g3 d3 ["size", "begin", "end"]) (z_min : mg "min" = none) (z_max : mg "max" = none) : FnOk P w K mg base CX0 7 f fd ["size", "begin", "end"] spDepthRange := by
  refine F.ok scDepthRange (fun vs H Q E h => ?_) (fun cdv A outer s H vs Q E hr h => ?_)
  · obtain ⟨_, _, _, rfl, _⟩ := h
    rfl
  obtain ⟨n, b, e, rfl, h1, h2, h30, hne, q⟩ := h
  refine' ⟨_, (pss_cons (ps_expr (pe_call GCheckSize (hr.mono (by decide)) rfl ACheckSize.m ACheckSize.kp ACheckSize.b .nil pass0 (pa_cons (pv 0) pa_nil)))
    (pss_cons (ps_expr (pe_call GCheckSpan (hr.mono (by decide)) rfl ACheckSpan.m ACheckSpan.kp ACheckSpan.b .nil pass0 (pa_cons (pv 0) (pa_cons (pv 1) (pa_cons (pv 2) pa_nil)))))
    (pss_cons ?cc1
    (pss_one (ps_ret (pe_tup (pa_cons (pe_callB (cr_min rfl) (by rfl) z_min (by decide +kernel) (pa_cons (pv 3) pa_nil)) (pa_cons (pe_callB (cr_max rfl) (by rfl) z_max (by decide +kernel) (pa_cons (pv 3) pa_nil)) pa_nil)))))))), ?_⟩
  case cc1 => exact (ps_setLc (i := 3) (own := [("_", 4), ("deep", 5)]) rfl scDepthRange.nd rfl rfl (sw_true rfl rfl rfl (by decide +kernel)) (pi_list (pe_call GDepthsBetween (hr.mono (by decide)) rfl ADepthsBetween.m ADepthsBetween.kp ADepthsBetween.b .nil pass0 (pa_cons (pv 0) (pa_cons (pv 1) (pa_cons (pv 2) pa_nil))))) (blkOk_by (N := ["size", "begin", "end", "found", "_", "deep"]) (sc := defScope sDepthRange) (by decide +kernel)) (fun _ _ _ _ _ => (pg_tupB (n := 2) rfl (pgs_cons (pg_name (i := 4) scDepthRange.nd rfl (Or.inl rfl)) (pgs_cons (pg_name (i := 5) scDepthRange.nd rfl (Or.inl rfl)) pgs_nil)))) (fun _ _ _ _ _ => pts_nil) (fun _ _ _ _ _ => (pv 5)))
  refine ⟨_, rfl, n, rfl, by omega, by omega, ?_⟩
  refine ⟨_, rfl, _, rfl, _, rfl, n, b, e, rfl, h1, h2, ?_⟩
  refine ⟨_, rfl, _, rfl, _, rfl, n, b, e, rfl, by omega, h30, fun H1 p xs sm np hp hx => ?_⟩
  have hl : (db b e (lev (pk 101 n 0).length 0 (pk 101 n 0))).length ≤ 101 := Nat.le_trans (db_len _ _ _) (rows_len n)
  generalize db b e (lev (pk 101 n 0).length 0 (pk 101 n 0)) = T at q hx hne hl
  refine ⟨p, rfl, ⟨_, SqL.of hp⟩, fun D nD => lc_list (xs := xs) (fun i H' => Same H1 H' ∧ H' D = some (.lst (((T.take i).map fun z => ((z.2 : Nat) : Int)).map V.int))) ⟨same_upd nD, upd_same⟩ (fun i H' _ k => SqL.of (k.1 _ _ hp)) ?_ ?_⟩
  · rintro i x H2 hi ⟨s2, hD⟩
    obtain ⟨y, hy, xp, rfl, hxp⟩ := hx.nth hi
    have il : i < T.length := (List.getElem?_eq_some_iff.mp hy).1
    refine ⟨xp, _, rfl, SqT.of (s2 _ _ hxp), rfl, _, _, rfl, _, _, rfl, rfl, rfl, ?_⟩
    refine ⟨_, rfl, _, hD, szlt (by rw [List.length_map, List.length_map, List.length_take]; omega), ?_, ?_⟩
    · exact fun a o k => by rw [upd_ne (ne_of_none k nD)]; exact s2 _ _ k
    · rw [take_more hy, List.map_append, List.map_append]
      exact upd_same
  rintro H2 ⟨s2, hD⟩
  have et : T.take xs.length = T := List.take_of_length_le (by rw [hx.len]; exact Nat.le_refl _)
  rw [et] at hD
  have hlen : 0 < (T.map fun z => ((z.2 : Nat) : Int)).length := by
    rw [List.length_map]
    exact List.length_pos_iff.mpr hne
  refine ⟨_, rfl, D, _, rfl, SqL.of hD, hlen, fun lo hlo hlo2 => ?_⟩
  refine ⟨_, rfl, D, _, rfl, SqL.of hD, hlen, fun hi hhi hhi2 => ?_⟩
  refine ⟨(by show 2 ≤ sizeLine; decide), fun u nu => ?_⟩
  refine q _ u lo hi (sm.trans (s2.trans (same_upd nu))) upd_same ⟨?_, ?_⟩ ⟨?_, ?_⟩
  · obtain ⟨z, h1, h2⟩ := List.mem_map.mp hlo
    exact ⟨z, h1, h2.symm⟩
  · exact fun z hz => hlo2 _ (List.mem_map.mpr ⟨z, hz, rfl⟩)
  · obtain ⟨z, h1, h2⟩ := List.mem_map.mp hhi
    exact ⟨z, h1, h2.symm⟩
  · exact fun z hz => hhi2 _ (List.mem_map.mpr ⟨z, hz, rfl⟩)
def firstOf (k : Int) : List (Nat × Nat × Nat) → V
  | [] => .non
  | x :: r => if (x.2.2 : Int) = k then .int (x.1 : Int) else firstOf k r
def spFirst : Sp := fun vs H Q _ => ∃ (n : Nat) (k : Int), vs = [.int n, .int k] ∧ 1 ≤ n ∧ n ≤ 10 ^ 30 ∧ ∀ (H' : Hp), Same H H' → Q (firstOf k (lev (pk 101 n 0).length 0 (pk 101 n 0))) H'
theorem ok_first_of_depth {f g1 g2 g3 : Addr} {fd d1 d2 d3 : FuncData} (F : Fun K "first_of_depth" "first_of_depth" sFirstOfDepth f fd) (GCheckSize : FnOk P w K mg base CX0 3 g1 d1 ["size"] spCheckSize) (ACheckSize : At K mg "check_size" g1 d1 ["size"])
    (GCheckNumber : FnOk P w K mg base CX0 2 g2 d2 ["number"] spCheckNumber) (ACheckNumber : At K mg "check_number" g2 d2 ["number"])
    (GPeakDepths : FnOk P w K mg base CX0 5 g3 d3 ["size"] spRows) (APeakDepths : At K mg "_peak_depths" g3 d3 ["size"]) : FnOk P w K mg base CX0 6 f fd ["size", "number"] spFirst := by
  refine F.ok scFirstOfDepth (fun vs H Q E h => ?_) (fun cdv A outer s H vs Q E hr h => ?_)
  · obtain ⟨_, _, rfl, _⟩ := h
    rfl
  obtain ⟨n, k, rfl, h1, h30, q⟩ := h
  refine ⟨_, (pss_cons (ps_expr (pe_call GCheckSize (hr.mono (by decide)) rfl ACheckSize.m ACheckSize.kp ACheckSize.b .nil pass0 (pa_cons (pv 0) pa_nil)))
    (pss_cons (ps_expr (pe_call GCheckNumber (hr.mono (by decide)) rfl ACheckNumber.m ACheckNumber.kp ACheckNumber.b .nil pass0 (pa_cons (pv 1) pa_nil)))
    (pss_cons (ps_for PassesOwn.never rfl (pi_list (pe_call GPeakDepths (hr.mono (by decide)) rfl APeakDepths.m APeakDepths.kp APeakDepths.b .nil pass0 (pa_cons (pv 0) pa_nil))) (pg_tup (by rfl) (pgs_cons (pg_name (i := 2) scFirstOfDepth.nd rfl (Or.inl rfl)) (pgs_cons (pg_name (i := 3) scFirstOfDepth.nd rfl (Or.inl rfl)) (pgs_cons (pg_name (i := 4) scFirstOfDepth.nd rfl (Or.inl rfl)) pgs_nil))))
    (pss_one (ps_if (pt_cmpR op_eq (pv 4) (pv 1) (nomark _))
    (pss_one (ps_ret (pv 2)))
    pss_nil)))
    (pss_one (ps_ret pe_non))))), ?_⟩
  refine ⟨_, rfl, n, rfl, by omega, by omega, ?_⟩
  refine ⟨_, rfl, k, rfl, ?_⟩
  refine ⟨_, rfl, n, rfl, h1, h30, fun H1 p xs sm np hp hx => ?_⟩
  generalize lev (pk 101 n 0).length 0 (pk 101 n 0) = T at q hx
  refine ⟨p, rfl, ⟨_, SqL.of hp⟩, for_list (K := K) (a := p) (xs := xs) (fun i σ H' => ∃ (v2 v3 v4 : Option V), σ = [some (.int n), some (.int k), v2, v3, v4] ∧ H' = H1 ∧ firstOf k (T.drop i) = firstOf k T)
    ⟨none, none, none, rfl, rfl, rfl⟩ (fun i σ H' _ ⟨_, _, _, _, s5, _⟩ => by rw [s5]; exact SqL.of hp) ?_ ?_⟩
  · rintro i x σ H2 hi ⟨v2, v3, v4, rfl, rfl, hk⟩
    obtain ⟨y, hy, xp, rfl, hxp⟩ := hx.nth hi
    have ed : T.drop i = y :: T.drop (i + 1) := List.drop_eq_getElem_cons (List.getElem?_eq_some_iff.mp hy).1 ▸ (by rw [(List.getElem?_eq_some_iff.mp hy).2])
    have ef : firstOf k (T.drop i) = if (y.2.2 : Int) = k then .int (y.1 : Int) else firstOf k (T.drop (i + 1)) := by rw [ed]; rfl
    refine ⟨xp, _, rfl, SqT.of hxp, rfl, _, _, rfl, _, _, rfl, _, _, rfl, rfl, ?_⟩
    refine ⟨_, rfl, _, rfl, rfl, _, rfl, ite2 (fun c => ?_) (fun c => ?_)⟩
    · have c1 : V.int (y.2.2 : Int) = V.int k := of_decide_eq_true c
      rw [ef, if_pos (V.int.inj c1)] at hk
      refine ⟨_, rfl, ?_⟩
      show Q (.int (y.1 : Int)) _
      rw [hk]
      exact q _ sm
    · have c1 : ¬ V.int (y.2.2 : Int) = V.int k := of_decide_eq_false (Bool.eq_false_iff.mpr c)
      rw [ef, if_neg (fun z => c1 (by rw [z]))] at hk
      exact ⟨_, _, _, rfl, rfl, hk⟩
  · rintro σ H2 ⟨v2, v3, v4, rfl, rfl, hk⟩
    have ed : T.drop xs.length = [] := List.drop_eq_nil_of_le (by rw [hx.len]; exact Nat.le_refl _)
    rw [ed] at hk
    show Q .non _
    have k2 : V.non = firstOf k T := hk
    rw [k2]
    exact q _ sm
end
end LT

namespace LT
open PySem PySem.Spec PyProof.Rows L2
/-! ### lists of ints as data -/
theorem ints_lay : ∀ ns : List Int, PyData.canLayAll0 (ns.map PyData.int) = true
  | [] => by simp [PyData.canLayAll0]
  | n :: ns => by simp [PyData.canLayAll0, PyData.canLay0, ints_lay ns]
theorem ints_depth : ∀ ns : List Int, PyData.depthAll (ns.map PyData.int) ≤ 1
  | [] => by simp [PyData.depthAll]
  | n :: ns => by
    have := ints_depth ns
    simp only [List.map_cons, PyData.depthAll, PyData.depth]
    omega
theorem ints_shaped (ns : List Int) : SeqAt.shaped (.list (ns.map PyData.int)) = true := by
  have h := ints_depth ns
  have h2 : PyData.depth (.list (ns.map PyData.int)) ≤ 64 := by
    simp only [PyData.depth]
    omega
  show (PyData.canLay0 (.list (ns.map PyData.int)) && decide (PyData.depth (.list (ns.map PyData.int)) ≤ 64)) = true
  rw [Bool.and_eq_true]
  exact ⟨by simp only [PyData.canLay0]; exact ints_lay ns, decide_eq_true h2⟩
theorem ints_dp {K : PySem.W.Frag} {H : Hp} : ∀ ns : List Int, DpAll K H (ns.map V.int) (ns.map PyData.int)
  | [] => .nil
  | n :: ns => .cons (.int n) (ints_dp ns)
theorem ints_nil : ∀ ns : List Int, PyData.eqv (.list (ns.map PyData.int)) (.list []) = ns.isEmpty
  | [] => by simp only [List.map_nil, PyData.eqv, PyData.eqvAll, List.isEmpty_nil]
  | n :: ns => by simp only [List.map_cons, PyData.eqv, PyData.eqvAll, List.isEmpty_cons]
theorem nil_shaped : SeqAt.shaped (.list []) = true := ints_shaped []
end LT

namespace LT
open PySem PySem.Spec PyProof.Rows L2
/-! ### the sums over the rows -/
def cut (b e : Nat) (x : Nat × Nat × Nat) : Nat × Nat × Nat := (max b x.1, min e x.2.1, x.2.2)
def parts (b e : Nat) (T : List (Nat × Nat × Nat)) : List (Nat × Nat × Nat) := (T.map (cut b e)).filter fun x => decide (x.1 < x.2.1)
theorem db_parts (b e : Nat) (T : List (Nat × Nat × Nat)) : db b e T = (parts b e T).map fun x => (x.2.1 - x.1, x.2.2) := by
  unfold db parts
  rw [List.filter_map, List.map_map]
  rfl
theorem due_total (b e : Nat) (T : List (Nat × Nat × Nat)) : (((parts b e T).map fun x => (((x.2.1 : Nat) : Int) - ((x.1 : Nat) : Int)) * ((x.2.2 : Nat) : Int)).sum : Int) = ((total b e T : Nat) : Int) := by
  unfold total
  rw [db_parts, ← sum_cast, List.map_map, List.map_map]
  congr 1
  apply List.map_congr_left
  intro x hx
  unfold parts at hx
  have c := of_decide_eq_true (List.mem_filter.mp hx).2
  have e1 : ((x.2.1 : Nat) : Int) - ((x.1 : Nat) : Int) = ((x.2.1 - x.1 : Nat) : Int) := by omega
  show _ = (((x.2.1 - x.1) * x.2.2 : Nat) : Int)
  rw [e1, Int.natCast_mul]
theorem total_cons (b e : Nat) (x : Nat × Nat × Nat) (T : List (Nat × Nat × Nat)) : total b e (x :: T) = (min e x.2.1 - max b x.1) * x.2.2 + total b e T := by
  unfold total db
  rw [List.filter_cons]
  by_cases c : max b x.1 < min e x.2.1
  · rw [if_pos (decide_eq_true c)]; rfl
  · rw [if_neg (by simpa using c), show min e x.2.1 - max b x.1 = 0 by omega, Nat.zero_mul, Nat.zero_add]
theorem total_split {b m e : Nat} : ∀ {T : List (Nat × Nat × Nat)}, (∀ x ∈ T, x.1 < x.2.1) → b ≤ m → m ≤ e → total b m T + total m e T = total b e T
  | [], _, _, _ => rfl
  | x :: T, h, h1, h2 => by
    have ih := total_split (T := T) (fun y hy => h y (List.mem_cons_of_mem _ hy)) h1 h2
    have hx := h x List.mem_cons_self
    rw [total_cons, total_cons, total_cons]
    have k : (min m x.2.1 - max b x.1) + (min e x.2.1 - max m x.1) = min e x.2.1 - max b x.1 := by omega
    rw [← k, Nat.add_mul]
    omega
theorem total_one {m : Nat} : ∀ {T : List (Nat × Nat × Nat)}, (∀ x ∈ T, x.1 < x.2.1) → total m (m + 1) T = (due m T).sum
  | [], _ => rfl
  | x :: T, h => by
    have ih := total_one (m := m) (T := T) (fun y hy => h y (List.mem_cons_of_mem _ hy))
    have hx := h x List.mem_cons_self
    rw [total_cons]
    unfold due at *
    rw [List.filter_cons]
    by_cases c : x.1 ≤ m ∧ m < x.2.1
    · rw [if_pos (by rw [Bool.and_eq_true]; exact ⟨decide_eq_true c.1, decide_eq_true c.2⟩), List.map_cons, List.sum_cons, ← ih, show min (m + 1) x.2.1 - max m x.1 = 1 by omega, Nat.one_mul]
    · rw [if_neg (by rw [Bool.and_eq_true]; intro z; exact c ⟨of_decide_eq_true z.1, of_decide_eq_true z.2⟩), ← ih, show min (m + 1) x.2.1 - max m x.1 = 0 by omega, Nat.zero_mul, Nat.zero_add]
theorem db_ne {b e k : Nat} {T : List (Nat × Nat × Nat)} (h : due b T = [k]) (hbe : b < e) : db b e T ≠ [] := by
  have m : k ∈ due b T := by rw [h]; exact List.mem_singleton.mpr rfl
  unfold due at m
  obtain ⟨x, hx, _⟩ := List.mem_map.mp m
  obtain ⟨hx1, hx2⟩ := List.mem_filter.mp hx
  rw [Bool.and_eq_true] at hx2
  have h1 := of_decide_eq_true hx2.1
  have h2 := of_decide_eq_true hx2.2
  intro z
  have : (min e x.2.1 - max b x.1, x.2.2) ∈ db b e T := List.mem_map.mpr ⟨x, List.mem_filter.mpr ⟨hx1, decide_eq_true (by omega)⟩, rfl⟩
  rw [z] at this
  exact absurd this List.not_mem_nil
theorem rows_lt (n : Nat) (x : Nat × Nat × Nat) (h : x ∈ lev (pk 101 n 0).length 0 (pk 101 n 0)) : x.1 < x.2.1 := by
  have gen : ∀ (l : List (Nat × Nat)) (t s : Nat) (x : Nat × Nat × Nat), x ∈ lev t s l → x.1 < x.2.1 := by
    intro l
    induction l with
    | nil => intro t s x h; simp [lev] at h
    | cons y r ih =>
      intro t s x h
      have h' : x ∈ (y.1, y.1 + 2 ^ y.2, y.2 + min (s + 1) (t - 1)) :: lev t (s + 1) r := h
      rcases List.mem_cons.mp h' with h | h
      · subst h
        have := Nat.pow_pos (a := 2) (n := y.2) (by decide)
        simp only []
        omega
      · exact ih t (s + 1) x h
  exact gen _ _ _ x h
theorem rows_due {n : Nat} (h30 : n ≤ 10 ^ 30) (m : Nat) (hm : m < n) : due m (lev (pk 101 n 0).length 0 (pk 101 n 0)) = [(sib 0 n m).length] := by
  have q := due_is n m 101 0 0 (Nat.zero_le _) (by rw [Nat.mod_eq_of_lt (Nat.lt_of_le_of_lt h30 (by decide))]; omega)
  rw [Nat.mod_eq_of_lt (Nat.lt_of_le_of_lt h30 (by decide)), Nat.zero_add, Nat.zero_min, Nat.add_zero] at q
  exact q
theorem least_one {m k : Int} {l : List (Nat × Nat)} (h1 : least m l) (h2 : least k l) : m = k := by
  obtain ⟨⟨x, hx, ex⟩, lx⟩ := h1
  obtain ⟨⟨y, hy, ey⟩, ly⟩ := h2
  have a := lx y hy
  have b := ly x hx
  omega
theorem most_one {m k : Int} {l : List (Nat × Nat)} (h1 : most m l) (h2 : most k l) : m = k := by
  obtain ⟨⟨x, hx, ex⟩, lx⟩ := h1
  obtain ⟨⟨y, hy, ey⟩, ly⟩ := h2
  have a := lx y hy
  have b := ly x hx
  omega
def fits (k : Int) (T : List (Nat × Nat × Nat)) : List Int := (T.filter fun x => decide ((x.2.2 : Int) = k)).map fun x => (x.1 : Int)
theorem first_fits (k : Int) : ∀ T : List (Nat × Nat × Nat), firstOf k T = match fits k T with | [] => V.non | z :: _ => V.int z
  | [] => rfl
  | x :: T => by
    show (if (x.2.2 : Int) = k then V.int (x.1 : Int) else firstOf k T) = _
    unfold fits
    rw [List.filter_cons]
    by_cases c : (x.2.2 : Int) = k
    · rw [if_pos c, if_pos (decide_eq_true c)]; rfl
    · rw [if_neg c, if_neg (by simpa using c)]
      exact first_fits k T
end LT

namespace LT
/-! ### counts by digits -/
def sumsh : Nat → Nat → Nat
  | 0, _ => 0
  | k + 1, n => sumsh k n + n / 2 ^ k
theorem div_step (n k : Nat) : n / 2 ^ k = 2 * (n / 2 ^ (k + 1)) + (if n.testBit k then 1 else 0) := by
  have e : n / 2 ^ (k + 1) = n / 2 ^ k / 2 := by rw [Nat.pow_succ, Nat.div_div_eq_div_mul]
  rw [e, Nat.testBit_eq_decide_div_mod_eq]
  have h : n / 2 ^ k % 2 = 0 ∨ n / 2 ^ k % 2 = 1 := by omega
  rcases h with h | h <;> rw [h] <;> simp <;> omega
theorem pk_len_any (i n b c : Nat) : (pk i n b).length = (pk i n c).length := by
  induction i generalizing b c with
  | zero => rfl
  | succ i ih =>
    unfold pk
    cases t : n.testBit i with
    | true => simp; exact ih _ _
    | false => simp; exact ih _ _
theorem sumsh_is (n : Nat) : ∀ k, sumsh k n + (pk k n 0).length + 2 * (n / 2 ^ k) = 2 * n
  | 0 => by simp [sumsh, pk]
  | k + 1 => by
    have ih := sumsh_is n k
    have d := div_step n k
    have e : (pk (k + 1) n 0).length = (pk k n 0).length + (if n.testBit k then 1 else 0) := by
      show (if n.testBit k = true then (0, k) :: pk k n (0 + 2 ^ k) else pk k n 0).length = _
      cases t : n.testBit k with
      | true => rw [if_pos rfl, if_pos rfl, List.length_cons, pk_len_any k n (0 + 2 ^ k) 0]
      | false => rw [if_neg (by decide), if_neg (by decide), Nat.add_zero]
    rw [e]
    unfold sumsh
    omega
/-- the peaks whose edges have the height k -/
def bareN (N k : Nat) (l : List (Nat × Nat)) : Nat := (l.filter fun x => decide (N - x.1 ≤ 2 ^ k) && decide (2 ^ k / 2 < N - x.1)).length
def bareB (n k i : Nat) : Nat := if 1 ≤ k ∧ k - 1 < i ∧ n.testBit (k - 1) = true ∧ n % 2 ^ (k - 1) ≠ 0 then 1 else 0
theorem bare_is (N k n : Nat) : ∀ (i b : Nat), b + n % 2 ^ i = N → bareN N k (pk i n b).dropLast = bareB n k i
  | 0, b, h => by
    unfold bareB
    rw [if_neg (by omega)]
    rfl
  | i + 1, b, h => by
    have p := Nat.pow_pos (a := 2) (n := i) (by decide)
    rw [mod_succ] at h
    have ml := Nat.mod_lt n p
    cases t : n.testBit i with
    | false =>
      rw [t] at h
      have h' : b + n % 2 ^ i = N := by simpa using h
      have e : pk (i + 1) n b = pk i n b := by show (if n.testBit i = true then _ else _) = _; rw [t]; rfl
      rw [e, bare_is N k n i b h']
      unfold bareB
      by_cases c : 1 ≤ k ∧ k - 1 < i ∧ n.testBit (k - 1) = true ∧ n % 2 ^ (k - 1) ≠ 0
      · rw [if_pos c, if_pos ⟨c.1, by omega, c.2.2⟩]
      · rw [if_neg c, if_neg (fun z => ?_)]
        by_cases ki : k - 1 = i
        · rw [ki, t] at z; exact absurd z.2.2.1 (by decide)
        · exact c ⟨z.1, by omega, z.2.2⟩
    | true =>
      rw [t, if_pos rfl] at h
      have e : pk (i + 1) n b = (b, i) :: pk i n (b + 2 ^ i) := by show (if n.testBit i = true then _ else _) = _; rw [t]; rfl
      rw [e]
      by_cases r0 : n % 2 ^ i = 0
      · rw [pk_nil i n _ r0]
        have e2 : bareN N k ([(b, i)] : List (Nat × Nat)).dropLast = 0 := rfl
        rw [e2]
        unfold bareB
        rw [if_neg (fun z => ?_)]
        have d : 2 ^ (k - 1) ∣ 2 ^ i := Nat.pow_dvd_pow 2 (by omega)
        exact z.2.2.2 (Nat.mod_eq_zero_of_dvd (Nat.dvd_trans d (Nat.dvd_of_mod_eq_zero r0)))
      · have hne := pk_ne i n (b + 2 ^ i) r0
        have e3 : ((b, i) :: pk i n (b + 2 ^ i)).dropLast = (b, i) :: (pk i n (b + 2 ^ i)).dropLast := by
          cases hh : pk i n (b + 2 ^ i) with
          | nil => exact absurd hh hne
          | cons _ _ => rfl
        have ih := bare_is N k n i (b + 2 ^ i) (by omega)
        rw [e3]
        have e4 : bareN N k ((b, i) :: (pk i n (b + 2 ^ i)).dropLast) = (if N - b ≤ 2 ^ k ∧ 2 ^ k / 2 < N - b then 1 else 0) + bareN N k (pk i n (b + 2 ^ i)).dropLast := by
          unfold bareN
          rw [List.filter_cons]
          by_cases c : N - b ≤ 2 ^ k ∧ 2 ^ k / 2 < N - b
          · rw [if_pos (by simp [c.1, c.2]), if_pos c, List.length_cons, Nat.add_comm]
          · rw [if_neg (by simpa using c), if_neg c, Nat.zero_add]
        rw [e4, ih]
        have nb : N - b = 2 ^ i + n % 2 ^ i := by omega
        rw [nb]
        by_cases ki : k = i + 1
        · subst ki
          have e5 : 2 ^ (i + 1) / 2 = 2 ^ i := by rw [Nat.pow_succ]; omega
          rw [e5, if_pos ⟨by rw [Nat.pow_succ]; omega, by omega⟩]
          unfold bareB
          rw [Nat.add_sub_cancel, if_neg (by omega), if_pos ⟨by omega, by omega, t, r0⟩]
        · have no : ¬ (2 ^ i + n % 2 ^ i ≤ 2 ^ k ∧ 2 ^ k / 2 < 2 ^ i + n % 2 ^ i) := by
            rintro ⟨z1, z2⟩
            by_cases c : k ≤ i
            · have := Nat.pow_le_pow_right (n := 2) (by decide) c
              omega
            · have e6 : 2 ^ k = 2 ^ (i + 2) * 2 ^ (k - (i + 2)) := by rw [← Nat.pow_add]; congr 1; omega
              have e7 : 2 ^ (i + 2) ≤ 2 ^ k := Nat.pow_le_pow_right (by decide) (by omega)
              rw [Nat.pow_succ, Nat.pow_succ] at e7
              omega
          rw [if_neg no, Nat.zero_add]
          unfold bareB
          by_cases c : 1 ≤ k ∧ k - 1 < i ∧ n.testBit (k - 1) = true ∧ n % 2 ^ (k - 1) ≠ 0
          · rw [if_pos c, if_pos ⟨c.1, by omega, c.2.2⟩]
          · rw [if_neg c, if_neg (fun z => c ⟨z.1, by omega, z.2.2⟩)]
/-- the program's count of a height -/
theorem height_is {n k : Nat} (h : 1 ≤ n) (hn : n < 2 ^ 101) : (if k = 0 then n else ((n - 1) / 2 ^ (k - 1) + 1) / 2) = n / 2 ^ k + bareB n k 101 := by
  by_cases k0 : k = 0
  · subst k0
    unfold bareB
    rw [if_pos rfl, if_neg (by omega), Nat.pow_zero, Nat.div_one, Nat.add_zero]
  · obtain ⟨j, rfl⟩ : ∃ j, k = j + 1 := ⟨k - 1, by omega⟩
    rw [if_neg k0, Nat.add_sub_cancel]
    have p := Nat.pow_pos (a := 2) (n := j) (by decide)
    have d := div_step n j
    have dm := Nat.div_add_mod n (2 ^ j)
    have ml := Nat.mod_lt n p
    unfold bareB
    rw [Nat.add_sub_cancel]
    by_cases r0 : n % 2 ^ j = 0
    · rw [if_neg (fun z => z.2.2.2 r0), Nat.add_zero]
      have q1 : 1 ≤ n / 2 ^ j := by
        by_cases z : n / 2 ^ j = 0
        · rw [z] at dm; omega
        · omega
      have e : (n - 1) / 2 ^ j = n / 2 ^ j - 1 := by
        have e1 : n - 1 = 2 ^ j * (n / 2 ^ j - 1) + (2 ^ j - 1) := by
          have : 2 ^ j * (n / 2 ^ j) = 2 ^ j * (n / 2 ^ j - 1) + 2 ^ j := by
            rw [← Nat.mul_succ]; congr 1; omega
          omega
        rw [e1, Nat.mul_add_div p, Nat.div_eq_of_lt (show 2 ^ j - 1 < 2 ^ j by omega), Nat.add_zero]
      rw [e, show n / 2 ^ j - 1 + 1 = n / 2 ^ j by omega]
      rw [d]
      split <;> omega
    · have e : (n - 1) / 2 ^ j = n / 2 ^ j := by
        have e1 : n - 1 = 2 ^ j * (n / 2 ^ j) + (n % 2 ^ j - 1) := by omega
        rw [e1, Nat.mul_add_div p, Nat.div_eq_of_lt (show n % 2 ^ j - 1 < 2 ^ j by omega), Nat.add_zero]
      rw [e]
      cases t : n.testBit j with
      | true =>
        have jl : j < 101 := by
          by_cases z : j < 101
          · exact z
          · have := Nat.testBit_lt_two_pow (x := n) (i := j) (Nat.lt_of_lt_of_le hn (Nat.pow_le_pow_right (by decide) (by omega)))
            rw [t] at this
            exact absurd this (by decide)
        rw [t, if_pos rfl] at d
        rw [if_pos ⟨by omega, jl, rfl, r0⟩]
        omega
      | false =>
        rw [t, if_neg (by decide)] at d
        rw [if_neg (fun z => absurd z.2.2.1 (by decide))]
        omega
end LT

namespace LT
/-- where the last peak of m entries begins -/
def lastB (m : Nat) : Nat :=
  if h : m ≤ 1 ∨ m = 2 * gp m then 0 else gp m + lastB (m - gp m)
termination_by m
decreasing_by
  have := gp_pos m
  omega
theorem lastB_pow {m : Nat} (h : m ≤ 1 ∨ m = 2 * gp m) : lastB m = 0 := by
  rw [lastB, dif_pos h]
theorem lastB_low {m : Nat} (h : ¬ (m ≤ 1 ∨ m = 2 * gp m)) : lastB m = gp m + lastB (m - gp m) := by
  rw [lastB, dif_neg h]
/-- one more entry puts those of the last peak one deeper, and no others -/
theorem sib_more : ∀ (m b e : Nat), 1 ≤ m → b ≤ e → e < b + m → (sib b (m + 1) e).length = (sib b m e).length + (if b + lastB m ≤ e then 1 else 0) := by
  intro m
  induction m using Nat.strongRecOn with
  | ind m ih =>
    intro b e h1 h2 h3
    by_cases p : m ≤ 1 ∨ m = 2 * gp m
    · rw [lastB_pow p, if_pos (by omega)]
      have g : gp (m + 1) = m := by
        rcases p with p | p
        · have : m = 1 := by omega
          subst this
          rfl
        · have e1 : 2 ^ (Nat.log2 (m - 1) + 1) = m := by
            rw [Nat.pow_succ]
            unfold gp at p
            omega
          have := gp_eq (i := Nat.log2 (m - 1) + 1) (m := m + 1) (by omega) (by omega)
          rw [this, e1]
      rw [sib_low (by omega) (by rw [g]; exact h3), g, List.length_cons]
    · have m2 : 2 ≤ m := by omega
      have g1 := gp_lt m2
      have g2 := gp_ge m2
      have g3 := gp_pos m
      have g : gp (m + 1) = gp m := gp_eq (i := Nat.log2 (m - 1)) (by unfold gp at g1; omega) (by unfold gp at g2 p; omega)
      rw [lastB_low p]
      by_cases k : e < b + gp m
      · rw [sib_low (by omega) (by rw [g]; exact k), sib_low m2 k, g, List.length_cons, List.length_cons, if_neg (by omega)]
      · rw [sib_high (by omega) (by rw [g]; exact k), sib_high m2 k, g, List.length_cons, List.length_cons]
        have em : m + 1 - gp m = m - gp m + 1 := by omega
        rw [em, ih (m - gp m) (by omega) (b + gp m) e (by omega) (by omega) (by omega)]
        by_cases c : b + gp m + lastB (m - gp m) ≤ e
        · rw [if_pos c, if_pos (by omega)]
        · rw [if_neg c, if_neg (by omega)]
/-- a power of two, or the last peak begins where a power of two below it ends: it is as long as a power of two that divides its begin -/
theorem lastB_room : ∀ m, 1 ≤ m → ∃ j, m = lastB m + 2 ^ j ∧ 2 ^ j ∣ lastB m := by
  intro m
  induction m using Nat.strongRecOn with
  | ind m ih =>
    intro h1
    by_cases p : m ≤ 1 ∨ m = 2 * gp m
    · rw [lastB_pow p]
      rcases p with p | p
      · exact ⟨0, by rw [Nat.pow_zero]; omega, Nat.dvd_zero _⟩
      · exact ⟨Nat.log2 (m - 1) + 1, by rw [Nat.pow_succ]; unfold gp at p; omega, Nat.dvd_zero _⟩
    · have m2 : 2 ≤ m := by omega
      have g1 := gp_lt m2
      have g2 := gp_ge m2
      have g3 := gp_pos m
      obtain ⟨j, e, d⟩ := ih (m - gp m) (by omega) (by omega)
      rw [lastB_low p]
      refine ⟨j, by omega, Nat.dvd_add ?_ d⟩
      have lt : 2 ^ j < 2 ^ (Nat.log2 (m - 1) + 1) := by
        rw [Nat.pow_succ]
        unfold gp at g2 e p
        omega
      have := (Nat.pow_lt_pow_iff_right (by decide : 1 < 2)).mp lt
      exact Nat.pow_dvd_pow 2 (by omega)
/-- and as long as the greatest one that divides m -/
theorem lastB_most : ∀ m j, 1 ≤ m → 2 ^ j ∣ m → lastB m + 2 ^ j ≤ m := by
  intro m
  induction m using Nat.strongRecOn with
  | ind m ih =>
    intro j h1 d
    have le := Nat.le_of_dvd (by omega) d
    by_cases p : m ≤ 1 ∨ m = 2 * gp m
    · rw [lastB_pow p]
      omega
    · have m2 : 2 ≤ m := by omega
      have g1 := gp_lt m2
      have g2 := gp_ge m2
      have g3 := gp_pos m
      have lt : 2 ^ j < 2 ^ (Nat.log2 (m - 1) + 1) := by
        rw [Nat.pow_succ]
        unfold gp at g2 p
        omega
      have jl := (Nat.pow_lt_pow_iff_right (by decide : 1 < 2)).mp lt
      have dg : 2 ^ j ∣ gp m := by unfold gp; exact Nat.pow_dvd_pow 2 (by omega)
      have := ih (m - gp m) (by omega) j (by omega) (Nat.dvd_sub d dg)
      rw [lastB_low p]
      omega
/-- the sizes whose last peak has e: where the rooms that have e end -/
theorem last_has {m e : Nat} (h : e < m) : lastB m ≤ e ↔ ∃ j, m = e - e % 2 ^ j + 2 ^ j := by
  constructor
  · intro k
    obtain ⟨j, e1, d⟩ := lastB_room m (by omega)
    refine ⟨j, ?_⟩
    obtain ⟨x, ex⟩ := d
    have em : e % 2 ^ j = e - lastB m := by
      have e2 : e = lastB m + (e - lastB m) := by omega
      rw [e2, ex, Nat.mul_add_mod, Nat.mod_eq_of_lt (by rw [← ex]; omega)]
      omega
    omega
  · rintro ⟨j, e1⟩
    have p := Nat.pow_pos (a := 2) (n := j) (by decide)
    have d0 : 2 ^ j ∣ e - e % 2 ^ j := Nat.dvd_sub_mod e
    have := lastB_most m j (by omega) (by rw [e1]; exact Nat.dvd_add d0 (Nat.dvd_refl _))
    have ml := Nat.mod_lt e p
    have := Nat.mod_le e (2 ^ j)
    omega
/-- where the room of 2 ^ j that has e ends -/
def endR (e j : Nat) : Nat := e - e % 2 ^ j + 2 ^ j
theorem endR_gt (e j : Nat) : e < endR e j := by
  have := Nat.mod_lt e (Nat.pow_pos (a := 2) (n := j) (by decide))
  have := Nat.mod_le e (2 ^ j)
  unfold endR
  omega
theorem endR_le (e j : Nat) : endR e j ≤ endR e (j + 1) := by
  have e1 := Nat.mod_pow_succ (b := 2) (k := j) (x := e)
  have h : e / 2 ^ j % 2 = 0 ∨ e / 2 ^ j % 2 = 1 := by omega
  have m1 := Nat.mod_le e (2 ^ j)
  have m2 := Nat.mod_le e (2 ^ (j + 1))
  unfold endR
  rw [Nat.pow_succ] at *
  rcases h with h | h <;> rw [h] at e1 <;> omega
theorem endR_mono (e : Nat) {i j : Nat} (h : i ≤ j) : endR e i ≤ endR e j := by
  induction j with
  | zero => rw [show i = 0 by omega]; exact Nat.le_refl _
  | succ j ih =>
    by_cases c : i = j + 1
    · subst c; exact Nat.le_refl _
    · exact Nat.le_trans (ih (by omega)) (endR_le e j)
/-- the depth stays where no room that has e ends -/
theorem sib_flat {e s : Nat} (h : e < s) : ∀ k, (∀ t, s ≤ t → t < s + k → ∀ j, t ≠ endR e j) → (sib 0 (s + k) e).length = (sib 0 s e).length
  | 0, _ => rfl
  | k + 1, no => by
    have ih := sib_flat h k (fun t h1 h2 => no t h1 (by omega))
    have st := sib_more (s + k) 0 e (by omega) (Nat.zero_le _) (by omega)
    rw [if_neg (fun z => ?_)] at st
    · rw [show s + (k + 1) = s + k + 1 by omega, st, ih, Nat.add_zero]
    · rw [Nat.zero_add] at z
      obtain ⟨j, ej⟩ := (last_has (by omega)).mp z
      exact no (s + k) (by omega) (by omega) j ej
/-- and is one more behind each such end -/
theorem sib_behind (e j : Nat) : (sib 0 (endR e j + 1) e).length = (sib 0 (endR e j) e).length + 1 := by
  have g := endR_gt e j
  have st := sib_more (endR e j) 0 e (by omega) (Nat.zero_le _) (by omega)
  rw [if_pos (by rw [Nat.zero_add]; exact (last_has g).mpr ⟨j, rfl⟩)] at st
  exact st
/-- it never gets less -/
theorem sib_grows {e s : Nat} (h : e < s) : ∀ k, (sib 0 s e).length ≤ (sib 0 (s + k) e).length
  | 0 => Nat.le_refl _
  | k + 1 => by
    have ih := sib_grows h k
    have st := sib_more (s + k) 0 e (by omega) (Nat.zero_le _) (by omega)
    rw [show s + (k + 1) = s + k + 1 by omega, st]
    omega
end LT

namespace LT
open PySem PySem.Spec PyProof.Rows L2
/-- the digits 1 -/
def ones (n : Nat) : Nat := if h : n = 0 then 0 else n % 2 + ones (n / 2)
termination_by n
decreasing_by omega
theorem ones_zero : ones 0 = 0 := by rw [ones]; rfl
theorem ones_step (n : Nat) : ones n = n % 2 + ones (n / 2) := by
  by_cases h : n = 0
  · subst h; rw [Nat.zero_mod, Nat.zero_div, ones_zero]
  · rw [ones, dif_neg h]
theorem ones_one : ones 1 = 1 := by rw [ones_step]; show 1 + ones 0 = 1; rw [ones_zero]
theorem ones_dbl (n : Nat) : ones (2 * n) = ones n := by rw [ones_step, Nat.mul_mod_right, Nat.zero_add, Nat.mul_div_cancel_left _ (by decide)]
theorem ones_dbl1 (n : Nat) : ones (2 * n + 1) = ones n + 1 := by
  rw [ones_step, show (2 * n + 1) % 2 = 1 by omega, show (2 * n + 1) / 2 = n by omega]; omega
theorem ones_pos {n : Nat} (h : 1 ≤ n) : 1 ≤ ones n := by
  induction n using Nat.strongRecOn with
  | ind n ih =>
    rw [ones_step]
    by_cases c : n % 2 = 1
    · omega
    · have := ih (n / 2) (by omega) (by omega)
      omega
theorem ones_split : ∀ (i a r : Nat), r < 2 ^ i → ones (2 ^ i * a + r) = ones a + ones r
  | 0, a, r, h => by
    have : r = 0 := by simp at h; omega
    subst this
    rw [Nat.pow_zero, Nat.one_mul, Nat.add_zero, ones_zero, Nat.add_zero]
  | i + 1, a, r, h => by
    rw [Nat.pow_succ] at h
    have e : 2 ^ (i + 1) * a + r = 2 * (2 ^ i * a + r / 2) + r % 2 := by
      rw [Nat.pow_succ, Nat.mul_right_comm]
      omega
    have ih := ones_split i a (r / 2) (by omega)
    have s := ones_step r
    have c : r % 2 = 0 ∨ r % 2 = 1 := by omega
    rcases c with c | c
    · rw [e, c, Nat.add_zero, ones_dbl, ih]; omega
    · rw [e, c, ones_dbl1, ih]; omega
theorem ones_pow (i : Nat) : ones (2 ^ i) = 1 := by
  have := ones_split i 1 0 (Nat.pow_pos (by decide))
  rw [Nat.mul_one, Nat.add_zero, ones_one, ones_zero] at this
  exact this
theorem ones_le (i n : Nat) (h : n < 2 ^ i) : ones n ≤ i := by
  induction i generalizing n with
  | zero => have : n = 0 := by simp at h; omega
            subst this; rw [ones_zero]; exact Nat.le_refl _
  | succ i ih =>
    rw [Nat.pow_succ] at h
    have := ih (n / 2) (by omega)
    rw [ones_step]
    omega
theorem ones_le_self (n : Nat) : ones n ≤ n := by
  induction n using Nat.strongRecOn with
  | ind n ih =>
    by_cases c : n = 0
    · subst c; rw [ones_zero]; exact Nat.le_refl _
    · have := ih (n / 2) (by omega)
      rw [ones_step]
      omega
theorem pk_ones : ∀ (i n b : Nat), (pk i n b).length = ones (n % 2 ^ i)
  | 0, n, b => by rw [Nat.pow_zero, Nat.mod_one, ones_zero]; rfl
  | i + 1, n, b => by
    rw [mod_succ]
    have ml := Nat.mod_lt n (Nat.pow_pos (a := 2) (n := i) (by decide))
    by_cases t : n.testBit i = true
    · show (if n.testBit i = true then (b, i) :: pk i n (b + 2 ^ i) else pk i n b).length = _
      rw [if_pos t, if_pos t, List.length_cons, pk_ones i n _]
      have := ones_split i 1 (n % 2 ^ i) ml
      rw [Nat.mul_one, ones_one] at this
      omega
    · show (if n.testBit i = true then (b, i) :: pk i n (b + 2 ^ i) else pk i n b).length = _
      rw [if_neg t, if_neg t, pk_ones i n _, Nat.zero_add]
end LT

namespace LT
open PySem PySem.Spec PyProof.Rows L2
theorem pk_at : ∀ (i m b : Nat) (x : Nat × Nat), x ∈ pk i m b → x.1 + 2 ^ x.2 ≤ b + m % 2 ^ i
  | 0, _, _, _, h => by simp [pk] at h
  | i + 1, m, b, x, h => by
    rw [mod_succ]
    unfold pk at h
    cases t : m.testBit i with
    | true =>
      rw [t] at h; simp at h
      rw [if_pos rfl]
      rcases h with h | h
      · subst h; simp only; omega
      · have := pk_at i m _ x h; omega
    | false =>
      rw [t] at h; simp at h
      have := pk_at i m b x h
      rw [if_neg (by decide)]
      omega
theorem sum_shr (n : Nat) : ∀ k, (((List.range k).map fun j => (n : Int) / 2 ^ j).sum : Int) = ((sumsh k n : Nat) : Int)
  | 0 => rfl
  | k + 1 => by
    rw [List.range_succ, List.map_append, List.sum_append, sum_shr n k]
    have e : (n : Int) / 2 ^ k = ((n / 2 ^ k : Nat) : Int) := by
      rw [← PySem.W.kbt_cast]
      exact (Int.natCast_ediv n (2 ^ k)).symm
    show ((sumsh k n : Nat) : Int) + ((n : Int) / 2 ^ k + 0) = ((sumsh k n + n / 2 ^ k : Nat) : Int)
    rw [e]
    omega
theorem full_is {n : Nat} (h30 : n ≤ 10 ^ 30) : sumsh 101 n + npk n = 2 * n := by
  have k := sumsh_is n 101
  rw [Nat.div_eq_of_lt (Nat.lt_of_le_of_lt h30 (by decide))] at k
  have : (pk 101 n 0).length = npk n := rfl
  omega
theorem hcount_nat {n k : Nat} (h : 1 ≤ n) (h30 : n ≤ 10 ^ 30) : hcount n (k : Int) = (n : Int) / 2 ^ k + ((bareB n k 101 : Nat) : Int) := by
  have e : (n : Int) / 2 ^ k = ((n / 2 ^ k : Nat) : Int) := by
    rw [← PySem.W.kbt_cast]
    exact (Int.natCast_ediv n (2 ^ k)).symm
  have hi := height_is (k := k) h (Nat.lt_of_le_of_lt h30 (by decide))
  have bn : Builtin.Int.intBits (n : Int) = n.log2 + 1 := by rw [bits_nat, if_neg (by omega)]
  unfold hcount
  rw [bn, e]
  by_cases big : k > n.log2 + 1
  · rw [if_pos (.inr (by omega))]
    have l2 := Nat.lt_log2_self (n := n)
    have p2 : 2 ^ (n.log2 + 1) ≤ 2 ^ k := Nat.pow_le_pow_right (by decide) (by omega)
    have p3 : 2 ^ (n.log2 + 1) ≤ 2 ^ (k - 1) := Nat.pow_le_pow_right (by decide) (by omega)
    rw [Nat.div_eq_of_lt (by omega)]
    unfold bareB
    rw [if_neg (fun z => ?_)]
    · rfl
    · have := Nat.testBit_lt_two_pow (x := n) (i := k - 1) (by omega)
      rw [this] at z
      exact absurd z.2.2.1 (by decide)
  · rw [if_neg (by omega)]
    by_cases k0 : k = 0
    · rw [if_pos k0] at hi
      rw [if_pos (by omega)]
      omega
    · rw [if_neg k0] at hi
      rw [if_neg (by omega)]
      have e1 : ((k : Int) - 1).toNat = k - 1 := by omega
      have e2 : (n : Int) - 1 = ((n - 1 : Nat) : Int) := by omega
      rw [e1, e2, ← PySem.W.kbt_cast, ← Int.natCast_ediv]
      omega
theorem tops_drop (n : Nat) : ((pk 101 n 0).map full).dropLast = (pk 101 n 0).dropLast.map full := by
  rw [List.map_dropLast]
end LT

namespace LT
open PySem PySem.Spec PyProof.Rows L2
/-- f 0 + .. + f (n - 1) -/
def sumR : Nat → (Nat → Nat) → Nat
  | 0, _ => 0
  | n + 1, f => sumR n f + f n
theorem sumR_congr {f g : Nat → Nat} : ∀ {n : Nat}, (∀ i, i < n → f i = g i) → sumR n f = sumR n g
  | 0, _ => rfl
  | n + 1, h => by
    show sumR n f + f n = sumR n g + g n
    rw [sumR_congr fun i hi => h i (by omega), h n (by omega)]
theorem sumR_add (f g : Nat → Nat) : ∀ n, sumR n (fun i => f i + g i) = sumR n f + sumR n g
  | 0 => rfl
  | n + 1 => by
    show sumR n (fun i => f i + g i) + (f n + g n) = sumR n f + f n + (sumR n g + g n)
    rw [sumR_add f g n]; omega
theorem sumR_const (c : Nat) : ∀ n, sumR n (fun _ => c) = n * c
  | 0 => (Nat.zero_mul c).symm
  | n + 1 => by
    show sumR n (fun _ => c) + c = (n + 1) * c
    rw [sumR_const c n, Nat.succ_mul]
theorem sumR_zero {f : Nat → Nat} {n : Nat} (h : ∀ i, i < n → f i = 0) : sumR n f = 0 := by rw [sumR_congr h, sumR_const, Nat.mul_zero]
theorem sumR_le {f g : Nat → Nat} : ∀ {n : Nat}, (∀ i, i < n → f i ≤ g i) → sumR n f ≤ sumR n g
  | 0, _ => Nat.le_refl _
  | n + 1, h => by
    show sumR n f + f n ≤ sumR n g + g n
    have := sumR_le (n := n) fun i hi => h i (by omega)
    have := h n (by omega)
    omega
theorem sumR_split (f : Nat → Nat) (m : Nat) : ∀ k, sumR (m + k) f = sumR m f + sumR k (fun i => f (m + i))
  | 0 => rfl
  | k + 1 => by
    show sumR (m + k) f + f (m + k) = sumR m f + (sumR k (fun i => f (m + i)) + f (m + k))
    rw [sumR_split f m k]; omega
theorem sumR_head (f : Nat → Nat) (n : Nat) : sumR (n + 1) f = f 0 + sumR n (fun i => f (i + 1)) := by
  have := sumR_split f 1 n
  rw [Nat.add_comm 1 n] at this
  rw [this]
  show 0 + f 0 + _ = _
  rw [Nat.zero_add]
  congr 1
  exact sumR_congr fun i _ => by rw [Nat.add_comm]
theorem sumR_rev (f : Nat → Nat) : ∀ n, sumR n f = sumR n (fun i => f (n - 1 - i))
  | 0 => rfl
  | n + 1 => by
    rw [sumR_head (fun i => f (n + 1 - 1 - i)) n]
    show sumR n f + f n = f (n + 1 - 1 - 0) + sumR n (fun i => f (n + 1 - 1 - (i + 1)))
    rw [sumR_rev f n, Nat.add_sub_cancel, Nat.sub_zero, Nat.add_comm]
    congr 1
    exact sumR_congr fun i hi => by rw [show n - 1 - i = n - (i + 1) by omega]
theorem sumR_swap (f : Nat → Nat → Nat) (m : Nat) : ∀ n, sumR n (fun i => sumR m (fun j => f i j)) = sumR m (fun j => sumR n (fun i => f i j))
  | 0 => (sumR_zero fun _ _ => rfl).symm
  | n + 1 => by
    show sumR n (fun i => sumR m (fun j => f i j)) + sumR m (fun j => f n j) = sumR m (fun j => sumR n (fun i => f i j) + f n j)
    rw [sumR_swap f m n, sumR_add]
theorem sumR_below (c : Nat) : ∀ m, sumR m (fun j => if j < c then 1 else 0) = min c m
  | 0 => by show 0 = min c 0; omega
  | m + 1 => by
    show sumR m (fun j => if j < c then 1 else 0) + (if m < c then 1 else 0) = min c (m + 1)
    rw [sumR_below c m]
    split <;> omega
/-- the sum of quotients -/
def fs (n a b d : Nat) : Nat := sumR n (fun i => (a + i * b) / d)
def tri (n : Nat) : Nat := n * (n - 1) / 2
theorem tri_step (n : Nat) : tri (n + 1) = tri n + n := by
  unfold tri
  rw [Nat.add_sub_cancel]
  cases n with
  | zero => rfl
  | succ k =>
    rw [Nat.add_sub_cancel]
    have e : (k + 1 + 1) * (k + 1) = (k + 1) * k + 2 * (k + 1) := by
      rw [Nat.mul_comm (k + 1) k, ← Nat.add_mul]
    rw [e, Nat.add_mul_div_left _ _ (by decide)]
theorem sumR_lin (a b : Nat) : ∀ n, sumR n (fun i => a + i * b) = n * a + tri n * b
  | 0 => by show 0 = 0 * a + 0 * b; omega
  | n + 1 => by
    show sumR n (fun i => a + i * b) + (a + n * b) = (n + 1) * a + tri (n + 1) * b
    rw [sumR_lin a b n, tri_step, Nat.add_mul, Nat.add_mul, Nat.one_mul]
    omega
/-- whole parts taken off -/
theorem fs_off {n a b d : Nat} (hd : 0 < d) : fs n a b d = tri n * (b / d) + n * (a / d) + fs n (a % d) (b % d) d := by
  have e : fs n a b d = sumR n (fun i => (a / d + i * (b / d)) + (a % d + i * (b % d)) / d) := sumR_congr fun i _ => by
    have h : a + i * b = d * (a / d + i * (b / d)) + (a % d + i * (b % d)) := by
      have h1 := Nat.div_add_mod a d
      have h2 := Nat.div_add_mod b d
      have h3 : i * b = i * (d * (b / d)) + i * (b % d) := by rw [← Nat.mul_add, h2]
      have h4 : d * (a / d + i * (b / d)) = d * (a / d) + i * (d * (b / d)) := by rw [Nat.mul_add, Nat.mul_left_comm]
      omega
    rw [h, Nat.mul_add_div hd]
  rw [e, sumR_add, sumR_lin]
  unfold fs
  omega
/-- counted along the other axis -/
theorem fs_turn {n a b d : Nat} (ha : a < d) (hb : b < d) : fs n a b d = fs ((b * n + a) / d) ((b * n + a) % d) d b := by
  have hd : 0 < d := by omega
  have hN := Nat.div_add_mod (b * n + a) d
  have hr := Nat.mod_lt (b * n + a) hd
  generalize (b * n + a) / d = n' at *
  generalize (b * n + a) % d = a' at *
  have c0 : d * n' = n' * d := Nat.mul_comm _ _
  have cb : b * n = n * b := Nat.mul_comm _ _
  have fle : ∀ i, i < n → (a + i * b) / d ≤ n' := fun i hi => by
    have h1 := Nat.mul_le_mul_right b (show i + 1 ≤ n from hi)
    rw [Nat.succ_mul] at h1
    rw [← Nat.lt_succ_iff, Nat.div_lt_iff_lt_mul hd, Nat.succ_mul]
    omega
  by_cases hn : n' = 0
  · subst hn
    show sumR n _ = sumR 0 _
    exact sumR_zero fun i hi => Nat.le_zero.mp (fle i hi)
  have b0 : 0 < b := by
    rcases Nat.eq_zero_or_pos b with z | z
    · subst z
      have := Nat.le_mul_of_pos_right d (Nat.pos_of_ne_zero hn)
      omega
    · exact z
  have gle : ∀ j, j < n' → (a' + j * d) / b ≤ n := fun j hj => by
    have h1 := Nat.mul_le_mul_right d (show j + 1 ≤ n' from hj)
    rw [Nat.succ_mul] at h1
    rw [← Nat.lt_succ_iff, Nat.div_lt_iff_lt_mul b0, Nat.succ_mul]
    omega
  have e1 : fs n a b d = sumR n (fun i => sumR n' (fun j => if j < (a + i * b) / d then 1 else 0)) := sumR_congr fun i hi => by
    rw [sumR_below, Nat.min_eq_left (fle i hi)]
  have e2 : fs n' a' d b = sumR n' (fun j => sumR n (fun i => if i < (a' + j * d) / b then 1 else 0)) := sumR_congr fun j hj => by
    rw [sumR_below, Nat.min_eq_left (gle j hj)]
  rw [e1, e2, sumR_rev, sumR_swap, sumR_rev]
  refine sumR_congr fun j hj => sumR_congr fun i hi => ?_
  have key : (n' - 1 - j < (a + (n - 1 - i) * b) / d) ↔ (i < (a' + j * d) / b) := by
    show (n' - 1 - j + 1 ≤ _) ↔ (i + 1 ≤ _)
    rw [Nat.le_div_iff_mul_le hd, Nat.le_div_iff_mul_le b0]
    have h1 : (n' - 1 - j + 1) * d + j * d = n' * d := by rw [← Nat.add_mul]; congr 1; omega
    have h2 : (n - 1 - i) * b + (i + 1) * b = n * b := by rw [← Nat.add_mul]; congr 1; omega
    omega
  by_cases k : i < (a' + j * d) / b
  · rw [if_pos k, if_pos (key.mpr k)]
  · rw [if_neg k, if_neg (fun z => k (key.mp z))]
/-- a number by its digits 1 and its quotients -/
theorem legendre : ∀ (j x : Nat), x < 2 ^ (j + 1) → x = ones x + sumR j (fun k => x / 2 ^ (k + 1))
  | 0, x, h => by
    have : x = 0 ∨ x = 1 := by simp at h; omega
    rcases this with rfl | rfl
    · rw [ones_zero]; rfl
    · rw [ones_one]; rfl
  | j + 1, x, h => by
    have ih := legendre j (x / 2) (by rw [Nat.pow_succ] at h; omega)
    have s := ones_step x
    have e : sumR (j + 1) (fun k => x / 2 ^ (k + 1)) = x / 2 + sumR j (fun k => x / 2 / 2 ^ (k + 1)) := by
      rw [sumR_head]
      congr 1
      exact sumR_congr fun k _ => by rw [Nat.div_div_eq_div_mul, Nat.pow_succ 2 (k + 1), Nat.mul_comm]
    rw [e]
    omega
theorem quots {n a b j : Nat} (h : ∀ i, i < n → a + i * b < 2 ^ (j + 1)) : n * a + tri n * b = sumR n (fun i => ones (a + i * b)) + sumR j (fun k => fs n a b (2 ^ (k + 1))) := by
  rw [← sumR_lin]
  have e : sumR n (fun i => a + i * b) = sumR n (fun i => ones (a + i * b) + sumR j (fun k => (a + i * b) / 2 ^ (k + 1))) := sumR_congr fun i hi => legendre j _ (h i hi)
  rw [e, sumR_add, sumR_swap]
  rfl
theorem less_one {n : Nat} {f : Nat → Nat} (h : ∀ i, i < n → 1 ≤ f i) : sumR n f = sumR n (fun i => f i - 1) + n := by
  have e : sumR n f = sumR n (fun i => (f i - 1) + 1) := sumR_congr fun i hi => by have := h i hi; omega
  rw [e, sumR_add, sumR_const, Nat.mul_one]
end LT

namespace LT
open PySem PySem.Spec PyProof.Rows L2
theorem npk_ones {n : Nat} (h : n ≤ 10 ^ 30) : (pk 101 n 0).length = ones n := by rw [pk_ones, Nat.mod_eq_of_lt (Nat.lt_of_le_of_lt h (by decide))]
section
variable {P : Program} {w : World} {K : PySem.W.Frag} {mg : Str → Option Value} {base : Heap}
def spRootSums : Sp := fun vs H Q _ => ∃ (n : Nat), vs = [.int n] ∧ 1 ≤ n ∧ n ≤ 10 ^ 30 ∧ ∀ (H' : Hp), Same H H' → Q (.int ((ones n - 1 : Nat) : Int)) H'
theorem ok_root_sums {f g1 : Addr} {fd d1 : FuncData} (F : Fun K "root_sums" "root_sums" sRootSums f fd) (GEdges : FnOk P w K mg base CX0 5 g1 d1 ["size"] spEdges) (AEdges : At K mg "edges" g1 d1 ["size"]) (z_len : mg "len" = none) : FnOk P w K mg base CX0 6 f fd ["size"] spRootSums := by
  refine F.ok scRootSums (fun vs H Q E h => ?_) (fun cdv A outer s H vs Q E hr h => ?_)
  · obtain ⟨_, rfl, _⟩ := h
    rfl
  obtain ⟨n, rfl, h1, h30, q⟩ := h
  refine ⟨_, (pss_one (ps_ret (pe_callB call_len_seq (by rfl) z_len PySem.boot_len (pa_cons (pe_call GEdges (hr.mono (by decide)) rfl AEdges.m AEdges.kp AEdges.b .nil pass0 (pa_cons (pv 0) pa_nil)) pa_nil)))), ?_⟩
  refine ⟨_, rfl, n, rfl, h1, h30, fun H1 p xs sm np hp hx => ⟨p, xs, rfl, .inl (SqL.of hp), ?_⟩⟩
  dsimp only
  rw [hx.len, List.length_map, List.length_dropLast, List.length_map, npk_ones h30]
  exact q H1 sm
end
end LT

namespace LT
open PySem PySem.Spec PyProof.Rows L2
section
variable {P : Program} {w : World} {K : PySem.W.Frag} {mg : Str → Option Value} {base : Heap}
def spNumberBetween : Sp := fun vs H Q _ => ∃ n l h : Int, vs = [.int n, .int l, .int h] ∧ l ≤ n ∧ n ≤ h ∧ Q .non H
theorem ok_check_number_between {f g : Addr} {fd gd : FuncData} (F : Fun K "check_number_between" "check_number_between" sCheckNumberBetween f fd) (GIsBetween : FnOk P w K mg base CX0 2 g gd ["value", "low", "high"] spBetween) (AIsBetween : At K mg "is_between" g gd ["value", "low", "high"]) : FnOk P w K mg base CX0 3 f fd ["number", "least", "most"] spNumberBetween := by
  refine F.ok scCheckNumberBetween (fun vs H Q E h => ?_) (fun cdv A outer s H vs Q E hr h => ?_)
  · obtain ⟨_, _, _, rfl, _⟩ := h
    rfl
  obtain ⟨n, l, h, rfl, h1, h2, q⟩ := h
  refine ⟨_, (pss_one (ps_if (pt_not (pt_val (pe_call GIsBetween (hr.mono (by decide)) rfl AIsBetween.m AIsBetween.kp AIsBetween.b .nil pass0 (pa_cons (pv 0) (pa_cons (pv 1) (pa_cons (pv 2) pa_nil))))))
    (pss_one ps_never)
    pss_nil)), ?_⟩
  refine ⟨_, rfl, _, rfl, _, rfl, n, l, h, rfl, _, rfl, ?_⟩
  rw [decide_eq_true h1, decide_eq_true h2]
  exact q
def spMade : Sp := fun vs H Q _ => ∃ (n : Nat), vs = [.int n] ∧ 1 ≤ n ∧ n ≤ 10 ^ 30 ∧ ∀ (H' : Hp), Same H H' → Q (.int ((n - ones n : Nat) : Int)) H'
theorem ok_made_sums {f g1 : Addr} {fd d1 : FuncData} (F : Fun K "_made_sums" "_made_sums" sMadeSums f fd) (GRootSums : FnOk P w K mg base CX0 6 g1 d1 ["size"] spRootSums) (ARootSums : At K mg "root_sums" g1 d1 ["size"]) : FnOk P w K mg base CX0 7 f fd ["size"] spMade := by
  refine F.ok scMadeSums (fun vs H Q E h => ?_) (fun cdv A outer s H vs Q E hr h => ?_)
  · obtain ⟨_, rfl, _⟩ := h
    rfl
  obtain ⟨n, rfl, n1, n30, q⟩ := h
  refine ⟨_, (pss_one (ps_ret (pe_op op_sub (pe_op op_sub (pv 0) (pe_call GRootSums (hr.mono (by decide)) rfl ARootSums.m ARootSums.kp ARootSums.b .nil pass0 (pa_cons (pv 0) pa_nil))) pe_int))), ?_⟩
  have o1 := ones_pos n1
  have o2 := ones_le_self n
  refine ⟨_, rfl, _, rfl, n, rfl, n1, n30, fun H1 s1 => ⟨_, _, rfl, rfl, _, _, rfl, rfl, ?_⟩⟩
  dsimp only
  rw [show (n : Int) - ((ones n - 1 : Nat) : Int) - 1 = ((n - ones n : Nat) : Int) by omega]
  exact q H1 s1
def spAppend : Sp := fun vs H Q _ => ∃ (n m : Nat), vs = [.int n, .int m] ∧ 1 ≤ n ∧ n + m ≤ 10 ^ 30 ∧ ∀ (H' : Hp), Same H H' → Q (.int ((m : Int) - ((ones (n + m) : Nat) : Int) + ((ones n : Nat) : Int))) H'
theorem ok_append_sums {f g1 g2 g3 : Addr} {fd d1 d2 d3 : FuncData} {t : Tok} (F : Fun K "append_sums" "append_sums" sAppendSums f fd) (GCheckSize : FnOk P w K mg base CX0 3 g1 d1 ["size"] spCheckSize) (ACheckSize : At K mg "check_size" g1 d1 ["size"])
    (GCheckNumberBetween : FnOk P w K mg base CX0 3 g2 d2 ["number", "least", "most"] spNumberBetween) (ACheckNumberBetween : At K mg "check_number_between" g2 d2 ["number", "least", "most"])
    (GMadeSums : FnOk P w K mg base CX0 7 g3 d3 ["size"] spMade) (AMadeSums : At K mg "_made_sums" g3 d3 ["size"]) (g_MOST_ENTRIES : mg "MOST_ENTRIES" = some (.int 1000000000000000000000000000000 t)) : FnOk P w K mg base CX0 8 f fd ["size", "number"] spAppend := by
  refine F.ok scAppendSums (fun vs H Q E h => ?_) (fun cdv A outer s H vs Q E hr h => ?_)
  · obtain ⟨_, _, rfl, _⟩ := h
    rfl
  obtain ⟨n, m, rfl, n1, n30, q⟩ := h
  refine ⟨_, (pss_cons (ps_expr (pe_call GCheckSize (hr.mono (by decide)) rfl ACheckSize.m ACheckSize.kp ACheckSize.b .nil pass0 (pa_cons (pv 0) pa_nil)))
    (pss_cons (ps_expr (pe_call GCheckNumberBetween (hr.mono (by decide)) rfl ACheckNumberBetween.m ACheckNumberBetween.kp ACheckNumberBetween.b .nil pass0 (pa_cons (pv 1) (pa_cons pe_int (pa_cons (pe_op op_sub (pe_glob (v := .int 1000000000000000000000000000000) rfl g_MOST_ENTRIES ⟨_, rfl⟩) (pv 0)) pa_nil)))))
    (pss_one (ps_ret (pe_op op_sub (pe_call GMadeSums (hr.mono (by decide)) rfl AMadeSums.m AMadeSums.kp AMadeSums.b .nil pass0 (pa_cons (pe_op op_add (pv 0) (pv 1)) pa_nil)) (pe_call GMadeSums (hr.mono (by decide)) rfl AMadeSums.m AMadeSums.kp AMadeSums.b .nil pass0 (pa_cons (pv 0) pa_nil))))))), ?_⟩
  refine ⟨_, rfl, _, rfl, by omega, by omega, ?_⟩
  refine ⟨_, rfl, _, rfl, _, _, rfl, rfl, _, _, _, rfl, by omega, by omega, ?_⟩
  have o1 := ones_le_self (n + m)
  have o2 := ones_le_self n
  refine ⟨_, rfl, _, rfl, _, _, rfl, rfl, n + m, rfl, by omega, by omega, fun H1 s1 => ⟨_, rfl, n, rfl, n1, by omega, fun H2 s2 => ⟨_, _, rfl, rfl, ?_⟩⟩⟩
  dsimp only
  rw [show ((n + m - ones (n + m) : Nat) : Int) - ((n - ones n : Nat) : Int) = (m : Int) - ((ones (n + m) : Nat) : Int) + ((ones n : Nat) : Int) by omega]
  exact q H2 (s1.trans s2)
end
end LT

namespace LT
open PySem PySem.Spec PyProof.Rows L2
section
variable {P : Program} {w : World} {K : PySem.W.Frag} {mg : Str → Option Value} {base : Heap}
def spSize : Sp := fun vs H Q _ => ∃ (b : Addr), vs = [.ref b] ∧ BagAt H b ∧ ∀ (n : Nat) (H' : Hp), 1 ≤ n → n ≤ 10 ^ 30 → But b H H' → BagAt H' b → Q (.int n) H'
theorem ok_law_size {f g1 : Addr} {fd d1 : FuncData} (F : Fun K "_law_size" "_law_size" sLawSize f fd) (GLawPick : FnOk P w K mg base CX0 1 g1 d1 ["bag", "many"] spPick) (ALawPick : At K mg "_law_pick" g1 d1 ["bag", "many"]) (z_max : mg "max" = none) (z_min : mg "min" = none) :
    FnOk P w K mg base CX0 2 f fd ["bag"] spSize := by
  refine F.ok scLawSize (fun vs H Q E h => ?_) (fun cdv A outer s H vs Q E hr h => ?_)
  · obtain ⟨_, rfl, _⟩ := h
    rfl
  obtain ⟨b, rfl, hb, q⟩ := h
  refine ⟨_, (pss_cons (ps_set (i := 1) scLawSize.nd rfl (Or.inl rfl) (pe_op op_add pe_int (pe_call GLawPick (hr.mono (by decide)) rfl ALawPick.m ALawPick.kp ALawPick.b .nil pass0 (pa_cons (pv 0) (pa_cons (pe_ix ix_list (pe_lst (pa_cons pe_int (pa_cons (pe_op op_pow pe_int pe_int) (pa_cons (pe_op op_pow pe_int pe_int) pa_nil)))) (pe_call GLawPick (hr.mono (by decide)) rfl ALawPick.m ALawPick.kp ALawPick.b .nil pass0 (pa_cons (pv 0) (pa_cons pe_int pa_nil))) (fun _ _ => rfl)) pa_nil)))))
    (pss_cons (ps_if (pt_cmpR op_eq (pe_call GLawPick (hr.mono (by decide)) rfl ALawPick.m ALawPick.kp ALawPick.b .nil pass0 (pa_cons (pv 0) (pa_cons pe_int pa_nil))) pe_int (nomark _))
    (pss_one (ps_set (i := 1) scLawSize.nd rfl (Or.inl rfl) (pe_op op_sub (pe_op op_add (pe_op op_shl pe_int (pe_call GLawPick (hr.mono (by decide)) rfl ALawPick.m ALawPick.kp ALawPick.b .nil pass0 (pa_cons (pv 0) (pa_cons pe_int pa_nil)))) (pe_call GLawPick (hr.mono (by decide)) rfl ALawPick.m ALawPick.kp ALawPick.b .nil pass0 (pa_cons (pv 0) (pa_cons pe_int pa_nil)))) pe_int)))
    pss_nil)
    (pss_one (ps_ret (pe_callB (call_min2 rfl) (by rfl) z_min (by decide +kernel) (pa_cons (pe_op op_pow pe_int pe_int) (pa_cons (pe_callB (call_max2 rfl) (by rfl) z_max (by decide +kernel) (pa_cons pe_int (pa_cons (pv 1) pa_nil))) pa_nil))))))), ?_⟩
  have hbN : ∃ o, H b = some o := by obtain ⟨x, y, z, e⟩ := hb; exact ⟨_, e⟩
  -- the first line
  refine ⟨_, rfl, _, _, rfl, rfl, ⟨by decide, by decide, by decide⟩, _, _, rfl, rfl, ⟨by decide, by decide, by decide⟩, (by show 3 ≤ sizeLine; decide), fun l nl => ?_⟩
  have s1 := same_upd (o := .lst [.int 40, .int (10 ^ (9 : Int).toNat), .int (10 ^ (30 : Int).toNat)]) nl
  have hlb : l ≠ b := fun e => by obtain ⟨o, e2⟩ := hbN; rw [← e, nl] at e2; cases e2
  refine ⟨_, rfl, b, 3, rfl, by decide, by decide, hb.same s1, fun r H2 r0 r1 k2 b2 => ?_⟩
  have h2l : H2 l = some (.lst [.int 40, .int (10 ^ (9 : Int).toNat), .int (10 ^ (30 : Int).toNat)]) := by rw [k2 l hlb]; exact upd_same
  have B2 : But b H H2 := fun a o n h => by rw [k2 a n]; exact s1 _ _ h
  obtain ⟨rn, rfl⟩ := Int.eq_ofNat_of_zero_le r0
  have hv : ∃ m : Int, atI [V.int 40, V.int (10 ^ (9 : Int).toNat), V.int (10 ^ (30 : Int).toNat)] (rn : Int) = some (.int m) ∧ 0 < m ∧ m ≤ 10 ^ 30 := by
    have : rn = 0 ∨ rn = 1 ∨ rn = 2 := by omega
    rcases this with h | h | h
    · subst h; exact ⟨40, atI_nat (j := 0) rfl, by decide, by decide⟩
    · subst h; exact ⟨_, atI_nat (j := 1) rfl, by decide, by decide⟩
    · subst h; exact ⟨_, atI_nat (j := 2) rfl, by decide, by decide⟩
  obtain ⟨m, hm, m0, m1⟩ := hv
  refine ⟨l, _, _, _, rfl, rfl, SqL.of h2l, hm, b, m, rfl, m0, (show m.natAbs < 2 ^ 250 by omega), b2, fun r3 H3 r30 r31 k3 b3 => ?_⟩
  have B3 : But b H H3 := fun a o n h => by rw [k3 a n]; exact B2 a o n h
  refine ⟨_, _, rfl, rfl, ?_⟩
  -- if _law_pick(bag, 3) == 0
  refine ⟨_, rfl, b, 3, rfl, by decide, by decide, b3, fun r4 H4 r40 r41 k4 b4 => ⟨rfl, _, rfl, ?_⟩⟩
  have B4 : But b H H4 := fun a o n h => by rw [k4 a n]; exact B3 a o n h
  have fin : ∀ (z : Int) (H5 : Hp), But b H H5 → BagAt H5 b → Q (.int (if (if z > 1 then z else 1) < 10 ^ (30 : Int).toNat then (if z > 1 then z else 1) else 10 ^ (30 : Int).toNat)) H5 := fun z H5 B5 b5 => by
    have e : (10 : Int) ^ (30 : Int).toNat = 10 ^ 30 := rfl
    rw [e]
    have z1 : 1 ≤ (if z > 1 then z else 1) := by split <;> omega
    generalize (if z > 1 then z else 1) = y at z1
    have y1 : 1 ≤ (if y < 10 ^ 30 then y else 10 ^ 30) ∧ (if y < 10 ^ 30 then y else 10 ^ 30) ≤ 10 ^ 30 := by split <;> omega
    generalize (if y < 10 ^ 30 then y else 10 ^ 30) = u at y1
    obtain ⟨un, rfl⟩ := Int.eq_ofNat_of_zero_le (show 0 ≤ u by omega)
    exact q un H5 (by omega) (by omega) B5 b5
  refine ite2 (fun c => ?_) (fun c => ?_)
  · refine ⟨_, rfl, b, 100, rfl, by decide, by decide, b4, fun r5 H5 r50 r51 k5 b5 => ⟨_, _, rfl, rfl, ⟨r50, by omega, by decide⟩, _, rfl, b, 3, rfl, by decide, by decide, b5, fun r6 H6 r60 r61 k6 b6 => ⟨_, _, rfl, rfl, _, _, rfl, rfl, ?_⟩⟩⟩
    have B6 : But b H H6 := fun a o n h => by rw [k6 a n, k5 a n]; exact B4 a o n h
    exact ⟨_, _, rfl, rfl, ⟨by decide, by decide, by decide⟩, _, rfl, _, _, rfl, _, _, rfl, fin _ H6 B6 b6⟩
  · exact ⟨_, _, rfl, rfl, ⟨by decide, by decide, by decide⟩, _, rfl, _, _, rfl, _, _, rfl, fin _ H4 B4 b4⟩
end
end LT

namespace LT
open PySem PySem.Spec PyProof.Rows L2
theorem sumR_two (f g : Nat → Nat) : ∀ k, sumR k (fun j => f j + g j) = sumR k f + sumR k g
  | 0 => rfl
  | k + 1 => by
    show sumR k (fun j => f j + g j) + (f k + g k) = (sumR k f + f k) + (sumR k g + g k)
    rw [sumR_two f g k]
    omega
theorem sumR_ite (i c : Nat) : ∀ k, sumR k (fun j => if j < i then c else 0) = min k i * c
  | 0 => by rw [Nat.zero_min, Nat.zero_mul]; rfl
  | k + 1 => by
    show sumR k (fun j => if j < i then c else 0) + (if k < i then c else 0) = _
    rw [sumR_ite i c k]
    by_cases h : k < i
    · rw [if_pos h, Nat.min_eq_left (by omega), Nat.min_eq_left (by omega), Nat.succ_mul]
    · rw [if_neg h, Nat.min_eq_right (by omega), Nat.min_eq_right (by omega), Nat.add_zero]
/-- what lies within the nodes of each height but leaves -/
def DD (m : Nat) : Nat := sumR 100 (fun j => m - m % 2 ^ (j + 1))
theorem DD_zero : DD 0 = 0 := by
  unfold DD
  have : sumR 100 (fun j => 0 - 0 % 2 ^ (j + 1)) = sumR 100 (fun j => if j < 0 then 0 else 0) := sumR_congr fun j _ => by rw [Nat.zero_sub, if_neg (by omega)]
  rw [this, sumR_ite, Nat.mul_zero]
theorem DD_more {i r : Nat} (hi : i ≤ 100) (hr : r < 2 ^ i) : DD (2 ^ i + r) = i * 2 ^ i + DD r := by
  unfold DD
  have e : sumR 100 (fun j => 2 ^ i + r - (2 ^ i + r) % 2 ^ (j + 1)) = sumR 100 (fun j => (if j < i then 2 ^ i else 0) + (r - r % 2 ^ (j + 1))) := sumR_congr fun j _ => by
    by_cases h : j < i
    · rw [if_pos h]
      obtain ⟨q, hq⟩ := Nat.pow_dvd_pow 2 (show j + 1 ≤ i by omega)
      have e1 : (2 ^ i + r) % 2 ^ (j + 1) = r % 2 ^ (j + 1) := by
        rw [hq, Nat.add_comm, Nat.add_mul_mod_self_left]
      rw [e1]
      have := Nat.mod_le r (2 ^ (j + 1))
      omega
    · rw [if_neg h]
      have p1 : 2 ^ (i + 1) ≤ 2 ^ (j + 1) := Nat.pow_le_pow_right (by decide) (by omega)
      rw [Nat.pow_succ] at p1
      rw [Nat.mod_eq_of_lt (by omega), Nat.mod_eq_of_lt (by omega)]
      omega
  rw [e, sumR_two, sumR_ite, Nat.min_eq_right hi]
theorem total_is (n : Nat) : ∀ (i b s t N : Nat), i ≤ 101 → b + n % 2 ^ i = N → t = s + (pk i n b).length →
    total 0 N (lev t s (pk i n b)) = DD (n % 2 ^ i) + s * (n % 2 ^ i) + ((pk i n b).dropLast.map fun x => N - x.1).sum
  | 0, b, s, t, N, _, hN, ht => by
    rw [Nat.pow_zero, Nat.mod_one, DD_zero, Nat.mul_zero]
    rfl
  | i + 1, b, s, t, N, hi, hN, ht => by
    have ms := mod_succ n i
    have lt := Nat.mod_lt n (Nat.pow_pos (a := 2) (n := i) (by decide))
    have ek : pk (i + 1) n b = if n.testBit i then (b, i) :: pk i n (b + 2 ^ i) else pk i n b := rfl
    rw [ek] at ht ⊢
    by_cases h : n.testBit i = true
    · rw [if_pos h] at ht ms ⊢
      have ih := total_is n i (b + 2 ^ i) (s + 1) t N (by omega) (by omega) (by rw [ht, List.length_cons]; omega)
      show total 0 N ((b, b + 2 ^ i, i + min (s + 1) (t - 1)) :: lev t (s + 1) (pk i n (b + 2 ^ i))) = _
      rw [total_cons, ih, ms, DD_more (by omega) lt]
      simp only
      rw [Nat.min_eq_right (show b + 2 ^ i ≤ N by omega), Nat.max_eq_right (Nat.zero_le b), Nat.add_sub_cancel_left]
      rw [List.length_cons] at ht
      cases hr : pk i n (b + 2 ^ i) with
      | nil =>
        have z : n % 2 ^ i = 0 := by
          rcases Nat.eq_zero_or_pos (n % 2 ^ i) with z | z
          · exact z
          · exact absurd hr (pk_ne i n (b + 2 ^ i) (by omega))
        rw [hr] at ht
        have : min (s + 1) (t - 1) = s := by simp at ht; omega
        rw [this, z]
        have e2 : 2 ^ i * (i + s) = i * 2 ^ i + s * 2 ^ i := by rw [Nat.mul_comm, Nat.add_mul]
        have e4 : s * (2 ^ i + 0) = s * 2 ^ i := by rw [Nat.add_zero]
        rw [e2, e4, DD_zero, Nat.mul_zero]
        show i * 2 ^ i + s * 2 ^ i + (0 + 0 + 0) = i * 2 ^ i + 0 + s * 2 ^ i + 0
        omega
      | cons y r =>
        rw [hr, List.length_cons] at ht
        have : min (s + 1) (t - 1) = s + 1 := by omega
        rw [this, List.dropLast_cons₂, List.map_cons, List.sum_cons]
        simp only
        have e1 : N - b = 2 ^ i + n % 2 ^ i := by omega
        rw [e1]
        have e2 : 2 ^ i * (i + (s + 1)) = i * 2 ^ i + s * 2 ^ i + 2 ^ i := by rw [Nat.mul_comm, Nat.add_mul, Nat.add_mul, Nat.one_mul]; omega
        have e3 : (s + 1) * (n % 2 ^ i) = s * (n % 2 ^ i) + n % 2 ^ i := Nat.succ_mul _ _
        have e4 : s * (2 ^ i + n % 2 ^ i) = s * 2 ^ i + s * (n % 2 ^ i) := Nat.mul_add _ _ _
        rw [e2, e3, e4]
        omega
    · rw [if_neg h] at ht ms ⊢
      rw [ms, Nat.zero_add]
      exact total_is n i b s t N (by omega) (by omega) ht
/-- all depths -/
theorem depths_all {n : Nat} (h30 : n ≤ 10 ^ 30) : total 0 n (lev (pk 101 n 0).length 0 (pk 101 n 0)) = DD n + ((pk 101 n 0).dropLast.map fun x => n - x.1).sum := by
  have lt : n % 2 ^ 101 = n := Nat.mod_eq_of_lt (Nat.lt_of_le_of_lt h30 (by decide))
  have := total_is n 101 0 0 (pk 101 n 0).length n (Nat.le_refl _) (by rw [lt, Nat.zero_add]) (by rw [Nat.zero_add])
  rw [lt, Nat.zero_mul, Nat.add_zero] at this
  exact this
/-- every row is within the log -/
theorem row_in {n : Nat} (h30 : n ≤ 10 ^ 30) {x : Nat × Nat × Nat} (h : x ∈ lev (pk 101 n 0).length 0 (pk 101 n 0)) : x.1 < x.2.1 ∧ x.2.1 ≤ n := by
  refine ⟨rows_lt n x h, ?_⟩
  have gen : ∀ (l : List (Nat × Nat)) (t s : Nat) (x : Nat × Nat × Nat), x ∈ lev t s l → ∃ y ∈ l, x.2.1 = y.1 + 2 ^ y.2 := by
    intro l
    induction l with
    | nil => intro t s x h; cases h
    | cons y l ih =>
      intro t s x h
      rcases List.mem_cons.mp h with rfl | h
      · exact ⟨y, List.mem_cons_self, rfl⟩
      · obtain ⟨z, hz, e⟩ := ih t (s + 1) x h
        exact ⟨z, List.mem_cons_of_mem _ hz, e⟩
  obtain ⟨y, hy, e⟩ := gen _ _ _ x h
  have := pk_at 101 n 0 y hy
  rw [Nat.mod_eq_of_lt (Nat.lt_of_le_of_lt h30 (by decide)), Nat.zero_add] at this
  omega
theorem row_db {n : Nat} (h30 : n ≤ 10 ^ 30) {x : Nat × Nat × Nat} (h : x ∈ lev (pk 101 n 0).length 0 (pk 101 n 0)) : ∃ z ∈ db 0 n (lev (pk 101 n 0).length 0 (pk 101 n 0)), z.2 = x.2.2 := by
  obtain ⟨a, b⟩ := row_in h30 h
  exact ⟨_, List.mem_map.mpr ⟨x, List.mem_filter.mpr ⟨h, decide_eq_true (by omega)⟩, rfl⟩, rfl⟩
theorem db_row {n : Nat} {z : Nat × Nat} (h : z ∈ db 0 n (lev (pk 101 n 0).length 0 (pk 101 n 0))) : ∃ x ∈ lev (pk 101 n 0).length 0 (pk 101 n 0), z.2 = x.2.2 := by
  obtain ⟨x, hx, e⟩ := List.mem_map.mp h
  exact ⟨x, (List.mem_filter.mp hx).1, by rw [← e]⟩
/-- the row of an entry -/
theorem row_of {n e : Nat} (h30 : n ≤ 10 ^ 30) (he : e < n) : ∃ x ∈ lev (pk 101 n 0).length 0 (pk 101 n 0), x.2.2 = (sib 0 n e).length := by
  have d := rows_due h30 e he
  have m : (sib 0 n e).length ∈ due e (lev (pk 101 n 0).length 0 (pk 101 n 0)) := by rw [d]; exact List.mem_singleton.mpr rfl
  obtain ⟨x, hx, ex⟩ := List.mem_map.mp m
  exact ⟨x, (List.mem_filter.mp hx).1, ex⟩
theorem row_deep {n : Nat} (h30 : n ≤ 10 ^ 30) {x : Nat × Nat × Nat} (h : x ∈ lev (pk 101 n 0).length 0 (pk 101 n 0)) : x.1 < n ∧ (sib 0 n x.1).length = x.2.2 := by
  obtain ⟨a, b⟩ := row_in h30 h
  have d := rows_due h30 x.1 (by omega)
  have m : x.2.2 ∈ due x.1 (lev (pk 101 n 0).length 0 (pk 101 n 0)) := List.mem_map.mpr ⟨x, List.mem_filter.mpr ⟨h, by rw [Bool.and_eq_true]; exact ⟨decide_eq_true (Nat.le_refl _), decide_eq_true a⟩⟩, rfl⟩
  rw [d] at m
  exact ⟨by omega, (List.mem_singleton.mp m).symm⟩
theorem first_some {k : Nat} : ∀ {T : List (Nat × Nat × Nat)}, (∃ x ∈ T, x.2.2 = k) → ∃ x ∈ T, x.2.2 = k ∧ firstOf (k : Int) T = .int (x.1 : Int)
  | [], ⟨x, h, _⟩ => nomatch h
  | y :: T, ⟨x, h, e⟩ => by
    show ∃ x ∈ y :: T, x.2.2 = k ∧ (if (y.2.2 : Int) = (k : Int) then V.int (y.1 : Int) else firstOf (k : Int) T) = .int (x.1 : Int)
    by_cases c : (y.2.2 : Int) = (k : Int)
    · rw [if_pos c]; exact ⟨y, List.mem_cons_self, by omega, rfl⟩
    · rw [if_neg c]
      rcases List.mem_cons.mp h with rfl | h
      · exact absurd (by omega) c
      · obtain ⟨z, h1, h2, h3⟩ := first_some (T := T) ⟨x, h, e⟩
        exact ⟨z, List.mem_cons_of_mem _ h1, h2, h3⟩
theorem first_none {k : Int} : ∀ {T : List (Nat × Nat × Nat)}, (∀ x ∈ T, (x.2.2 : Int) ≠ k) → firstOf k T = .non
  | [], _ => rfl
  | y :: T, h => by
    show (if (y.2.2 : Int) = k then V.int (y.1 : Int) else firstOf k T) = .non
    rw [if_neg (h y List.mem_cons_self)]
    exact first_none fun x hx => h x (List.mem_cons_of_mem _ hx)
/-- the peak of an entry is no higher than the entry is deep -/
theorem peak_deep (e t : Nat) : ∀ (l : List (Nat × Nat)) (s : Nat) (d : Nat), due e (lev t s l) = [d] → ∃ x, (l.filter fun x => decide (x.1 ≤ e) && decide (e < x.1 + 2 ^ x.2)) = [x] ∧ x.2 ≤ d
  | [], s, d, h => by cases h
  | x :: l, s, d, h => by
    have h : (((x.1, x.1 + 2 ^ x.2, x.2 + min (s + 1) (t - 1)) :: lev t (s + 1) l).filter fun x => decide (x.1 ≤ e) && decide (e < x.2.1)).map (fun x => x.2.2) = [d] := h
    rw [List.filter_cons] at h ⊢
    cases c : (decide (x.1 ≤ e) && decide (e < x.1 + 2 ^ x.2)) with
    | true =>
      simp only [c, if_true, List.map_cons] at h ⊢
      injection h with h1 h2
      refine ⟨x, ?_, by omega⟩
      congr 1
      have z : ∀ (l : List (Nat × Nat)) (s : Nat), ((lev t s l).filter fun x => decide (x.1 ≤ e) && decide (e < x.2.1)).map (fun x => x.2.2) = [] → (l.filter fun x => decide (x.1 ≤ e) && decide (e < x.1 + 2 ^ x.2)) = [] := by
        intro l
        induction l with
        | nil => intro s _; rfl
        | cons y l ih =>
          intro s hz
          have hz : (((y.1, y.1 + 2 ^ y.2, y.2 + min (s + 1) (t - 1)) :: lev t (s + 1) l).filter fun x => decide (x.1 ≤ e) && decide (e < x.2.1)).map (fun x => x.2.2) = [] := hz
          rw [List.filter_cons] at hz ⊢
          cases c2 : (decide (y.1 ≤ e) && decide (e < y.1 + 2 ^ y.2)) with
          | true => simp only [c2, if_true, List.map_cons] at hz; cases hz
          | false =>
            simp only [c2, Bool.false_eq_true, if_false] at hz ⊢
            exact ih (s + 1) hz
      exact z l (s + 1) h2
    | false =>
      simp only [c, Bool.false_eq_true, if_false] at h ⊢
      exact peak_deep e t l (s + 1) d h
/-- the nodes of all heights -/
theorem heights_all {n : Nat} (h : 1 ≤ n) (h30 : n ≤ 10 ^ 30) : ((List.range 102).map fun k => hcount n ((k : Nat) : Int)).sum = 2 * (n : Int) - 1 := by
  have e : ∀ k : Nat, hcount n ((k : Nat) : Int) = (if k = 0 then (n : Int) else ((((n - 1) / 2 ^ (k - 1) : Nat) : Int) - (((n - 1) / 2 ^ k : Nat) : Int))) := fun k => by
    rw [hcount_nat h h30]
    have g := height_is (k := k) h (Nat.lt_of_le_of_lt h30 (by decide))
    have c1 : (n : Int) / 2 ^ k + ((bareB n k 101 : Nat) : Int) = ((n / 2 ^ k + bareB n k 101 : Nat) : Int) := by
      rw [Int.natCast_add, Int.natCast_ediv, Int.natCast_pow]
      rfl
    rw [c1, ← g]
    by_cases k0 : k = 0
    · rw [if_pos k0, if_pos k0]
    · rw [if_neg k0, if_neg k0]
      have e2 : (n - 1) / 2 ^ k = (n - 1) / 2 ^ (k - 1) / 2 := by
        obtain ⟨j, rfl⟩ : ∃ j, k = j + 1 := ⟨k - 1, by omega⟩
        rw [Nat.pow_succ, ← Nat.div_div_eq_div_mul, Nat.add_sub_cancel]
      rw [e2]
      omega
  have s : ∀ k : Nat, ((List.range (k + 1)).map fun k => hcount n ((k : Nat) : Int)).sum = (n : Int) + ((n : Int) - 1) - (((n - 1) / 2 ^ k : Nat) : Int) := by
    intro k
    induction k with
    | zero =>
      show hcount n ((0 : Nat) : Int) + 0 = _
      rw [e 0, if_pos rfl, Nat.pow_zero, Nat.div_one]
      omega
    | succ k ih =>
      rw [List.range_succ, List.map_append, List.sum_append, ih]
      show _ + (hcount n ((k + 1 : Nat) : Int) + 0) = _
      rw [e (k + 1), if_neg (by omega), Nat.add_sub_cancel]
      omega
  rw [s 101, Nat.div_eq_of_lt (Nat.lt_of_le_of_lt (show n - 1 ≤ 10 ^ 30 by omega) (by decide))]
  omega
end LT

namespace LT
open PySem PySem.Spec PyProof.Rows L2
theorem ne_no {x y : V} (h : x = y) : V.bl (!decide (x = y)) = V.bl false := by rw [decide_eq_true h]; rfl
theorem sorted_two {a b : Int} {ns : List Int} (p : ns.Perm [a, b]) (s : ns.Pairwise (· ≤ ·)) : ns = [min a b, max a b] := by
  refine List.Perm.eq_of_pairwise (le := fun x y => x ≤ y) (fun x y _ _ h1 h2 => Int.le_antisymm h1 h2) s ?_ (p.trans ?_)
  · simp only [List.pairwise_cons, List.mem_singleton, List.not_mem_nil, false_implies, implies_true, List.Pairwise.nil, and_true]
    rintro x rfl
    omega
  · by_cases h : a ≤ b
    · rw [show min a b = a by omega, show max a b = b by omega]
    · rw [show min a b = b by omega, show max a b = a by omega]
      exact List.Perm.swap _ _ _
theorem sumI (f : Nat → Nat) (k : Nat) : ((List.range k).map fun j => ((f j : Nat) : Int)).sum = ((sumR k f : Nat) : Int) := by
  induction k with
  | zero => rfl
  | succ k ih =>
    rw [List.range_succ, List.map_append, List.sum_append, ih]
    show _ + (((f k : Nat) : Int) + 0) = ((sumR k f + f k : Nat) : Int)
    omega
section
variable {P : Program} {w : World} {K : PySem.W.Frag} {mg : Str → Option Value} {base : Heap}
def spRight : Sp := fun vs H Q _ => ∃ (b : Addr), vs = [.ref b] ∧ BagAt H b ∧ ∀ (H' : Hp), But b H H' → BagAt H' b → Q (.bl true) H'
theorem ok_law_right {f g1 g2 g3 g4 g5 g6 g7 g8 g9 g10 g11 g12 g13 : Addr} {fd d1 d2 d3 d4 d5 d6 d7 d8 d9 d10 d11 d12 d13 : FuncData} (F : Fun K "_law_right" "_law_right" sLawRight f fd)
    (GLawSize : FnOk P w K mg base CX0 2 g1 d1 ["bag"] spSize) (ALawSize : At K mg "_law_size" g1 d1 ["bag"])
    (GLawPick : FnOk P w K mg base CX0 1 g2 d2 ["bag", "many"] spPick) (ALawPick : At K mg "_law_pick" g2 d2 ["bag", "many"])
    (GNodeCount : FnOk P w K mg base CX0 6 g3 d3 ["size"] spNodeCount) (ANodeCount : At K mg "node_count" g3 d3 ["size"])
    (GHeightCount : FnOk P w K mg base CX0 4 g4 d4 ["size", "number"] spHeights) (AHeightCount : At K mg "height_count" g4 d4 ["size", "number"])
    (GEdges : FnOk P w K mg base CX0 5 g5 d5 ["size"] spEdges) (AEdges : At K mg "edges" g5 d5 ["size"])
    (GRootSums : FnOk P w K mg base CX0 6 g6 d6 ["size"] spRootSums) (ARootSums : At K mg "root_sums" g6 d6 ["size"])
    (GDepthSum : FnOk P w K mg base CX0 7 g7 d7 ["size", "begin", "end"] spDepthSum) (ADepthSum : At K mg "depth_sum" g7 d7 ["size", "begin", "end"])
    (GAppendSums : FnOk P w K mg base CX0 8 g8 d8 ["size", "number"] spAppend) (AAppendSums : At K mg "append_sums" g8 d8 ["size", "number"])
    (GCommonCount : FnOk P w K mg base CX0 7 g9 d9 ["size", "other"] spCommon) (ACommonCount : At K mg "common_count" g9 d9 ["size", "other"])
    (GDepthRange : FnOk P w K mg base CX0 7 g10 d10 ["size", "begin", "end"] spDepthRange) (ADepthRange : At K mg "depth_range" g10 d10 ["size", "begin", "end"])
    (GFirstOfDepth : FnOk P w K mg base CX0 6 g11 d11 ["size", "number"] spFirst) (AFirstOfDepth : At K mg "first_of_depth" g11 d11 ["size", "number"])
    (GDepth : FnOk P w K mg base CX0 7 g12 d12 ["size", "entry"] spDepth) (ADepth : At K mg "depth" g12 d12 ["size", "entry"])
    (GPeaks : FnOk P w K mg base CX0 4 g13 d13 ["size"] spTops) (APeaks : At K mg "peaks" g13 d13 ["size"])
    (z_range : mg "range" = none) (z_sum : mg "sum" = none) (z_sorted : mg "sorted" = none) (z_len : mg "len" = none) : FnOk P w K mg base CX0 9 f fd ["bag"] spRight := by
  refine F.ok scLawRight (fun vs H Q E h => ?_) (fun cdv A outer s H vs Q E hr h => ?_)
  · obtain ⟨_, rfl, _⟩ := h
    rfl
  obtain ⟨b, rfl, hb, q⟩ := h
  refine ⟨_, (pss_cons (ps_asg (pe_callB cr_sorted (by rfl) z_sorted (by decide +kernel) (pa_cons (pe_lst (pa_cons (pe_call GLawSize (hr.mono (by decide)) rfl ALawSize.m ALawSize.kp ALawSize.b .nil pass0 (pa_cons (pv 0) pa_nil)) (pa_cons (pe_call GLawSize (hr.mono (by decide)) rfl ALawSize.m ALawSize.kp ALawSize.b .nil pass0 (pa_cons (pv 0) pa_nil)) pa_nil))) pa_nil)) (pg_unl (by rfl) (pgs_cons (pg_name (i := 1) scLawRight.nd rfl (Or.inr rfl)) (pgs_cons (pg_name (i := 2) scLawRight.nd rfl (Or.inl rfl)) pgs_nil))))
    (pss_cons (ps_asg (pe_call GNodeCount (hr.mono (by decide)) rfl ANodeCount.m ANodeCount.kp ANodeCount.b .nil pass0 (pa_cons (pv 1) pa_nil)) (pg_tup (by rfl) (pgs_cons (pg_name (i := 3) scLawRight.nd rfl (Or.inl rfl)) (pgs_cons (pg_name (i := 4) scLawRight.nd rfl (Or.inl rfl)) pgs_nil))))
    (pss_cons (ps_setLc (i := 5) (own := [("h", 13)]) rfl scLawRight.nd rfl rfl (sw_true rfl rfl rfl (by decide +kernel)) (pi_range1 (by rfl) z_range (pa_cons pe_int pa_nil)) (blkOk_by (N := ["bag", "size", "other", "full", "bare", "heights", "due", "least", "greatest_depth", "number", "entry", "ours", "told", "h", "begin", "end"]) (sc := defScope sLawRight) (by decide +kernel)) (fun _ _ _ _ _ => (pg_name (i := 13) scLawRight.nd rfl (Or.inl rfl))) (fun _ _ _ _ _ => pts_nil) (fun _ _ _ _ _ => (pe_call GHeightCount (hr.mono (by decide)) rfl AHeightCount.m AHeightCount.kp AHeightCount.b .nil pass0 (pa_cons (pv 1) (pa_cons (pv 13) pa_nil)))))
    (pss_cons (ps_if (PW.pt (pw_or (pt_cmpR op_ne (pv 4) (pe_callB call_len_seq (by rfl) z_len PySem.boot_len (pa_cons (pe_call GEdges (hr.mono (by decide)) rfl AEdges.m AEdges.kp AEdges.b .nil pass0 (pa_cons (pv 1) pa_nil)) pa_nil)) (nomark _)) (pw_or (pt_cmpR op_ne (pe_call GRootSums (hr.mono (by decide)) rfl ARootSums.m ARootSums.kp ARootSums.b .nil pass0 (pa_cons (pv 1) pa_nil)) (pv 4) (nomark _)) (pw_or1 (pt_cmpR op_ne (pe_callB (cr_sum rfl) (by rfl) z_sum (by decide +kernel) (pa_cons (pv 5) pa_nil)) (pe_op op_add (pv 3) (pv 4)) (nomark _))))))
    (pss_one (ps_ret pe_bl))
    pss_nil)
    (pss_cons (ps_set (i := 6) scLawRight.nd rfl (Or.inl rfl) (pe_op op_add (pe_callB (cr_sum rfl) (by rfl) z_sum (by decide +kernel) (pa_cons (pe_lc (own := [("h", 13)]) rfl scLawRight.nd (pi_range2 (by rfl) z_range (pa_cons pe_int (pa_cons pe_int pa_nil))) (blkOk_by (N := ["bag", "size", "other", "full", "bare", "heights", "due", "least", "greatest_depth", "number", "entry", "ours", "told", "h", "begin", "end"]) (sc := defScope sLawRight) (by decide +kernel)) (fun _ _ _ _ _ => (pg_name (i := 13) scLawRight.nd rfl (Or.inl rfl))) (fun _ _ _ _ _ => pts_nil) (fun _ _ _ _ _ => (pe_op op_shlW (pe_op op_shr (pv 1) (pv 13)) (pv 13)))) pa_nil)) (pe_callB (cr_sum rfl) (by rfl) z_sum (by decide +kernel) (pa_cons (pe_lc (own := [("begin", 14), ("end", 15)]) rfl scLawRight.nd (pi_list (pe_call GEdges (hr.mono (by decide)) rfl AEdges.m AEdges.kp AEdges.b .nil pass0 (pa_cons (pv 1) pa_nil))) (blkOk_by (N := ["bag", "size", "other", "full", "bare", "heights", "due", "least", "greatest_depth", "number", "entry", "ours", "told", "h", "begin", "end"]) (sc := defScope sLawRight) (by decide +kernel)) (fun _ _ _ _ _ => (pg_tupB (n := 2) rfl (pgs_cons (pg_name (i := 14) scLawRight.nd rfl (Or.inl rfl)) (pgs_cons (pg_name (i := 15) scLawRight.nd rfl (Or.inl rfl)) pgs_nil)))) (fun _ _ _ _ _ => pts_nil) (fun _ _ _ _ _ => (pe_op op_sub (pv 15) (pv 14)))) pa_nil))))
    (pss_cons (ps_if (pt_cmpR op_ne (pe_call GDepthSum (hr.mono (by decide)) rfl ADepthSum.m ADepthSum.kp ADepthSum.b .nil pass0 (pa_cons (pv 1) (pa_cons pe_int (pa_cons (pv 1) pa_nil)))) (pv 6) (nomark _))
    (pss_one (ps_ret pe_bl))
    pss_nil)
    (pss_cons (ps_if (pt_cmpR op_ne (pe_call GAppendSums (hr.mono (by decide)) rfl AAppendSums.m AAppendSums.kp AAppendSums.b .nil pass0 (pa_cons (pv 1) (pa_cons (pe_op op_sub (pv 2) (pv 1)) pa_nil))) (pe_op op_sub (pe_op op_sub (pe_ix ix_tup (pe_call GNodeCount (hr.mono (by decide)) rfl ANodeCount.m ANodeCount.kp ANodeCount.b .nil pass0 (pa_cons (pv 2) pa_nil)) pe_int (fun _ _ => rfl)) (pv 3)) (pe_op op_sub (pv 2) (pv 1))) (nomark _))
    (pss_one (ps_ret pe_bl))
    pss_nil)
    (pss_cons (ps_if (pt_cmpR op_ne (pe_call GCommonCount (hr.mono (by decide)) rfl ACommonCount.m ACommonCount.kp ACommonCount.b .nil pass0 (pa_cons (pv 1) (pa_cons (pv 2) pa_nil))) (pe_ifExp (pt_cmpR op_eq (pv 1) (pv 2) (nomark _)) (pe_op op_add (pv 3) (pv 4)) (pv 3)) (nomark _))
    (pss_one (ps_ret pe_bl))
    pss_nil)
    (pss_cons (ps_asg (pe_call GDepthRange (hr.mono (by decide)) rfl ADepthRange.m ADepthRange.kp ADepthRange.b .nil pass0 (pa_cons (pv 1) (pa_cons pe_int (pa_cons (pv 1) pa_nil)))) (pg_tup (by rfl) (pgs_cons (pg_name (i := 7) scLawRight.nd rfl (Or.inl rfl)) (pgs_cons (pg_name (i := 8) scLawRight.nd rfl (Or.inl rfl)) pgs_nil))))
    (pss_cons (ps_for PassesOwn.never rfl (pi_tup (pe_tup (pa_cons (pv 7) (pa_cons (pv 8) pa_nil)))) (pg_name (i := 9) scLawRight.nd rfl (Or.inl rfl))
    (pss_cons (ps_set (i := 10) scLawRight.nd rfl (Or.inr rfl) (pe_call GFirstOfDepth (hr.mono (by decide)) rfl AFirstOfDepth.m AFirstOfDepth.kp AFirstOfDepth.b .nil pass0 (pa_cons (pv 1) (pa_cons (pv 9) pa_nil))))
    (pss_one (ps_if (PW.pt (pw_or (pt_cmpR op_isN (pv 10) pe_non (nomark _)) (pw_or1 (pt_cmpR op_ne (pe_call GDepth (hr.mono (by decide)) rfl ADepth.m ADepth.kp ADepth.b .nil pass0 (pa_cons (pv 1) (pa_cons (pv 10) pa_nil))) (pv 9) (nomark _)))))
    (pss_one (ps_ret pe_bl))
    pss_nil))))
    (pss_cons (ps_if (pt_cmpR (op_neD hr.units) (pe_lc (own := [("number", 9)]) rfl scLawRight.nd (pi_tup (pe_tup (pa_cons (pe_op op_sub (pv 7) pe_int) (pa_cons (pe_op op_add (pv 8) pe_int) pa_nil)))) (blkOk_by (N := ["bag", "size", "other", "full", "bare", "heights", "due", "least", "greatest_depth", "number", "entry", "ours", "told", "h", "begin", "end"]) (sc := defScope sLawRight) (by decide +kernel)) (fun _ _ _ _ _ => (pg_name (i := 9) scLawRight.nd rfl (Or.inl rfl))) (fun _ _ _ _ _ => pts_nil) (fun _ _ _ _ _ => (pe_call GFirstOfDepth (hr.mono (by decide)) rfl AFirstOfDepth.m AFirstOfDepth.kp AFirstOfDepth.b .nil pass0 (pa_cons (pv 1) (pa_cons (pv 9) pa_nil))))) (pe_lst (pa_cons pe_non (pa_cons pe_non pa_nil))) (nomark _))
    (pss_one (ps_ret pe_bl))
    pss_nil)
    (pss_cons (ps_set (i := 10) scLawRight.nd rfl (Or.inr rfl) (pe_call GLawPick (hr.mono (by decide)) rfl ALawPick.m ALawPick.kp ALawPick.b .nil pass0 (pa_cons (pv 0) (pa_cons (pv 1) pa_nil))))
    (pss_cons (ps_set (i := 11) scLawRight.nd rfl (Or.inl rfl) (pe_ix ix_list (pe_lc (own := [("begin", 14), ("end", 15)]) rfl scLawRight.nd (pi_list (pe_call GPeaks (hr.mono (by decide)) rfl APeaks.m APeaks.kp APeaks.b .nil pass0 (pa_cons (pv 1) pa_nil))) (blkOk_by (N := ["bag", "size", "other", "full", "bare", "heights", "due", "least", "greatest_depth", "number", "entry", "ours", "told", "h", "begin", "end"]) (sc := defScope sLawRight) (by decide +kernel)) (fun _ _ _ _ _ => (pg_tupB (n := 2) rfl (pgs_cons (pg_name (i := 14) scLawRight.nd rfl (Or.inl rfl)) (pgs_cons (pg_name (i := 15) scLawRight.nd rfl (Or.inl rfl)) pgs_nil)))) (fun _ _ _ _ _ => pts_one (pt_chain op_le op_lt (pv 14) (pv 10) (pv 15))) (fun _ _ _ _ _ => (pe_op op_sub (pv 15) (pv 14)))) pe_int (fun _ _ => rfl)))
    (pss_cons (ps_set (i := 12) scLawRight.nd rfl (Or.inl rfl) (pe_call GDepth (hr.mono (by decide)) rfl ADepth.m ADepth.kp ADepth.b .nil pass0 (pa_cons (pv 1) (pa_cons (pv 10) pa_nil))))
    (pss_one (ps_ret (pe_and (pe_cmpR op_ge (pe_op op_shl pe_int (pv 12)) (pv 11) (nomark _)) (pe_and (pe_cmpR op_le (pv 12) (pe_call GDepth (hr.mono (by decide)) rfl ADepth.m ADepth.kp ADepth.b .nil pass0 (pa_cons (pv 2) (pa_cons (pv 10) pa_nil))) (nomark _)) (pe_one (pe_chain op_le op_le (pv 7) (pv 12) (pv 8))))))))))))))))))))), ?_⟩
  have two : 2 ≤ sizeLine := by decide
  refine ⟨_, rfl, b, rfl, hb, fun s1 H1 a1 a2 B1 b1 => ⟨_, rfl, b, rfl, b1, fun s2 H2 a3 a4 B2 b2 => ⟨two, fun l nl => ?_⟩⟩⟩
  have u1 := same_upd (o := .lst [.int (s1 : Int), .int (s2 : Int)]) nl
  refine ⟨l, [(s1 : Int), (s2 : Int)], rfl, SqL.of upd_same, (by show 2 < 64; decide), fun ns p hP hS np => ?_⟩
  have es := sorted_two hP hS
  obtain ⟨n, o, en, eo, n1, n30, o1, o30, no⟩ : ∃ n o : Nat, min (s1 : Int) (s2 : Int) = (n : Int) ∧ max (s1 : Int) (s2 : Int) = (o : Int) ∧ 1 ≤ n ∧ n ≤ 10 ^ 30 ∧ 1 ≤ o ∧ o ≤ 10 ^ 30 ∧ n ≤ o := by
    by_cases h : s1 ≤ s2
    · exact ⟨s1, s2, by omega, by omega, a1, a2, a3, a4, h⟩
    · exact ⟨s2, s1, by omega, by omega, a3, a4, a1, a2, by omega⟩
  rw [en, eo] at es
  subst es
  have u2 := same_upd (o := .lst ([(n : Int), (o : Int)].map V.int)) np
  have B0 : But b H (upd (upd H2 l (.lst [.int (s1 : Int), .int (s2 : Int)])) p (.lst ([(n : Int), (o : Int)].map V.int))) := (B1.trans B2).trans (But.of (u1.trans u2))
  have b0 := b2.same (u1.trans u2)
  have hp : (upd (upd H2 l (.lst [.int (s1 : Int), .int (s2 : Int)])) p (.lst ([(n : Int), (o : Int)].map V.int))) p = some (.lst ([(n : Int), (o : Int)].map V.int)) := upd_same
  generalize upd (upd H2 l (.lst [.int (s1 : Int), .int (s2 : Int)])) p (.lst ([(n : Int), (o : Int)].map V.int)) = H3 at hp B0 b0
  clear u1 u2 nl np hP hS
  refine ⟨p, _, rfl, SqL.of hp, rfl, _, _, rfl, _, _, rfl, rfl, ?_⟩
  -- all nodes
  have npk1 := npk_pos n1 n30
  have eones : npk n = ones n := by
    unfold npk
    rw [pk_ones, Nat.mod_eq_of_lt (Nat.lt_of_le_of_lt n30 (by decide))]
  have eonesO : npk o = ones o := by
    unfold npk
    rw [pk_ones, Nat.mod_eq_of_lt (Nat.lt_of_le_of_lt o30 (by decide))]
  refine ⟨_, rfl, n, rfl, n1, n30, fun H4 t4 s4 ht4 => ⟨t4, _, rfl, SqT.of ht4, rfl, _, _, rfl, _, _, rfl, rfl, ?_⟩⟩
  refine ⟨102, rfl, by decide, by decide, fun D nD => ?_⟩
  refine lc_range (lo := 0) (n := 102) (fun i H' => Same H4 H' ∧ H' D = some (.lst (((List.range i).map fun k => hcount n ((k : Nat) : Int)).map V.int))) ⟨same_upd nD, upd_same⟩ ?_ ?_
  · rintro i H5 hi ⟨s5, hD⟩
    refine ⟨rfl, ?_⟩
    refine ⟨_, rfl, _, rfl, n, (i : Int), congrArg (fun z => [V.int (n : Int), V.int z]) (by omega), n1, n30, ?_⟩
    refine ⟨_, hD, szlt (by rw [List.length_map, List.length_map, List.length_range]; omega), ?_, ?_⟩
    · exact fun a o k => by rw [upd_ne (ne_of_none k nD)]; exact s5 _ _ k
    · rw [List.range_succ, List.map_append, List.map_append]
      exact upd_same
  rintro H5 ⟨s5, hD⟩
  have s05 := s4.trans s5
  refine ⟨_, rfl, _, rfl, n, rfl, n1, n30, fun H6 p6 xs6 s6 np6 hp6 hx6 => ⟨p6, _, rfl, .inl (SqL.of hp6), rfl, false, ne_no (congrArg V.int ?_), ?_⟩⟩
  · rw [hx6.len, List.length_map, List.length_dropLast, List.length_map]
    rfl
  refine ⟨_, rfl, n, rfl, n1, n30, fun H7 s7 => ⟨_, rfl, rfl, false, ne_no (congrArg V.int (by rw [eones])), ?_⟩⟩
  refine ⟨_, rfl, D, _, rfl, SqL.of (s7 _ _ (s6 _ _ hD)), _, rfl, _, rfl, _, _, rfl, rfl, rfl, false, ne_no (congrArg V.int (by rw [heights_all n1 n30]; omega)), ?_⟩
  have s07 := s05.trans (s6.trans s7)
  clear hD nD hp6 hx6 np6
  refine ⟨1, 101, rfl, ⟨by decide, by decide, by decide, by decide⟩, fun D2 nD2 => ?_⟩
  refine lc_range (lo := 1) (n := 100) (fun i H' => Same H7 H' ∧ H' D2 = some (.lst (((List.range i).map fun j => ((n - n % 2 ^ (j + 1) : Nat) : Int)).map V.int))) ⟨same_upd nD2, upd_same⟩ ?_ ?_
  · rintro i H8 hi ⟨s8, hD⟩
    have ei : (1 : Int) + (i : Int) = ((i + 1 : Nat) : Int) := by omega
    rw [ei]
    have dle : n / 2 ^ (i + 1) ≤ n := Nat.div_le_self _ _
    refine ⟨rfl, ?_⟩
    refine ⟨_, rfl, _, rfl, _, _, rfl, rfl, Int.natCast_nonneg _, _, rfl, _, _, rfl, rfl, ?_, ?_⟩
    · show CShl ((n : Int) / 2 ^ ((i + 1 : Nat) : Int).toNat) ((i + 1 : Nat) : Int)
      rw [show (n : Int) / 2 ^ ((i + 1 : Nat) : Int).toNat = ((n / 2 ^ (i + 1) : Nat) : Int) by rw [Int.toNat_natCast, Int.natCast_ediv, Int.natCast_pow]; rfl]
      exact shl_ok (n := 200) (Nat.lt_of_le_of_lt (Nat.le_trans dle n30) (by decide)) (by omega)
    refine ⟨_, hD, szlt (by rw [List.length_map, List.length_map, List.length_range]; omega), ?_, ?_⟩
    · exact fun a o k => by rw [upd_ne (ne_of_none k nD2)]; exact s8 _ _ k
    · have ev : (n : Int) / 2 ^ ((i + 1 : Nat) : Int).toNat * 2 ^ ((i + 1 : Nat) : Int).toNat = ((n - n % 2 ^ (i + 1) : Nat) : Int) := by
        have a := Nat.div_add_mod n (2 ^ (i + 1))
        rw [Int.toNat_natCast, show (n : Int) / 2 ^ (i + 1) = ((n / 2 ^ (i + 1) : Nat) : Int) by rw [Int.natCast_ediv, Int.natCast_pow]; rfl, show (2 : Int) ^ (i + 1) = ((2 ^ (i + 1) : Nat) : Int) by rw [Int.natCast_pow]; rfl, ← Int.natCast_mul, Nat.mul_comm]
        congr 1
        omega
      rw [List.range_succ, List.map_append, List.map_append]
      dsimp only
      rw [ev]
      exact upd_same
  rintro H8 ⟨s8, hD2⟩
  refine ⟨D2, _, rfl, SqL.of hD2, ?_⟩
  rw [sumI (fun j => n - n % 2 ^ (j + 1))]
  have eDD : sumR 100 (fun j => n - n % 2 ^ (j + 1)) = DD n := rfl
  rw [eDD]
  refine ⟨_, rfl, n, rfl, n1, n30, fun H9 p9 xs9 s9 np9 hp9 hx9 => ⟨p9, rfl, ⟨_, SqL.of hp9⟩, fun D3 nD3 => ?_⟩⟩
  have eT : ((((pk 101 n 0).map full).dropLast.map fun x => (x.1, n)).map fun y => y.2 - y.1) = (pk 101 n 0).dropLast.map fun x => n - x.1 := by
    rw [tops_drop, List.map_map, List.map_map]
    rfl
  have inT : ∀ y ∈ (((pk 101 n 0).map full).dropLast.map fun x => (x.1, n)), y.1 ≤ n ∧ y.2 = n := fun y hy => by
    obtain ⟨x, hx, rfl⟩ := List.mem_map.mp hy
    obtain ⟨z, hz, rfl⟩ := List.mem_map.mp (List.dropLast_subset _ hx)
    have := pk_at 101 n 0 z hz
    rw [Nat.mod_eq_of_lt (Nat.lt_of_le_of_lt n30 (by decide)), Nat.zero_add] at this
    exact ⟨Nat.le_trans (Nat.le_add_right _ _) this, rfl⟩
  have lT : (((pk 101 n 0).map full).dropLast.map fun x => (x.1, n)).length ≤ 101 := by
    rw [List.length_map, List.length_dropLast, List.length_map]
    have := pk_len 101 n 0
    omega
  generalize (((pk 101 n 0).map full).dropLast.map fun x => (x.1, n)) = T at hx9 eT inT lT
  refine lc_list (xs := xs9) (fun i H' => Same H9 H' ∧ H' D3 = some (.lst ((((T.take i).map fun y => y.2 - y.1).map fun z : Nat => (z : Int)).map V.int))) ⟨same_upd nD3, upd_same⟩ (fun i H' _ ⟨k, _⟩ => SqL.of (k _ _ hp9)) ?_ ?_
  · rintro i x H10 hi ⟨s10, hD⟩
    obtain ⟨y, hy, t, rfl, ht⟩ := hx9.nth hi
    obtain ⟨y1, y2⟩ := inT y (List.mem_of_getElem? hy)
    have il : i < T.length := (List.getElem?_eq_some_iff.mp hy).1
    refine ⟨t, _, rfl, SqT.of (s10 _ _ ht), rfl, _, _, rfl, _, _, rfl, rfl, rfl, ?_⟩
    refine ⟨_, rfl, _, rfl, _, _, rfl, rfl, ?_⟩
    refine ⟨_, hD, szlt (by rw [List.length_map, List.length_map, List.length_map, List.length_take]; omega), ?_, ?_⟩
    · exact fun a o k => by rw [upd_ne (ne_of_none k nD3)]; exact s10 _ _ k
    · rw [take_more hy, List.map_append, List.map_append, List.map_append]
      dsimp only
      rw [show ((y.2 : Nat) : Int) - ((y.1 : Nat) : Int) = ((y.2 - y.1 : Nat) : Int) by omega]
      exact upd_same
  rintro H10 ⟨s10, hD3⟩
  rw [show xs9.length = T.length from hx9.len, List.take_length] at hD3
  refine ⟨D3, _, rfl, SqL.of hD3, ?_⟩
  rw [sum_cast, eT]
  have dall := depths_all n30
  refine ⟨_, _, rfl, rfl, ?_⟩
  have s10' := s07.trans (s8.trans (s9.trans s10))
  refine ⟨_, rfl, _, rfl, n, 0, n, rfl, by omega, Nat.le_refl _, n30, fun H11 s11 => ⟨_, rfl, rfl, false, ne_no (congrArg V.int (by rw [dall]; omega)), ?_⟩⟩
  have sA := s10'.trans s11
  clear hD2 hD3 dall s10' s11 s10 s9 s8 s7 s6 s5 s05 s07 s4 ht4 nD2 nD3 hp9 np9
  have eom : (o : Int) - (n : Int) = ((o - n : Nat) : Int) := by omega
  have eno : n + (o - n) = o := by omega
  have one_n := ones_le_self n
  have one_o := ones_le_self o
  have pos_n := ones_pos n1
  have pos_o := ones_pos o1
  refine ⟨_, rfl, _, rfl, _, rfl, _, _, rfl, rfl, n, o - n, congrArg (fun z => [V.int (n : Int), V.int z]) eom, n1, by omega, fun H12 s12 => ?_⟩
  refine ⟨_, rfl, o, rfl, o1, o30, fun H13 p13 s13 ht13 => ⟨p13, _, _, _, rfl, rfl, SqT.of ht13, atI_nat (j := 0) rfl, ?_⟩⟩
  refine ⟨_, rfl, _, _, rfl, rfl, _, rfl, _, rfl, _, _, rfl, rfl, _, _, rfl, rfl, rfl, false, ne_no (congrArg V.int (by rw [eno, eones, eonesO]; omega)), ?_⟩
  refine ⟨_, rfl, _, rfl, n, o, rfl, n1, n30, o1, o30, fun H14 s14 => ?_⟩
  have sB := sA.trans (s12.trans (s13.trans s14))
  clear s12 s13 s14 ht13 sA
  have B14 : But b H H14 := B0.trans (But.of sB)
  have b14 := b0.same sB
  have hc : n = o ∨ n ≠ o := by omega
  rcases hc with hno | hno
  case' inl => refine ⟨_, rfl, _, rfl, rfl, true, congrArg V.bl (decide_eq_true (by rw [hno])), _, rfl, _, rfl, _, _, rfl, rfl, rfl, false, ne_no (congrArg V.int (by unfold ccount; rw [if_pos hno, ← hno, Nat.min_self]; omega)), ?_⟩
  case' inr => refine ⟨_, rfl, _, rfl, rfl, false, congrArg V.bl (decide_eq_false (fun z => hno (by have := V.int.inj z; omega))), _, rfl, rfl, false, ne_no (congrArg V.int (by unfold ccount; rw [if_neg hno, Nat.min_eq_left no])), ?_⟩
  all_goals
    refine ⟨_, rfl, _, rfl, n, 0, n, rfl, by omega, Nat.le_refl _, n30, db_ne (rows_due n30 0 (by omega)) (by omega), fun H15 p15 lo hi s15 ht15 hlo hhi => ⟨p15, _, rfl, SqT.of ht15, rfl, _, _, rfl, _, _, rfl, rfl, ?_⟩⟩
    obtain ⟨⟨zl, hzl, ezl⟩, lel⟩ := hlo
    obtain ⟨⟨zh, hzh, ezh⟩, leh⟩ := hhi
    obtain ⟨yl, hyl, eyl⟩ := db_row hzl
    obtain ⟨yh, hyh, eyh⟩ := db_row hzh
    have inr : ∀ x ∈ lev (pk 101 n 0).length 0 (pk 101 n 0), lo ≤ (x.2.2 : Int) ∧ (x.2.2 : Int) ≤ hi := fun x hx => by
      obtain ⟨z, hz, ez⟩ := row_db n30 hx
      have a := lel z hz
      have b := leh z hz
      omega
    refine ⟨_, rfl, _, rfl, two, fun t16 n16 => ?_⟩
    have s16 := same_upd (o := .tup [.int lo, .int hi]) n16
    have ht16 : (upd H15 t16 (.tup [.int lo, .int hi])) t16 = some (.tup [.int lo, .int hi]) := upd_same
    generalize upd H15 t16 (.tup [.int lo, .int hi]) = H16 at s16 ht16
    have hv : ∀ x ∈ [V.int lo, V.int hi], ∃ k : Nat, x = .int (k : Int) ∧ ∃ y ∈ lev (pk 101 n 0).length 0 (pk 101 n 0), y.2.2 = k := by
      intro x hx
      simp only [List.mem_cons, List.not_mem_nil, or_false] at hx
      rcases hx with rfl | rfl
      · exact ⟨yl.2.2, by rw [ezl, eyl], yl, hyl, rfl⟩
      · exact ⟨yh.2.2, by rw [ezh, eyh], yh, hyh, rfl⟩
    refine ⟨t16, rfl, ⟨_, SqT.of ht16⟩, for_tup (K := K) (a := t16) (xs := [.int lo, .int hi]) (fun i σ H' => ∃ v3 v4 v5 v6 v9 v10 : Option V, σ = [some (.ref b), some (.int (n : Int)), some (.int (o : Int)), v3, v4, v5, v6, some (.int lo), some (.int hi), v9, v10, none, none, none, none, none] ∧ Same H16 H')
      ⟨_, _, _, _, _, _, rfl, Same.refl _⟩ (fun i σ H' _ ⟨_, _, _, _, _, _, _, k⟩ => SqT.of (k _ _ ht16)) ?_ ?_⟩
    · rintro i x σ H17 hi' ⟨v3, v4, v5, v6, v9, v10, rfl, s17⟩
      obtain ⟨k, rfl, hk⟩ := hv x (List.mem_of_getElem? hi')
      obtain ⟨y, hy, ey, ef⟩ := first_some hk
      obtain ⟨ylt, yd⟩ := row_deep n30 hy
      refine ⟨_, rfl, _, rfl, n, (k : Int), rfl, n1, n30, fun H18 s18 => ?_⟩
      rw [ef]
      refine ⟨_, rfl, rfl, false, congrArg V.bl (decide_eq_false (fun z => nomatch z)), ?_⟩
      refine ⟨_, rfl, _, rfl, n, y.1, rfl, ylt, n30, fun H19 s19 => ⟨_, rfl, rfl, false, ne_no (congrArg V.int (by rw [yd, ey])), ?_⟩⟩
      exact ⟨_, _, _, _, _, _, rfl, s17.trans (s18.trans s19)⟩
    rintro σ H17 ⟨v3, v4, v5, v6, v9, v10, rfl, s17⟩
    refine ⟨_, rfl, _, _, rfl, rfl, _, rfl, _, _, rfl, rfl, two, fun t18 n18 => ?_⟩
    have s18 := same_upd (o := .tup [.int (lo - 1), .int (hi + 1)]) n18
    have ht18 : (upd H17 t18 (.tup [.int (lo - 1), .int (hi + 1)])) t18 = some (.tup [.int (lo - 1), .int (hi + 1)]) := upd_same
    generalize upd H17 t18 (.tup [.int (lo - 1), .int (hi + 1)]) = H18 at s18 ht18
    refine ⟨t18, rfl, ⟨_, SqT.of ht18⟩, fun D nD => lc_tup (xs := [.int (lo - 1), .int (hi + 1)]) (fun i H' => Same H18 H' ∧ H' D = some (.lst (List.replicate i V.non))) ⟨same_upd nD, upd_same⟩ (fun i H' _ ⟨k, _⟩ => SqT.of (k _ _ ht18)) ?_ ?_⟩
    · rintro i x H19 hi' ⟨s19, hD⟩
      have il : i < 2 := (List.getElem?_eq_some_iff.mp hi').1
      obtain ⟨k, rfl, hk⟩ : ∃ k : Int, x = .int k ∧ ∀ y ∈ lev (pk 101 n 0).length 0 (pk 101 n 0), (y.2.2 : Int) ≠ k := by
        have := List.mem_of_getElem? hi'
        simp only [List.mem_cons, List.not_mem_nil, or_false] at this
        rcases this with rfl | rfl
        · exact ⟨_, rfl, fun y hy => by have := inr y hy; omega⟩
        · exact ⟨_, rfl, fun y hy => by have := inr y hy; omega⟩
      refine ⟨rfl, ?_⟩
      refine ⟨_, rfl, _, rfl, n, k, rfl, n1, n30, fun H20 s20 => ?_⟩
      rw [first_none hk]
      refine ⟨_, s20 _ _ hD, szlt (by rw [List.length_replicate]; omega), ?_, ?_⟩
      · exact fun a o k => by rw [upd_ne (ne_of_none k nD)]; exact s20 _ _ (s19 _ _ k)
      · rw [List.replicate_succ']
        exact upd_same
    rintro H19 ⟨s19, hD⟩
    have hD : H19 D = some (.lst [V.non, V.non]) := hD
    refine ⟨two, fun l20 n20 => ?_⟩
    have s20 := same_upd (o := .lst [V.non, V.non]) n20
    refine ⟨.list [.none, .none], .list [.none, .none], .lst (SqL.of (s20 _ _ hD)) (.cons .non (.cons .non .nil)), .lst (SqL.of upd_same) (.cons .non (.cons .non .nil)), by decide +kernel, by decide +kernel, false, congrArg V.bl (by decide +kernel), ?_⟩
    have sC := s15.trans (s16.trans (s17.trans (s18.trans (s19.trans s20))))
    generalize upd H19 l20 (.lst [V.non, V.non]) = H20 at sC
    clear s15 s16 s17 s18 s19 s20 hD ht16 ht18 n16 n18 n20 nD ht15
    have B20 := B14.trans (But.of (b := b) sC)
    have b20 := b14.same sC
    refine ⟨_, rfl, _, rfl, b, (n : Int), rfl, by omega, Nat.lt_of_le_of_lt (show (n : Int).natAbs ≤ 10 ^ 30 by omega) (by decide), b20, fun pe H21 p0 p1 k21 b21 => ?_⟩
    obtain ⟨e, rfl⟩ := Int.eq_ofNat_of_zero_le p0
    have he : e < n := by omega
    have B21 : But b H H21 := fun a o na k => by rw [k21 a na]; exact B20 a o na k
    obtain ⟨xe, hxe, hdeep⟩ := peak_deep e (pk 101 n 0).length (pk 101 n 0) 0 _ (rows_due n30 e he)
    obtain ⟨re, hre, ere⟩ := row_of n30 he
    have inre := inr re hre
    rw [ere] at inre
    refine ⟨_, rfl, n, rfl, n1, n30, fun H22 p22 xs22 s22 np22 hp22 hx22 => ⟨p22, rfl, ⟨_, SqL.of hp22⟩, fun D nD => ?_⟩⟩
    have lpk := pk_len 101 n 0
    generalize pk 101 n 0 = PP at hx22 hxe lpk
    have lxs : xs22.length = PP.length := by rw [hx22.len, List.length_map]
    refine lc_list (xs := xs22) (fun i H' => Same H22 H' ∧ H' D = some (.lst (((PP.take i).filter fun x => decide (x.1 ≤ e) && decide (e < x.1 + 2 ^ x.2)).map fun x => V.int ((2 ^ x.2 : Nat) : Int)))) ⟨same_upd nD, upd_same⟩ (fun i H' _ ⟨k, _⟩ => SqL.of (k _ _ hp22)) ?_ ?_
    · rintro i x H23 hi' ⟨s23, hD⟩
      obtain ⟨y, hy, t, rfl, ht⟩ := hx22.nth hi'
      rw [List.getElem?_map] at hy
      obtain ⟨z, hz, rfl⟩ := Option.map_eq_some_iff.mp hy
      have ht : H22 t = some (.tup [.int (z.1 : Int), .int ((z.1 + 2 ^ z.2 : Nat) : Int)]) := ht
      have fl : ((PP.take i).filter fun x => decide (x.1 ≤ e) && decide (e < x.1 + 2 ^ x.2)).length ≤ 101 := by
        refine Nat.le_trans (List.length_filter_le _ _) ?_
        rw [List.length_take]
        omega
      have et : ((PP.take (i + 1)).filter fun x => decide (x.1 ≤ e) && decide (e < x.1 + 2 ^ x.2)) = ((PP.take i).filter fun x => decide (x.1 ≤ e) && decide (e < x.1 + 2 ^ x.2)) ++ (if (decide (z.1 ≤ e) && decide (e < z.1 + 2 ^ z.2)) = true then [z] else []) := by
        rw [take_more hz, List.filter_append, List.filter_cons, List.filter_nil]
      refine ⟨t, _, rfl, SqT.of (s23 _ _ ht), rfl, _, _, rfl, _, _, rfl, rfl, rfl, ?_⟩
      refine ⟨_, rfl, _, rfl, _, _, rfl, rfl, _, rfl, ite2 (fun c => ?_) (fun c => ?_)⟩
      · have c1 : (z.1 : Int) ≤ (e : Int) := of_decide_eq_true c
        refine ⟨_, rfl, _, _, rfl, rfl, _, rfl, ite2 (fun c => ?_) (fun c => ?_)⟩
        · have c2 : (e : Int) < ((z.1 + 2 ^ z.2 : Nat) : Int) := of_decide_eq_true c
          refine ⟨_, rfl, _, rfl, _, _, rfl, rfl, _, hD, szlt (by rw [List.length_map]; omega), ?_, ?_⟩
          · exact fun a o k => by rw [upd_ne (ne_of_none k nD)]; exact s23 _ _ k
          · rw [et, if_pos (by rw [Bool.and_eq_true]; exact ⟨decide_eq_true (by omega), decide_eq_true (by omega)⟩), List.map_append]
            dsimp only
            rw [show ((z.1 + 2 ^ z.2 : Nat) : Int) - (z.1 : Int) = ((2 ^ z.2 : Nat) : Int) by omega]
            exact upd_same
        · have c2 : ¬ (e : Int) < ((z.1 + 2 ^ z.2 : Nat) : Int) := of_decide_eq_false (Bool.eq_false_iff.mpr c)
          refine ⟨s23, ?_⟩
          rw [et, if_neg (by rw [Bool.and_eq_true]; intro z2; exact c2 (by have := of_decide_eq_true z2.2; omega)), List.append_nil]
          exact hD
      · have c1 : ¬ (z.1 : Int) ≤ (e : Int) := of_decide_eq_false (Bool.eq_false_iff.mpr c)
        refine ⟨false, rfl, iteF ?_⟩
        refine ⟨s23, ?_⟩
        rw [et, if_neg (by rw [Bool.and_eq_true]; intro z2; exact c1 (by have := of_decide_eq_true z2.1; omega)), List.append_nil]
        exact hD
    rintro H23 ⟨s23, hD⟩
    rw [lxs, List.take_length, hxe] at hD
    refine ⟨D, _, _, _, rfl, rfl, SqL.of hD, atI_nat (j := 0) rfl, ?_⟩
    refine ⟨_, rfl, _, rfl, n, e, rfl, he, n30, fun H24 s24 => ?_⟩
    have d100 : (sib 0 n e).length ≤ 201 := by rw [← ere]; exact rows_deep n re hre
    have s2024 := s22.trans (s23.trans s24)
    have grow := sib_grows he (o - n)
    rw [eno] at grow
    have pw : ((2 ^ xe.2 : Nat) : Int) ≤ (1 : Int) * 2 ^ (((sib 0 n e).length : Nat) : Int).toNat := by
      rw [Int.toNat_natCast, Int.one_mul, show (2 : Int) ^ (sib 0 n e).length = ((2 ^ (sib 0 n e).length : Nat) : Int) by rw [Int.natCast_pow]; rfl]
      exact Int.ofNat_le.mpr (Nat.pow_le_pow_right (by decide) hdeep)
    refine ⟨_, rfl, _, _, rfl, rfl, ⟨Int.natCast_nonneg _, by omega, by decide⟩, _, rfl, _, _, rfl, rfl, true, congrArg V.bl (decide_eq_true pw), ?_⟩
    refine ⟨_, rfl, _, rfl, _, rfl, o, e, rfl, by omega, o30, fun H25 s25 => ⟨_, _, rfl, rfl, true, congrArg V.bl (decide_eq_true (by omega)), ?_⟩⟩
    refine ⟨_, rfl, _, rfl, _, _, rfl, rfl, true, congrArg V.bl (decide_eq_true inre.1), ?_⟩
    refine ⟨_, rfl, _, _, rfl, rfl, ?_⟩
    have sZ := s2024.trans s25
    have fin : Q (V.bl (decide ((((sib 0 n e).length : Nat) : Int) ≤ hi))) H25 := by
      rw [decide_eq_true inre.2]
      exact q _ (B21.trans (But.of (b := b) sZ)) (b21.same sZ)
    exact fin
end
end LT

namespace LT
open PySem PySem.Spec PyProof.Rows L2
theorem script_at {ns : List Int} {lo hi : Option Int} {i : Nat} {x : V} (h : (cutV (ns.map V.int) lo hi ++ [.int 0])[i]? = some x) : ∃ c : Int, x = .int c := by
  have m := List.mem_of_getElem? h
  rcases List.mem_append.mp m with m | m
  · unfold cutV at m
    have m2 := List.mem_of_mem_drop (List.mem_of_mem_take m)
    obtain ⟨c, _, e⟩ := List.mem_map.mp m2
    exact ⟨c, e.symm⟩
  · exact ⟨0, List.mem_singleton.mp m⟩
theorem sqSame {K : PySem.W.Frag} {H H' : Hp} {a : Addr} {xs : List V} (h : SqL K H a xs) (e : Same H H') : SqL K H' a xs :=
  h.elim (fun h => .inl (h.elim (fun h => .inl (e _ _ h)) fun ⟨o, h⟩ => .inr ⟨o, e _ _ h⟩)) fun h => .inr h
def spLaw (K : PySem.W.Frag) : Sp := fun vs H Q _ => ∃ (a : Addr) (ns : List Int), vs = [.ref a] ∧ SqL K H a (ns.map V.int) ∧ ns.length ≤ 63 ∧ ∀ H', Q (.bl true) H'
end LT

namespace LT
open PySem PySem.Spec PyProof.Rows L2
section
variable {P : Program} {w : World} {K : PySem.W.Frag} {mg : Str → Option Value} {base : Heap}
theorem ok_law {f g1 g2 : Addr} {fd d1 d2 : FuncData} (F : Fun K "law" "law" sLaw f fd)
    (GLawBag : FnOk P w K mg base CX0 1 g1 d1 ["cell"] spBag) (ALawBag : At K mg "_law_bag" g1 d1 ["cell"])
    (GLawRight : FnOk P w K mg base CX0 9 g2 d2 ["bag"] spRight) (ALawRight : At K mg "_law_right" g2 d2 ["bag"])
    (z_range : mg "range" = none) : FnOk P w K mg base CX0 10 f fd ["script"] (spLaw K) := by
  refine F.ok scLaw (fun vs H Q E h => ?_) (fun cdv A outer s H vs Q E hr h => ?_)
  · obtain ⟨_, _, rfl, _⟩ := h
    rfl
  obtain ⟨a, ns, rfl, hS, h63, q⟩ := h
  refine' ⟨_, (pss_cons (ps_for PassesOwn.never rfl (pi_list (pe_op op_cat (pe_slice sl_list (pv 0) po_none (po_some pe_int)) (pe_lst (pa_cons pe_int pa_nil)))) (pg_name (i := 1) scLaw.nd rfl (Or.inl rfl))
    (pss_cons (ps_set (i := 2) scLaw.nd rfl (Or.inl rfl) (pe_call GLawBag (hr.mono (by decide)) rfl ALawBag.m ALawBag.kp ALawBag.b .nil pass0 (pa_cons (pv 1) pa_nil)))
    (pss_one (ps_for PassesOwn.never rfl (pi_range1 (by rfl) z_range (pa_cons pe_int pa_nil)) (pg_name (i := 3) scLaw.nd rfl (Or.inl rfl))
    (pss_one (ps_if (pt_not (pt_val (pe_call GLawRight (hr.mono (by decide)) rfl ALawRight.m ALawRight.kp ALawRight.b .nil pass0 (pa_cons (pv 2) pa_nil))))
    (pss_one (ps_ret pe_bl))
    pss_nil))))))
    (pss_one (ps_ret pe_bl))), ?_⟩
  refine ⟨_, rfl, 6, rfl, a, _, rfl, hS, fun c nc => ⟨(by show 1 ≤ sizeLine; decide), fun z nz => ?_⟩⟩
  have s1 := same_upd (o := .lst (cutV (ns.map V.int) none (some 6))) nc
  have s2 := same_upd (o := .lst [.int 0]) nz
  have hcl := cutV_length (ns.map V.int) none (some 6)
  rw [List.length_map] at hcl
  refine ⟨c, z, _, _, rfl, rfl, s2 _ _ upd_same, upd_same, szle (by rw [List.length_singleton]; omega), fun r nr => ?_⟩
  have s3 := same_upd (o := .lst (cutV (ns.map V.int) none (some 6) ++ [.int 0])) nr
  have hr0 : (upd (upd (upd H c (.lst (cutV (ns.map V.int) none (some 6)))) z (.lst [.int 0])) r (.lst (cutV (ns.map V.int) none (some 6) ++ [.int 0]))) r = some (.lst (cutV (ns.map V.int) none (some 6) ++ [.int 0])) := upd_same
  generalize upd (upd (upd H c (.lst (cutV (ns.map V.int) none (some 6)))) z (.lst [.int 0])) r (.lst (cutV (ns.map V.int) none (some 6) ++ [.int 0])) = H0 at hr0
  refine ⟨r, rfl, ⟨_, SqL.of hr0⟩, for_list (K := K) (a := r) (xs := cutV (ns.map V.int) none (some 6) ++ [.int 0]) (fun i σ H' => ∃ v1 v2 v3 : Option V, σ = [some (.ref a), v1, v2, v3] ∧ Same H0 H')
    ⟨none, none, none, rfl, Same.refl _⟩ (fun i σ H' _ ⟨_, _, _, _, s5⟩ => SqL.of (s5 _ _ hr0)) ?_ ?_⟩
  · rintro i x σ H1 hi ⟨v1, v2, v3, rfl, sm1⟩
    obtain ⟨cell, rfl⟩ := script_at hi
    refine ⟨_, rfl, cell, rfl, fun H2 b sm2 nb hb => ?_⟩
    have nb0 : H0 b = none := sm1.free nb
    refine ⟨3, rfl, by decide, by decide, for_range (lo := 0) (n := 3) (fun i σ H' => ∃ v3 : Option V, σ = [some (.ref a), some (.int cell), some (.ref b), v3] ∧ Same H0 H' ∧ BagAt H' b)
      ⟨v3, rfl, sm1.trans sm2, hb⟩ ?_ ?_⟩
    · rintro j σ H3 hj ⟨v3, rfl, sm3, hb3⟩
      refine ⟨_, rfl, b, rfl, hb3, fun H4 B4 hb4 => ⟨true, rfl, ?_⟩⟩
      exact ⟨_, rfl, fun u o k => B4 u o (ne_of_none k nb0) (sm3 _ _ k), hb4⟩
    · rintro σ H3 ⟨v3, rfl, sm3, hb3⟩
      exact ⟨_, _, _, rfl, sm3⟩
  · rintro σ H1 ⟨v1, v2, v3, rfl, sm1⟩
    exact q _
end
end LT

namespace LT
open PySem PySem.Spec PyProof.Rows L2
theorem all_mk {l : PySem.W.OpenLaw} {w : World} {K : PySem.W.Frag} {h : Heap} {mg : Str → Option Value} {fa f0 f1 f2 f3 f4 f5 f6 f7 f8 f9 f10 f11 f12 f13 f14 f15 f16 f17 f18 f19 f20 f21 f22 f23 f24 f25 f26 f27 f28 f29 f30 : Addr} (X : K.In h) (G : h.Ns mainGlobals mg) (hfa : mg "law" = some (.ref fa))
    {od0 an0 od1 an1 od2 an2 od3 an3 od4 an4 od5 an5 od6 an6 od7 an7 od8 an8 od9 an9 od10 an10 od11 an11 od12 an12 od13 an13 od14 an14 od15 an15 od16 an16 od17 an17 od18 an18 od19 an19 od20 an20 od21 an21 od22 an22 od23 an23 od24 an24 od25 an25 od26 an26 od27 an27 od28 an28 od29 an29 od30 an30 : Option Addr} {sl0 sl1 sl2 sl3 sl4 sl5 sl6 sl7 sl8 sl9 sl10 sl11 sl12 sl13 sl14 sl15 sl16 sl17 sl18 sl19 sl20 sl21 sl22 sl23 sl24 sl25 sl26 sl27 sl28 sl29 sl30 : Array (Option Value)} {oc0 kV0 dc0 pm0 cd0 ct0 oc1 kV1 dc1 pm1 cd1 ct1 oc2 kV2 dc2 pm2 cd2 ct2 oc3 kV3 dc3 pm3 cd3 ct3 oc4 kV4 dc4 pm4 cd4 ct4 oc5 kV5 dc5 pm5 cd5 ct5 oc6 kV6 dc6 pm6 cd6 ct6 oc7 kV7 dc7 pm7 cd7 ct7 oc8 kV8 dc8 pm8 cd8 ct8 oc9 kV9 dc9 pm9 cd9 ct9 oc10 kV10 dc10 pm10 cd10 ct10 oc11 kV11 dc11 pm11 cd11 ct11 oc12 kV12 dc12 pm12 cd12 ct12 oc13 kV13 dc13 pm13 cd13 ct13 oc14 kV14 dc14 pm14 cd14 ct14 oc15 kV15 dc15 pm15 cd15 ct15 oc16 kV16 dc16 pm16 cd16 ct16 oc17 kV17 dc17 pm17 cd17 ct17 oc18 kV18 dc18 pm18 cd18 ct18 oc19 kV19 dc19 pm19 cd19 ct19 oc20 kV20 dc20 pm20 cd20 ct20 oc21 kV21 dc21 pm21 cd21 ct21 oc22 kV22 dc22 pm22 cd22 ct22 oc23 kV23 dc23 pm23 cd23 ct23 oc24 kV24 dc24 pm24 cd24 ct24 oc25 kV25 dc25 pm25 cd25 ct25 oc26 kV26 dc26 pm26 cd26 ct26 oc27 kV27 dc27 pm27 cd27 ct27 oc28 kV28 dc28 pm28 cd28 ct28 oc29 kV29 dc29 pm29 cd29 ct29 oc30 kV30 dc30 pm30 cd30 ct30 : Value}
    (a0 : PySem.W.nsIn K mainGlobals "is_whole" = some (some (.ref f0))) (l0 : K.lookup f0 = some ⟨oc0, od0, .func (PySem.W.fnOf "is_whole" "is_whole" (defArgs sIsWhole) (defBody sIsWhole) (defScope sIsWhole) .none kV0 dc0 pm0 an0 cd0 ct0), sl0⟩) (c0 : PySem.W.codeIn K cd0 "is_whole" = true) (k0 : PySem.W.keepIn K (.ref f0) = true)
    (a1 : PySem.W.nsIn K mainGlobals "is_between" = some (some (.ref f1))) (l1 : K.lookup f1 = some ⟨oc1, od1, .func (PySem.W.fnOf "is_between" "is_between" (defArgs sIsBetween) (defBody sIsBetween) (defScope sIsBetween) .none kV1 dc1 pm1 an1 cd1 ct1), sl1⟩) (c1 : PySem.W.codeIn K cd1 "is_between" = true) (k1 : PySem.W.keepIn K (.ref f1) = true)
    (a2 : PySem.W.nsIn K mainGlobals "check_size" = some (some (.ref f2))) (l2 : K.lookup f2 = some ⟨oc2, od2, .func (PySem.W.fnOf "check_size" "check_size" (defArgs sCheckSize) (defBody sCheckSize) (defScope sCheckSize) .none kV2 dc2 pm2 an2 cd2 ct2), sl2⟩) (c2 : PySem.W.codeIn K cd2 "check_size" = true) (k2 : PySem.W.keepIn K (.ref f2) = true)
    (a3 : PySem.W.nsIn K mainGlobals "check_entry" = some (some (.ref f3))) (l3 : K.lookup f3 = some ⟨oc3, od3, .func (PySem.W.fnOf "check_entry" "check_entry" (defArgs sCheckEntry) (defBody sCheckEntry) (defScope sCheckEntry) .none kV3 dc3 pm3 an3 cd3 ct3), sl3⟩) (c3 : PySem.W.codeIn K cd3 "check_entry" = true) (k3 : PySem.W.keepIn K (.ref f3) = true)
    (a4 : PySem.W.nsIn K mainGlobals "check_node" = some (some (.ref f4))) (l4 : K.lookup f4 = some ⟨oc4, od4, .func (PySem.W.fnOf "check_node" "check_node" (defArgs sCheckNode) (defBody sCheckNode) (defScope sCheckNode) .none kV4 dc4 pm4 an4 cd4 ct4), sl4⟩) (c4 : PySem.W.codeIn K cd4 "check_node" = true) (k4 : PySem.W.keepIn K (.ref f4) = true)
    (a5 : PySem.W.nsIn K mainGlobals "check_span" = some (some (.ref f5))) (l5 : K.lookup f5 = some ⟨oc5, od5, .func (PySem.W.fnOf "check_span" "check_span" (defArgs sCheckSpan) (defBody sCheckSpan) (defScope sCheckSpan) .none kV5 dc5 pm5 an5 cd5 ct5), sl5⟩) (c5 : PySem.W.codeIn K cd5 "check_span" = true) (k5 : PySem.W.keepIn K (.ref f5) = true)
    (a6 : PySem.W.nsIn K mainGlobals "check_number" = some (some (.ref f6))) (l6 : K.lookup f6 = some ⟨oc6, od6, .func (PySem.W.fnOf "check_number" "check_number" (defArgs sCheckNumber) (defBody sCheckNumber) (defScope sCheckNumber) .none kV6 dc6 pm6 an6 cd6 ct6), sl6⟩) (c6 : PySem.W.codeIn K cd6 "check_number" = true) (k6 : PySem.W.keepIn K (.ref f6) = true)
    (a7 : PySem.W.nsIn K mainGlobals "check_number_between" = some (some (.ref f7))) (l7 : K.lookup f7 = some ⟨oc7, od7, .func (PySem.W.fnOf "check_number_between" "check_number_between" (defArgs sCheckNumberBetween) (defBody sCheckNumberBetween) (defScope sCheckNumberBetween) .none kV7 dc7 pm7 an7 cd7 ct7), sl7⟩) (c7 : PySem.W.codeIn K cd7 "check_number_between" = true) (k7 : PySem.W.keepIn K (.ref f7) = true)
    (a8 : PySem.W.nsIn K mainGlobals "is_tree_node" = some (some (.ref f8))) (l8 : K.lookup f8 = some ⟨oc8, od8, .func (PySem.W.fnOf "is_tree_node" "is_tree_node" (defArgs sIsTreeNode) (defBody sIsTreeNode) (defScope sIsTreeNode) .none kV8 dc8 pm8 an8 cd8 ct8), sl8⟩) (c8 : PySem.W.codeIn K cd8 "is_tree_node" = true) (k8 : PySem.W.keepIn K (.ref f8) = true)
    (a9 : PySem.W.nsIn K mainGlobals "power_within" = some (some (.ref f9))) (l9 : K.lookup f9 = some ⟨oc9, od9, .func (PySem.W.fnOf "power_within" "power_within" (defArgs sPowerWithin) (defBody sPowerWithin) (defScope sPowerWithin) .none kV9 dc9 pm9 an9 cd9 ct9), sl9⟩) (c9 : PySem.W.codeIn K cd9 "power_within" = true) (k9 : PySem.W.keepIn K (.ref f9) = true)
    (a10 : PySem.W.nsIn K mainGlobals "peaks" = some (some (.ref f10))) (l10 : K.lookup f10 = some ⟨oc10, od10, .func (PySem.W.fnOf "peaks" "peaks" (defArgs sPeaks) (defBody sPeaks) (defScope sPeaks) .none kV10 dc10 pm10 an10 cd10 ct10), sl10⟩) (c10 : PySem.W.codeIn K cd10 "peaks" = true) (k10 : PySem.W.keepIn K (.ref f10) = true)
    (a11 : PySem.W.nsIn K mainGlobals "edges" = some (some (.ref f11))) (l11 : K.lookup f11 = some ⟨oc11, od11, .func (PySem.W.fnOf "edges" "edges" (defArgs sEdges) (defBody sEdges) (defScope sEdges) .none kV11 dc11 pm11 an11 cd11 ct11), sl11⟩) (c11 : PySem.W.codeIn K cd11 "edges" = true) (k11 : PySem.W.keepIn K (.ref f11) = true)
    (a12 : PySem.W.nsIn K mainGlobals "halves" = some (some (.ref f12))) (l12 : K.lookup f12 = some ⟨oc12, od12, .func (PySem.W.fnOf "halves" "halves" (defArgs sHalves) (defBody sHalves) (defScope sHalves) .none kV12 dc12 pm12 an12 cd12 ct12), sl12⟩) (c12 : PySem.W.codeIn K cd12 "halves" = true) (k12 : PySem.W.keepIn K (.ref f12) = true)
    (a13 : PySem.W.nsIn K mainGlobals "node_count" = some (some (.ref f13))) (l13 : K.lookup f13 = some ⟨oc13, od13, .func (PySem.W.fnOf "node_count" "node_count" (defArgs sNodeCount) (defBody sNodeCount) (defScope sNodeCount) .none kV13 dc13 pm13 an13 cd13 ct13), sl13⟩) (c13 : PySem.W.codeIn K cd13 "node_count" = true) (k13 : PySem.W.keepIn K (.ref f13) = true)
    (a14 : PySem.W.nsIn K mainGlobals "common_count" = some (some (.ref f14))) (l14 : K.lookup f14 = some ⟨oc14, od14, .func (PySem.W.fnOf "common_count" "common_count" (defArgs sCommonCount) (defBody sCommonCount) (defScope sCommonCount) .none kV14 dc14 pm14 an14 cd14 ct14), sl14⟩) (c14 : PySem.W.codeIn K cd14 "common_count" = true) (k14 : PySem.W.keepIn K (.ref f14) = true)
    (a15 : PySem.W.nsIn K mainGlobals "height_count" = some (some (.ref f15))) (l15 : K.lookup f15 = some ⟨oc15, od15, .func (PySem.W.fnOf "height_count" "height_count" (defArgs sHeightCount) (defBody sHeightCount) (defScope sHeightCount) .none kV15 dc15 pm15 an15 cd15 ct15), sl15⟩) (c15 : PySem.W.codeIn K cd15 "height_count" = true) (k15 : PySem.W.keepIn K (.ref f15) = true)
    (a16 : PySem.W.nsIn K mainGlobals "depth" = some (some (.ref f16))) (l16 : K.lookup f16 = some ⟨oc16, od16, .func (PySem.W.fnOf "depth" "depth" (defArgs sDepth) (defBody sDepth) (defScope sDepth) .none kV16 dc16 pm16 an16 cd16 ct16), sl16⟩) (c16 : PySem.W.codeIn K cd16 "depth" = true) (k16 : PySem.W.keepIn K (.ref f16) = true)
    (a17 : PySem.W.nsIn K mainGlobals "path" = some (some (.ref f17))) (l17 : K.lookup f17 = some ⟨oc17, od17, .func (PySem.W.fnOf "path" "path" (defArgs sPath) (defBody sPath) (defScope sPath) .none kV17 dc17 pm17 an17 cd17 ct17), sl17⟩) (c17 : PySem.W.codeIn K cd17 "path" = true) (k17 : PySem.W.keepIn K (.ref f17) = true)
    (a18 : PySem.W.nsIn K mainGlobals "_peak_depths" = some (some (.ref f18))) (l18 : K.lookup f18 = some ⟨oc18, od18, .func (PySem.W.fnOf "_peak_depths" "_peak_depths" (defArgs sPeakDepths) (defBody sPeakDepths) (defScope sPeakDepths) .none kV18 dc18 pm18 an18 cd18 ct18), sl18⟩) (c18 : PySem.W.codeIn K cd18 "_peak_depths" = true) (k18 : PySem.W.keepIn K (.ref f18) = true)
    (a19 : PySem.W.nsIn K mainGlobals "_depths_between" = some (some (.ref f19))) (l19 : K.lookup f19 = some ⟨oc19, od19, .func (PySem.W.fnOf "_depths_between" "_depths_between" (defArgs sDepthsBetween) (defBody sDepthsBetween) (defScope sDepthsBetween) .none kV19 dc19 pm19 an19 cd19 ct19), sl19⟩) (c19 : PySem.W.codeIn K cd19 "_depths_between" = true) (k19 : PySem.W.keepIn K (.ref f19) = true)
    (a20 : PySem.W.nsIn K mainGlobals "depth_sum" = some (some (.ref f20))) (l20 : K.lookup f20 = some ⟨oc20, od20, .func (PySem.W.fnOf "depth_sum" "depth_sum" (defArgs sDepthSum) (defBody sDepthSum) (defScope sDepthSum) .none kV20 dc20 pm20 an20 cd20 ct20), sl20⟩) (c20 : PySem.W.codeIn K cd20 "depth_sum" = true) (k20 : PySem.W.keepIn K (.ref f20) = true)
    (a21 : PySem.W.nsIn K mainGlobals "depth_range" = some (some (.ref f21))) (l21 : K.lookup f21 = some ⟨oc21, od21, .func (PySem.W.fnOf "depth_range" "depth_range" (defArgs sDepthRange) (defBody sDepthRange) (defScope sDepthRange) .none kV21 dc21 pm21 an21 cd21 ct21), sl21⟩) (c21 : PySem.W.codeIn K cd21 "depth_range" = true) (k21 : PySem.W.keepIn K (.ref f21) = true)
    (a22 : PySem.W.nsIn K mainGlobals "first_of_depth" = some (some (.ref f22))) (l22 : K.lookup f22 = some ⟨oc22, od22, .func (PySem.W.fnOf "first_of_depth" "first_of_depth" (defArgs sFirstOfDepth) (defBody sFirstOfDepth) (defScope sFirstOfDepth) .none kV22 dc22 pm22 an22 cd22 ct22), sl22⟩) (c22 : PySem.W.codeIn K cd22 "first_of_depth" = true) (k22 : PySem.W.keepIn K (.ref f22) = true)
    (a23 : PySem.W.nsIn K mainGlobals "_made_sums" = some (some (.ref f23))) (l23 : K.lookup f23 = some ⟨oc23, od23, .func (PySem.W.fnOf "_made_sums" "_made_sums" (defArgs sMadeSums) (defBody sMadeSums) (defScope sMadeSums) .none kV23 dc23 pm23 an23 cd23 ct23), sl23⟩) (c23 : PySem.W.codeIn K cd23 "_made_sums" = true) (k23 : PySem.W.keepIn K (.ref f23) = true)
    (a24 : PySem.W.nsIn K mainGlobals "append_sums" = some (some (.ref f24))) (l24 : K.lookup f24 = some ⟨oc24, od24, .func (PySem.W.fnOf "append_sums" "append_sums" (defArgs sAppendSums) (defBody sAppendSums) (defScope sAppendSums) .none kV24 dc24 pm24 an24 cd24 ct24), sl24⟩) (c24 : PySem.W.codeIn K cd24 "append_sums" = true) (k24 : PySem.W.keepIn K (.ref f24) = true)
    (a25 : PySem.W.nsIn K mainGlobals "root_sums" = some (some (.ref f25))) (l25 : K.lookup f25 = some ⟨oc25, od25, .func (PySem.W.fnOf "root_sums" "root_sums" (defArgs sRootSums) (defBody sRootSums) (defScope sRootSums) .none kV25 dc25 pm25 an25 cd25 ct25), sl25⟩) (c25 : PySem.W.codeIn K cd25 "root_sums" = true) (k25 : PySem.W.keepIn K (.ref f25) = true)
    (a26 : PySem.W.nsIn K mainGlobals "_law_bag" = some (some (.ref f26))) (l26 : K.lookup f26 = some ⟨oc26, od26, .func (PySem.W.fnOf "_law_bag" "_law_bag" (defArgs sLawBag) (defBody sLawBag) (defScope sLawBag) .none kV26 dc26 pm26 an26 cd26 ct26), sl26⟩) (c26 : PySem.W.codeIn K cd26 "_law_bag" = true) (k26 : PySem.W.keepIn K (.ref f26) = true)
    (a27 : PySem.W.nsIn K mainGlobals "_law_pick" = some (some (.ref f27))) (l27 : K.lookup f27 = some ⟨oc27, od27, .func (PySem.W.fnOf "_law_pick" "_law_pick" (defArgs sLawPick) (defBody sLawPick) (defScope sLawPick) .none kV27 dc27 pm27 an27 cd27 ct27), sl27⟩) (c27 : PySem.W.codeIn K cd27 "_law_pick" = true) (k27 : PySem.W.keepIn K (.ref f27) = true)
    (a28 : PySem.W.nsIn K mainGlobals "_law_size" = some (some (.ref f28))) (l28 : K.lookup f28 = some ⟨oc28, od28, .func (PySem.W.fnOf "_law_size" "_law_size" (defArgs sLawSize) (defBody sLawSize) (defScope sLawSize) .none kV28 dc28 pm28 an28 cd28 ct28), sl28⟩) (c28 : PySem.W.codeIn K cd28 "_law_size" = true) (k28 : PySem.W.keepIn K (.ref f28) = true)
    (a29 : PySem.W.nsIn K mainGlobals "_law_right" = some (some (.ref f29))) (l29 : K.lookup f29 = some ⟨oc29, od29, .func (PySem.W.fnOf "_law_right" "_law_right" (defArgs sLawRight) (defBody sLawRight) (defScope sLawRight) .none kV29 dc29 pm29 an29 cd29 ct29), sl29⟩) (c29 : PySem.W.codeIn K cd29 "_law_right" = true) (k29 : PySem.W.keepIn K (.ref f29) = true)
    (a30 : PySem.W.nsIn K mainGlobals "law" = some (some (.ref f30))) (l30 : K.lookup f30 = some ⟨oc30, od30, .func (PySem.W.fnOf "law" "law" (defArgs sLaw) (defBody sLaw) (defScope sLaw) .none kV30 dc30 pm30 an30 cd30 ct30), sl30⟩) (c30 : PySem.W.codeIn K cd30 "law" = true) (k30 : PySem.W.keepIn K (.ref f30) = true)
    (z_bool : PySem.W.nsIn K mainGlobals "bool" = some none)
    (z_enumerate : PySem.W.nsIn K mainGlobals "enumerate" = some none)
    (z_int : PySem.W.nsIn K mainGlobals "int" = some none)
    (z_isinstance : PySem.W.nsIn K mainGlobals "isinstance" = some none)
    (z_len : PySem.W.nsIn K mainGlobals "len" = some none)
    (z_max : PySem.W.nsIn K mainGlobals "max" = some none)
    (z_min : PySem.W.nsIn K mainGlobals "min" = some none)
    (z_range : PySem.W.nsIn K mainGlobals "range" = some none)
    (z_sorted : PySem.W.nsIn K mainGlobals "sorted" = some none)
    (z_sum : PySem.W.nsIn K mainGlobals "sum" = some none)
    (z_tuple : PySem.W.nsIn K mainGlobals "tuple" = some none)
    {t_MOST_ENTRIES : Tok} (g_MOST_ENTRIES : PySem.W.nsIn K mainGlobals "MOST_ENTRIES" = some (some (.int 1000000000000000000000000000000 t_MOST_ENTRIES)))
    : ∃ fd : FuncData, (∀ (s : Shared) (v : Value), BindsTo s fd ⟨[v], []⟩ [("script", v)]) ∧ ∀ base : Heap, K.In base → base.Ns mainGlobals mg → FnOk l.prog w K mg base CX0 10 fa fd ["script"] (spLaw K) := by
  have e := hfa.symm.trans (PySem.W.mg_of X G a30)
  cases e
  have FIsWhole := fun_mk (st := sIsWhole) l0 c0 k0
  have FIsBetween := fun_mk (st := sIsBetween) l1 c1 k1
  have FCheckSize := fun_mk (st := sCheckSize) l2 c2 k2
  have FCheckEntry := fun_mk (st := sCheckEntry) l3 c3 k3
  have FCheckNode := fun_mk (st := sCheckNode) l4 c4 k4
  have FCheckSpan := fun_mk (st := sCheckSpan) l5 c5 k5
  have FCheckNumber := fun_mk (st := sCheckNumber) l6 c6 k6
  have FCheckNumberBetween := fun_mk (st := sCheckNumberBetween) l7 c7 k7
  have FIsTreeNode := fun_mk (st := sIsTreeNode) l8 c8 k8
  have FPowerWithin := fun_mk (st := sPowerWithin) l9 c9 k9
  have FPeaks := fun_mk (st := sPeaks) l10 c10 k10
  have FEdges := fun_mk (st := sEdges) l11 c11 k11
  have FHalves := fun_mk (st := sHalves) l12 c12 k12
  have FNodeCount := fun_mk (st := sNodeCount) l13 c13 k13
  have FCommonCount := fun_mk (st := sCommonCount) l14 c14 k14
  have FHeightCount := fun_mk (st := sHeightCount) l15 c15 k15
  have FDepth := fun_mk (st := sDepth) l16 c16 k16
  have FPath := fun_mk (st := sPath) l17 c17 k17
  have FPeakDepths := fun_mk (st := sPeakDepths) l18 c18 k18
  have FDepthsBetween := fun_mk (st := sDepthsBetween) l19 c19 k19
  have FDepthSum := fun_mk (st := sDepthSum) l20 c20 k20
  have FDepthRange := fun_mk (st := sDepthRange) l21 c21 k21
  have FFirstOfDepth := fun_mk (st := sFirstOfDepth) l22 c22 k22
  have FMadeSums := fun_mk (st := sMadeSums) l23 c23 k23
  have FAppendSums := fun_mk (st := sAppendSums) l24 c24 k24
  have FRootSums := fun_mk (st := sRootSums) l25 c25 k25
  have FLawBag := fun_mk (st := sLawBag) l26 c26 k26
  have FLawPick := fun_mk (st := sLawPick) l27 c27 k27
  have FLawSize := fun_mk (st := sLawSize) l28 c28 k28
  have FLawRight := fun_mk (st := sLawRight) l29 c29 k29
  have FLaw := fun_mk (st := sLaw) l30 c30 k30
  have AIsWhole : At K mg "is_whole" f0 (PySem.W.fnOf "is_whole" "is_whole" (defArgs sIsWhole) (defBody sIsWhole) (defScope sIsWhole) .none kV0 dc0 pm0 an0 cd0 ct0) ["value"] := ⟨PySem.W.mg_of X G a0, k0, FIsWhole.binds (ps := ["value"]) fun _ _ _ _ _ _ us hl => match us, hl with | [_], _ => rfl⟩
  have AIsBetween : At K mg "is_between" f1 (PySem.W.fnOf "is_between" "is_between" (defArgs sIsBetween) (defBody sIsBetween) (defScope sIsBetween) .none kV1 dc1 pm1 an1 cd1 ct1) ["value", "low", "high"] := ⟨PySem.W.mg_of X G a1, k1, FIsBetween.binds (ps := ["value", "low", "high"]) fun _ _ _ _ _ _ us hl => match us, hl with | [_, _, _], _ => rfl⟩
  have ACheckSize : At K mg "check_size" f2 (PySem.W.fnOf "check_size" "check_size" (defArgs sCheckSize) (defBody sCheckSize) (defScope sCheckSize) .none kV2 dc2 pm2 an2 cd2 ct2) ["size"] := ⟨PySem.W.mg_of X G a2, k2, FCheckSize.binds (ps := ["size"]) fun _ _ _ _ _ _ us hl => match us, hl with | [_], _ => rfl⟩
  have ACheckEntry : At K mg "check_entry" f3 (PySem.W.fnOf "check_entry" "check_entry" (defArgs sCheckEntry) (defBody sCheckEntry) (defScope sCheckEntry) .none kV3 dc3 pm3 an3 cd3 ct3) ["size", "entry"] := ⟨PySem.W.mg_of X G a3, k3, FCheckEntry.binds (ps := ["size", "entry"]) fun _ _ _ _ _ _ us hl => match us, hl with | [_, _], _ => rfl⟩
  have ACheckNode : At K mg "check_node" f4 (PySem.W.fnOf "check_node" "check_node" (defArgs sCheckNode) (defBody sCheckNode) (defScope sCheckNode) .none kV4 dc4 pm4 an4 cd4 ct4) ["size", "node"] := ⟨PySem.W.mg_of X G a4, k4, FCheckNode.binds (ps := ["size", "node"]) fun _ _ _ _ _ _ us hl => match us, hl with | [_, _], _ => rfl⟩
  have ACheckSpan : At K mg "check_span" f5 (PySem.W.fnOf "check_span" "check_span" (defArgs sCheckSpan) (defBody sCheckSpan) (defScope sCheckSpan) .none kV5 dc5 pm5 an5 cd5 ct5) ["size", "begin", "end"] := ⟨PySem.W.mg_of X G a5, k5, FCheckSpan.binds (ps := ["size", "begin", "end"]) fun _ _ _ _ _ _ us hl => match us, hl with | [_, _, _], _ => rfl⟩
  have ACheckNumber : At K mg "check_number" f6 (PySem.W.fnOf "check_number" "check_number" (defArgs sCheckNumber) (defBody sCheckNumber) (defScope sCheckNumber) .none kV6 dc6 pm6 an6 cd6 ct6) ["number"] := ⟨PySem.W.mg_of X G a6, k6, FCheckNumber.binds (ps := ["number"]) fun _ _ _ _ _ _ us hl => match us, hl with | [_], _ => rfl⟩
  have ACheckNumberBetween : At K mg "check_number_between" f7 (PySem.W.fnOf "check_number_between" "check_number_between" (defArgs sCheckNumberBetween) (defBody sCheckNumberBetween) (defScope sCheckNumberBetween) .none kV7 dc7 pm7 an7 cd7 ct7) ["number", "least", "most"] := ⟨PySem.W.mg_of X G a7, k7, FCheckNumberBetween.binds (ps := ["number", "least", "most"]) fun _ _ _ _ _ _ us hl => match us, hl with | [_, _, _], _ => rfl⟩
  have AIsTreeNode : At K mg "is_tree_node" f8 (PySem.W.fnOf "is_tree_node" "is_tree_node" (defArgs sIsTreeNode) (defBody sIsTreeNode) (defScope sIsTreeNode) .none kV8 dc8 pm8 an8 cd8 ct8) ["size", "value"] := ⟨PySem.W.mg_of X G a8, k8, FIsTreeNode.binds (ps := ["size", "value"]) fun _ _ _ _ _ _ us hl => match us, hl with | [_, _], _ => rfl⟩
  have APowerWithin : At K mg "power_within" f9 (PySem.W.fnOf "power_within" "power_within" (defArgs sPowerWithin) (defBody sPowerWithin) (defScope sPowerWithin) .none kV9 dc9 pm9 an9 cd9 ct9) ["number"] := ⟨PySem.W.mg_of X G a9, k9, FPowerWithin.binds (ps := ["number"]) fun _ _ _ _ _ _ us hl => match us, hl with | [_], _ => rfl⟩
  have APeaks : At K mg "peaks" f10 (PySem.W.fnOf "peaks" "peaks" (defArgs sPeaks) (defBody sPeaks) (defScope sPeaks) .none kV10 dc10 pm10 an10 cd10 ct10) ["size"] := ⟨PySem.W.mg_of X G a10, k10, FPeaks.binds (ps := ["size"]) fun _ _ _ _ _ _ us hl => match us, hl with | [_], _ => rfl⟩
  have AEdges : At K mg "edges" f11 (PySem.W.fnOf "edges" "edges" (defArgs sEdges) (defBody sEdges) (defScope sEdges) .none kV11 dc11 pm11 an11 cd11 ct11) ["size"] := ⟨PySem.W.mg_of X G a11, k11, FEdges.binds (ps := ["size"]) fun _ _ _ _ _ _ us hl => match us, hl with | [_], _ => rfl⟩
  have AHalves : At K mg "halves" f12 (PySem.W.fnOf "halves" "halves" (defArgs sHalves) (defBody sHalves) (defScope sHalves) .none kV12 dc12 pm12 an12 cd12 ct12) ["size", "node"] := ⟨PySem.W.mg_of X G a12, k12, FHalves.binds (ps := ["size", "node"]) fun _ _ _ _ _ _ us hl => match us, hl with | [_, _], _ => rfl⟩
  have ANodeCount : At K mg "node_count" f13 (PySem.W.fnOf "node_count" "node_count" (defArgs sNodeCount) (defBody sNodeCount) (defScope sNodeCount) .none kV13 dc13 pm13 an13 cd13 ct13) ["size"] := ⟨PySem.W.mg_of X G a13, k13, FNodeCount.binds (ps := ["size"]) fun _ _ _ _ _ _ us hl => match us, hl with | [_], _ => rfl⟩
  have ACommonCount : At K mg "common_count" f14 (PySem.W.fnOf "common_count" "common_count" (defArgs sCommonCount) (defBody sCommonCount) (defScope sCommonCount) .none kV14 dc14 pm14 an14 cd14 ct14) ["size", "other"] := ⟨PySem.W.mg_of X G a14, k14, FCommonCount.binds (ps := ["size", "other"]) fun _ _ _ _ _ _ us hl => match us, hl with | [_, _], _ => rfl⟩
  have AHeightCount : At K mg "height_count" f15 (PySem.W.fnOf "height_count" "height_count" (defArgs sHeightCount) (defBody sHeightCount) (defScope sHeightCount) .none kV15 dc15 pm15 an15 cd15 ct15) ["size", "number"] := ⟨PySem.W.mg_of X G a15, k15, FHeightCount.binds (ps := ["size", "number"]) fun _ _ _ _ _ _ us hl => match us, hl with | [_, _], _ => rfl⟩
  have ADepth : At K mg "depth" f16 (PySem.W.fnOf "depth" "depth" (defArgs sDepth) (defBody sDepth) (defScope sDepth) .none kV16 dc16 pm16 an16 cd16 ct16) ["size", "entry"] := ⟨PySem.W.mg_of X G a16, k16, FDepth.binds (ps := ["size", "entry"]) fun _ _ _ _ _ _ us hl => match us, hl with | [_, _], _ => rfl⟩
  have APath : At K mg "path" f17 (PySem.W.fnOf "path" "path" (defArgs sPath) (defBody sPath) (defScope sPath) .none kV17 dc17 pm17 an17 cd17 ct17) ["size", "entry"] := ⟨PySem.W.mg_of X G a17, k17, FPath.binds (ps := ["size", "entry"]) fun _ _ _ _ _ _ us hl => match us, hl with | [_, _], _ => rfl⟩
  have APeakDepths : At K mg "_peak_depths" f18 (PySem.W.fnOf "_peak_depths" "_peak_depths" (defArgs sPeakDepths) (defBody sPeakDepths) (defScope sPeakDepths) .none kV18 dc18 pm18 an18 cd18 ct18) ["size"] := ⟨PySem.W.mg_of X G a18, k18, FPeakDepths.binds (ps := ["size"]) fun _ _ _ _ _ _ us hl => match us, hl with | [_], _ => rfl⟩
  have ADepthsBetween : At K mg "_depths_between" f19 (PySem.W.fnOf "_depths_between" "_depths_between" (defArgs sDepthsBetween) (defBody sDepthsBetween) (defScope sDepthsBetween) .none kV19 dc19 pm19 an19 cd19 ct19) ["size", "begin", "end"] := ⟨PySem.W.mg_of X G a19, k19, FDepthsBetween.binds (ps := ["size", "begin", "end"]) fun _ _ _ _ _ _ us hl => match us, hl with | [_, _, _], _ => rfl⟩
  have ADepthSum : At K mg "depth_sum" f20 (PySem.W.fnOf "depth_sum" "depth_sum" (defArgs sDepthSum) (defBody sDepthSum) (defScope sDepthSum) .none kV20 dc20 pm20 an20 cd20 ct20) ["size", "begin", "end"] := ⟨PySem.W.mg_of X G a20, k20, FDepthSum.binds (ps := ["size", "begin", "end"]) fun _ _ _ _ _ _ us hl => match us, hl with | [_, _, _], _ => rfl⟩
  have ADepthRange : At K mg "depth_range" f21 (PySem.W.fnOf "depth_range" "depth_range" (defArgs sDepthRange) (defBody sDepthRange) (defScope sDepthRange) .none kV21 dc21 pm21 an21 cd21 ct21) ["size", "begin", "end"] := ⟨PySem.W.mg_of X G a21, k21, FDepthRange.binds (ps := ["size", "begin", "end"]) fun _ _ _ _ _ _ us hl => match us, hl with | [_, _, _], _ => rfl⟩
  have AFirstOfDepth : At K mg "first_of_depth" f22 (PySem.W.fnOf "first_of_depth" "first_of_depth" (defArgs sFirstOfDepth) (defBody sFirstOfDepth) (defScope sFirstOfDepth) .none kV22 dc22 pm22 an22 cd22 ct22) ["size", "number"] := ⟨PySem.W.mg_of X G a22, k22, FFirstOfDepth.binds (ps := ["size", "number"]) fun _ _ _ _ _ _ us hl => match us, hl with | [_, _], _ => rfl⟩
  have AMadeSums : At K mg "_made_sums" f23 (PySem.W.fnOf "_made_sums" "_made_sums" (defArgs sMadeSums) (defBody sMadeSums) (defScope sMadeSums) .none kV23 dc23 pm23 an23 cd23 ct23) ["size"] := ⟨PySem.W.mg_of X G a23, k23, FMadeSums.binds (ps := ["size"]) fun _ _ _ _ _ _ us hl => match us, hl with | [_], _ => rfl⟩
  have AAppendSums : At K mg "append_sums" f24 (PySem.W.fnOf "append_sums" "append_sums" (defArgs sAppendSums) (defBody sAppendSums) (defScope sAppendSums) .none kV24 dc24 pm24 an24 cd24 ct24) ["size", "number"] := ⟨PySem.W.mg_of X G a24, k24, FAppendSums.binds (ps := ["size", "number"]) fun _ _ _ _ _ _ us hl => match us, hl with | [_, _], _ => rfl⟩
  have ARootSums : At K mg "root_sums" f25 (PySem.W.fnOf "root_sums" "root_sums" (defArgs sRootSums) (defBody sRootSums) (defScope sRootSums) .none kV25 dc25 pm25 an25 cd25 ct25) ["size"] := ⟨PySem.W.mg_of X G a25, k25, FRootSums.binds (ps := ["size"]) fun _ _ _ _ _ _ us hl => match us, hl with | [_], _ => rfl⟩
  have ALawBag : At K mg "_law_bag" f26 (PySem.W.fnOf "_law_bag" "_law_bag" (defArgs sLawBag) (defBody sLawBag) (defScope sLawBag) .none kV26 dc26 pm26 an26 cd26 ct26) ["cell"] := ⟨PySem.W.mg_of X G a26, k26, FLawBag.binds (ps := ["cell"]) fun _ _ _ _ _ _ us hl => match us, hl with | [_], _ => rfl⟩
  have ALawPick : At K mg "_law_pick" f27 (PySem.W.fnOf "_law_pick" "_law_pick" (defArgs sLawPick) (defBody sLawPick) (defScope sLawPick) .none kV27 dc27 pm27 an27 cd27 ct27) ["bag", "many"] := ⟨PySem.W.mg_of X G a27, k27, FLawPick.binds (ps := ["bag", "many"]) fun _ _ _ _ _ _ us hl => match us, hl with | [_, _], _ => rfl⟩
  have ALawSize : At K mg "_law_size" f28 (PySem.W.fnOf "_law_size" "_law_size" (defArgs sLawSize) (defBody sLawSize) (defScope sLawSize) .none kV28 dc28 pm28 an28 cd28 ct28) ["bag"] := ⟨PySem.W.mg_of X G a28, k28, FLawSize.binds (ps := ["bag"]) fun _ _ _ _ _ _ us hl => match us, hl with | [_], _ => rfl⟩
  have ALawRight : At K mg "_law_right" f29 (PySem.W.fnOf "_law_right" "_law_right" (defArgs sLawRight) (defBody sLawRight) (defScope sLawRight) .none kV29 dc29 pm29 an29 cd29 ct29) ["bag"] := ⟨PySem.W.mg_of X G a29, k29, FLawRight.binds (ps := ["bag"]) fun _ _ _ _ _ _ us hl => match us, hl with | [_], _ => rfl⟩
  have z_bool := PySem.W.mg_none_of X G z_bool
  have z_enumerate := PySem.W.mg_none_of X G z_enumerate
  have z_int := PySem.W.mg_none_of X G z_int
  have z_isinstance := PySem.W.mg_none_of X G z_isinstance
  have z_len := PySem.W.mg_none_of X G z_len
  have z_max := PySem.W.mg_none_of X G z_max
  have z_min := PySem.W.mg_none_of X G z_min
  have z_range := PySem.W.mg_none_of X G z_range
  have z_sorted := PySem.W.mg_none_of X G z_sorted
  have z_sum := PySem.W.mg_none_of X G z_sum
  have z_tuple := PySem.W.mg_none_of X G z_tuple
  have g_MOST_ENTRIES := PySem.W.mg_of X G g_MOST_ENTRIES
  refine ⟨PySem.W.fnOf "law" "law" (defArgs sLaw) (defBody sLaw) (defScope sLaw) .none kV30 dc30 pm30 an30 cd30 ct30, fun s v => .of_eq rfl, fun base _ _ => ?_⟩
  have GIsWhole := ok_is_whole (P := l.prog) (w := w) (base := base) FIsWhole z_isinstance z_int z_bool
  have GIsBetween := ok_is_between FIsBetween GIsWhole AIsWhole
  have GCheckSize := ok_check_size FCheckSize GIsBetween AIsBetween g_MOST_ENTRIES
  have GCheckEntry := ok_check_entry FCheckEntry GIsBetween AIsBetween
  have GCheckSpan := ok_check_span FCheckSpan GIsBetween AIsBetween
  have GCheckNumber := ok_check_number FCheckNumber GIsWhole AIsWhole
  have GIsTreeNode := ok_is_tree_node FIsTreeNode GIsBetween AIsBetween z_isinstance z_tuple z_len
  have GCheckNode := ok_check_node FCheckNode GIsTreeNode AIsTreeNode
  have GPowerWithin := ok_power_within (P := l.prog) (w := w) (mg := mg) (base := base) FPowerWithin
  have GPeaks := ok_peaks FPeaks GCheckSize ACheckSize GPowerWithin APowerWithin
  have GPeakDepths := ok_peak_depths FPeakDepths GPeaks APeaks z_min z_enumerate z_len
  have GDepthsBetween := ok_depths_between FDepthsBetween GPeakDepths APeakDepths z_min z_max
  have GDepthSum := ok_depth_sum FDepthSum GCheckSize ACheckSize GCheckSpan ACheckSpan GDepthsBetween ADepthsBetween z_sum
  have GDepthRange := ok_depth_range FDepthRange GCheckSize ACheckSize GCheckSpan ACheckSpan GDepthsBetween ADepthsBetween z_min z_max
  have GFirstOfDepth := ok_first_of_depth FFirstOfDepth GCheckSize ACheckSize GCheckNumber ACheckNumber GPeakDepths APeakDepths
  have GHalves := ok_halves FHalves GCheckSize ACheckSize GCheckNode ACheckNode GPowerWithin APowerWithin
  have GPath := ok_path FPath GCheckSize ACheckSize GCheckEntry ACheckEntry GHalves AHalves
  have GDepth := ok_depth FDepth GPath APath z_len
  have GEdges := ok_edges FEdges GPeaks APeaks
  have GNodeCount := ok_node_count FNodeCount GEdges AEdges z_len
  have GCommonCount := ok_common_count FCommonCount GCheckSize ACheckSize GNodeCount ANodeCount z_min
  have GHeightCount := ok_height_count FHeightCount GCheckSize ACheckSize GCheckNumber ACheckNumber
  have GCheckNumberBetween := ok_check_number_between FCheckNumberBetween GIsBetween AIsBetween
  have GRootSums := ok_root_sums FRootSums GEdges AEdges z_len
  have GMadeSums := ok_made_sums FMadeSums GRootSums ARootSums
  have GAppendSums := ok_append_sums FAppendSums GCheckSize ACheckSize GCheckNumberBetween ACheckNumberBetween GMadeSums AMadeSums g_MOST_ENTRIES
  have GLawBag := ok_law_bag (P := l.prog) (w := w) (base := base) FLawBag z_max
  have GLawPick := ok_law_pick (P := l.prog) (w := w) (base := base) FLawPick z_int
  have GLawSize := ok_law_size FLawSize GLawPick ALawPick z_max z_min
  have GLawRight := ok_law_right FLawRight GLawSize ALawSize GLawPick ALawPick GNodeCount ANodeCount GHeightCount AHeightCount GEdges AEdges GRootSums ARootSums GDepthSum ADepthSum GAppendSums AAppendSums GCommonCount ACommonCount GDepthRange ADepthRange GFirstOfDepth AFirstOfDepth GDepth ADepth GPeaks APeaks z_range z_sum z_sorted z_len
  exact ok_law FLaw GLawBag ALawBag GLawRight ALawRight z_range
end LT
open PySem PySem.W PyProof.Rows
set_option maxRecDepth 100000 in
set_option maxHeartbeats 0 in
theorem PySem.Challenge.cw_logtrees_k50_whole_depths_and_counts_holds : PySem.Challenge.rw_logtrees_k50_whole_depths_and_counts.Holds := by
  w_on; o_law; k_head; (case hw => w_witness2)
  k_fill
  refine L2.walk_of (l := PySem.Challenge.rw_logtrees_k50_whole_depths_and_counts) (n := 63) (k := 10) (x := "script") (CX := fun _ => L2.CX0) (sp := fun w => LT.spLaw _) rfl (by decide) rfl ⟨rfl, by decide, by decide⟩ (fun w h Y => PySem.W.kIn_of Y) ?F (fun _ _ a ns hl _ hS => ⟨a, ns, rfl, hS, hl, fun _ => rfl⟩) (fun _ _ _ _ _ h => h)
  case F =>
    intro w mg fa h KX G hmg
    refine' LT.all_mk KX G hmg ?a0 ?l0 ?c0 ?k0 ?a1 ?l1 ?c1 ?k1 ?a2 ?l2 ?c2 ?k2 ?a3 ?l3 ?c3 ?k3 ?a4 ?l4 ?c4 ?k4 ?a5 ?l5 ?c5 ?k5 ?a6 ?l6 ?c6 ?k6 ?a7 ?l7 ?c7 ?k7 ?a8 ?l8 ?c8 ?k8 ?a9 ?l9 ?c9 ?k9 ?a10 ?l10 ?c10 ?k10 ?a11 ?l11 ?c11 ?k11 ?a12 ?l12 ?c12 ?k12 ?a13 ?l13 ?c13 ?k13 ?a14 ?l14 ?c14 ?k14 ?a15 ?l15 ?c15 ?k15 ?a16 ?l16 ?c16 ?k16 ?a17 ?l17 ?c17 ?k17 ?a18 ?l18 ?c18 ?k18 ?a19 ?l19 ?c19 ?k19 ?a20 ?l20 ?c20 ?k20 ?a21 ?l21 ?c21 ?k21 ?a22 ?l22 ?c22 ?k22 ?a23 ?l23 ?c23 ?k23 ?a24 ?l24 ?c24 ?k24 ?a25 ?l25 ?c25 ?k25 ?a26 ?l26 ?c26 ?k26 ?a27 ?l27 ?c27 ?k27 ?a28 ?l28 ?c28 ?k28 ?a29 ?l29 ?c29 ?k29 ?a30 ?l30 ?c30 ?k30 ?z_bool ?z_enumerate ?z_int ?z_isinstance ?z_len ?z_max ?z_min ?z_range ?z_sorted ?z_sum ?z_tuple ?g_MOST_ENTRIES
    (case a0 => k_is)
    (case l0 => k_is)
    (case c0 => k_is)
    (case k0 => k_is)
    (case a1 => k_is)
    (case l1 => k_is)
    (case c1 => k_is)
    (case k1 => k_is)
    (case a2 => k_is)
    (case l2 => k_is)
    (case c2 => k_is)
    (case k2 => k_is)
    (case a3 => k_is)
    (case l3 => k_is)
    (case c3 => k_is)
    (case k3 => k_is)
    (case a4 => k_is)
    (case l4 => k_is)
    (case c4 => k_is)
    (case k4 => k_is)
    (case a5 => k_is)
    (case l5 => k_is)
    (case c5 => k_is)
    (case k5 => k_is)
    (case a6 => k_is)
    (case l6 => k_is)
    (case c6 => k_is)
    (case k6 => k_is)
    (case a7 => k_is)
    (case l7 => k_is)
    (case c7 => k_is)
    (case k7 => k_is)
    (case a8 => k_is)
    (case l8 => k_is)
    (case c8 => k_is)
    (case k8 => k_is)
    (case a9 => k_is)
    (case l9 => k_is)
    (case c9 => k_is)
    (case k9 => k_is)
    (case a10 => k_is)
    (case l10 => k_is)
    (case c10 => k_is)
    (case k10 => k_is)
    (case a11 => k_is)
    (case l11 => k_is)
    (case c11 => k_is)
    (case k11 => k_is)
    (case a12 => k_is)
    (case l12 => k_is)
    (case c12 => k_is)
    (case k12 => k_is)
    (case a13 => k_is)
    (case l13 => k_is)
    (case c13 => k_is)
    (case k13 => k_is)
    (case a14 => k_is)
    (case l14 => k_is)
    (case c14 => k_is)
    (case k14 => k_is)
    (case a15 => k_is)
    (case l15 => k_is)
    (case c15 => k_is)
    (case k15 => k_is)
    (case a16 => k_is)
    (case l16 => k_is)
    (case c16 => k_is)
    (case k16 => k_is)
    (case a17 => k_is)
    (case l17 => k_is)
    (case c17 => k_is)
    (case k17 => k_is)
    (case a18 => k_is)
    (case l18 => k_is)
    (case c18 => k_is)
    (case k18 => k_is)
    (case a19 => k_is)
    (case l19 => k_is)
    (case c19 => k_is)
    (case k19 => k_is)
    (case a20 => k_is)
    (case l20 => k_is)
    (case c20 => k_is)
    (case k20 => k_is)
    (case a21 => k_is)
    (case l21 => k_is)
    (case c21 => k_is)
    (case k21 => k_is)
    (case a22 => k_is)
    (case l22 => k_is)
    (case c22 => k_is)
    (case k22 => k_is)
    (case a23 => k_is)
    (case l23 => k_is)
    (case c23 => k_is)
    (case k23 => k_is)
    (case a24 => k_is)
    (case l24 => k_is)
    (case c24 => k_is)
    (case k24 => k_is)
    (case a25 => k_is)
    (case l25 => k_is)
    (case c25 => k_is)
    (case k25 => k_is)
    (case a26 => k_is)
    (case l26 => k_is)
    (case c26 => k_is)
    (case k26 => k_is)
    (case a27 => k_is)
    (case l27 => k_is)
    (case c27 => k_is)
    (case k27 => k_is)
    (case a28 => k_is)
    (case l28 => k_is)
    (case c28 => k_is)
    (case k28 => k_is)
    (case a29 => k_is)
    (case l29 => k_is)
    (case c29 => k_is)
    (case k29 => k_is)
    (case a30 => k_is)
    (case l30 => k_is)
    (case c30 => k_is)
    (case k30 => k_is)
    (case z_bool => k_is)
    (case z_enumerate => k_is)
    (case z_int => k_is)
    (case z_isinstance => k_is)
    (case z_len => k_is)
    (case z_max => k_is)
    (case z_min => k_is)
    (case z_range => k_is)
    (case z_sorted => k_is)
    (case z_sum => k_is)
    (case z_tuple => k_is)
    (case g_MOST_ENTRIES => k_is)
