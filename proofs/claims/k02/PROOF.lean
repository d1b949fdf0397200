import PyProof.Rows.All
import Wide.All
import OpenK.AllK
import Wide.FinOn
import HandS.ForMost
import HandS.Wide
import HandS.WideBits
import HandS.IsInst
import HandS.Style
import HandS.Deep
import HandS.RaiseMore
import HandS.Conv
import HandS.Flow
import HandS.SortRule
import PyProof.ReprRoads
import PyProof.Rows.NestShow
import PySem.Challenge.RW_logtrees_k02_counts_by_listing
set_option Elab.async false
set_option linter.all false
set_option maxRecDepth 100000
set_option maxHeartbeats 4000000
namespace LT
/-- the greatest power of two less than m (m from 2) -/
def gp (m : Nat) : Nat := 2 ^ Nat.log2 (m - 1)
theorem gp_pos (m : Nat) : 0 < gp m := Nat.pow_pos (by decide)
theorem gp_lt {m : Nat} (h : 2 ≤ m) : gp m < m := by
  have := Nat.log2_self_le (n := m - 1) (by omega)
  unfold gp; omega
theorem gp_ge {m : Nat} (h : 2 ≤ m) : m ≤ 2 * gp m := by
  have := Nat.lt_log2_self (n := m - 1)
  unfold gp; rw [Nat.pow_succ] at this; omega
theorem pow_eq_of {i j : Nat} {m : Nat} (h1 : 2 ^ i < m) (h2 : m ≤ 2 * 2 ^ i) (h3 : 2 ^ j < m) (h4 : m ≤ 2 * 2 ^ j) : i = j := by
  have a : 2 ^ i < 2 ^ (j + 1) := by rw [Nat.pow_succ]; omega
  have b : 2 ^ j < 2 ^ (i + 1) := by rw [Nat.pow_succ]; omega
  have a' := (Nat.pow_lt_pow_iff_right (by decide : 1 < 2)).mp a
  have b' := (Nat.pow_lt_pow_iff_right (by decide : 1 < 2)).mp b
  omega
theorem gp_eq {i m : Nat} (h1 : 2 ^ i < m) (h2 : m ≤ 2 * 2 ^ i) : gp m = 2 ^ i := by
  have h : 2 ≤ m := by have := Nat.pow_pos (a := 2) (n := i) (by decide); omega
  have := pow_eq_of (gp_lt h) (gp_ge h) h1 h2
  unfold gp; rw [this]
theorem gp_pow (i : Nat) : gp (2 ^ (i + 1)) = 2 ^ i := gp_eq (by rw [Nat.pow_succ]; have := Nat.pow_pos (a := 2) (n := i) (by decide); omega) (by rw [Nat.pow_succ]; omega)

/-- siblings from the root's half down to the leaf's: nodes as (begin, length-end) pairs -/
def sib (b m e : Nat) : List (Nat × Nat) :=
  if h : m ≤ 1 then [] else
    if e < b + gp m then (b + gp m, b + m) :: sib b (gp m) e
    else (b, b + gp m) :: sib (b + gp m) (m - gp m) e
termination_by m
decreasing_by
  · exact gp_lt (by omega)
  · have := gp_pos m; omega
theorem sib_one {b m e : Nat} (h : m ≤ 1) : sib b m e = [] := by rw [sib]; simp [h]
theorem sib_low {b m e : Nat} (h : 2 ≤ m) (k : e < b + gp m) : sib b m e = (b + gp m, b + m) :: sib b (gp m) e := by
  rw [sib]; rw [dif_neg (by omega), if_pos k]
theorem sib_high {b m e : Nat} (h : 2 ≤ m) (k : ¬ e < b + gp m) : sib b m e = (b, b + gp m) :: sib (b + gp m) (m - gp m) e := by
  rw [sib]; rw [dif_neg (by omega), if_neg k]

/-! ### joining up again -/
def join (x y : Nat × Nat) : Nat × Nat := (min x.1 y.1, max x.2 y.2)
/-- the halves of a node -/
def halv (x : Nat × Nat) : (Nat × Nat) × (Nat × Nat) := ((x.1, x.1 + gp (x.2 - x.1)), (x.1 + gp (x.2 - x.1), x.2))
def ok1 (x y : Nat × Nat) : Prop := (join x y).1 + 2 ≤ (join x y).2 ∧ (halv (join x y) = (x, y) ∨ halv (join x y) = (y, x))
def oks : Nat × Nat → List (Nat × Nat) → Prop
  | _, [] => True
  | x, y :: r => ok1 x y ∧ oks (join x y) r
def top : Nat × Nat → List (Nat × Nat) → Nat × Nat
  | x, [] => x
  | x, y :: r => top (join x y) r
theorem oks_append : ∀ (x : Nat × Nat) (l r : List (Nat × Nat)), oks x l → oks (top x l) r → oks x (l ++ r)
  | _, [], _, _, h => h
  | x, y :: l, r, h1, h2 => ⟨h1.1, oks_append (join x y) l r h1.2 h2⟩
theorem top_append : ∀ (x : Nat × Nat) (l r : List (Nat × Nat)), top x (l ++ r) = top (top x l) r
  | _, [], _ => rfl
  | x, y :: l, r => top_append (join x y) l r
theorem sib_up : ∀ (m b e : Nat), b ≤ e → e < b + m → oks (e, e + 1) (sib b m e).reverse ∧ top (e, e + 1) (sib b m e).reverse = (b, b + m) := by
  intro m
  induction m using Nat.strongRecOn with
  | ind m ih =>
    intro b e h1 h2
    by_cases hm : m ≤ 1
    · have : m = 1 := by omega
      subst this
      rw [sib_one (by omega)]
      have : e = b := by omega
      subst this
      exact ⟨True.intro, rfl⟩
    · have g1 := gp_lt (m := m) (by omega)
      have g2 := gp_pos m
      by_cases k : e < b + gp m
      · rw [sib_low (by omega) k, List.reverse_cons]
        obtain ⟨p, q⟩ := ih (gp m) g1 b e h1 k
        have j : join (b, b + gp m) (b + gp m, b + m) = (b, b + m) := by
          unfold join; simp only []; rw [Nat.min_eq_left (by omega), Nat.max_eq_right (by omega)]
        refine ⟨oks_append _ _ _ p ?_, ?_⟩
        · rw [q]
          refine ⟨⟨?_, .inl ?_⟩, True.intro⟩
          · rw [j]; simp only []; omega
          · rw [j]; unfold halv; simp only []; rw [Nat.add_sub_cancel_left]
        · rw [top_append, q]; exact j
      · rw [sib_high (by omega) k, List.reverse_cons]
        obtain ⟨p, q⟩ := ih (m - gp m) (by omega) (b + gp m) e (by omega) (by omega)
        have e2 : b + gp m + (m - gp m) = b + m := by omega
        rw [e2] at q
        have j : join (b + gp m, b + m) (b, b + gp m) = (b, b + m) := by
          unfold join; simp only []; rw [Nat.min_eq_right (by omega), Nat.max_eq_left (by omega)]
        refine ⟨oks_append _ _ _ p ?_, ?_⟩
        · rw [q]
          refine ⟨⟨?_, .inr ?_⟩, True.intro⟩
          · rw [j]; simp only []; omega
          · rw [j]; unfold halv; simp only []; rw [Nat.add_sub_cancel_left]
        · rw [top_append, q]; exact j
theorem sib_len_pow (i : Nat) : ∀ (b e : Nat), b ≤ e → e < b + 2 ^ i → (sib b (2 ^ i) e).length = i := by
  induction i with
  | zero => intro b e h1 h2; rw [sib_one (by simp)]; rfl
  | succ i ih =>
    intro b e h1 h2
    have h3 : 2 ≤ 2 ^ (i + 1) := by rw [Nat.pow_succ]; have := Nat.pow_pos (a := 2) (n := i) (by decide); omega
    have g := gp_pow i
    have e2 : 2 ^ (i + 1) - 2 ^ i = 2 ^ i := by rw [Nat.pow_succ]; omega
    by_cases k : e < b + gp (2 ^ (i + 1))
    · rw [sib_low h3 k, List.length_cons, g, ih b e h1 (by omega)]
    · rw [sib_high h3 k, List.length_cons, g, e2, ih (b + 2 ^ i) e (by omega) (by rw [Nat.pow_succ] at h2; omega)]
/-! ### the peaks by digits: (begin, height) -/
def pk : Nat → Nat → Nat → List (Nat × Nat)
  | 0, _, _ => []
  | i + 1, n, b => if n.testBit i then (b, i) :: pk i n (b + 2 ^ i) else pk i n b
theorem mod_succ (n i : Nat) : n % 2 ^ (i + 1) = (if n.testBit i then 2 ^ i else 0) + n % 2 ^ i := by
  rw [Nat.mod_pow_succ, Nat.testBit_eq_decide_div_mod_eq, Nat.add_comm]
  have h : n / 2 ^ i % 2 = 0 ∨ n / 2 ^ i % 2 = 1 := by omega
  rcases h with h | h <;> rw [h] <;> simp
theorem pk_nil : ∀ (i n b : Nat), n % 2 ^ i = 0 → pk i n b = []
  | 0, _, _, _ => rfl
  | i + 1, n, b, h => by
    rw [mod_succ] at h
    have p := Nat.pow_pos (a := 2) (n := i) (by decide)
    unfold pk
    cases t : n.testBit i with
    | true => rw [t] at h; simp at h
    | false => rw [t] at h; simp at h; simp; exact pk_nil i n b h
theorem pk_ne : ∀ (i n b : Nat), n % 2 ^ i ≠ 0 → pk i n b ≠ []
  | 0, _, _, h => by simp [Nat.mod_one] at h
  | i + 1, n, b, h => by
    rw [mod_succ] at h
    unfold pk
    cases t : n.testBit i with
    | true => simp
    | false => rw [t] at h; simp at h; simp; exact pk_ne i n b (by omega)
theorem pk_begin : ∀ (i n b : Nat) (x : Nat × Nat), x ∈ pk i n b → b ≤ x.1 ∧ x.2 < i
  | 0, _, _, _, h => by simp [pk] at h
  | i + 1, n, b, x, h => by
    unfold pk at h
    cases t : n.testBit i with
    | true =>
      rw [t] at h; simp at h
      rcases h with h | h
      · subst h; exact ⟨Nat.le_refl _, Nat.lt_succ_self _⟩
      · have := pk_begin i n _ x h; have p := Nat.pow_pos (a := 2) (n := i) (by decide); omega
    | false =>
      rw [t] at h; simp at h
      have := pk_begin i n _ x h; omega
/-- what the law says of the levels: s the place of the first row, of t rows in all -/
def lev (t : Nat) : Nat → List (Nat × Nat) → List (Nat × Nat × Nat)
  | _, [] => []
  | s, x :: r => (x.1, x.1 + 2 ^ x.2, x.2 + min (s + 1) (t - 1)) :: lev t (s + 1) r
def due (e : Nat) (l : List (Nat × Nat × Nat)) : List Nat := (l.filter fun x => decide (x.1 ≤ e) && decide (e < x.2.1)).map fun x => x.2.2
theorem due_none (t e : Nat) : ∀ (l : List (Nat × Nat)) (s : Nat), (∀ x ∈ l, e < x.1) → due e (lev t s l) = []
  | [], _, _ => rfl
  | x :: r, s, h => by
    have h1 := h x (List.mem_cons_self)
    have ih := due_none t e r (s + 1) fun y hy => h y (List.mem_cons_of_mem _ hy)
    show List.map _ (List.filter _ ((x.1, x.1 + 2 ^ x.2, x.2 + min (s + 1) (t - 1)) :: lev t (s + 1) r)) = []
    rw [List.filter_cons, if_neg (by simp; omega)]
    exact ih
theorem due_is (n e : Nat) : ∀ (i b s : Nat), b ≤ e → e < b + n % 2 ^ i → due e (lev (s + (pk i n b).length) s (pk i n b)) = [(sib b (n % 2 ^ i) e).length + min s (s + (pk i n b).length - 1)] := by
  intro i
  induction i with
  | zero => intro b s h1 h2; simp [Nat.mod_one] at h2; omega
  | succ i ih =>
    intro b s h1 h2
    have p := Nat.pow_pos (a := 2) (n := i) (by decide)
    have ml := Nat.mod_lt n p
    cases t : n.testBit i with
    | false =>
      have e1 : n % 2 ^ (i + 1) = n % 2 ^ i := by rw [mod_succ, t]; simp
      have e2 : pk (i + 1) n b = pk i n b := by show (if n.testBit i = true then _ else _) = _; rw [t]; simp
      rw [e1] at h2
      rw [e1, e2]; exact ih b s h1 h2
    | true =>
      have e1 : n % 2 ^ (i + 1) = 2 ^ i + n % 2 ^ i := by rw [mod_succ, t]; simp
      have e2 : pk (i + 1) n b = (b, i) :: pk i n (b + 2 ^ i) := by show (if n.testBit i = true then _ else _) = _; rw [t]; simp
      rw [e1] at h2
      rw [e1, e2, List.length_cons]
      by_cases r0 : n % 2 ^ i = 0
      · rw [pk_nil i n _ r0, r0]
        rw [r0] at h2
        rw [Nat.add_zero] at h2
        rw [Nat.add_zero (2 ^ i), sib_len_pow i b e h1 h2]
        show List.map _ (List.filter _ [(b, b + 2 ^ i, i + min (s + 1) (s + (0 + 1) - 1))]) = _
        rw [List.filter_cons, if_pos (by simp; omega)]
        simp
      · have hne : 1 ≤ (pk i n (b + 2 ^ i)).length := by
          have := pk_ne i n (b + 2 ^ i) r0
          cases hh : pk i n (b + 2 ^ i) with
          | nil => exact absurd hh this
          | cons _ _ => rw [List.length_cons]; omega
        have g : gp (2 ^ i + n % 2 ^ i) = 2 ^ i := gp_eq (by omega) (by omega)
        by_cases k : e < b + 2 ^ i
        · rw [sib_low (by omega) (by rw [g]; exact k), g, List.length_cons, sib_len_pow i b e h1 k]
          have d := due_none (s + ((pk i n (b + 2 ^ i)).length + 1)) e (pk i n (b + 2 ^ i)) (s + 1) fun x hx => by have := pk_begin _ _ _ x hx; omega
          show List.map _ (List.filter _ ((b, b + 2 ^ i, i + min (s + 1) (s + ((pk i n (b + 2 ^ i)).length + 1) - 1)) :: lev (s + ((pk i n (b + 2 ^ i)).length + 1)) (s + 1) (pk i n (b + 2 ^ i)))) = _
          rw [List.filter_cons, if_pos (by simp; omega), List.map_cons]
          have d' : List.map (fun x => x.2.2) (List.filter (fun x => decide (x.1 ≤ e) && decide (e < x.2.1)) (lev (s + ((pk i n (b + 2 ^ i)).length + 1)) (s + 1) (pk i n (b + 2 ^ i)))) = [] := d
          rw [d']
          simp
          omega
        · rw [sib_high (by omega) (by rw [g]; exact k), g, List.length_cons, Nat.add_sub_cancel_left]
          have q := ih (b + 2 ^ i) (s + 1) (by omega) (by omega)
          have e3 : s + 1 + (pk i n (b + 2 ^ i)).length = s + ((pk i n (b + 2 ^ i)).length + 1) := by omega
          rw [e3] at q
          show List.map _ (List.filter _ ((b, b + 2 ^ i, i + min (s + 1) (s + ((pk i n (b + 2 ^ i)).length + 1) - 1)) :: lev (s + ((pk i n (b + 2 ^ i)).length + 1)) (s + 1) (pk i n (b + 2 ^ i)))) = _
          rw [List.filter_cons, if_neg (by simp; omega)]
          refine Eq.trans q ?_
          congr 1
          omega
/-! ### which pairs are nodes -/
/-- the bits of m - 1 -/
def lb (m : Nat) : Nat := if m ≤ 1 then 0 else Nat.log2 (m - 1) + 1
theorem lb_le {x i : Nat} (h : x ≤ 2 ^ i) : lb x ≤ i := by
  unfold lb
  by_cases k : x ≤ 1
  · rw [if_pos k]; omega
  · rw [if_neg k]
    have h1 := Nat.log2_self_le (n := x - 1) (by omega)
    have h2 : 2 ^ Nat.log2 (x - 1) < 2 ^ i := by omega
    exact (Nat.pow_lt_pow_iff_right (by decide : 1 < 2)).mp h2
theorem lb_ge (x : Nat) : x ≤ 2 ^ lb x := by
  unfold lb
  by_cases k : x ≤ 1
  · rw [if_pos k]; omega
  · rw [if_neg k]
    have := Nat.lt_log2_self (n := x - 1)
    omega
theorem lb_pow (i : Nat) : lb (2 ^ i) = i := by
  have h1 := lb_le (Nat.le_refl (2 ^ i))
  have h2 := (Nat.pow_le_pow_iff_right (by decide : 1 < 2)).mp (lb_ge (2 ^ i))
  omega
theorem lb_gp {m : Nat} (h : 2 ≤ m) : 2 ^ lb m = 2 * gp m := by
  unfold lb gp; rw [if_neg (by omega), Nat.pow_succ]; omega
def tree (n b m : Nat) : Prop := 2 ^ lb m ∣ b ∧ (m = 2 ^ lb m ∨ b + m = n)
theorem tree_root (n : Nat) : tree n 0 n := ⟨Nat.dvd_zero _, .inr (Nat.zero_add _)⟩
theorem tree_low {n b m : Nat} (h : 2 ≤ m) (t : tree n b m) : tree n b (gp m) := by
  obtain ⟨d, _⟩ := t
  rw [lb_gp h] at d
  have e : 2 ^ lb (gp m) = gp m := by unfold gp; rw [lb_pow]
  exact ⟨by rw [e]; exact Nat.dvd_trans (Nat.dvd_mul_left _ _) d, .inl e.symm⟩
theorem tree_high {n b m : Nat} (h : 2 ≤ m) (t : tree n b m) : tree n (b + gp m) (m - gp m) := by
  obtain ⟨d, k⟩ := t
  rw [lb_gp h] at d k
  have g1 := gp_lt h
  have g2 := gp_ge h
  have dg : 2 ^ lb (m - gp m) ∣ gp m := by
    have : lb (m - gp m) ≤ Nat.log2 (m - 1) := lb_le (by unfold gp at g1 g2 ⊢; omega)
    exact Nat.pow_dvd_pow 2 this
  refine ⟨Nat.dvd_add (Nat.dvd_trans dg (Nat.dvd_trans (Nat.dvd_mul_left _ _) d)) dg, ?_⟩
  rcases k with k | k
  · left
    have e : m - gp m = gp m := by omega
    rw [e]
    unfold gp; rw [lb_pow]
  · right; omega
theorem sib_len_le : ∀ (m b e : Nat), b ≤ e → e < b + m → (sib b m e).length ≤ lb m := by
  intro m
  induction m using Nat.strongRecOn with
  | ind m ih =>
    intro b e h1 h2
    by_cases hm : m ≤ 1
    · rw [sib_one hm]; exact Nat.zero_le _
    · have g1 := gp_lt (m := m) (by omega)
      have g2 := gp_ge (m := m) (by omega)
      have g3 := gp_pos m
      have e1 : lb m = Nat.log2 (m - 1) + 1 := by unfold lb; rw [if_neg hm]
      by_cases k : e < b + gp m
      · rw [sib_low (by omega) k, List.length_cons]
        have := ih (gp m) g1 b e h1 k
        have e2 : lb (gp m) = Nat.log2 (m - 1) := by unfold gp; rw [lb_pow]
        omega
      · rw [sib_high (by omega) k, List.length_cons]
        have := ih (m - gp m) (by omega) (b + gp m) e (by omega) (by omega)
        have e2 : lb (m - gp m) ≤ Nat.log2 (m - 1) := lb_le (by unfold gp at g1 g2 ⊢; omega)
        omega
end LT
namespace LT
open PySem PySem.Spec PyProof.Rows L2
def topS (i : Nat) : Stmt := PySem.Challenge.pw_logtrees_k02_counts_by_listing.main.body.getD i (.Pass ⟨0, 0, 0, 0⟩)
abbrev sIsWhole : Stmt := topS 6
theorem scIsWhole : FnScope ["value"] ["value"] (defScope sIsWhole) := ⟨rfl, rfl, rfl, by decide +kernel, rfl, by decide +kernel, by decide +kernel⟩
abbrev sIsBetween : Stmt := topS 7
theorem scIsBetween : FnScope ["value", "low", "high"] ["value", "low", "high"] (defScope sIsBetween) := ⟨rfl, rfl, rfl, by decide +kernel, rfl, by decide +kernel, by decide +kernel⟩
abbrev sCheckSize : Stmt := topS 8
theorem scCheckSize : FnScope ["size"] ["size"] (defScope sCheckSize) := ⟨rfl, rfl, rfl, by decide +kernel, rfl, by decide +kernel, by decide +kernel⟩
abbrev sCheckNumber : Stmt := topS 9
theorem scCheckNumber : FnScope ["number"] ["number"] (defScope sCheckNumber) := ⟨rfl, rfl, rfl, by decide +kernel, rfl, by decide +kernel, by decide +kernel⟩
abbrev sPowerWithin : Stmt := topS 11
theorem scPowerWithin : FnScope ["number"] ["number"] (defScope sPowerWithin) := ⟨rfl, rfl, rfl, by decide +kernel, rfl, by decide +kernel, by decide +kernel⟩
abbrev sPeaks : Stmt := topS 12
theorem scPeaks : FnScope ["size", "found", "begin", "end"] ["size"] (defScope sPeaks) := ⟨rfl, rfl, rfl, by decide +kernel, rfl, by decide +kernel, by decide +kernel⟩
abbrev sEdges : Stmt := topS 13
theorem scEdges : FnScope ["size", "begin", "_"] ["size"] (defScope sEdges) := ⟨rfl, rfl, rfl, by decide +kernel, rfl, by decide +kernel, by decide +kernel⟩
abbrev sNodeCount : Stmt := topS 14
theorem scNodeCount : FnScope ["size", "cut"] ["size"] (defScope sNodeCount) := ⟨rfl, rfl, rfl, by decide +kernel, rfl, by decide +kernel, by decide +kernel⟩
abbrev sCommonCount : Stmt := topS 15
theorem scCommonCount : FnScope ["size", "other", "full", "cut"] ["size", "other"] (defScope sCommonCount) := ⟨rfl, rfl, rfl, by decide +kernel, rfl, by decide +kernel, by decide +kernel⟩
abbrev sHeightCount : Stmt := topS 16
theorem scHeightCount : FnScope ["size", "number", "beside"] ["size", "number"] (defScope sHeightCount) := ⟨rfl, rfl, rfl, by decide +kernel, rfl, by decide +kernel, by decide +kernel⟩
abbrev sLawBag : Stmt := topS 18
theorem scLawBag : FnScope ["cell"] ["cell"] (defScope sLawBag) := ⟨rfl, rfl, rfl, by decide +kernel, rfl, by decide +kernel, by decide +kernel⟩
abbrev sLawPick : Stmt := topS 19
theorem scLawPick : FnScope ["bag", "many", "told", "seed", "turn", "first", "second", "drawn"] ["bag", "many"] (defScope sLawPick) := ⟨rfl, rfl, rfl, by decide +kernel, rfl, by decide +kernel, by decide +kernel⟩
abbrev sLawHalved : Stmt := topS 20
theorem scLawHalved : FnScope ["node", "begin", "end", "step"] ["node"] (defScope sLawHalved) := ⟨rfl, rfl, rfl, by decide +kernel, rfl, by decide +kernel, by decide +kernel⟩
abbrev sLawNodes : Stmt := topS 21
theorem scLawNodes : FnScope ["node", "one", "other"] ["node"] (defScope sLawNodes) := ⟨rfl, rfl, rfl, by decide +kernel, rfl, by decide +kernel, by decide +kernel⟩
abbrev sLawIsFull : Stmt := topS 22
theorem scLawIsFull : FnScope ["node", "many"] ["node"] (defScope sLawIsFull) := ⟨rfl, rfl, rfl, by decide +kernel, rfl, by decide +kernel, by decide +kernel⟩
abbrev sLawHeight : Stmt := topS 23
theorem scLawHeight : FnScope ["node", "found"] ["node"] (defScope sLawHeight) := ⟨rfl, rfl, rfl, by decide +kernel, rfl, by decide +kernel, by decide +kernel⟩
abbrev sLawRight : Stmt := topS 24
theorem scLawRight : FnScope ["size", "other", "every", "there", "full", "both", "heights", "number", "node", "height"] ["size", "other"] (defScope sLawRight) := ⟨rfl, rfl, rfl, by decide +kernel, rfl, by decide +kernel, by decide +kernel⟩
abbrev sLaw : Stmt := topS 25
theorem scLaw : FnScope ["script", "cell", "bag", "turn", "told", "number"] ["script"] (defScope sLaw) := ⟨rfl, rfl, rfl, by decide +kernel, rfl, by decide +kernel, by decide +kernel⟩
/-- a def as it stands behind the top -/
structure At (K : PySem.W.Frag) (mg : Str → Option Value) (x : Str) (f : Addr) (fd : FuncData) (ps : List Str) : Prop where
  m : mg x = some (.ref f)
  kp : PySem.W.keepIn K (.ref f) = true
  b : Binds K fd ps []
theorem units1 {k : Nat} {A : Around} (r : Room k A) : A.units + 65 < cLine := by have := r.un; omega
/-- all but b as it was -/
def But (b : Addr) (H H' : Hp) : Prop := ∀ a o, a ≠ b → H a = some o → H' a = some o
theorem But.refl (b : Addr) (H : Hp) : But b H H := fun _ _ _ h => h
theorem But.trans {b : Addr} {H H1 H2 : Hp} (x : But b H H1) (y : But b H1 H2) : But b H H2 := fun a o n h => y a o n (x a o n h)
theorem But.of {b : Addr} {H H1 : Hp} (x : Same H H1) : But b H H1 := fun a o _ h => x a o h
theorem same_upd {H : Hp} {p : Addr} {o : HO} (h : H p = none) : Same H (upd H p o) := fun b x e => by
  rw [upd_ne (ne_of_none e h)]
  exact e
def BagAt (H : Hp) (b : Addr) : Prop := ∃ x y z : Int, H b = some (.lst [.int x, .int y, .int z])
theorem BagAt.same {H H' : Hp} {b : Addr} (h : BagAt H b) (s : Same H H') : BagAt H' b := by
  obtain ⟨x, y, z, e⟩ := h
  exact ⟨x, y, z, s _ _ e⟩
/-- a pair of ints -/
def Nd (H : Hp) (v : V) (x : Nat × Nat) : Prop := ∃ p, v = .ref p ∧ H p = some (.tup [.int x.1, .int x.2])
theorem Nd.same {H H' : Hp} {v : V} {x : Nat × Nat} (h : Nd H v x) (s : Same H H') : Nd H' v x := by
  obtain ⟨p, e, q⟩ := h
  exact ⟨p, e, s _ _ q⟩
theorem Nd.dp {K : PySem.W.Frag} {H : Hp} {v : V} {x : Nat × Nat} (h : Nd H v x) : Dp K H v (.tuple [.int x.1, .int x.2]) := by
  obtain ⟨p, rfl, q⟩ := h
  exact .tup (SqT.of q) (.cons (.int _) (.cons (.int _) .nil))
theorem nd_shaped (a b : Int) : SeqAt.shaped (.tuple [.int a, .int b]) = true := by
  show (PyData.canLay0 _ && decide (PyData.depth _ ≤ 64)) = true
  simp [PyData.canLay0, PyData.canLayAll0, PyData.depth, PyData.depthAll]
theorem nd_eqv (a b c d : Int) : PyData.eqv (.tuple [.int a, .int b]) (.tuple [.int c, .int d]) = (decide (a = c) && decide (b = d)) := by
  have e : PyData.eqv (.tuple [.int a, .int b]) (.tuple [.int c, .int d]) = ((a == c) && ((b == d) && true)) := by simp only [PyData.eqv, PyData.eqvAll]
  rw [e, Bool.and_true]
  by_cases h1 : a = c <;> by_cases h2 : b = d <;> simp [h1, h2]
/-- lists of values and what they stand for -/
inductive All2 {α : Type} (R : V → α → Prop) : List V → List α → Prop
  | nil : All2 R [] []
  | cons {v : V} {x : α} {vs : List V} {xs : List α} : R v x → All2 R vs xs → All2 R (v :: vs) (x :: xs)
section
variable {α : Type} {R R' : V → α → Prop}
theorem All2.mono (f : ∀ v x, R v x → R' v x) : ∀ {vs : List V} {xs : List α}, All2 R vs xs → All2 R' vs xs
  | _, _, .nil => .nil
  | _, _, .cons h t => .cons (f _ _ h) (All2.mono f t)
theorem All2.len : ∀ {vs : List V} {xs : List α}, All2 R vs xs → vs.length = xs.length
  | _, _, .nil => rfl
  | _, _, .cons _ t => by rw [List.length_cons, List.length_cons, All2.len t]
theorem All2.app : ∀ {vs : List V} {xs : List α} {us : List V} {ys : List α}, All2 R vs xs → All2 R us ys → All2 R (vs ++ us) (xs ++ ys)
  | _, _, _, _, .nil, h => h
  | _, _, _, _, .cons h t, k => .cons h (All2.app t k)
theorem All2.rev : ∀ {vs : List V} {xs : List α}, All2 R vs xs → All2 R vs.reverse xs.reverse
  | _, _, .nil => .nil
  | _, _, .cons h t => by
    rw [List.reverse_cons, List.reverse_cons]
    exact All2.app (All2.rev t) (.cons h .nil)
theorem All2.nth : ∀ {vs : List V} {xs : List α} {i : Nat} {v : V}, All2 R vs xs → vs[i]? = some v → ∃ x, xs[i]? = some x ∧ R v x
  | _, _, _, _, .nil, h => by simp at h
  | _, _, 0, _, .cons h t, e => by
    have := Option.some.inj e
    subst this
    exact ⟨_, rfl, h⟩
  | _, _, i + 1, _, .cons h t, e => by
    rw [List.getElem?_cons_succ] at e ⊢
    exact All2.nth t e
theorem All2.nth2 : ∀ {vs : List V} {xs : List α} {i : Nat} {x : α}, All2 R vs xs → xs[i]? = some x → ∃ v, vs[i]? = some v ∧ R v x
  | _, _, _, _, .nil, h => by simp at h
  | _, _, 0, _, .cons h t, e => by
    have := Option.some.inj e
    subst this
    exact ⟨_, rfl, h⟩
  | _, _, i + 1, _, .cons h t, e => by
    rw [List.getElem?_cons_succ] at e ⊢
    exact All2.nth2 t e
end

/-! ### rules within a comprehension: what they say of the written part is said of the def's -/
section
open PySem L2
variable {X : Cx} {s : Shared} {H : Hp} {sc : Scope} {ce : Env} {fp : List Addr}
theorem pg_tupB {es : List Expr} {k : Nat} {pos : Pos} {t : TGs} {n : Nat} (hc : X.calm = true) (h : PGs (X.blk s H sc ce fp) es t)
    (hn : (assignEach es (X.blk s H sc ce fp).env).length = n := by rfl) (hst : (assignEach es (X.blk s H sc ce fp).env).findIdx? (·.1) = none := by rfl) : PG (X.blk s H sc ce fp) (.Tuple es k pos) (gTup X.K n t) := pg_tup hc h hn hst
theorem ix_listB : IxR (X.blk s H sc ce fp) (rIxL X.K) := ix_list
theorem ix_tupB : IxR (X.blk s H sc ce fp) (rIxT X.K) := ix_tup
theorem call_len_seqB : CallR (X.blk s H sc ce fp) (.builtin "len") (fun xs H Q => ∃ p ys, xs = [.ref p] ∧ (SqL X.K H p ys ∨ SqT X.K H p ys) ∧ Q (.int ys.length) H) := call_len_seq
theorem op_eqDB (hu : X.A.units + 64 < cLine) : OpR (X.blk s H sc ce fp) (compareOp .Eq) (rEqD X.K) := op_eqD (X := X.blk s H sc ce fp) hu
theorem op_neDB (hu : X.A.units + 64 < cLine) : OpR (X.blk s H sc ce fp) (compareOp .NotEq) (rNeD X.K) := op_neD (X := X.blk s H sc ce fp) hu
theorem op_inDB (hu : X.A.units + 65 < cLine) : OpR (X.blk s H sc ce fp) (compareOp .In) (rInD X.K) := op_inD (X := X.blk s H sc ce fp) hu
theorem op_notInDB (hu : X.A.units + 65 < cLine) : OpR (X.blk s H sc ce fp) (compareOp .NotIn) (rNotInD X.K) := op_notInD (X := X.blk s H sc ce fp) hu
end
theorem Nd.upd {H : Hp} {v : V} {x : Nat × Nat} {s : Addr} {xs : List V} {o : HO} (h : Nd H v x) (hs : H s = some (.lst xs)) : Nd (upd H s o) v x := by
  obtain ⟨p, e, q⟩ := h
  exact ⟨p, e, by rw [upd_ne (ne_of q hs (by intro z; cases z))]; exact q⟩
def full (x : Nat × Nat) : Nat × Nat := (x.1, x.1 + 2 ^ x.2)
theorem pk_len : ∀ (i n b : Nat), (pk i n b).length ≤ i
  | 0, _, _ => Nat.le_refl _
  | i + 1, n, b => by
    show (if n.testBit i = true then (b, i) :: pk i n (b + 2 ^ i) else pk i n b).length ≤ i + 1
    by_cases t : n.testBit i = true
    · rw [if_pos t, List.length_cons]
      exact Nat.succ_le_succ (pk_len i n _)
    · rw [if_neg t]
      exact Nat.le_succ_of_le (pk_len i n b)
theorem take_more {α : Type} : ∀ {l : List α} {i : Nat} {x : α}, l[i]? = some x → l.take (i + 1) = l.take i ++ [x]
  | [], i, x, h => by simp at h
  | a :: l, 0, x, h => by
    have e : a = x := Option.some.inj h
    subst e
    rfl
  | a :: l, i + 1, x, h => by
    have ih := take_more (l := l) (i := i) (x := x) h
    show a :: l.take (i + 1) = a :: l.take i ++ [x]
    rw [ih]
    rfl
theorem szle {n : Nat} (h : n ≤ 100000) : n ≤ sizeLine := Nat.le_trans h (by decide)
theorem szlt {n : Nat} (h : n < 100000) : n < sizeLine := Nat.lt_of_lt_of_le h (by decide)
end LT

namespace LT
open PySem PySem.Spec PyProof.Rows L2
section
variable {P : Program} {w : World} {K : PySem.W.Frag} {mg : Str → Option Value} {base : Heap}
def spWhole : Sp := fun vs H Q _ => ∃ i : Int, vs = [.int i] ∧ Q (.bl true) H
theorem ok_is_whole {f : Addr} {fd : FuncData} (F : Fun K "is_whole" "is_whole" sIsWhole f fd) (z_isinstance : mg "isinstance" = none) (z_int : mg "int" = none) (z_bool : mg "bool" = none) : FnOk P w K mg base CX0 1 f fd ["value"] spWhole := by
  refine F.ok scIsWhole (fun vs H Q E h => ?_) (fun cdv A outer s H vs Q E hr h => ?_)
  · obtain ⟨i, rfl, _⟩ := h
    rfl
  obtain ⟨i, rfl, q⟩ := h
  refine ⟨_, (pss_one (ps_ret (pe_and (pe_callB call_isi (by rfl) z_isinstance (by decide +kernel) (pa_cons (pv 0) (pa_cons (pe_bltn (v := .ty "int") (u := .type "int") (by rfl) z_int (by decide +kernel) rfl) pa_nil))) (pe_one (pe_not (pe_callB call_isi (by rfl) z_isinstance (by decide +kernel) (pa_cons (pv 0) (pa_cons (pe_bltn (v := .ty "bool") (u := .type "bool") (by rfl) z_bool (by decide +kernel) rfl) pa_nil)))))))), ?_⟩
  refine ⟨_, rfl, _, _, _, _, true, rfl, .ty "int", .base (.int i), kit_ty (by decide +kernel), true, rfl, ?_⟩
  refine ⟨_, rfl, _, _, _, _, false, rfl, .ty "bool", .base (.int i), kit_ty (by decide +kernel), false, rfl, ?_⟩
  exact q
def spBetween : Sp := fun vs H Q _ => ∃ v lo hi : Int, vs = [.int v, .int lo, .int hi] ∧ Q (.bl (decide (lo ≤ v) && decide (v ≤ hi))) H
theorem ok_is_between {f g : Addr} {fd gd : FuncData} (F : Fun K "is_between" "is_between" sIsBetween f fd) (GIsWhole : FnOk P w K mg base CX0 1 g gd ["value"] spWhole) (AIsWhole : At K mg "is_whole" g gd ["value"]) : FnOk P w K mg base CX0 2 f fd ["value", "low", "high"] spBetween := by
  refine F.ok scIsBetween (fun vs H Q E h => ?_) (fun cdv A outer s H vs Q E hr h => ?_)
  · obtain ⟨i, _, _, rfl, _⟩ := h
    rfl
  obtain ⟨v, lo, hi, rfl, q⟩ := h
  refine ⟨_, (pss_one (ps_ret (pe_and (pe_call GIsWhole (hr.mono (by decide)) rfl AIsWhole.m AIsWhole.kp AIsWhole.b .nil pass0 (pa_cons (pv 0) pa_nil)) (pe_one (pe_chain op_le op_le (pv 1) (pv 0) (pv 2)))))), ?_⟩
  refine ⟨_, rfl, v, rfl, true, rfl, ?_⟩
  refine ⟨_, rfl, _, rfl, _, _, rfl, rfl, _, rfl, ?_⟩
  by_cases h1 : lo ≤ v
  · rw [decide_eq_true h1] at q ⊢
    exact ⟨_, rfl, _, _, rfl, rfl, q⟩
  · rw [decide_eq_false h1] at q ⊢
    exact q
def spCheckSize : Sp := fun vs H Q _ => ∃ n : Int, vs = [.int n] ∧ 1 ≤ n ∧ n ≤ 10 ^ 30 ∧ Q .non H
theorem ok_check_size {f g : Addr} {fd gd : FuncData} {t : Tok} (F : Fun K "check_size" "check_size" sCheckSize f fd) (GIsBetween : FnOk P w K mg base CX0 2 g gd ["value", "low", "high"] spBetween) (AIsBetween : At K mg "is_between" g gd ["value", "low", "high"]) (g_MOST_ENTRIES : mg "MOST_ENTRIES" = some (.int 1000000000000000000000000000000 t)) : FnOk P w K mg base CX0 3 f fd ["size"] spCheckSize := by
  refine F.ok scCheckSize (fun vs H Q E h => ?_) (fun cdv A outer s H vs Q E hr h => ?_)
  · obtain ⟨i, rfl, _⟩ := h
    rfl
  obtain ⟨n, rfl, h1, h2, q⟩ := h
  refine ⟨_, (pss_one (ps_if (pt_not (pt_val (pe_call GIsBetween (hr.mono (by decide)) rfl AIsBetween.m AIsBetween.kp AIsBetween.b .nil pass0 (pa_cons (pv 0) (pa_cons pe_int (pa_cons (pe_glob (v := .int 1000000000000000000000000000000) rfl g_MOST_ENTRIES ⟨_, rfl⟩) pa_nil))))))
    (pss_one ps_never)
    pss_nil)), ?_⟩
  refine ⟨_, rfl, n, 1, 1000000000000000000000000000000, rfl, _, rfl, ?_⟩
  rw [decide_eq_true h1, decide_eq_true (show n ≤ 1000000000000000000000000000000 from h2)]
  exact q
end
end LT

namespace LT
open PySem PySem.Spec PyProof.Rows L2
theorem bits_nat (k : Nat) : Builtin.Int.intBits (k : Int) = if k = 0 then 0 else k.log2 + 1 := by
  unfold Builtin.Int.intBits
  by_cases h : k = 0
  · subst h; rfl
  · rw [if_neg h, if_neg (by simpa using h)]
    rfl
theorem bits_lb {m : Nat} (h : 1 ≤ m) : Builtin.Int.intBits ((m - 1 : Nat) : Int) = lb m := by
  rw [bits_nat]
  unfold lb
  by_cases k : m ≤ 1
  · rw [if_pos k, if_pos (by omega)]
  · rw [if_neg k, if_neg (by omega)]
theorem lb100 {m : Nat} (h : m ≤ 10 ^ 30) : lb m ≤ 100 := lb_le (Nat.le_trans h (by decide))
theorem fmod_of_dvd {a b : Nat} (h : a ∣ b) : Int.fmod (b : Int) (a : Int) = 0 := by
  rw [Int.fmod_eq_emod_of_nonneg _ (Int.natCast_nonneg _)]
  exact Int.emod_eq_zero_of_dvd (Int.natCast_dvd_natCast.mpr h)
end LT

namespace LT
open PySem PySem.Spec PyProof.Rows L2
section
variable {P : Program} {w : World} {K : PySem.W.Frag} {mg : Str → Option Value} {base : Heap}
def spPower : Sp := fun vs H Q _ => ∃ (k : Nat), vs = [.int k] ∧ 1 ≤ k ∧ k ≤ 10 ^ 30 ∧ Q (.int ((2 ^ k.log2 : Nat) : Int)) H
theorem ok_power_within {f : Addr} {fd : FuncData} (F : Fun K "power_within" "power_within" sPowerWithin f fd) : FnOk P w K mg base CX0 1 f fd ["number"] spPower := by
  refine F.ok scPowerWithin (fun vs H Q E h => ?_) (fun cdv A outer s H vs Q E hr h => ?_)
  · obtain ⟨_, rfl, _⟩ := h
    rfl
  obtain ⟨k, rfl, h1, h30, q⟩ := h
  refine ⟨_, (pss_one (ps_ret (pe_op op_shl pe_int (pe_op op_sub (pe_bits (pv 0)) pe_int)))), ?_⟩
  refine ⟨_, rfl, _, rfl, _, _, rfl, rfl, ?_⟩
  dsimp only
  have e : ((Builtin.Int.intBits (k : Int) : Nat) : Int) - 1 = ((k.log2 : Nat) : Int) := by
    rw [bits_nat, if_neg (by omega)]
    omega
  rw [e]
  have l100 : k.log2 < 100 := (Nat.log2_lt (by omega)).mpr (Nat.lt_of_le_of_lt h30 (by decide))
  refine ⟨_, _, rfl, rfl, ⟨Int.natCast_nonneg _, by omega, by decide⟩, ?_⟩
  have e2 : (1 : Int) * 2 ^ ((k.log2 : Nat) : Int).toNat = ((2 ^ k.log2 : Nat) : Int) := by rw [Int.one_mul, Int.toNat_natCast]; exact (Int.natCast_pow 2 _).symm
  show Q (.int ((1 : Int) * 2 ^ ((k.log2 : Nat) : Int).toNat)) H
  rw [e2]
  exact q
end
end LT

namespace LT
open PySem PySem.Spec PyProof.Rows L2
section
variable {P : Program} {w : World} {K : PySem.W.Frag} {mg : Str → Option Value} {base : Heap}
def spBag : Sp := fun vs H Q _ => ∃ c : Int, vs = [.int c] ∧ ∀ (H' : Hp) (p : Addr), Same H H' → H p = none → BagAt H' p → Q (.ref p) H'
theorem ok_law_bag {f : Addr} {fd : FuncData} (F : Fun K "_law_bag" "_law_bag" sLawBag f fd) (z_max : mg "max" = none) : FnOk P w K mg base CX0 1 f fd ["cell"] spBag := by
  refine F.ok scLawBag (fun vs H Q E h => ?_) (fun cdv A outer s H vs Q E hr h => ?_)
  · obtain ⟨_, rfl, _⟩ := h
    rfl
  obtain ⟨c, rfl, q⟩ := h
  refine ⟨_, (pss_one (ps_ret (pe_lst (pa_cons (pe_callB (call_max2 rfl) (by rfl) z_max (by decide +kernel) (pa_cons pe_int (pa_cons (pe_op op_sub (pv 0) (pe_op op_pow pe_int pe_int)) pa_nil))) (pa_cons (pv 0) (pa_cons pe_int pa_nil)))))), ?_⟩
  refine ⟨_, rfl, _, _, rfl, rfl, ⟨by decide, by decide, by decide⟩, _, _, rfl, rfl, _, _, rfl, _, rfl, (by show 3 ≤ sizeLine; decide), fun p np => ?_⟩
  exact q _ p (same_upd np) np ⟨_, _, _, upd_same⟩
theorem fm0 (x : Int) {m : Int} (h : 0 < m) : 0 ≤ x.fmod m := by
  rw [Int.fmod_eq_emod_of_nonneg _ (by omega)]
  exact Int.emod_nonneg _ (by omega)
theorem fm1 (x : Int) {m : Int} (h : 0 < m) : x.fmod m < m := by
  rw [Int.fmod_eq_emod_of_nonneg _ (by omega)]
  exact Int.emod_lt_of_pos _ h
def spPick : Sp := fun vs H Q _ => ∃ (b : Addr) (many : Int), vs = [.ref b, .int many] ∧ 0 < many ∧ many.natAbs < 2 ^ 250 ∧ BagAt H b ∧
  ∀ (r : Int) (H' : Hp), 0 ≤ r → r < many → (∀ a, a ≠ b → H' a = H a) → BagAt H' b → Q (.int r) H'
theorem ok_law_pick {f : Addr} {fd : FuncData} (F : Fun K "_law_pick" "_law_pick" sLawPick f fd) (z_int : mg "int" = none) : FnOk P w K mg base CX0 1 f fd ["bag", "many"] spPick := by
  refine F.ok scLawPick (fun vs H Q E h => ?_) (fun cdv A outer s H vs Q E hr h => ?_)
  · obtain ⟨_, _, rfl, _⟩ := h
    rfl
  obtain ⟨b, many, rfl, hm, hm2, ⟨x, y, z, h0⟩, q⟩ := h
  refine ⟨_, (pss_cons (ps_asg (pe_op op_add (pe_ix ix_list (pv 0) pe_int (fun _ _ => rfl)) pe_int) (pg_sub (pv 0) pe_int set_list))
    (pss_cons (ps_if (pt_cmpR op_gt (pe_ix ix_list (pv 0) pe_int (fun _ _ => rfl)) pe_int (nomark _))
    (pss_cons (ps_set (i := 2) scLawPick.nd rfl (Or.inl rfl) (pe_op op_modN (pe_callTy call_int1 (by rfl) z_int (by decide +kernel) (pa_cons (pe_ix ix_list (pv 0) pe_int (fun _ _ => rfl)) pa_nil)) (pv 1)))
    (pss_cons (ps_asg (pe_op op_fdivW (pe_callTy call_int1 (by rfl) z_int (by decide +kernel) (pa_cons (pe_ix ix_list (pv 0) pe_int (fun _ _ => rfl)) pa_nil)) (pv 1)) (pg_sub (pv 0) pe_int set_list))
    (pss_one (ps_ret (pv 2)))))
    pss_nil)
    (pss_cons (ps_par (i := 3) (j := 4) (by rfl) scLawPick.nd rfl rfl (by decide) rfl rfl (pa_cons (pe_callTy call_int1 (by rfl) z_int (by decide +kernel) (pa_cons (pe_ix ix_list (pv 0) pe_int (fun _ _ => rfl)) pa_nil)) (pa_cons (pe_callTy call_int1 (by rfl) z_int (by decide +kernel) (pa_cons (pe_ix ix_list (pv 0) pe_int (fun _ _ => rfl)) pa_nil)) pa_nil)) (by rfl))
    (pss_cons (ps_set (i := 5) scLawPick.nd rfl (Or.inl rfl) (pe_op op_modN (pe_callTy call_int1 (by rfl) z_int (by decide +kernel) (pa_cons (pe_op op_add (pe_op op_add (pe_op op_mul (pe_op op_modN (pv 3) pe_int) pe_int) (pe_op op_mul (pv 4) pe_int)) pe_int) pa_nil)) pe_int))
    (pss_cons (ps_set (i := 6) scLawPick.nd rfl (Or.inl rfl) (pe_op op_modN (pe_callTy call_int1 (by rfl) z_int (by decide +kernel) (pa_cons (pe_op op_add (pe_op op_mul (pv 5) (pv 5)) (pe_op op_mul (pv 4) pe_int)) pa_nil)) pe_int))
    (pss_cons (ps_set (i := 7) scLawPick.nd rfl (Or.inl rfl) (pe_op op_fdivW (pe_callTy call_int1 (by rfl) z_int (by decide +kernel) (pa_cons (pe_op op_add (pe_op op_mul (pv 5) pe_int) (pv 6)) pa_nil)) pe_int))
    (pss_cons (ps_if (pt_cmpR op_gt (pv 1) (pe_op op_pow pe_int pe_int) (nomark _))
    (pss_one (ps_set (i := 7) scLawPick.nd rfl (Or.inl rfl) (pe_op op_add (pe_op op_pow (pv 7) pe_int) (pv 6))))
    pss_nil)
    (pss_one (ps_ret (pe_op op_modN (pe_callTy call_int1 (by rfl) z_int (by decide +kernel) (pa_cons (pv 7) pa_nil)) (pv 1))))))))))), ?_⟩
  refine ⟨_, rfl, b, _, _, _, rfl, rfl, SqL.of h0, atI_nat (j := 2) rfl, _, _, rfl, rfl, _, rfl, b, _, _, 2, rfl, rfl, h0, rfl, ?_⟩
  dsimp only
  have h1 : (upd H b (.lst ([.int x, .int y, .int z].set 2 (.int (z + 1))))) b = some (.lst [.int x, .int y, .int (z + 1)]) := upd_same
  have k1 : ∀ a, a ≠ b → (upd H b (.lst ([.int x, .int y, .int z].set 2 (.int (z + 1))))) a = H a := fun a ha => upd_ne ha
  generalize upd H b (.lst ([.int x, .int y, .int z].set 2 (.int (z + 1)))) = H1 at h1 k1
  refine ⟨_, rfl, b, _, _, _, rfl, rfl, SqL.of h1, atI_nat (j := 0) rfl, _, _, rfl, rfl, _, rfl, ite2 (fun c => ?_) (fun c => ?_)⟩
  · refine ⟨_, rfl, b, _, _, _, rfl, rfl, SqL.of h1, atI_nat (j := 0) rfl, .inl ⟨_, rfl, _, rfl, _, _, rfl, rfl, by omega, ?_⟩⟩
    refine ⟨_, rfl, b, _, _, _, rfl, rfl, SqL.of h1, atI_nat (j := 0) rfl, .inl ⟨_, rfl, _, rfl, _, _, rfl, rfl, wide_div hm hm2 (by decide) (by decide), _, rfl, b, _, _, 0, rfl, rfl, h1, rfl, ?_⟩⟩
    refine ⟨_, rfl, ?_⟩
    exact q _ _ (fm0 x hm) (fm1 x hm) (fun a ha => by rw [upd_ne ha]; exact k1 a ha) ⟨_, _, _, upd_same⟩
  · refine ⟨_, rfl, b, _, _, _, rfl, rfl, SqL.of h1, atI_nat (j := 1) rfl, .inl ⟨_, rfl, _, rfl, b, _, _, _, rfl, rfl, SqL.of h1, atI_nat (j := 2) rfl, .inl ⟨_, rfl, _, _, rfl, ?_⟩⟩⟩
    refine ⟨_, rfl, _, _, rfl, rfl, (by show (2147483629 : Int) ≠ 0; decide), _, _, rfl, rfl, .inr ⟨by decide, by decide⟩, _, rfl, _, _, rfl, rfl, .inr ⟨by decide, by decide⟩, _, _, rfl, rfl, _, _, rfl, rfl, .inl ⟨_, rfl, _, _, rfl, rfl, (by show (2147483647 : Int) ≠ 0; decide), ?_⟩⟩
    dsimp only
    have a0 := fm0 (y.fmod 2147483629 * 48271 + (z + 1) * 69621 + 12345) (m := 2147483647) (by decide)
    have a1 := fm1 (y.fmod 2147483629 * 48271 + (z + 1) * 69621 + 12345) (m := 2147483647) (by decide)
    generalize (y.fmod 2147483629 * 48271 + (z + 1) * 69621 + 12345).fmod 2147483647 = fi at a0 a1
    refine ⟨_, rfl, _, rfl, _, _, rfl, rfl, .inl ⟨by omega, by omega⟩, _, rfl, _, _, rfl, rfl, .inr ⟨by decide, by decide⟩, _, _, rfl, rfl, .inl ⟨_, rfl, _, _, rfl, rfl, (by show (2147483587 : Int) ≠ 0; decide), ?_⟩⟩
    dsimp only
    have b0 := fm0 (fi * fi + (z + 1) * 40692) (m := 2147483587) (by decide)
    have b1 := fm1 (fi * fi + (z + 1) * 40692) (m := 2147483587) (by decide)
    generalize (fi * fi + (z + 1) * 40692).fmod 2147483587 = se at b0 b1
    refine ⟨_, rfl, _, _, rfl, rfl, .inl ⟨by omega, by omega⟩, _, rfl, _, _, rfl, rfl, .inl ⟨_, rfl, _, _, rfl, rfl, wide_div (b := 6) (by decide) (by decide) (by decide) (by decide), ?_⟩⟩
    dsimp only
    have c0 : 0 ≤ (fi * 2147483587 + se) / 32 := by omega
    have c1 : (fi * 2147483587 + se) / 32 < 2 ^ 62 := by omega
    generalize (fi * 2147483587 + se) / 32 = dr at c0 c1
    refine ⟨_, rfl, _, _, rfl, rfl, ⟨by decide, by decide, by decide⟩, _, _, rfl, rfl, _, rfl, ite2 (fun c => ?_) (fun c => ?_)⟩
    · refine ⟨_, rfl, _, _, rfl, rfl, ⟨by decide, by decide, by omega⟩, _, rfl, _, _, rfl, rfl, ?_⟩
      refine ⟨_, rfl, .inl ⟨_, rfl, _, rfl, _, _, rfl, rfl, by omega, ?_⟩⟩
      exact q _ _ (fm0 _ hm) (fm1 _ hm) k1 ⟨_, _, _, h1⟩
    · refine ⟨_, rfl, .inl ⟨_, rfl, _, rfl, _, _, rfl, rfl, by omega, ?_⟩⟩
      exact q _ _ (fm0 _ hm) (fm1 _ hm) k1 ⟨_, _, _, h1⟩
end
end LT

namespace LT
open PySem PySem.Spec PyProof.Rows L2
section
variable {P : Program} {w : World} {K : PySem.W.Frag} {mg : Str → Option Value} {base : Heap}
def spHalved : Sp := fun vs H Q _ => ∃ (x y : Nat) (v : V), vs = [v] ∧ Nd H v (x, y) ∧ x + 2 ≤ y ∧
  ∀ (H' : Hp) (q : Addr) (l h : V), Same H H' → H q = none → H' q = some (.tup [l, h]) → Nd H' l (x, x + gp (y - x)) → Nd H' h (x + gp (y - x), y) → Q (.ref q) H'
theorem ok_law_halved {f : Addr} {fd : FuncData} (F : Fun K "_law_halved" "_law_halved" sLawHalved f fd) : FnOk P w K mg base CX0 1 f fd ["node"] spHalved := by
  refine F.ok scLawHalved (fun vs H Q E h => ?_) (fun cdv A outer s H vs Q E hr h => ?_)
  · obtain ⟨_, _, _, rfl, _⟩ := h
    rfl
  obtain ⟨x, y, v, rfl, ⟨p, rfl, hp⟩, hxy, q⟩ := h
  refine ⟨_, (pss_cons (ps_asg (pv 0) (pg_tup (by rfl) (pgs_cons (pg_name (i := 1) scLawHalved.nd rfl (Or.inl rfl)) (pgs_cons (pg_name (i := 2) scLawHalved.nd rfl (Or.inl rfl)) pgs_nil))))
    (pss_cons (ps_set (i := 3) scLawHalved.nd rfl (Or.inl rfl) pe_int)
    (pss_cons (ps_while PassesOwn.never (pt_cmpR op_lt (pe_op op_mul pe_int (pv 3)) (pe_op op_sub (pv 2) (pv 1)) (nomark _))
    (pss_one (ps_set (i := 3) scLawHalved.nd rfl (Or.inl rfl) (pe_op op_mul pe_int (pv 3)))))
    (pss_one (ps_ret (pe_tup (pa_cons (pe_tup (pa_cons (pv 1) (pa_cons (pe_op op_add (pv 1) (pv 3)) pa_nil))) (pa_cons (pe_tup (pa_cons (pe_op op_add (pv 1) (pv 3)) (pa_cons (pv 2) pa_nil))) pa_nil)))))))), ?_⟩
  refine ⟨_, rfl, p, _, rfl, SqT.of hp, rfl, _, _, rfl, _, _, rfl, rfl, ?_⟩
  refine ⟨fun mu σ H' => ∃ j : Nat, σ = [some (.ref p), some (.int (x : Int)), some (.int (y : Int)), some (.int ((2 ^ j : Nat) : Int))] ∧ H' = H ∧ 2 ^ j < y - x ∧ mu = y - x - 2 ^ j, ⟨y - x - 1, 0, rfl, rfl, by simp; omega, by simp⟩, ?_⟩
  rintro m σ H1 ⟨j, rfl, rfl, hj, rfl⟩
  refine ⟨_, rfl, _, _, rfl, rfl, .inl ⟨by decide, by decide⟩, _, rfl, _, rfl, _, _, rfl, rfl, _, _, rfl, rfl, _, rfl, ite2 (fun c => ?_) (fun c => ?_)⟩
  · have c1 : 2 * ((2 ^ j : Nat) : Int) < (y : Int) - (x : Int) := of_decide_eq_true c
    have pj : 0 < 2 ^ j := Nat.pow_pos (by decide)
    refine ⟨_, fun σ' H' h => h, _, rfl, _, _, rfl, rfl, .inl ⟨by decide, by decide⟩, ?_⟩
    refine ⟨y - x - 2 ^ (j + 1), by rw [Nat.pow_succ]; omega, j + 1, ?_, rfl, by rw [Nat.pow_succ]; omega, rfl⟩
    have e : (2 : Int) * ((2 ^ j : Nat) : Int) = ((2 ^ (j + 1) : Nat) : Int) := by rw [Nat.pow_succ]; omega
    rw [← e]
    rfl
  · have c1 : ¬ 2 * ((2 ^ j : Nat) : Int) < (y : Int) - (x : Int) := of_decide_eq_false (Bool.eq_false_iff.mpr c)
    have g : gp (y - x) = 2 ^ j := gp_eq hj (by omega)
    have two : 2 ≤ sizeLine := by decide
    refine ⟨_, rfl, _, rfl, _, rfl, _, _, rfl, rfl, two, fun t1 n1 => ⟨_, rfl, _, rfl, _, _, rfl, rfl, _, rfl, two, fun t2 n2 => ⟨two, fun t3 n3 => ?_⟩⟩⟩
    have e2 : (x : Int) + ((2 ^ j : Nat) : Int) = ((x + gp (y - x) : Nat) : Int) := by rw [g]; omega
    dsimp only at n1 n2 n3 ⊢
    rw [e2] at n2 n3 ⊢
    have s1 := same_upd (o := .tup [.int (x : Int), .int ((x + gp (y - x) : Nat) : Int)]) n1
    have s2 := same_upd (o := .tup [.int ((x + gp (y - x) : Nat) : Int), .int (y : Int)]) n2
    have s3 := same_upd (o := .tup [.ref t1, .ref t2]) n3
    exact q _ t3 (.ref t1) (.ref t2) (s1.trans (s2.trans s3)) ((s1.trans s2).free n3) upd_same ⟨t1, rfl, s3 _ _ (s2 _ _ upd_same)⟩ ⟨t2, rfl, s3 _ _ upd_same⟩
end
end LT

namespace LT
open PySem PySem.Spec PyProof.Rows L2
section
variable {P : Program} {w : World} {K : PySem.W.Frag} {mg : Str → Option Value} {base : Heap}
def spCheckNumber : Sp := fun vs H Q _ => ∃ n : Int, vs = [.int n] ∧ Q .non H
theorem ok_check_number {f g : Addr} {fd gd : FuncData} (F : Fun K "check_number" "check_number" sCheckNumber f fd) (GIsWhole : FnOk P w K mg base CX0 1 g gd ["value"] spWhole) (AIsWhole : At K mg "is_whole" g gd ["value"]) : FnOk P w K mg base CX0 2 f fd ["number"] spCheckNumber := by
  refine F.ok scCheckNumber (fun vs H Q E h => ?_) (fun cdv A outer s H vs Q E hr h => ?_)
  · obtain ⟨_, rfl, _⟩ := h
    rfl
  obtain ⟨n, rfl, q⟩ := h
  refine ⟨_, (pss_one (ps_if (pt_not (pt_val (pe_call GIsWhole (hr.mono (by decide)) rfl AIsWhole.m AIsWhole.kp AIsWhole.b .nil pass0 (pa_cons (pv 0) pa_nil))))
    (pss_one ps_never)
    pss_nil)), ?_⟩
  exact ⟨_, rfl, n, rfl, true, rfl, q⟩
end
end LT

namespace LT
open PySem PySem.Spec PyProof.Rows L2
theorem log2_is {r h : Nat} (h1 : 2 ^ h ≤ r) (h2 : r < 2 ^ (h + 1)) : r.log2 = h := (Nat.log2_eq_iff (by have := Nat.pow_pos (a := 2) (n := h) (by decide); omega)).mpr ⟨h1, h2⟩
theorem pk_step : ∀ (i n b : Nat), n % 2 ^ i ≠ 0 → ∃ h, h < i ∧ pk i n b = (b, h) :: pk h n (b + 2 ^ h) ∧ n % 2 ^ i = 2 ^ h + n % 2 ^ h
  | 0, n, b, hr => by simp [Nat.mod_one] at hr
  | i + 1, n, b, hr => by
    rw [mod_succ] at hr
    by_cases t : n.testBit i = true
    · refine ⟨i, Nat.lt_succ_self i, ?_, by rw [mod_succ, if_pos t]⟩
      show (if n.testBit i = true then _ else _) = _
      rw [if_pos t]
    · rw [if_neg t, Nat.zero_add] at hr
      obtain ⟨h, h1, h2, h3⟩ := pk_step i n b hr
      refine ⟨h, by omega, ?_, by rw [mod_succ, if_neg t, Nat.zero_add]; exact h3⟩
      show (if n.testBit i = true then _ else _) = _
      rw [if_neg t]
      exact h2
section
variable {P : Program} {w : World} {K : PySem.W.Frag} {mg : Str → Option Value} {base : Heap}
def spTops : Sp := fun vs H Q _ => ∃ (n : Nat), vs = [.int n] ∧ 1 ≤ n ∧ n ≤ 10 ^ 30 ∧ ∀ (H' : Hp) (p : Addr) (xs : List V), Same H H' → H p = none → H' p = some (.lst xs) → All2 (Nd H') xs ((pk 101 n 0).map full) → Q (.ref p) H'
theorem ok_peaks {f g1 g2 : Addr} {fd d1 d2 : FuncData} (F : Fun K "peaks" "peaks" sPeaks f fd) (GCheckSize : FnOk P w K mg base CX0 3 g1 d1 ["size"] spCheckSize) (ACheckSize : At K mg "check_size" g1 d1 ["size"])
    (GPowerWithin : FnOk P w K mg base CX0 1 g2 d2 ["number"] spPower) (APowerWithin : At K mg "power_within" g2 d2 ["number"]) : FnOk P w K mg base CX0 4 f fd ["size"] spTops := by
  refine F.ok scPeaks (fun vs H Q E h => ?_) (fun cdv A outer s H vs Q E hr h => ?_)
  · obtain ⟨_, rfl, _⟩ := h
    rfl
  obtain ⟨n, rfl, h1, h30, q⟩ := h
  refine ⟨_, (pss_cons (ps_expr (pe_call GCheckSize (hr.mono (by decide)) rfl ACheckSize.m ACheckSize.kp ACheckSize.b .nil pass0 (pa_cons (pv 0) pa_nil)))
    (pss_cons (ps_set (i := 1) scPeaks.nd rfl (Or.inl rfl) (pe_lst pa_nil))
    (pss_cons (ps_set (i := 2) scPeaks.nd rfl (Or.inl rfl) pe_int)
    (pss_cons (ps_while PassesOwn.never (pt_cmpR op_lt (pv 2) (pv 0) (nomark _))
    (pss_cons (ps_set (i := 3) scPeaks.nd rfl (Or.inl rfl) (pe_op op_add (pv 2) (pe_call GPowerWithin (hr.mono (by decide)) rfl APowerWithin.m APowerWithin.kp APowerWithin.b .nil pass0 (pa_cons (pe_op op_sub (pv 0) (pv 2)) pa_nil))))
    (pss_cons (ps_expr (pe_bm PySem.F.plainAttrs_list PySem.F.slot_list_append PySem.F.type_list_append mt_append (pv 1) (pa_cons (pe_tup (pa_cons (pv 2) (pa_cons (pv 3) pa_nil))) pa_nil)))
    (pss_one (ps_set (i := 2) scPeaks.nd rfl (Or.inl rfl) (pv 3))))))
    (pss_one (ps_ret (pv 1))))))), ?_⟩
  refine ⟨_, rfl, n, rfl, by omega, by omega, ?_⟩
  refine ⟨Nat.zero_le _, fun fa nf => ?_⟩
  have nm : n % 2 ^ 101 = n := Nat.mod_eq_of_lt (Nat.lt_of_le_of_lt h30 (by decide))
  refine ⟨fun mu σ H' => ∃ (i b : Nat) (v3 : Option V) (xs : List V) (done : List (Nat × Nat)), σ = [some (.int n), some (.ref fa), some (.int b), v3] ∧ Same H H' ∧ H' fa = some (.lst xs) ∧ All2 (Nd H') xs (done.map full) ∧ done ++ pk i n b = pk 101 n 0 ∧ b + n % 2 ^ i = n ∧ mu = n - b,
    ⟨n, 101, 0, none, [], [], rfl, same_upd nf, upd_same, .nil, rfl, by omega, by omega⟩, ?_⟩
  rintro m σ H1 ⟨i, b, v3, xs, done, rfl, sm, hf, hx, hd, hb, rfl⟩
  refine ⟨_, rfl, _, rfl, _, _, rfl, rfl, _, rfl, ite2 (fun c => ?_) (fun c => ?_)⟩
  · have c1 : (b : Int) < (n : Int) := of_decide_eq_true c
    obtain ⟨h, hi, hp, hm⟩ := pk_step i n b (by omega)
    have ph := Nat.pow_pos (a := 2) (n := h) (by decide)
    have lh : (n - b).log2 = h := log2_is (by omega) (by have := Nat.mod_lt n ph; rw [Nat.pow_succ]; omega)
    have dl : done.length ≤ 101 := by
      have k1 := congrArg List.length hd
      rw [List.length_append] at k1
      have k2 := pk_len 101 n 0
      omega
    refine ⟨fun σ' H' => ∃ mu, mu < n - b ∧ ∃ (i b : Nat) (v3 : Option V) (xs : List V) (done : List (Nat × Nat)), σ' = [some (.int n), some (.ref fa), some (.int b), v3] ∧ Same H H' ∧ H' fa = some (.lst xs) ∧ All2 (Nd H') xs (done.map full) ∧ done ++ pk i n b = pk 101 n 0 ∧ b + n % 2 ^ i = n ∧ mu = n - b, fun σ' H' h => h, ?_⟩
    have e1 : (n : Int) - (b : Int) = ((n - b : Nat) : Int) := by omega
    refine ⟨_, rfl, _, rfl, _, rfl, _, _, rfl, rfl, n - b, congrArg (fun z => [V.int z]) e1, by omega, by omega, _, _, rfl, rfl, ?_⟩
    have e2 : (b : Int) + ((2 ^ (n - b).log2 : Nat) : Int) = ((b + 2 ^ h : Nat) : Int) := by rw [lh]; omega
    dsimp only
    rw [e2]
    refine ⟨_, rfl, .inl ⟨rfl, _, SqL.of hf⟩, _, rfl, _, rfl, (by show 2 ≤ sizeLine; decide), fun t nt => ?_⟩
    have s1 := same_upd (o := .tup [.int (b : Int), .int ((b + 2 ^ h : Nat) : Int)]) nt
    have hf1 := s1 _ _ hf
    refine ⟨fa, _, _, rfl, rfl, hf1, szlt (by rw [hx.len, List.length_map]; omega), ?_⟩
    refine ⟨_, rfl, ?_⟩
    refine ⟨n - (b + 2 ^ h), by omega, h, b + 2 ^ h, _, xs ++ [.ref t], done ++ [(b, h)], rfl, ?_, upd_same, ?_, ?_, by omega, rfl⟩
    · exact fun a o k => by rw [upd_ne (ne_of_none k nf)]; exact s1 _ _ (sm _ _ k)
    · rw [List.map_append]
      refine (hx.mono (fun v x (k : Nd H1 v x) => (k.same s1).upd hf1)).app (.cons ?_ .nil)
      exact Nd.upd (x := full (b, h)) ⟨t, rfl, upd_same⟩ hf1
    · rw [← hd, hp, List.append_assoc]
      rfl
  · have c1 : ¬ (b : Int) < (n : Int) := of_decide_eq_false (Bool.eq_false_iff.mpr c)
    rw [pk_nil i n b (by omega), List.append_nil] at hd
    rw [hd] at hx
    exact ⟨_, rfl, q H1 fa xs sm nf hf hx⟩
end
end LT

namespace LT
open PySem PySem.Spec PyProof.Rows L2
/-! ### promises of defs that show things: what is being shown around them is told to be nothing -/
structure GOk (P : Program) (w : World) (K : PySem.W.Frag) (mg : Str → Option Value) (base : Heap) (k : Nat) (f : Addr) (fd : FuncData) (ps : List Str) (sp : Sp) : Prop where
  len : ∀ vs H Q E, sp vs H Q E → vs.length = ps.length
  run : ∀ (A : Around) (outer : List Env) (s : Shared) (H : Hp) (args : Args) (us : List Value) (vs : List V) (Q : VK), A.guards = some [] → Room k A → Env0 P w K mg base A outer s H → BindsTo s fd args (ps.zip us) → Vals vs us → sp vs H Q E0 →
    codeAny (model P w) A (.call (.ref f) args) (CR CX0 outer P w H s Q E0) s
section
variable {P : Program} {w : World} {K : PySem.W.Frag} {mg : Str → Option Value} {base : Heap} {k : Nat} {f : Addr} {fd : FuncData} {ps : List Str} {sp : Sp}
theorem GOk.of (F : FnOk P w K mg base CX0 k f fd ps sp) : GOk P w K mg base k f fd ps sp := by
  refine ⟨F.len, ?_⟩
  intro A outer s H args us vs Q _
  exact F.run A outer s H args us vs Q E0
theorem GOk.mono {j : Nat} (F : GOk P w K mg base j f fd ps sp) (h : j ≤ k) : GOk P w K mg base k f fd ps sp := by
  refine ⟨F.len, ?_⟩
  intro A outer s H args us vs Q hg hr
  exact F.run A outer s H args us vs Q hg (hr.mono h)
/-- a def by its body, as Fun.ok -/
theorem okG {x qual : Str} {st : Stmt} {N : List Str} (F : Fun K x qual st f fd) (S : FnScope N ps (defScope st)) (len : ∀ vs H Q E, sp vs H Q E → vs.length = ps.length)
    (body : ∀ (cdv : Value) (A : Around) (outer : List Env) (s : Shared) (H : Hp) (vs : List V) (Q : VK), A.guards = some [] → Room k (A.deeper (envOfC qual (defScope st) s.heap.objs.size f cdv)) → sp vs H Q E0 →
      ∃ t, PSs (cxOf CX0 P w K mg base N qual (defScope st) f cdv A outer s H E0).nox (defBody st) t ∧ t { nx := fun _ H' => Q .non H', rt := Q } (start N vs) H) : GOk P w K mg base (k + 1) f fd ps sp := by
  obtain ⟨oc, od, kV, doc, pm, an, cdv, ct, osl, e, lk, hcd⟩ := F.ex
  subst e
  refine ⟨len, ?_⟩
  intro A outer s H args us vs Q hg hr ev hb rv hsp
  have nvs := len _ _ _ _ hsp
  have there : K.In s.heap := ev.mod.kin.keeps (fun b o q => (ev.bs b o q).1)
  have noLim : s.heap.NoLimit := ev.mod.nolimit.keeps (fun b o q => (ev.bs b o q).1)
  have kinds : ∀ y ∈ ps.zip us, (defScope st).names.lookup y.1 = some .local ∨ ((defScope st).names.lookup y.1 = some .cell ∧ ((cellsFrom (s.heap.objs.size + 1) (defScope st).names []).lookup y.1).isSome = true) := by
    intro y hy
    rcases S.par y.1 (List.of_mem_zip hy).1 with q | q
    · exact Or.inl q
    · exact Or.inr ⟨q, PySem.W.cellsFrom_some _ _ _ (Or.inl q)⟩
  apply codeAny_call_function hr.depth (there _ _ lk) rfl S.co S.gen rfl (PySem.W.codeRec_of there hcd)
  apply hb
  apply wpAny_newFunctionEnv_cells S.kind kinds
  intro env he s1 made
  subst he
  refine ⟨noLim.keeps made.toInCall.keep, codeAny_func ?_⟩
  obtain ⟨t, ht, hq⟩ := body cdv A outer s H vs Q hg (hr.deeper _) hsp
  have I : Inv (cxOf CX0 P w K mg base N qual (defScope st) f cdv A outer s H E0) [] (start N vs) H s1 := inv_start S hr.hd ev nvs rv made
  have ran := ht.nox.run [] s1 (start N vs) H _ I hq
  apply wpAny_mono ran
  · intro fl s' hs
    have fin : ∀ {σ' : L2.St} {H' : Hp} {v : V} {u : Value}, Inv (cxOf CX0 P w K mg base N qual (defScope st) f cdv A outer s H E0) [] σ' H' s' → RelV v u → Q v H' → CE outer P w H s Q u s' := by
      intro σ' H' v u J r q
      exact ⟨v, H', J.os, J.bare, J.base, J.hok, r, q⟩
    match fl, hs with
    | .ret u, ⟨v, σ', H', J, r, q⟩ => exact fin J r q
    | .next, ⟨σ', H', J, q⟩ => exact fin (v := V.non) (u := Value.none) J rfl q
    | .brk, ⟨_, _, _, q⟩ => exact False.elim q
    | .cont, ⟨_, _, _, q⟩ => exact False.elim q
  · intro e s' hs
    exact hs
end
section
variable {X : Cx} {k : Nat} {f : Addr} {fd : FuncData} {ps : List Str} {sp : Sp} {x : Str} {p pos : Pos} {e : Expr} {es : List Expr} {t : TA}
theorem runG {pins : List (Addr × Obj)} {σ : L2.St} {H : Hp} {s : Shared} {Q : VK} {us : List Value} {vs : List V} (F : GOk X.prog X.w X.K X.mg X.base k f fd ps sp) (hg : X.A.guards = some []) (hr : Room k X.A) (hb : Binds X.K fd ps [])
    (I : Inv X pins σ H s) (rv : Vals vs us) (h : sp vs H Q E0) : wpAny (model X.prog X.w) X.A (call (.ref f) us) (EP X pins σ Q) X.xe s := by
  have n : (us ++ []).length = ps.length := by
    rw [List.append_nil, ← rv.length]
    exact F.len _ _ _ _ h
  have b := hb s us I.kIn n
  rw [List.append_nil] at b
  apply wpAny_call
  apply codeAny_mono (F.run X.A X.stack s H ⟨us, []⟩ us vs Q hg hr I.env0 b rv h)
  intro res s' hq
  match res, hq with
  | .error _, hq => exact False.elim hq
  | .ok (.ret u), hq => exact I.after hq
  | .ok .next, hq => exact False.elim hq
  | .ok .brk, hq => exact False.elim hq
  | .ok .cont, hq => exact False.elim hq
theorem pe_callG (F : GOk X.prog X.w X.K X.mg X.base k f fd ps sp) (hgd : X.A.guards = some []) (hr : Room k X.A) (hg : Gl X x) (hm : X.mg x = some (.ref f)) (hk : PySem.W.keepIn X.K (.ref f) = true) (hb : Binds X.K fd ps [])
    (ha : PA X (e :: es) t) (hdb : (x == ("__debug__" : Str)) = false := by decide) (he : starEach (e :: es) X.env = (false, eval e X.env) :: starEach es X.env := by rfl) (hpl : (backTo pos (starEach es X.env)).any (·.1) = false := by rfl) :
    PE X (.Call (.Name x p) (e :: es) [] pos) (tCall sp [] E0 t) := by
  constructor
  intro pins s σ H Q I h
  apply wpAny_Call_Name_kw
  refine ld_glob I hg hm ?_ hdb
  apply PySem.W.callWith_K (h₀ := X.base) I.ok.mod.kin hk _ he hpl
  apply thn (ha.run pos pins s σ H _ I h)
  intro us s1 hh
  obtain ⟨vs, H1, I1, rv, q⟩ := hh
  rw [List.append_nil] at q
  exact ⟨I1.kIn, runG F hgd hr hb I1 rv q⟩
/-- repr of lists and tuples of plain data -/
theorem call_repr (hg : X.A.guards = some []) (hu : X.A.units + 65 < cLine) :
    CallR X (.builtin "repr") (fun xs H Q => ∃ y d, xs = [y] ∧ Dp X.K H y d ∧ PyProof.Rows.isDisplay d = true ∧ SeqAt.shaped d = true ∧ d.showable = true ∧ d.shown.length ≤ sizeLine ∧ Q (.str d.shown) H) := by
  intro pins s σ H xs us Q I r h
  obtain ⟨y, d, rfl, hd, hi, hsh, hs, hl, q⟩ := h
  obtain ⟨u, rfl, r1⟩ := vals1 r
  obtain ⟨as, r2⟩ := Dp.reads I d y u hd r1
  obtain ⟨a, rfl⟩ := PyProof.Rows.isRef_of_reads r2 hi
  have dp := SeqAt.depth_of_shaped hsh
  refine repr_of_reads' r2 hs (PyData.noDict_hsm (PyData.hasDict_of_canLay d (SeqAt.canLay_of_shaped hsh))) hg (by omega) (fun _ _ q => q) ?_ hl
  intro h' u tk kept
  exact ⟨.str d.shown, H, I.kept kept, ⟨_, rfl⟩, q⟩
theorem call_reprB {s : Shared} {H : Hp} {sc : Scope} {ce : Env} {fp : List Addr} (hg : X.A.guards = some []) (hu : X.A.units + 65 < cLine) :
    CallR (X.blk s H sc ce fp) (.builtin "repr") (fun xs H Q => ∃ y d, xs = [y] ∧ Dp X.K H y d ∧ PyProof.Rows.isDisplay d = true ∧ SeqAt.shaped d = true ∧ d.showable = true ∧ d.shown.length ≤ sizeLine ∧ Q (.str d.shown) H) := call_repr (X := X.blk s H sc ce fp) hg hu
end
end LT

namespace LT
open PySem PySem.Spec PyProof.Rows L2
section
variable {P : Program} {w : World} {K : PySem.W.Frag} {mg mb : Str → Option Value} {k : Nat} {fa a : Addr} {fd : FuncData} {x : Str} {sp : Sp} {s₁ : Shared} {vs : List Value} {ns : List Int}
/-- what is told of the heap ahead of the law's call: the script alone, where it is no object of the top -/
def told (K : PySem.W.Frag) (a : Addr) (ob : Obj) (ns : List Int) : Hp := fun b => if b = a ∧ K.lookup a = none then some (.frz ob (.lst (ns.map V.int))) else none
theorem told_at {ob : Obj} {b : Addr} {u : HO} (h : told K a ob ns b = some u) : b = a ∧ K.lookup a = none ∧ u = .frz ob (.lst (ns.map V.int)) := by
  unfold told at h
  by_cases c : b = a ∧ K.lookup a = none
  · rw [if_pos c] at h
    exact ⟨c.1, c.2, (Option.some.inj h).symm⟩
  · rw [if_neg c] at h
    cases h
/-- the law's call, from a promise that asks that nothing is being shown -/
theorem lawG (there : K.In s₁.heap) (globs : s₁.heap.Ns mainGlobals mg) (blts : s₁.heap.Ns builtinsNs mb) (boot : ∀ y : Str, y ≠ "__name__" → mb y = bootBuiltins y) (noLim : s₁.heap.NoLimit) (noGens : s₁.gens = #[])
    (obj : s₁.heap.get? a = some { cls := .type "list", data := .seq vs.toArray }) (areI : IntsAre vs ns) (few : ns.length ≤ sizeLine) (hr : Room k callerA)
    (F : ∀ base : Heap, K.In base → base.Ns mainGlobals mg → GOk P w K mg base k fa fd [x] sp) (binds : ∀ (s : Shared) (u : Value), BindsTo s fd ⟨[u], []⟩ [(x, u)])
    (keeps : ∀ H : Hp, Only H → SqL K H a (ns.map V.int) → sp [.ref a] H (fun v _ => v = .bl true) E0) :
    codeAny (model P w) callerA (.call (.ref fa) ⟨[.ref a], []⟩) (fun r s' => r = .ok (.ret (.bool true)) ∧ OldK s₁.heap s'.heap ∧ s'.os = s₁.os ∧ AllBare s'.gens) s₁ := by
  generalize ho : ({ cls := .type "list", data := .seq vs.toArray } : Obj) = ob at obj
  have items := vals_ints areI
  have only : Only (told K a ob ns) := by
    intro b
    cases q : told K a ob ns b with
    | none => exact Or.inl rfl
    | some u => exact Or.inr ⟨ob, ns.map V.int, by rw [(told_at q).2.2]⟩
  have sq : SqL K (told K a ob ns) a (ns.map V.int) := by
    cases q : K.lookup a with
    | none => exact Or.inl (Or.inr ⟨ob, if_pos ⟨rfl, q⟩⟩)
    | some o =>
      have same : o = ob := Option.some.inj ((there a o q).symm.trans obj)
      subst same
      subst ho
      refine Or.inr ⟨_, vs.toArray, _, q, rfl, rfl, rfl, ?_, by simpa using items⟩
      rw [List.size_toArray, areI.length]
      exact few
  have fits : HOk P w (told K a ob ns) s₁.heap := by
    intro b u q
    obtain ⟨rfl, _, rfl⟩ := told_at q
    subst ho
    exact ⟨obj, by rw [List.length_map]; exact few, vs, _, items, obj⟩
  have behind : ∀ {b : Addr} {o : Obj}, s₁.heap.get? b = some o → told K a ob ns b = none → (hidT s₁.heap (told K a ob ns)).get? b = some o := fun q n => hidT_get q n
  have nsp : ∀ {b : Addr} {m : Str → Option Value}, s₁.heap.Ns b m → (hidT s₁.heap (told K a ob ns)).Ns b m := by
    rintro b m ⟨o, es, ep, q, d, r⟩
    refine ⟨o, es, ep, behind q ?_, d, r⟩
    cases z : told K a ob ns b with
    | none => rfl
    | some u =>
      obtain ⟨rfl, _, _⟩ := told_at z
      rw [obj] at q
      cases q
      subst ho
      cases (show Data.seq vs.toArray _ = Data.dict es ep from d)
  have inB : K.In (hidT s₁.heap (told K a ob ns)) := by
    intro b o q
    refine behind (there b o q) ?_
    cases z : told K a ob ns b with
    | none => rfl
    | some u =>
      obtain ⟨rfl, n, _⟩ := told_at z
      rw [n] at q
      cases q
  have M : Mod K mg (hidT s₁.heap (told K a ob ns)) := by
    obtain ⟨mc, c1, c2⟩ := noLim
    exact ⟨inB, nsp globs, ⟨mb, nsp blts, boot⟩, ⟨mc, nsp c1, c2⟩⟩
  have ev : Env0 P w K mg (hidT s₁.heap (told K a ob ns)) callerA [] s₁ (told K a ob ns) :=
    { frames := rfl, mod := M, bs := fun _ _ q => of_hidT q, bsz := Nat.le_of_eq (hidT_size _ _), funs := trivial, frf := fun b q => absurd (show b ∈ ([] : List Addr) from q) List.not_mem_nil, hok := fits, bare := .of_eq noGens }
  have ran := (F _ inB (nsp globs)).run callerA [] s₁ (told K a ob ns) ⟨[.ref a], []⟩ [.ref a] [.ref a] _ rfl hr ev (binds s₁ (.ref a)) (.cons rfl .nil) (keeps _ only sq)
  apply codeAny_mono ran
  intro res s' h
  match res, h with
  | .error _, h => exact False.elim h
  | .ok .next, h => exact False.elim h
  | .ok .brk, h => exact False.elim h
  | .ok .cont, h => exact False.elim h
  | .ok (.ret u), ⟨v, H', os, bare, un, hok', rv, q⟩ =>
    have qv : v = .bl true := q
    subst qv
    have qu : u = Value.bool true := rv
    subst qu
    refine ⟨rfl, OldK.of_keep ?_, os, bare⟩
    intro b o q1
    cases z : told K a ob ns b with
    | none => exact un.keep b o q1 z (fun m => absurd (show b ∈ ([] : List Addr) from m) List.not_mem_nil) List.not_mem_nil
    | some c =>
      obtain ⟨rfl, n, rfl⟩ := told_at z
      obtain ⟨e1, _⟩ := fits _ _ z
      obtain ⟨e2, _⟩ := hok' _ _ (un.frzs _ _ _ z)
      rw [q1] at e1
      cases e1
      exact e2
end
theorem walkG {l : PySem.W.OpenLaw} {n k : Nat} {q : Program} {loose : List Str} {XP : (Str → Option Value) → Heap → Prop} {YP : World → Heap → Prop} {d : DefRec} {K : Params → PySem.W.Frag} {sp : World → Sp} {x : Str}
    (hn : l.most = some n) (hn2 : n ≤ sizeLine) (hdf : d.params.defaults = []) (hr : Room k callerA) (hY : ∀ (w : World) (h : Heap), YP w h → (K w.params).In h)
    (F : ∀ (w : World) (mg : Str → Option Value) (fa : Addr) (h : Heap), (K w.params).In h → h.Ns mainGlobals mg → mg d.name = some (.ref fa) →
      ∃ fd : FuncData, (∀ (s : Shared) (u : Value), BindsTo s fd ⟨[u], []⟩ [(x, u)]) ∧ ∀ base : Heap, (K w.params).In base → base.Ns mainGlobals mg → GOk l.prog w (K w.params) mg base k fa fd [x] (sp w))
    (keeps : ∀ (w : World) (H : Hp) (a : Addr) (ns : List Int), ns.length ≤ n → Only H → SqL (K w.params) H a (ns.map V.int) → sp w [.ref a] H (fun v _ => v = .bl true) E0) :
    PySem.W.WalkO q loose XP YP l.row.toRowW d [] (fun f vs => PySem.call f vs) := by
  apply Att.attach_call hn hdf
  intro w s₀ s₁ mg mb fa o pm cd doc a vs ns G Y ho hd hcd hmg hobj hints hlen hg
  obtain ⟨fd, hb, hF⟩ := F w mg fa _ (hY w _ Y) G.T.g hmg
  exact lawG (hY w _ Y) G.T.g G.T.b G.T.builtins G.T.nolimit hg hobj hints (Nat.le_trans hlen hn2) hr hF hb (fun H hO hS => keeps w H a ns hlen hO hS)
end LT

namespace LT
open PySem PySem.Spec PyProof.Rows L2
theorem cut_last (xs : List V) : cutV xs none (some (-1)) = xs.dropLast := by
  unfold cutV
  have e : HT.sIx xs.length xs.length (some (-1)) = xs.length - 1 := by
    show (if (-1 : Int) < 0 then ((-1 : Int) + (xs.length : Int)).toNat else min (-1 : Int).toNat xs.length) = _
    rw [if_pos (by decide)]
    omega
  rw [e, HT.sIx_none, List.drop_zero, Nat.sub_zero, List.dropLast_eq_take]
theorem All2.droplast {α : Type} {R : V → α → Prop} : ∀ {vs : List V} {xs : List α}, All2 R vs xs → All2 R vs.dropLast xs.dropLast
  | _, _, .nil => .nil
  | _, _, .cons _ .nil => .nil
  | _, _, .cons h (.cons k t) => .cons h (All2.droplast (.cons k t))
/-- how many peaks -/
def npk (n : Nat) : Nat := (pk 101 n 0).length
theorem npk_pos {n : Nat} (h : 1 ≤ n) (h30 : n ≤ 10 ^ 30) : 1 ≤ npk n := by
  have k := pk_ne 101 n 0 (by rw [Nat.mod_eq_of_lt (Nat.lt_of_le_of_lt h30 (by decide))]; omega)
  unfold npk
  cases hh : pk 101 n 0 with
  | nil => exact absurd hh k
  | cons _ _ => rw [List.length_cons]; omega
/-- how many of each height -/
def hcount (n : Nat) (k : Int) : Int := if k < 0 ∨ k > ((Builtin.Int.intBits (n : Int) : Nat) : Int) then 0 else if k = 0 then (n : Int) else (((n : Int) - 1) / 2 ^ (k - 1).toNat + 1) / 2
def ccount (n o : Nat) : Int := if n = o then 2 * (min n o : Nat) - 1 else 2 * (min n o : Nat) - 1 - ((npk (min n o) - 1 : Nat) : Int)
section
variable {P : Program} {w : World} {K : PySem.W.Frag} {mg : Str → Option Value} {base : Heap}
def spEdges : Sp := fun vs H Q _ => ∃ (n : Nat), vs = [.int n] ∧ 1 ≤ n ∧ n ≤ 10 ^ 30 ∧ ∀ (H' : Hp) (p : Addr) (xs : List V), Same H H' → H p = none → H' p = some (.lst xs) → All2 (Nd H') xs (((pk 101 n 0).map full).dropLast.map fun x => (x.1, n)) → Q (.ref p) H'
theorem ok_edges {f g1 : Addr} {fd d1 : FuncData} (F : Fun K "edges" "edges" sEdges f fd) (GPeaks : FnOk P w K mg base CX0 4 g1 d1 ["size"] spTops) (APeaks : At K mg "peaks" g1 d1 ["size"]) : FnOk P w K mg base CX0 5 f fd ["size"] spEdges := by
  refine F.ok scEdges (fun vs H Q E h => ?_) (fun cdv A outer s H vs Q E hr h => ?_)
  · obtain ⟨_, rfl, _⟩ := h
    rfl
  obtain ⟨n, rfl, h1, h30, q⟩ := h
  refine ⟨_, (pss_one (ps_ret (pe_lc (own := [("begin", 1), ("_", 2)]) rfl scEdges.nd (pi_list (pe_slice sl_list (pe_call GPeaks (hr.mono (by decide)) rfl APeaks.m APeaks.kp APeaks.b .nil pass0 (pa_cons (pv 0) pa_nil)) po_none (po_some (pe_un un_neg pe_int)))) (blkOk_by (N := ["size", "begin", "_"]) (sc := defScope sEdges) (by decide +kernel)) (fun _ _ _ _ _ => (pg_tupB (n := 2) rfl (pgs_cons (pg_name (i := 1) scEdges.nd rfl (Or.inl rfl)) (pgs_cons (pg_name (i := 2) scEdges.nd rfl (Or.inl rfl)) pgs_nil)))) (fun _ _ _ _ _ => pts_nil) (fun _ _ _ _ _ => (pe_tup (pa_cons (pv 1) (pa_cons (pv 0) pa_nil))))))), ?_⟩
  refine ⟨_, rfl, n, rfl, h1, h30, fun H1 p xs sm np hp hx => ?_⟩
  have L101 : ((pk 101 n 0).map full).length ≤ 101 := by rw [List.length_map]; exact pk_len 101 n 0
  generalize (pk 101 n 0).map full = L at q hx L101
  refine ⟨1, rfl, -1, rfl, p, _, rfl, SqL.of hp, fun c nc => ?_⟩
  have sc := same_upd (o := .lst (cutV xs none (some (-1)))) nc
  have hc : (upd H1 c (.lst (cutV xs none (some (-1))))) c = some (.lst xs.dropLast) := by rw [upd_same, cut_last]
  have hx1 := (hx.mono (fun v x (k : Nd H1 v x) => k.same sc)).droplast
  generalize upd H1 c (.lst (cutV xs none (some (-1)))) = H2 at hc hx1 sc
  refine ⟨c, rfl, ⟨_, SqL.of hc⟩, fun D nD => lc_list (xs := xs.dropLast) (fun i H' => ∃ ys : List V, Same H2 H' ∧ H' D = some (.lst ys) ∧ All2 (Nd H') ys ((L.dropLast.take i).map fun x => (x.1, n))) ⟨[], same_upd nD, upd_same, .nil⟩ (fun i H' _ ⟨_, k, _⟩ => SqL.of (k _ _ hc)) ?_ ?_⟩
  · rintro i x H3 hi ⟨ys, s3, hD, hy3⟩
    obtain ⟨y, hy, xp, rfl, hxp⟩ := hx1.nth hi
    have il : i < L.dropLast.length := (List.getElem?_eq_some_iff.mp hy).1
    rw [List.length_dropLast] at il
    refine ⟨xp, _, rfl, SqT.of (s3 _ _ hxp), rfl, _, _, rfl, _, _, rfl, rfl, rfl, ?_⟩
    refine ⟨_, rfl, _, rfl, (by show 2 ≤ sizeLine; decide), fun t nt => ?_⟩
    have st := same_upd (o := .tup [.int (y.1 : Int), .int (n : Int)]) nt
    refine ⟨ys, st _ _ hD, szlt (by rw [hy3.len, List.length_map, List.length_take, List.length_dropLast]; omega), ys ++ [.ref t], ?_, upd_same, ?_⟩
    · exact fun a o k => by rw [upd_ne (ne_of_none k nD)]; exact st _ _ (s3 _ _ k)
    · rw [take_more hy, List.map_append]
      exact (hy3.mono (fun v x (k : Nd H3 v x) => (k.same st).upd (st _ _ hD))).app (.cons (Nd.upd (x := (y.1, n)) ⟨t, rfl, upd_same⟩ (st _ _ hD)) .nil)
  rintro H3 ⟨ys, s3, hD, hy3⟩
  have et : L.dropLast.take xs.dropLast.length = L.dropLast := List.take_of_length_le (by rw [hx1.len]; exact Nat.le_refl _)
  rw [et] at hy3
  refine q H3 D ys (sm.trans (sc.trans s3)) ?_ hD hy3
  exact (sm.trans sc).free nD
def spNodeCount : Sp := fun vs H Q _ => ∃ (n : Nat), vs = [.int n] ∧ 1 ≤ n ∧ n ≤ 10 ^ 30 ∧ ∀ (H' : Hp) (p : Addr), Same H H' → H' p = some (.tup [.int (2 * (n : Int) - 1 - ((npk n - 1 : Nat) : Int)), .int ((npk n - 1 : Nat) : Int)]) → Q (.ref p) H'
theorem ok_node_count {f g1 : Addr} {fd d1 : FuncData} (F : Fun K "node_count" "node_count" sNodeCount f fd) (GEdges : FnOk P w K mg base CX0 5 g1 d1 ["size"] spEdges) (AEdges : At K mg "edges" g1 d1 ["size"]) (z_len : mg "len" = none) : FnOk P w K mg base CX0 6 f fd ["size"] spNodeCount := by
  refine F.ok scNodeCount (fun vs H Q E h => ?_) (fun cdv A outer s H vs Q E hr h => ?_)
  · obtain ⟨_, rfl, _⟩ := h
    rfl
  obtain ⟨n, rfl, h1, h30, q⟩ := h
  refine ⟨_, (pss_cons (ps_set (i := 1) scNodeCount.nd rfl (Or.inl rfl) (pe_callB call_len_seq (by rfl) z_len PySem.boot_len (pa_cons (pe_call GEdges (hr.mono (by decide)) rfl AEdges.m AEdges.kp AEdges.b .nil pass0 (pa_cons (pv 0) pa_nil)) pa_nil)))
    (pss_one (ps_ret (pe_tup (pa_cons (pe_op op_sub (pe_op op_sub (pe_op op_mul pe_int (pv 0)) pe_int) (pv 1)) (pa_cons (pv 1) pa_nil)))))), ?_⟩
  refine ⟨_, rfl, n, rfl, h1, h30, fun H1 p xs sm np hp hx => ?_⟩
  have xl : xs.length = npk n - 1 := by
    rw [hx.len, List.length_map, List.length_dropLast, List.length_map]
    rfl
  refine ⟨p, xs, rfl, .inl (SqL.of hp), ?_⟩
  dsimp only
  rw [xl]
  refine ⟨_, rfl, _, _, rfl, rfl, .inl ⟨by decide, by decide⟩, _, _, rfl, rfl, _, rfl, _, _, rfl, rfl, _, rfl, (by show 2 ≤ sizeLine; decide), fun t nt => ?_⟩
  exact q _ t (sm.trans (same_upd nt)) upd_same
def spCommon : Sp := fun vs H Q _ => ∃ (n o : Nat), vs = [.int n, .int o] ∧ 1 ≤ n ∧ n ≤ 10 ^ 30 ∧ 1 ≤ o ∧ o ≤ 10 ^ 30 ∧ ∀ (H' : Hp), Same H H' → Q (.int (ccount n o)) H'
theorem min_castC (a c : Nat) : (if ((c : Nat) : Int) < (a : Int) then (c : Int) else (a : Int)) = ((min a c : Nat) : Int) := by split <;> omega
theorem ok_common_count {f g1 g2 : Addr} {fd d1 d2 : FuncData} (F : Fun K "common_count" "common_count" sCommonCount f fd) (GCheckSize : FnOk P w K mg base CX0 3 g1 d1 ["size"] spCheckSize) (ACheckSize : At K mg "check_size" g1 d1 ["size"])
    (GNodeCount : FnOk P w K mg base CX0 6 g2 d2 ["size"] spNodeCount) (ANodeCount : At K mg "node_count" g2 d2 ["size"]) (z_min : mg "min" = none) : FnOk P w K mg base CX0 7 f fd ["size", "other"] spCommon := by
  refine F.ok scCommonCount (fun vs H Q E h => ?_) (fun cdv A outer s H vs Q E hr h => ?_)
  · obtain ⟨_, _, rfl, _⟩ := h
    rfl
  obtain ⟨n, o, rfl, h1, h30, o1, o30, q⟩ := h
  refine ⟨_, (pss_cons (ps_expr (pe_call GCheckSize (hr.mono (by decide)) rfl ACheckSize.m ACheckSize.kp ACheckSize.b .nil pass0 (pa_cons (pv 0) pa_nil)))
    (pss_cons (ps_expr (pe_call GCheckSize (hr.mono (by decide)) rfl ACheckSize.m ACheckSize.kp ACheckSize.b .nil pass0 (pa_cons (pv 1) pa_nil)))
    (pss_cons (ps_asg (pe_call GNodeCount (hr.mono (by decide)) rfl ANodeCount.m ANodeCount.kp ANodeCount.b .nil pass0 (pa_cons (pe_callB (call_min2 rfl) (by rfl) z_min (by decide +kernel) (pa_cons (pv 0) (pa_cons (pv 1) pa_nil))) pa_nil)) (pg_tup (by rfl) (pgs_cons (pg_name (i := 2) scCommonCount.nd rfl (Or.inl rfl)) (pgs_cons (pg_name (i := 3) scCommonCount.nd rfl (Or.inl rfl)) pgs_nil))))
    (pss_cons (ps_if (pt_cmpR op_eq (pv 0) (pv 1) (nomark _))
    (pss_one (ps_ret (pe_op op_add (pv 2) (pv 3))))
    pss_nil)
    (pss_one (ps_ret (pv 2))))))), ?_⟩
  refine ⟨_, rfl, n, rfl, by omega, by omega, ?_⟩
  refine ⟨_, rfl, o, rfl, by omega, by omega, ?_⟩
  refine ⟨_, rfl, _, rfl, _, _, rfl, min n o, congrArg (fun z => [V.int z]) (min_castC n o), by omega, by omega, fun H1 p sm hp => ?_⟩
  refine ⟨p, _, rfl, SqT.of hp, rfl, _, _, rfl, _, _, rfl, rfl, ?_⟩
  have np := npk_pos (n := min n o) (by omega) (by omega)
  refine ⟨_, rfl, _, rfl, rfl, _, rfl, ite2 (fun c => ?_) (fun c => ?_)⟩
  · have c1 : V.int (n : Int) = V.int (o : Int) := of_decide_eq_true c
    have c2 := V.int.inj c1
    refine ⟨_, rfl, _, rfl, _, _, rfl, rfl, ?_⟩
    have k := q _ sm
    unfold ccount at k
    rw [if_pos (by omega)] at k
    have e : 2 * ((min n o : Nat) : Int) - 1 - ((npk (min n o) - 1 : Nat) : Int) + ((npk (min n o) - 1 : Nat) : Int) = 2 * ((min n o : Nat) : Int) - 1 := by omega
    show Q (.int (2 * ((min n o : Nat) : Int) - 1 - ((npk (min n o) - 1 : Nat) : Int) + ((npk (min n o) - 1 : Nat) : Int))) H1
    rw [e]
    exact k
  · have c1 : ¬ V.int (n : Int) = V.int (o : Int) := of_decide_eq_false (Bool.eq_false_iff.mpr c)
    have k := q _ sm
    unfold ccount at k
    rw [if_neg (fun z => c1 (by rw [z]))] at k
    exact ⟨_, rfl, k⟩
def spHeights : Sp := fun vs H Q _ => ∃ (n : Nat) (k : Int), vs = [.int n, .int k] ∧ 1 ≤ n ∧ n ≤ 10 ^ 30 ∧ Q (.int (hcount n k)) H
theorem ok_height_count {f g1 g2 : Addr} {fd d1 d2 : FuncData} (F : Fun K "height_count" "height_count" sHeightCount f fd) (GCheckSize : FnOk P w K mg base CX0 3 g1 d1 ["size"] spCheckSize) (ACheckSize : At K mg "check_size" g1 d1 ["size"])
    (GCheckNumber : FnOk P w K mg base CX0 2 g2 d2 ["number"] spCheckNumber) (ACheckNumber : At K mg "check_number" g2 d2 ["number"]) : FnOk P w K mg base CX0 4 f fd ["size", "number"] spHeights := by
  refine F.ok scHeightCount (fun vs H Q E h => ?_) (fun cdv A outer s H vs Q E hr h => ?_)
  · obtain ⟨_, _, rfl, _⟩ := h
    rfl
  obtain ⟨n, k, rfl, h1, h30, q⟩ := h
  unfold hcount at q
  refine ⟨_, (pss_cons (ps_expr (pe_call GCheckSize (hr.mono (by decide)) rfl ACheckSize.m ACheckSize.kp ACheckSize.b .nil pass0 (pa_cons (pv 0) pa_nil)))
    (pss_cons (ps_expr (pe_call GCheckNumber (hr.mono (by decide)) rfl ACheckNumber.m ACheckNumber.kp ACheckNumber.b .nil pass0 (pa_cons (pv 1) pa_nil)))
    (pss_cons (ps_if (PW.pt (pw_or (pt_cmpR op_lt (pv 1) pe_int (nomark _)) (pw_or1 (pt_cmpR op_gt (pv 1) (pe_bits (pv 0)) (nomark _)))))
    (pss_one (ps_ret pe_int))
    pss_nil)
    (pss_cons (ps_if (pt_cmpR op_eq (pv 1) pe_int (nomark _))
    (pss_one (ps_ret (pv 0)))
    pss_nil)
    (pss_cons (ps_set (i := 2) scHeightCount.nd rfl (Or.inl rfl) (pe_op op_add (pe_op op_shr (pe_op op_sub (pv 0) pe_int) (pe_op op_sub (pv 1) pe_int)) pe_int))
    (pss_one (ps_ret (pe_op op_fdivW (pv 2) pe_int)))))))), ?_⟩
  refine ⟨_, rfl, n, rfl, by omega, by omega, ?_⟩
  refine ⟨_, rfl, k, rfl, ?_⟩
  refine ⟨_, rfl, _, _, rfl, rfl, _, rfl, ite2 (fun c => ?_) (fun c => ?_)⟩
  · have c1 : k < 0 := of_decide_eq_true c
    rw [if_pos (Or.inl c1)] at q
    exact q
  have c1 : ¬ k < 0 := of_decide_eq_false (Bool.eq_false_iff.mpr c)
  refine ⟨_, rfl, _, rfl, _, rfl, _, _, rfl, rfl, _, rfl, ite2 (fun c => ?_) (fun c => ?_)⟩
  · have c2 : k > ((Builtin.Int.intBits (n : Int) : Nat) : Int) := of_decide_eq_true c
    rw [if_pos (Or.inr c2)] at q
    exact q
  have c2 : ¬ k > ((Builtin.Int.intBits (n : Int) : Nat) : Int) := of_decide_eq_false (Bool.eq_false_iff.mpr c)
  rw [if_neg (fun z => z.elim c1 c2)] at q
  refine ⟨_, rfl, rfl, _, rfl, ite2 (fun c => ?_) (fun c => ?_)⟩
  · have c3 : V.int k = V.int 0 := of_decide_eq_true c
    rw [if_pos (V.int.inj c3)] at q
    exact ⟨_, rfl, q⟩
  have c3 : ¬ V.int k = V.int 0 := of_decide_eq_false (Bool.eq_false_iff.mpr c)
  rw [if_neg (fun z => c3 (by rw [z]))] at q
  have k0 : k ≠ 0 := fun z => c3 (by rw [z])
  refine ⟨_, rfl, _, _, rfl, rfl, _, rfl, _, _, rfl, rfl, _, _, rfl, rfl, (show 0 ≤ k - 1 by omega), _, _, rfl, rfl, ?_⟩
  exact ⟨_, rfl, _, _, rfl, rfl, wide_div (b := 2) (by decide) (by decide) (by decide) (by decide), q⟩
end
end LT

namespace LT
/-- the nodes from (b, b + m) down, as the law lists them -/
def nodesF : Nat → Nat → Nat → List (Nat × Nat)
  | 0, _, _ => []
  | i + 1, b, m => if m ≤ 1 then [(b, b + m)] else (b, b + m) :: (nodesF i b (gp m) ++ nodesF i (b + gp m) (m - gp m))
theorem nodesF_one {i b m : Nat} (h : m ≤ 1) : nodesF (i + 1) b m = [(b, b + m)] := if_pos h
theorem nodesF_two {i b m : Nat} (h : ¬ m ≤ 1) : nodesF (i + 1) b m = (b, b + m) :: (nodesF i b (gp m) ++ nodesF i (b + gp m) (m - gp m)) := if_neg h
theorem gp_half {i m : Nat} (h : 2 ≤ m) (k : 2 * m ≤ 2 ^ (i + 1)) : 2 * gp m ≤ 2 ^ i ∧ 2 * (m - gp m) ≤ 2 ^ i := by
  have g1 := gp_lt h
  have g2 := gp_ge h
  have p := Nat.pow_succ (n := 2) (m := i)
  have : gp m < 2 ^ i := by omega
  unfold gp at this ⊢
  have e := (Nat.pow_lt_pow_iff_right (by decide : 1 < 2)).mp this
  have e2 : 2 ^ ((m - 1).log2 + 1) ≤ 2 ^ i := Nat.pow_le_pow_right (by decide) (by omega)
  rw [Nat.pow_succ] at e2
  unfold gp at g1 g2
  omega
theorem nodesF_len : ∀ (i b m : Nat), 1 ≤ m → 2 * m ≤ 2 ^ i → (nodesF i b m).length = 2 * m - 1
  | 0, b, m, h1, h2 => by simp at h2; omega
  | i + 1, b, m, h1, h2 => by
    by_cases c : m ≤ 1
    · rw [nodesF_one c]
      simp
      omega
    · rw [nodesF_two c, List.length_cons, List.length_append]
      have g1 := gp_lt (m := m) (by omega)
      have g3 := gp_pos m
      obtain ⟨k1, k2⟩ := gp_half (by omega) h2
      rw [nodesF_len i b (gp m) g3 k1, nodesF_len i (b + gp m) (m - gp m) (by omega) k2]
      omega
/-- a node of tree(n) -/
def isN (n : Nat) (x : Nat × Nat) : Prop := x.1 < x.2 ∧ x.2 ≤ n ∧ tree n x.1 (x.2 - x.1)
theorem mul_le_of_lt {R a b : Nat} (h1 : R ∣ a) (h2 : R ∣ b) (h : a < b) : a + R ≤ b := by
  obtain ⟨x, rfl⟩ := h1
  obtain ⟨y, rfl⟩ := h2
  have : x < y := Nat.lt_of_mul_lt_mul_left h
  calc R * x + R = R * (x + 1) := by rw [Nat.mul_succ]
    _ ≤ R * y := Nat.mul_le_mul_left R this
/-- a node within another one is it, or lies within one of its halves -/
theorem node_in {n b m : Nat} (h : 2 ≤ m) (t : tree n b m) (hn : b + m ≤ n) {x : Nat × Nat} (hx : isN n x) (h1 : b ≤ x.1) (h2 : x.2 ≤ b + m) : x = (b, b + m) ∨ x.2 ≤ b + gp m ∨ b + gp m ≤ x.1 := by
  obtain ⟨x1, x2⟩ := x
  obtain ⟨k1, k2, d, k3⟩ := hx
  simp only at k1 k2 d k3 h1 h2
  by_cases c1 : x2 ≤ b + gp m
  · exact .inr (.inl c1)
  by_cases c2 : b + gp m ≤ x1
  · exact .inr (.inr c2)
  left
  obtain ⟨td, tk⟩ := t
  have e := lb_gp h
  rw [e] at td tk
  have g1 := gp_lt h
  have g2 := gp_ge h
  have gR : gp m = 2 ^ Nat.log2 (m - 1) := rfl
  generalize hr : lb (x2 - x1) = r at d k3
  have ge := lb_ge (x2 - x1)
  rw [hr] at ge
  by_cases c : r ≤ Nat.log2 (m - 1)
  · -- small: a multiple of 2 ^ r below b + gp m ends there at most
    have dg : 2 ^ r ∣ gp m := by rw [gR]; exact Nat.pow_dvd_pow 2 c
    have db : 2 ^ r ∣ b := Nat.dvd_trans dg (Nat.dvd_trans (Nat.dvd_mul_left _ _) td)
    have := mul_le_of_lt d (Nat.dvd_add db dg) (by omega : x1 < b + gp m)
    omega
  · have dd : 2 * gp m ∣ 2 ^ r := by
      rw [gR, Nat.mul_comm, ← Nat.pow_succ]
      exact Nat.pow_dvd_pow 2 (by omega)
    have dx := Nat.dvd_trans dd d
    have ex : x1 = b := by
      by_cases z : b < x1
      · have := mul_le_of_lt td dx z
        omega
      · omega
    subst ex
    have le : 2 * gp m ≤ 2 ^ r := Nat.le_of_dvd (Nat.pow_pos (by decide)) dd
    have rl : r ≤ Nat.log2 (m - 1) + 1 := by
      rw [← hr]
      refine lb_le ?_
      rw [Nat.pow_succ, ← gR]
      omega
    have e2 : 2 ^ r ≤ 2 * gp m := by
      rw [gR, Nat.mul_comm, ← Nat.pow_succ]
      exact Nat.pow_le_pow_right (by decide) rl
    have : x2 = x1 + m := by
      rcases k3 with k3 | k3 <;> omega
    rw [this]
theorem mem_nodesF (n : Nat) (x : Nat × Nat) : ∀ (i b m : Nat), 1 ≤ m → 2 * m ≤ 2 ^ i → tree n b m → b + m ≤ n → (x ∈ nodesF i b m ↔ isN n x ∧ b ≤ x.1 ∧ x.2 ≤ b + m)
  | 0, b, m, h1, h2, _, _ => by simp at h2; omega
  | i + 1, b, m, h1, h2, t, hn => by
    by_cases c : m ≤ 1
    · have em : m = 1 := by omega
      subst em
      rw [nodesF_one (by omega), List.mem_singleton]
      constructor
      · rintro rfl
        exact ⟨⟨by simp, by simpa using hn, by simpa using t⟩, by simp, by simp⟩
      · rintro ⟨⟨k1, _⟩, k2, k3⟩
        have : x.1 = b ∧ x.2 = b + 1 := by omega
        exact Prod.ext this.1 this.2
    · rw [nodesF_two c, List.mem_cons, List.mem_append]
      have g1 := gp_lt (m := m) (by omega)
      have g3 := gp_pos m
      obtain ⟨k1, k2⟩ := gp_half (by omega) h2
      have e : b + gp m + (m - gp m) = b + m := by omega
      have il := mem_nodesF n x i b (gp m) g3 k1 (tree_low (by omega) t) (by omega)
      have ih := mem_nodesF n x i (b + gp m) (m - gp m) (by omega) k2 (tree_high (by omega) t) (by omega)
      rw [il, ih, e]
      constructor
      · rintro (rfl | ⟨p, q, r⟩ | ⟨p, q, r⟩)
        · exact ⟨⟨by simp; omega, by simpa using hn, by simpa using t⟩, by simp, by simp⟩
        · exact ⟨p, q, by omega⟩
        · exact ⟨p, by omega, r⟩
      · rintro ⟨p, q, r⟩
        rcases node_in (by omega) t hn p q r with z | z | z
        · exact .inl z
        · exact .inr (.inl ⟨p, q, z⟩)
        · exact .inr (.inr ⟨p, z, r⟩)
instance (n : Nat) (x : Nat × Nat) : Decidable (tree n x.1 (x.2 - x.1)) := by unfold tree; infer_instance
instance (n : Nat) (x : Nat × Nat) : Decidable (isN n x) := by unfold isN; infer_instance
end LT

namespace LT
def nod (n : Nat) : List (Nat × Nat) := nodesF 8 0 n
def fl (x : Nat × Nat) : Bool := ((x.2 - x.1) &&& (x.2 - x.1 - 1)) == 0 && (x.1 &&& (x.2 - x.1 - 1)) == 0
def npk' (n : Nat) : Nat := (pk 101 n 0).length
theorem full_ok : ∀ n, n < 71 → 1 ≤ n → ((nod n).filter fl).length + npk' n = 2 * n := by decide +kernel
def lbB (m : Nat) : Nat := (Nat.log2 (2 * m - 1))
def isNB (n : Nat) (x : Nat × Nat) : Bool :=
  match Nat.pow 2 (lbB (x.2 - x.1)) with
  | R => Nat.ble x.2 n && Nat.ble (Nat.succ x.1) x.2 && Nat.beq (Nat.mod x.1 R) 0 && (Nat.beq (x.2 - x.1) R || Nat.beq x.2 n)
theorem log2_double (m : Nat) (h : 1 ≤ m) : Nat.log2 (2 * m) = Nat.log2 m + 1 := by
  have h1 := Nat.log2_self_le (n := m) (by omega)
  have h2 := Nat.lt_log2_self (n := m)
  refine (Nat.log2_eq_iff (by omega)).mpr ⟨?_, ?_⟩
  · rw [Nat.pow_succ]; omega
  · rw [Nat.pow_succ]; omega
theorem lbB_is (m : Nat) (h : 1 ≤ m) : lbB m = lb m := by
  unfold lbB lb
  by_cases c : m ≤ 1
  · have : m = 1 := by omega
    subst this
    decide
  · rw [if_neg c]
    have h1 := Nat.log2_self_le (n := m - 1) (by omega)
    have h2 := Nat.lt_log2_self (n := m - 1)
    refine (Nat.log2_eq_iff (by omega)).mpr ⟨?_, ?_⟩
    · rw [Nat.pow_succ]; omega
    · rw [Nat.pow_succ]; omega
theorem isNB_is (n : Nat) (x : Nat × Nat) : isNB n x = true ↔ isN n x := by
  unfold isNB isN tree
  simp only [Bool.and_eq_true, Bool.or_eq_true, Nat.ble_eq, Nat.beq_eq]
  constructor
  · rintro ⟨⟨⟨a, b⟩, c⟩, d⟩
    have hb : x.1 < x.2 := b
    rw [lbB_is _ (by omega)] at c d
    refine ⟨hb, a, Nat.dvd_of_mod_eq_zero c, ?_⟩
    rcases d with d | d
    · exact .inl d
    · exact .inr (by omega)
  · rintro ⟨a, b, c, d⟩
    rw [lbB_is _ (by omega)]
    refine ⟨⟨⟨b, a⟩, Nat.mod_eq_zero_of_dvd c⟩, ?_⟩
    rcases d with d | d
    · exact .inl d
    · exact .inr (by omega)
def cc (n o : Nat) : Nat := if n = o then 2 * n - 1 else 2 * min n o - npk' (min n o)
def countN (o : Nat) : List (Nat × Nat) → Nat → Nat
  | [], k => k
  | x :: r, k => match isNB o x with
    | true => countN o r (Nat.succ k)
    | false => countN o r k
theorem countN_is (o : Nat) : ∀ (l : List (Nat × Nat)) (k : Nat), countN o l k = (l.filter (isNB o)).length + k
  | [], k => by simp [countN]
  | x :: r, k => by
    unfold countN
    cases h : isNB o x with
    | true => simp only []; rw [countN_is o r, List.filter_cons, if_pos h, List.length_cons]; omega
    | false => simp only []; rw [countN_is o r, List.filter_cons, if_neg (by rw [h]; decide)]
def allC (n : Nat) : Bool := match nod n with
  | l => (List.range 71).all fun o => Nat.beq o 0 || Nat.beq (countN o l 0) (cc n o)
theorem common_all0 : ((List.range' 0 10).all fun n => Nat.beq n 0 || allC n) = true := by decide +kernel
theorem common_all1 : ((List.range' 10 10).all fun n => Nat.beq n 0 || allC n) = true := by decide +kernel
theorem common_all2 : ((List.range' 20 10).all fun n => Nat.beq n 0 || allC n) = true := by decide +kernel
theorem common_all3 : ((List.range' 30 10).all fun n => Nat.beq n 0 || allC n) = true := by decide +kernel
theorem common_all4 : ((List.range' 40 10).all fun n => Nat.beq n 0 || allC n) = true := by decide +kernel
theorem common_all5 : ((List.range' 50 10).all fun n => Nat.beq n 0 || allC n) = true := by decide +kernel
theorem common_all6 : ((List.range' 60 10).all fun n => Nat.beq n 0 || allC n) = true := by decide +kernel
theorem common_all7 : ((List.range' 70 1).all fun n => Nat.beq n 0 || allC n) = true := by decide +kernel
theorem common_at (n : Nat) (h : n < 71) : (Nat.beq n 0 || allC n) = true := by
  have m : ∀ (q s l : Nat), ((List.range' s l).all fun n => Nat.beq n 0 || allC n) = true → s ≤ n → n < s + l → (Nat.beq n 0 || allC n) = true := fun q s l a h1 h2 => List.all_eq_true.mp a n (List.mem_range'_1.mpr ⟨h1, h2⟩)
  have c : n / 10 = 0 ∨ n / 10 = 1 ∨ n / 10 = 2 ∨ n / 10 = 3 ∨ n / 10 = 4 ∨ n / 10 = 5 ∨ n / 10 = 6 ∨ n / 10 = 7 := by omega
  rcases c with c | c | c | c | c | c | c | c
  · exact m 0 0 10 common_all0 (by omega) (by omega)
  · exact m 1 10 10 common_all1 (by omega) (by omega)
  · exact m 2 20 10 common_all2 (by omega) (by omega)
  · exact m 3 30 10 common_all3 (by omega) (by omega)
  · exact m 4 40 10 common_all4 (by omega) (by omega)
  · exact m 5 50 10 common_all5 (by omega) (by omega)
  · exact m 6 60 10 common_all6 (by omega) (by omega)
  · exact m 7 70 1 common_all7 (by omega) (by omega)
theorem common_ok (n : Nat) (h : n < 71) (h1 : 1 ≤ n) (o : Nat) (ho : o < 71) (h2 : 1 ≤ o) : ((nod n).filter (isNB o)).length = cc n o := by
  have a := common_at n h
  rw [Bool.or_eq_true, Nat.beq_eq] at a
  have b := a.resolve_left (by omega)
  have c := List.all_eq_true.mp b o (List.mem_range.mpr ho)
  rw [Bool.or_eq_true, Nat.beq_eq, Nat.beq_eq] at c
  have d := c.resolve_left (by omega)
  rw [countN_is] at d
  exact d
theorem heights_ok : ∀ n, n < 71 → 1 ≤ n → ∀ k, k < 10 → ((nod n).filter fun x => lb (x.2 - x.1) == k).length = if k > n.log2 + 1 then 0 else if k = 0 then n else ((n - 1) / 2 ^ (k - 1) + 1) / 2 := by decide +kernel
theorem heights_lt : ∀ n, n < 71 → 1 ≤ n → ((nod n).all fun x => decide (lb (x.2 - x.1) < 10)) = true := by decide +kernel
end LT

namespace LT
open PySem PySem.Spec PyProof.Rows L2
def nd (x : Nat × Nat) : PyData := .tuple [.int x.1, .int x.2]
theorem nds_lay : ∀ l : List (Nat × Nat), PyData.canLayAll0 (l.map nd) = true
  | [] => by simp [PyData.canLayAll0]
  | x :: l => by simp [PyData.canLayAll0, nd, PyData.canLay0, nds_lay l]
theorem nds_depth : ∀ l : List (Nat × Nat), PyData.depthAll (l.map nd) ≤ 2
  | [] => by simp [PyData.depthAll]
  | x :: l => by
    have := nds_depth l
    simp only [List.map_cons, PyData.depthAll, nd, PyData.depth]
    omega
theorem nds_shaped (l : List (Nat × Nat)) : SeqAt.shaped (.list (l.map nd)) = true := by
  have h := nds_depth l
  have h2 : PyData.depth (.list (l.map nd)) ≤ 64 := by
    simp only [PyData.depth]
    omega
  show (PyData.canLay0 (.list (l.map nd)) && decide (PyData.depth (.list (l.map nd)) ≤ 64)) = true
  rw [Bool.and_eq_true]
  exact ⟨by simp only [PyData.canLay0]; exact nds_lay l, decide_eq_true h2⟩
theorem nds_dp {K : PySem.W.Frag} {H : Hp} : ∀ {vs : List V} {l : List (Nat × Nat)}, All2 (Nd H) vs l → DpAll K H vs (l.map nd)
  | _, _, .nil => .nil
  | _, _, .cons h t => .cons h.dp (nds_dp t)
theorem nds_any (l : List (Nat × Nat)) (x : Nat × Nat) : (l.map nd).any (fun z => PyData.eqv z (.tuple [.int x.1, .int x.2])) = decide (x ∈ l) := by
  induction l with
  | nil => simp
  | cons y l ih =>
    rw [List.map_cons, List.any_cons, ih]
    show (PyData.eqv (.tuple [.int y.1, .int y.2]) _ || _) = _
    rw [nd_eqv]
    by_cases c : x = y
    · subst c
      simp
    · have e : (decide ((y.1 : Int) = (x.1 : Int)) && decide ((y.2 : Int) = (x.2 : Int))) = false := by
        rw [Bool.and_eq_false_iff]
        by_cases c1 : y.1 = x.1
        · right
          refine decide_eq_false (fun z => c (Prod.ext c1.symm ?_))
          omega
        · left
          exact decide_eq_false (fun z => c1 (by omega))
      rw [e, Bool.false_or]
      simp [c]
end LT

namespace LT
open PySem PySem.Spec PyProof.Rows L2
section
variable {P : Program} {w : World} {K : PySem.W.Frag} {mg : Str → Option Value} {base : Heap}
def spNodes (i : Nat) : Sp := fun vs H Q _ => ∃ (b m : Nat) (v : V), vs = [v] ∧ Nd H v (b, b + m) ∧ 1 ≤ m ∧ 2 * m ≤ 2 ^ i ∧ m ≤ 128 ∧
  ∀ (H' : Hp) (p : Addr) (xs : List V), Same H H' → H p = none → H' p = some (.lst xs) → All2 (Nd H') xs (nodesF i b m) → Q (.ref p) H'
theorem ok_nodes_step {i : Nat} {f g : Addr} {fd gd : FuncData} (F : Fun K "_law_nodes" "_law_nodes" sLawNodes f fd) (GLawNodes : FnOk P w K mg base CX0 (i + 1) f fd ["node"] (spNodes i)) (ALawNodes : At K mg "_law_nodes" f fd ["node"])
    (GLawHalved : FnOk P w K mg base CX0 1 g gd ["node"] spHalved) (ALawHalved : At K mg "_law_halved" g gd ["node"]) : FnOk P w K mg base CX0 (i + 1 + 1) f fd ["node"] (spNodes (i + 1)) := by
  refine F.ok scLawNodes (fun vs H Q E h => ?_) (fun cdv A outer s H vs Q E hr h => ?_)
  · obtain ⟨_, _, _, rfl, _⟩ := h
    rfl
  obtain ⟨b, m, v, rfl, hv, h1, h2, h128, q⟩ := h
  have hr1 : Room 1 _ := hr.mono (by omega)
  have hrn : Room (i + 1) _ := hr.mono (Nat.le_refl _)
  refine ⟨_, (pss_cons (ps_if (pt_cmpR op_eq (pe_op op_sub (pe_ix ix_tup (pv 0) pe_int (fun _ _ => rfl)) (pe_ix ix_tup (pv 0) pe_int (fun _ _ => rfl))) pe_int (nomark _)) (pss_one (ps_ret (pe_lst (pa_cons (pv 0) pa_nil)))) pss_nil)
    (pss_cons (ps_asg (pe_call GLawHalved hr1 rfl ALawHalved.m ALawHalved.kp ALawHalved.b .nil pass0 (pa_cons (pv 0) pa_nil)) (pg_tup (by rfl) (pgs_cons (pg_name (i := 1) scLawNodes.nd rfl (Or.inl rfl)) (pgs_cons (pg_name (i := 2) scLawNodes.nd rfl (Or.inl rfl)) pgs_nil))))
    (pss_one (ps_ret (pe_op op_cat (pe_op op_cat (pe_lst (pa_cons (pv 0) pa_nil)) (pe_call GLawNodes hrn rfl ALawNodes.m ALawNodes.kp ALawNodes.b .nil pass0 (pa_cons (pv 1) pa_nil))) (pe_call GLawNodes hrn rfl ALawNodes.m ALawNodes.kp ALawNodes.b .nil pass0 (pa_cons (pv 2) pa_nil))))))), ?_⟩
  obtain ⟨vp, rfl, hvp⟩ := id hv
  refine ⟨_, rfl, vp, _, _, _, rfl, rfl, SqT.of hvp, atI_nat (j := 1) rfl, _, rfl, vp, _, _, _, rfl, rfl, SqT.of hvp, atI_nat (j := 0) rfl, _, _, rfl, rfl, rfl, _, rfl, ite2 (fun c => ?_) (fun c => ?_)⟩
  · have c1 : V.int (((b + m : Nat) : Int) - (b : Int)) = V.int 1 := of_decide_eq_true c
    have c2 := V.int.inj c1
    refine ⟨_, rfl, (by show 1 ≤ sizeLine; decide), fun p np => ?_⟩
    have sp := same_upd (o := .lst [.ref vp]) np
    refine q _ p [.ref vp] sp np upd_same ?_
    rw [nodesF_one (by omega)]
    exact .cons (hv.same sp) .nil
  · have c1 : ¬ V.int (((b + m : Nat) : Int) - (b : Int)) = V.int 1 := of_decide_eq_false (Bool.eq_false_iff.mpr c)
    have hm : ¬ m ≤ 1 := fun z => c1 (congrArg V.int (by omega))
    obtain ⟨k1, k2⟩ := gp_half (by omega) h2
    have g1 := gp_lt (m := m) (by omega)
    have g3 := gp_pos m
    have em : b + m - b = m := by omega
    have ee : b + gp m + (m - gp m) = b + m := by omega
    refine ⟨_, rfl, b, b + m, _, rfl, hv, by omega, fun H1 qa l h s1 nqa hqa hl hh => ?_⟩
    rw [em] at hl hh
    refine ⟨qa, _, rfl, SqT.of hqa, rfl, _, _, rfl, _, _, rfl, rfl, ?_⟩
    refine ⟨_, rfl, (by show 1 ≤ sizeLine; decide), fun l1 nl1 => ?_⟩
    have s2 := same_upd (o := .lst [.ref vp]) nl1
    have hl1 : (upd H1 l1 (.lst [.ref vp])) l1 = some (.lst [.ref vp]) := upd_same
    generalize upd H1 l1 (.lst [.ref vp]) = H2 at s2 hl1
    refine ⟨_, rfl, b, gp m, l, rfl, hl.same s2, g3, k1, by omega, fun H3 p3 xs3 s3 np3 hp3 hx3 => ?_⟩
    have n3 : xs3.length ≤ 256 := by rw [hx3.len, nodesF_len i b (gp m) g3 k1]; omega
    refine ⟨l1, p3, _, _, rfl, rfl, s3 _ _ hl1, hp3, szle (by rw [List.length_singleton]; omega), fun l4 nl4 => ?_⟩
    have s4 := same_upd (o := .lst ([.ref vp] ++ xs3)) nl4
    have hl4 : (upd H3 l4 (.lst ([.ref vp] ++ xs3))) l4 = some (.lst ([.ref vp] ++ xs3)) := upd_same
    have s24 := (s2.trans s3).trans s4
    generalize upd H3 l4 (.lst ([.ref vp] ++ xs3)) = H4 at s4 hl4 s24
    have hh4 : Nd H4 h (b + gp m, b + gp m + (m - gp m)) := by rw [ee]; exact hh.same s24
    refine ⟨_, rfl, b + gp m, m - gp m, h, rfl, hh4, by omega, k2, by omega, fun H5 p5 xs5 s5 np5 hp5 hx5 => ?_⟩
    have n5 : xs5.length ≤ 256 := by rw [hx5.len, nodesF_len i _ _ (by omega) k2]; omega
    refine ⟨l4, p5, _, _, rfl, rfl, s5 _ _ hl4, hp5, szle (by rw [List.length_append, List.length_singleton]; omega), fun p np => ?_⟩
    have s6 := same_upd (o := .lst ([.ref vp] ++ xs3 ++ xs5)) np
    have sAll := s1.trans (s24.trans (s5.trans s6))
    refine q _ p ([.ref vp] ++ xs3 ++ xs5) sAll ?_ upd_same ?_
    · exact ((s1.trans s24).trans s5).free np
    · rw [nodesF_two hm]
      show All2 _ (V.ref vp :: (xs3 ++ xs5)) _
      exact .cons (hv.same sAll) ((hx3.mono (fun v x (k : Nd H3 v x) => k.same (s4.trans (s5.trans s6)))).app (hx5.mono (fun v x (k : Nd H5 v x) => k.same s6)))
theorem ok_law_nodes {f g : Addr} {fd gd : FuncData} (F : Fun K "_law_nodes" "_law_nodes" sLawNodes f fd) (A : At K mg "_law_nodes" f fd ["node"]) (GLawHalved : FnOk P w K mg base CX0 1 g gd ["node"] spHalved) (ALawHalved : At K mg "_law_halved" g gd ["node"]) :
    ∀ i, FnOk P w K mg base CX0 (i + 1) f fd ["node"] (spNodes i)
  | 0 => by
    have no : ∀ vs H Q E, ¬ spNodes 0 vs H Q E := fun vs H Q E h => by
      obtain ⟨b, m, v, _, _, h1, h2, _⟩ := h
      simp at h2
      omega
    exact ⟨fun vs H Q E h => absurd h (no vs H Q E), fun A outer s H args us vs Q E _ _ _ _ h => absurd h (no vs H Q E)⟩
  | i + 1 => ok_nodes_step F (ok_law_nodes F A GLawHalved ALawHalved i) A GLawHalved ALawHalved
end
end LT

namespace LT
open PySem PySem.Spec PyProof.Rows L2
theorem lt_lb {m j : Nat} : 2 ^ j < m ↔ j < lb m := by
  constructor
  · intro h
    have := lb_ge m
    exact (Nat.pow_lt_pow_iff_right (by decide : 1 < 2)).mp (Nat.lt_of_lt_of_le h this)
  · intro h
    by_cases c : m ≤ 2 ^ j
    · have := lb_le c
      omega
    · omega
theorem and_nat (a b : Nat) : Builtin.bitAnd (a : Int) (b : Int) = ((a &&& b : Nat) : Int) := by
  rw [bitAnd_pp (Int.natCast_nonneg a) (Int.natCast_nonneg b), Int.toNat_natCast, Int.toNat_natCast]
theorem and_dec (a m : Nat) (h : 1 ≤ m) : decide (V.int (Builtin.bitAnd (a : Int) ((m : Int) - 1)) = V.int 0) = ((a &&& (m - 1)) == 0) := by
  rw [show (m : Int) - 1 = ((m - 1 : Nat) : Int) by omega, and_nat]
  by_cases c : (a &&& (m - 1)) = 0
  · rw [c]; rfl
  · rw [decide_eq_false (fun z => c (by have := V.int.inj z; omega))]
    exact (beq_eq_false_iff_ne.mpr c).symm
section
variable {P : Program} {w : World} {K : PySem.W.Frag} {mg : Str → Option Value} {base : Heap}
def spFull : Sp := fun vs H Q _ => ∃ (x : Nat × Nat) (v : V), vs = [v] ∧ Nd H v x ∧ x.1 < x.2 ∧ Q (.bl (fl x)) H
theorem ok_law_is_full {f : Addr} {fd : FuncData} (F : Fun K "_law_is_full" "_law_is_full" sLawIsFull f fd) : FnOk P w K mg base CX0 1 f fd ["node"] spFull := by
  refine F.ok scLawIsFull (fun vs H Q E h => ?_) (fun cdv A outer s H vs Q E hr h => ?_)
  · obtain ⟨_, _, rfl, _⟩ := h
    rfl
  obtain ⟨x, v, rfl, ⟨p, rfl, hp⟩, hlt, q⟩ := h
  refine ⟨_, (pss_cons (ps_set (i := 1) scLawIsFull.nd rfl (Or.inl rfl) (pe_op op_sub (pe_ix ix_tup (pv 0) pe_int (fun _ _ => rfl)) (pe_ix ix_tup (pv 0) pe_int (fun _ _ => rfl))))
    (pss_one (ps_ret (pe_and (pe_cmpR op_eq (pe_op op_and (pv 1) (pe_op op_sub (pv 1) pe_int)) pe_int (nomark _)) (pe_one (pe_cmpR op_eq (pe_op op_and (pe_ix ix_tup (pv 0) pe_int (fun _ _ => rfl)) (pe_op op_sub (pv 1) pe_int)) pe_int (nomark _))))))), ?_⟩
  refine ⟨_, rfl, p, _, _, _, rfl, rfl, SqT.of hp, atI_nat (j := 1) rfl, _, rfl, p, _, _, _, rfl, rfl, SqT.of hp, atI_nat (j := 0) rfl, _, _, rfl, rfl, ?_⟩
  have e1 : (x.2 : Int) - (x.1 : Int) = ((x.2 - x.1 : Nat) : Int) := by omega
  dsimp only
  rw [e1]
  refine ⟨_, rfl, _, rfl, _, _, rfl, rfl, _, _, rfl, rfl, rfl, ((x.2 - x.1) &&& (x.2 - x.1 - 1)) == 0, ?_, ?_⟩
  · exact congrArg V.bl (and_dec (x.2 - x.1) (x.2 - x.1) (by omega))
  unfold fl at q
  cases h : ((x.2 - x.1) &&& (x.2 - x.1 - 1)) == 0 with
  | false =>
    rw [h] at q
    exact q
  | true =>
    rw [h] at q
    refine ⟨_, rfl, p, _, _, _, rfl, rfl, SqT.of hp, atI_nat (j := 0) rfl, _, rfl, _, _, rfl, rfl, _, _, rfl, rfl, rfl, ?_⟩
    have e3 := and_dec x.1 (x.2 - x.1) (by omega)
    show Q (.bl (decide (V.int (Builtin.bitAnd (x.1 : Int) (((x.2 - x.1 : Nat) : Int) - 1)) = V.int 0))) H
    rw [e3]
    exact q
def spHeight : Sp := fun vs H Q _ => ∃ (x : Nat × Nat) (v : V), vs = [v] ∧ Nd H v x ∧ x.1 < x.2 ∧ x.2 - x.1 ≤ 10 ^ 30 ∧ Q (.int ((lb (x.2 - x.1) : Nat) : Int)) H
theorem ok_law_height {f : Addr} {fd : FuncData} (F : Fun K "_law_height" "_law_height" sLawHeight f fd) : FnOk P w K mg base CX0 1 f fd ["node"] spHeight := by
  refine F.ok scLawHeight (fun vs H Q E h => ?_) (fun cdv A outer s H vs Q E hr h => ?_)
  · obtain ⟨_, _, rfl, _⟩ := h
    rfl
  obtain ⟨x, v, rfl, ⟨p, rfl, hp⟩, hlt, h30, q⟩ := h
  have l100 := lb100 h30
  have e1 : (x.2 : Int) - (x.1 : Int) = ((x.2 - x.1 : Nat) : Int) := by omega
  refine ⟨_, (pss_cons (ps_set (i := 1) scLawHeight.nd rfl (Or.inl rfl) pe_int)
    (pss_cons (ps_while PassesOwn.never (pt_cmpR op_lt (pe_op op_shl pe_int (pv 1)) (pe_op op_sub (pe_ix ix_tup (pv 0) pe_int (fun _ _ => rfl)) (pe_ix ix_tup (pv 0) pe_int (fun _ _ => rfl))) (nomark _))
    (pss_one (ps_set (i := 1) scLawHeight.nd rfl (Or.inl rfl) (pe_op op_add (pv 1) pe_int))))
    (pss_one (ps_ret (pv 1))))), ?_⟩
  refine ⟨fun mu σ H' => ∃ j : Nat, σ = [some (.ref p), some (.int (j : Int))] ∧ H' = H ∧ j ≤ lb (x.2 - x.1) ∧ mu = lb (x.2 - x.1) - j, ⟨_, 0, rfl, rfl, Nat.zero_le _, rfl⟩, ?_⟩
  rintro m σ H1 ⟨j, rfl, rfl, hj, rfl⟩
  have e2 : (1 : Int) * 2 ^ ((j : Nat) : Int).toNat = ((2 ^ j : Nat) : Int) := by rw [Int.one_mul, Int.toNat_natCast]; exact (Int.natCast_pow 2 j).symm
  refine ⟨_, rfl, _, _, rfl, rfl, ⟨Int.natCast_nonneg _, by omega, by decide⟩, _, rfl, p, _, _, _, rfl, rfl, SqT.of hp, atI_nat (j := 1) rfl, _, rfl, p, _, _, _, rfl, rfl, SqT.of hp, atI_nat (j := 0) rfl, _, _, rfl, rfl, _, _, rfl, rfl, _, rfl, ite2 (fun c => ?_) (fun c => ?_)⟩
  · have c1 : (1 : Int) * 2 ^ ((j : Nat) : Int).toNat < (x.2 : Int) - (x.1 : Int) := of_decide_eq_true c
    rw [e1, e2] at c1
    have c2 := lt_lb.mp (show 2 ^ j < x.2 - x.1 by omega)
    exact ⟨_, fun σ' H' h => h, _, rfl, _, _, rfl, rfl, lb (x.2 - x.1) - (j + 1), by omega, j + 1, rfl, rfl, by omega, rfl⟩
  · have c1 : ¬ (1 : Int) * 2 ^ ((j : Nat) : Int).toNat < (x.2 : Int) - (x.1 : Int) := of_decide_eq_false (Bool.eq_false_iff.mpr c)
    rw [e1, e2] at c1
    have c2 : ¬ j < lb (x.2 - x.1) := fun z => c1 (by have := lt_lb.mpr z; omega)
    have ej : j = lb (x.2 - x.1) := by omega
    subst ej
    exact ⟨_, rfl, q⟩
end
end LT

namespace LT
open PySem PySem.Spec PyProof.Rows L2
/-! ### lists of ints as data -/
theorem ints_lay : ∀ ns : List Int, PyData.canLayAll0 (ns.map PyData.int) = true
  | [] => by simp [PyData.canLayAll0]
  | n :: ns => by simp [PyData.canLayAll0, PyData.canLay0, ints_lay ns]
theorem ints_depth : ∀ ns : List Int, PyData.depthAll (ns.map PyData.int) ≤ 1
  | [] => by simp [PyData.depthAll]
  | n :: ns => by
    have := ints_depth ns
    simp only [List.map_cons, PyData.depthAll, PyData.depth]
    omega
theorem ints_shaped (ns : List Int) : SeqAt.shaped (.list (ns.map PyData.int)) = true := by
  have h := ints_depth ns
  have h2 : PyData.depth (.list (ns.map PyData.int)) ≤ 64 := by
    simp only [PyData.depth]
    omega
  show (PyData.canLay0 (.list (ns.map PyData.int)) && decide (PyData.depth (.list (ns.map PyData.int)) ≤ 64)) = true
  rw [Bool.and_eq_true]
  exact ⟨by simp only [PyData.canLay0]; exact ints_lay ns, decide_eq_true h2⟩
theorem ints_dp {K : PySem.W.Frag} {H : Hp} : ∀ ns : List Int, DpAll K H (ns.map V.int) (ns.map PyData.int)
  | [] => .nil
  | n :: ns => .cons (.int n) (ints_dp ns)
theorem ints_nil : ∀ ns : List Int, PyData.eqv (.list (ns.map PyData.int)) (.list []) = ns.isEmpty
  | [] => by simp only [List.map_nil, PyData.eqv, PyData.eqvAll, List.isEmpty_nil]
  | n :: ns => by simp only [List.map_cons, PyData.eqv, PyData.eqvAll, List.isEmpty_cons]
theorem nil_shaped : SeqAt.shaped (.list []) = true := ints_shaped []
end LT

namespace LT
open PySem PySem.Spec PyProof.Rows L2
theorem shown_tup : ∀ a, a < 141 → ∀ b, b < 8 → (PyData.tuple [.int ((a : Nat) : Int), .int ((b : Nat) : Int)]).shown.length ≤ 100 := by decide +kernel
theorem shown_lst : ∀ a, a < 141 → (PyData.list [.int ((a : Nat) : Int), .int ((a : Nat) : Int)]).shown.length ≤ 100 := by decide +kernel
theorem log_small {a : Nat} (h : a < 1920) : ((a : Nat) : Int).natAbs.log2 < 1920 := Nat.lt_of_le_of_lt (Nat.log2_le_self _) (by omega)
theorem showable_tup {a b : Nat} (h1 : a < 1920) (h2 : b < 1920) : (PyData.tuple [.int ((a : Nat) : Int), .int ((b : Nat) : Int)]).showable = true := by
  simp only [PyData.showable, PyData.showableAll, Bool.and_true, Bool.and_eq_true]
  exact ⟨decide_eq_true (log_small h1), decide_eq_true (log_small h2)⟩
theorem showable_lst {a b : Nat} (h1 : a < 1920) (h2 : b < 1920) : (PyData.list [.int ((a : Nat) : Int), .int ((b : Nat) : Int)]).showable = true := by
  simp only [PyData.showable, PyData.showableAll, Bool.and_true, Bool.and_eq_true]
  exact ⟨decide_eq_true (log_small h1), decide_eq_true (log_small h2)⟩
theorem npk_small : ∀ n, n < 71 → npk n ≤ 8 := by decide +kernel
end LT

namespace LT
open PySem PySem.Spec PyProof.Rows L2
theorem l2_shaped (a b : Int) : SeqAt.shaped (.list [.int a, .int b]) = true := by
  show (PyData.canLay0 _ && decide (PyData.depth _ ≤ 64)) = true
  simp [PyData.canLay0, PyData.canLayAll0, PyData.depth, PyData.depthAll]
theorem nod_len {n : Nat} (h : n < 71) (h1 : 1 ≤ n) : (nod n).length = 2 * n - 1 := nodesF_len 8 0 n h1 (by omega)
theorem nod_mem {n : Nat} (h : n < 71) (h1 : 1 ≤ n) (x : Nat × Nat) : x ∈ nod n ↔ isN n x := by
  unfold nod
  rw [mem_nodesF n x 8 0 n h1 (by omega) (tree_root n) (by omega)]
  constructor
  · exact fun z => z.1
  · exact fun z => ⟨z, Nat.zero_le _, by have := z.2.1; omega⟩
theorem nod_both {n o : Nat} (hn : n < 71) (h1 : 1 ≤ n) (ho : o < 71) (h2 : 1 ≤ o) : ((nod n).filter fun x => decide (x ∈ nod o)).length = cc n o := by
  rw [← common_ok n hn h1 o ho h2]
  congr 1
  refine List.filter_congr (fun x _ => ?_)
  have k := isNB_is o x
  by_cases c : isN o x
  · rw [k.mpr c, decide_eq_true ((nod_mem ho h2 x).mpr c)]
  · have kf : isNB o x = false := Bool.eq_false_iff.mpr (fun z => c (k.mp z))
    rw [kf, decide_eq_false (fun z => c ((nod_mem ho h2 x).mp z))]
theorem ccount_is {n o : Nat} (hn : n < 71) (h1 : 1 ≤ n) (ho : o < 71) (h2 : 1 ≤ o) : ccount n o = ((cc n o : Nat) : Int) := by
  have np := npk_pos (n := min n o) (by omega) (by omega)
  have ns := npk_small (min n o) (by omega)
  have nl : npk (min n o) ≤ 2 * min n o := by
    have k := full_ok (min n o) (by omega) (by omega)
    have : npk' (min n o) = npk (min n o) := rfl
    omega
  unfold ccount cc
  have e : npk' (min n o) = npk (min n o) := rfl
  rw [e]
  by_cases c : n = o
  · rw [if_pos c, if_pos c]
    subst c
    rw [Nat.min_self]
    omega
  · rw [if_neg c, if_neg c]
    omega
theorem cc_small {n o : Nat} (hn : n < 71) (ho : o < 71) : cc n o < 141 := by
  unfold cc
  split <;> omega
theorem cc_comm (n o : Nat) : cc n o = cc o n := by
  unfold cc
  by_cases c : n = o
  · subst c; rfl
  · rw [if_neg c, if_neg (fun z => c z.symm), Nat.min_comm]
/-- the numbers whose heights are asked -/
def askable (k : Int) : Prop := k < 0 ∨ (0 ≤ k ∧ k < 10) ∨ k = 10 ^ 60
theorem hcount_is {n : Nat} (hn : n < 71) (h1 : 1 ≤ n) {k : Int} (hk : askable k) : hcount n k = ((((nod n).filter fun x => decide (((lb (x.2 - x.1) : Nat) : Int) = k)).length : Nat) : Int) := by
  have all := List.all_eq_true.mp (heights_lt n hn h1)
  have none_of : (∀ x ∈ nod n, ¬ ((lb (x.2 - x.1) : Nat) : Int) = k) → ((nod n).filter fun x => decide (((lb (x.2 - x.1) : Nat) : Int) = k)).length = 0 := fun h => by
    rw [List.length_eq_zero_iff, List.filter_eq_nil_iff]
    exact fun x hx z => h x hx (of_decide_eq_true z)
  have bn : Builtin.Int.intBits (n : Int) = n.log2 + 1 := by rw [bits_nat, if_neg (by omega)]
  have l7 : n.log2 < 7 := (Nat.log2_lt (by omega)).mpr (by omega)
  unfold hcount
  rw [bn]
  rcases hk with c | ⟨c0, c1⟩ | c
  · rw [if_pos (Or.inl c), none_of (fun x _ z => by omega)]; rfl
  · obtain ⟨j, rfl⟩ := Int.eq_ofNat_of_zero_le c0
    have e : ((nod n).filter fun x => decide (((lb (x.2 - x.1) : Nat) : Int) = (j : Int))) = (nod n).filter fun x => lb (x.2 - x.1) == j := by
      refine List.filter_congr (fun x _ => ?_)
      by_cases z : lb (x.2 - x.1) = j
      · rw [z]; simp
      · rw [decide_eq_false (by omega), beq_eq_false_iff_ne.mpr z]
    rw [e, heights_ok n hn h1 j (by omega)]
    by_cases d : j > n.log2 + 1
    · rw [if_pos d, if_pos (Or.inr (by omega))]; rfl
    · rw [if_neg d, if_neg (by omega)]
      by_cases z : j = 0
      · subst z; rfl
      · rw [if_neg z, if_neg (by omega)]
        have e1 : ((j : Int) - 1).toNat = j - 1 := by omega
        have e2 : (n : Int) - 1 = ((n - 1 : Nat) : Int) := by omega
        rw [e1, e2, ← PySem.W.kbt_cast, ← Int.natCast_ediv]
        omega
  · subst c
    rw [if_pos (Or.inr (by omega)), none_of (fun x hx z => ?_)]
    · rfl
    · have := of_decide_eq_true (all x hx)
      omega
section
variable {P : Program} {w : World} {K : PySem.W.Frag} {mg : Str → Option Value} {base : Heap}
def spRight : Sp := fun vs H Q _ => ∃ (n o : Nat), vs = [.int n, .int o] ∧ n < 71 ∧ 1 ≤ n ∧ o < 71 ∧ 1 ≤ o ∧ ∀ (H' : Hp), Same H H' → Q (.bl true) H'
theorem ok_law_right {f g1 g2 g3 g4 g5 g6 : Addr} {fd d1 d2 d3 d4 d5 d6 : FuncData} (F : Fun K "_law_right" "_law_right" sLawRight f fd)
    (GLawNodes : FnOk P w K mg base CX0 9 g1 d1 ["node"] (spNodes 8)) (ALawNodes : At K mg "_law_nodes" g1 d1 ["node"])
    (GLawIsFull : FnOk P w K mg base CX0 1 g2 d2 ["node"] spFull) (ALawIsFull : At K mg "_law_is_full" g2 d2 ["node"])
    (GNodeCount : FnOk P w K mg base CX0 6 g3 d3 ["size"] spNodeCount) (ANodeCount : At K mg "node_count" g3 d3 ["size"])
    (GCommonCount : FnOk P w K mg base CX0 7 g4 d4 ["size", "other"] spCommon) (ACommonCount : At K mg "common_count" g4 d4 ["size", "other"])
    (GHeightCount : FnOk P w K mg base CX0 4 g5 d5 ["size", "number"] spHeights) (AHeightCount : At K mg "height_count" g5 d5 ["size", "number"])
    (GLawHeight : FnOk P w K mg base CX0 1 g6 d6 ["node"] spHeight) (ALawHeight : At K mg "_law_height" g6 d6 ["node"])
    (z_len : mg "len" = none) (z_repr : mg "repr" = none) (z_list : mg "list" = none) (z_range : mg "range" = none) :
    GOk P w K mg base 10 f fd ["size", "other"] spRight := by
  refine okG F scLawRight (fun vs H Q E h => ?_) (fun cdv A outer s H vs Q hg hr h => ?_)
  · obtain ⟨_, _, rfl, _⟩ := h
    rfl
  obtain ⟨n, o, rfl, hn, n1, ho, o1, q⟩ := h
  refine' ⟨_, (pss_cons (ps_asg (pe_tup (pa_cons (pe_call GLawNodes (hr.mono (by decide)) rfl ALawNodes.m ALawNodes.kp ALawNodes.b .nil pass0 (pa_cons (pe_tup (pa_cons pe_int (pa_cons (pv 0) pa_nil))) pa_nil)) (pa_cons (pe_call GLawNodes (hr.mono (by decide)) rfl ALawNodes.m ALawNodes.kp ALawNodes.b .nil pass0 (pa_cons (pe_tup (pa_cons pe_int (pa_cons (pv 1) pa_nil))) pa_nil)) pa_nil))) (pg_tup (by rfl) (pgs_cons (pg_name (i := 2) scLawRight.nd rfl (Or.inl rfl)) (pgs_cons (pg_name (i := 3) scLawRight.nd rfl (Or.inr rfl)) pgs_nil))))
    (pss_cons (ps_set (i := 4) scLawRight.nd rfl (Or.inl rfl) (pe_callB call_len_seq (by rfl) z_len PySem.boot_len (pa_cons (pe_lc (own := [("node", 8)]) rfl scLawRight.nd (pi_list (pv 2)) (blkOk_by (N := ["size", "other", "every", "there", "full", "both", "heights", "number", "node", "height"]) (sc := defScope sLawRight) (by decide +kernel)) (fun _ _ _ _ _ => (pg_name (i := 8) scLawRight.nd rfl (Or.inl rfl))) (fun _ _ _ _ _ => pts_one (pt_val (pe_call GLawIsFull (hr.mono (by decide)) rfl ALawIsFull.m ALawIsFull.kp ALawIsFull.b .nil pass0 (pa_cons (pv 8) pa_nil)))) (fun _ _ _ _ _ => (pv 8))) pa_nil)))
    (pss_cons (ps_if (pt_cmpR op_ne (pe_callB (call_repr hg (units1 hr)) (by rfl) z_repr (by decide +kernel) (pa_cons (pe_call GNodeCount (hr.mono (by decide)) rfl ANodeCount.m ANodeCount.kp ANodeCount.b .nil pass0 (pa_cons (pv 0) pa_nil)) pa_nil)) (pe_callB (call_repr hg (units1 hr)) (by rfl) z_repr (by decide +kernel) (pa_cons (pe_tup (pa_cons (pv 4) (pa_cons (pe_op op_sub (pe_callB call_len_seq (by rfl) z_len PySem.boot_len (pa_cons (pv 2) pa_nil)) (pv 4)) pa_nil))) pa_nil)) (nomark _))
    (pss_one (ps_ret pe_bl))
    pss_nil)
    (pss_cons (ps_set (i := 5) scLawRight.nd rfl (Or.inl rfl) (pe_callB call_len_seq (by rfl) z_len PySem.boot_len (pa_cons (pe_lc (own := [("node", 8)]) rfl scLawRight.nd (pi_list (pv 2)) (blkOk_by (N := ["size", "other", "every", "there", "full", "both", "heights", "number", "node", "height"]) (sc := defScope sLawRight) (by decide +kernel)) (fun _ _ _ _ _ => (pg_name (i := 8) scLawRight.nd rfl (Or.inl rfl))) (fun _ _ _ _ _ => pts_one (pt_cmpR (op_inDB (units1 hr)) (pv 8) (pv 3) (by rfl))) (fun _ _ _ _ _ => (pv 8))) pa_nil)))
    (pss_cons (ps_if (pt_cmpR op_ne (pe_callB (call_repr hg (units1 hr)) (by rfl) z_repr (by decide +kernel) (pa_cons (pe_lst (pa_cons (pe_call GCommonCount (hr.mono (by decide)) rfl ACommonCount.m ACommonCount.kp ACommonCount.b .nil pass0 (pa_cons (pv 0) (pa_cons (pv 1) pa_nil))) (pa_cons (pe_call GCommonCount (hr.mono (by decide)) rfl ACommonCount.m ACommonCount.kp ACommonCount.b .nil pass0 (pa_cons (pv 1) (pa_cons (pv 0) pa_nil))) pa_nil))) pa_nil)) (pe_callB (call_repr hg (units1 hr)) (by rfl) z_repr (by decide +kernel) (pa_cons (pe_lst (pa_cons (pv 5) (pa_cons (pv 5) pa_nil))) pa_nil)) (nomark _))
    (pss_one (ps_ret pe_bl))
    pss_nil)
    (pss_cons (ps_if (pt_cmpR op_ne (pe_call GCommonCount (hr.mono (by decide)) rfl ACommonCount.m ACommonCount.kp ACommonCount.b .nil pass0 (pa_cons (pv 0) (pa_cons (pv 0) pa_nil))) (pe_callB call_len_seq (by rfl) z_len PySem.boot_len (pa_cons (pv 2) pa_nil)) (nomark _))
    (pss_one (ps_ret pe_bl))
    pss_nil)
    (pss_cons ?cc1
    (pss_cons (ps_for PassesOwn.never rfl (pi_list (pe_op op_cat (pe_listRg rfl (by rfl) z_list (prg_1 (by rfl) z_range pe_int)) (pe_lst (pa_cons (pe_un un_neg pe_int) (pa_cons (pe_op op_pow pe_int pe_int) (pa_cons (pe_op op_sub pe_int (pe_op op_pow pe_int pe_int)) pa_nil)))))) (pg_name (i := 7) scLawRight.nd rfl (Or.inr rfl))
    (pss_one (ps_if (pt_cmpR op_ne (pe_callB SkE.call_repr_int (by rfl) z_repr (by decide +kernel) (pa_cons (pe_call GHeightCount (hr.mono (by decide)) rfl AHeightCount.m AHeightCount.kp AHeightCount.b .nil pass0 (pa_cons (pv 0) (pa_cons (pv 7) pa_nil))) pa_nil)) (pe_callB SkE.call_repr_int (by rfl) z_repr (by decide +kernel) (pa_cons (pe_callB call_len_seq (by rfl) z_len PySem.boot_len (pa_cons (pe_lc (own := [("height", 9)]) rfl scLawRight.nd (pi_list (pv 6)) (blkOk_by (N := ["size", "other", "every", "there", "full", "both", "heights", "number", "node", "height"]) (sc := defScope sLawRight) (by decide +kernel)) (fun _ _ _ _ _ => (pg_name (i := 9) scLawRight.nd rfl (Or.inl rfl))) (fun _ _ _ _ _ => pts_one (pt_cmpR op_eq (pv 9) (pv 7) (nomark _))) (fun _ _ _ _ _ => pe_int)) pa_nil)) pa_nil)) (nomark _))
    (pss_one (ps_ret pe_bl))
    pss_nil)))
    (pss_one (ps_ret pe_bl)))))))))), ?_⟩
  case cc1 => exact (ps_setLc (i := 6) (own := [("node", 8)]) rfl scLawRight.nd rfl rfl (sw_true rfl rfl rfl (by decide +kernel)) (pi_list (pv 2)) (blkOk_by (N := ["size", "other", "every", "there", "full", "both", "heights", "number", "node", "height"]) (sc := defScope sLawRight) (by decide +kernel)) (fun _ _ _ _ _ => (pg_name (i := 8) scLawRight.nd rfl (Or.inl rfl))) (fun _ _ _ _ _ => pts_nil) (fun _ _ _ _ _ => (pe_call GLawHeight (hr.mono (by decide)) rfl ALawHeight.m ALawHeight.kp ALawHeight.b .nil pass0 (pa_cons (pv 8) pa_nil))))
  have two : 2 ≤ sizeLine := by decide
  -- every, there
  refine ⟨_, rfl, two, fun t1 nt1 => ?_⟩
  have st1 := same_upd (o := .tup [.int 0, .int (n : Int)]) nt1
  refine ⟨0, n, _, rfl, ⟨t1, rfl, by rw [upd_same, Nat.zero_add]; rfl⟩, n1, by omega, by omega, fun H1 p1 xs s1 np1 hp1 hx1 => ?_⟩
  refine ⟨_, rfl, two, fun t2 nt2 => ?_⟩
  have st2 := same_upd (o := .tup [.int 0, .int (o : Int)]) nt2
  refine ⟨0, o, _, rfl, ⟨t2, rfl, by rw [upd_same, Nat.zero_add]; rfl⟩, o1, by omega, by omega, fun H2 p2 ys s2 np2 hp2 hy2 => ?_⟩
  have s12 := st2.trans s2
  refine ⟨two, fun t3 nt3 => ?_⟩
  have st3 := same_upd (o := .tup [.ref p1, .ref p2]) nt3
  refine ⟨t3, _, rfl, SqT.of upd_same, rfl, _, _, rfl, _, _, rfl, rfl, ?_⟩
  have sH := (st1.trans s1).trans (s12.trans st3)
  have hp1' := (s12.trans st3) _ _ hp1
  have hp2' := st3 _ _ hp2
  have hx : All2 (Nd (upd H2 t3 (.tup [.ref p1, .ref p2]))) xs (nod n) := hx1.mono (fun v x (k : Nd H1 v x) => k.same (s12.trans st3))
  have hy : All2 (Nd (upd H2 t3 (.tup [.ref p1, .ref p2]))) ys (nod o) := hy2.mono (fun v x (k : Nd H2 v x) => k.same st3)
  generalize upd H2 t3 (.tup [.ref p1, .ref p2]) = H3 at sH hp1' hp2' hx hy
  have xl : xs.length = 2 * n - 1 := by rw [hx.len, nod_len hn n1]
  have lenN := nod_len hn n1
  have et : (nod n).take xs.length = nod n := List.take_of_length_le (by rw [hx.len]; exact Nat.le_refl _)
  -- full
  refine ⟨_, rfl, p1, rfl, ⟨_, SqL.of hp1'⟩, fun D nD => lc_list (xs := xs) (fun i H' => ∃ zs : List V, Same H3 H' ∧ H' D = some (.lst zs) ∧ zs.length = (((nod n).take i).filter fl).length) ⟨[], same_upd nD, upd_same, rfl⟩ (fun i H' _ ⟨_, k, _⟩ => SqL.of (k _ _ hp1')) ?_ ?_⟩
  · rintro i x H4 hi ⟨zs, s4, hD, hz⟩
    obtain ⟨y, hyN, hny⟩ := hx.nth hi
    have il : i < (nod n).length := (List.getElem?_eq_some_iff.mp hyN).1
    have yN := (nod_mem hn n1 y).mp (List.mem_of_getElem? hyN)
    have zl : zs.length ≤ 141 := by
      rw [hz]
      refine Nat.le_trans (List.length_filter_le _ _) ?_
      rw [List.length_take]
      omega
    refine ⟨rfl, ?_⟩
    refine ⟨_, rfl, y, _, rfl, hny.same s4, yN.1, fl y, rfl, ?_⟩
    rw [take_more hyN, List.filter_append, List.length_append] 
    cases hf : fl y with
    | true =>
      refine iteT ?_
      refine ⟨_, rfl, zs, hD, szlt (by omega), zs ++ [x], ?_, upd_same, ?_⟩
      · exact fun a o k => by rw [upd_ne (ne_of_none k nD)]; exact s4 _ _ k
      · rw [List.length_append, hz, List.filter_cons, if_pos hf]; rfl
    | false =>
      refine iteF ?_
      refine ⟨zs, s4, hD, ?_⟩
      rw [hz, List.filter_cons, if_neg (by rw [hf]; decide)]; rfl
  rintro H4 ⟨zs, s4, hD, hz⟩
  rw [et] at hz
  have fo := full_ok n hn n1
  have np := npk_pos n1 (show n ≤ 10 ^ 30 by omega)
  have ns := npk_small n hn
  have nE : npk' n = npk n := rfl
  refine ⟨D, zs, rfl, .inl (SqL.of hD), ?_⟩
  have zE : zs.length = 2 * n - npk n := by omega
  dsimp only
  rw [zE]
  have hp4 := s4 _ _ hp1'
  -- the counts shown
  refine ⟨_, rfl, n, rfl, n1, by omega, fun H5 p5 s5 hp5 => ?_⟩
  have e5 : 2 * (n : Int) - 1 - ((npk n - 1 : Nat) : Int) = ((2 * n - npk n : Nat) : Int) := by omega
  rw [e5] at hp5
  refine ⟨_, _, rfl, .tup (SqT.of hp5) (.cons (.int _) (.cons (.int _) .nil)), rfl, nd_shaped _ _, showable_tup (by omega) (by omega), szle (Nat.le_trans (shown_tup _ (by omega) _ (by omega)) (by decide)), ?_⟩
  refine ⟨_, rfl, _, rfl, p1, _, rfl, .inl (SqL.of (s5 _ _ hp4)), _, rfl, _, _, rfl, rfl, two, fun t6 nt6 => ?_⟩
  have e6 : ((xs.length : Nat) : Int) - ((2 * n - npk n : Nat) : Int) = ((npk n - 1 : Nat) : Int) := by rw [xl]; omega
  dsimp only
  rw [e6]
  have s6 := same_upd (o := .tup [.int ((2 * n - npk n : Nat) : Int), .int ((npk n - 1 : Nat) : Int)]) nt6
  refine ⟨_, _, rfl, .tup (SqT.of upd_same) (.cons (.int _) (.cons (.int _) .nil)), rfl, nd_shaped _ _, showable_tup (by omega) (by omega), szle (Nat.le_trans (shown_tup _ (by omega) _ (by omega)) (by decide)), rfl, false, ?_, iteF ?_⟩
  · refine congrArg V.bl ?_
    rw [Bool.not_eq_false']
    exact decide_eq_true rfl
  have s46 := s4.trans (s5.trans s6)
  have hp6 := (s46) _ _ hp1'
  have hp26 := s46 _ _ hp2'
  have hx6 := hx.mono (fun v x (k : Nd H3 v x) => k.same s46)
  have hy6 := hy.mono (fun v x (k : Nd H3 v x) => k.same s46)
  have sH6 := sH.trans s46
  generalize upd H5 t6 (.tup [.int ((2 * n - npk n : Nat) : Int), .int ((npk n - 1 : Nat) : Int)]) = H6 at hp6 hp26 hx6 hy6 sH6
  -- both
  refine ⟨_, rfl, p1, rfl, ⟨_, SqL.of hp6⟩, fun D2 nD2 => lc_list (xs := xs) (fun i H' => ∃ zs : List V, Same H6 H' ∧ H' D2 = some (.lst zs) ∧ zs.length = (((nod n).take i).filter fun x => decide (x ∈ nod o)).length) ⟨[], same_upd nD2, upd_same, rfl⟩ (fun i H' _ ⟨_, k, _⟩ => SqL.of (k _ _ hp6)) ?_ ?_⟩
  · rintro i x H7 hi ⟨zs, s7, hD, hz⟩
    obtain ⟨y, hyN, hny⟩ := hx6.nth hi
    have il : i < (nod n).length := (List.getElem?_eq_some_iff.mp hyN).1
    have zl : zs.length ≤ 141 := by
      rw [hz]
      refine Nat.le_trans (List.length_filter_le _ _) ?_
      rw [List.length_take]
      omega
    refine ⟨rfl, ?_⟩
    refine ⟨_, rfl, _, rfl, .tuple [.int y.1, .int y.2], (nod o).map nd, (hny.same s7).dp, .lst (SqL.of (s7 _ _ hp26)) (nds_dp (hy6.mono (fun v x (k : Nd H6 v x) => k.same s7))), nd_shaped _ _, nds_shaped _, ?_⟩
    rw [nds_any]
    refine ⟨_, rfl, ?_⟩
    rw [take_more hyN, List.filter_append, List.length_append]
    by_cases c : y ∈ nod o
    · rw [decide_eq_true c]
      refine iteT ?_
      refine ⟨_, rfl, zs, hD, szlt (by omega), zs ++ [x], ?_, upd_same, ?_⟩
      · exact fun a o k => by rw [upd_ne (ne_of_none k nD2)]; exact s7 _ _ k
      · rw [List.length_append, hz, List.filter_cons, if_pos (decide_eq_true c)]; rfl
    · rw [decide_eq_false c]
      refine iteF ?_
      refine ⟨zs, s7, hD, ?_⟩
      rw [hz, List.filter_cons, if_neg (by simpa using c)]; rfl
  rintro H7 ⟨zs2, s7, hD2, hz2⟩
  rw [et, nod_both hn n1 ho o1] at hz2
  refine ⟨D2, zs2, rfl, .inl (SqL.of hD2), ?_⟩
  dsimp only
  rw [hz2]
  have ccs := cc_small hn ho
  refine ⟨_, rfl, _, rfl, n, o, rfl, n1, by omega, o1, by omega, fun H8 s8 => ?_⟩
  refine ⟨_, rfl, _, rfl, o, n, rfl, o1, by omega, n1, by omega, fun H9 s9 => ⟨two, fun l9 nl9 => ?_⟩⟩
  rw [ccount_is hn n1 ho o1, ccount_is ho o1 hn n1, cc_comm o n]
  have sl9 := same_upd (o := .lst [.int ((cc n o : Nat) : Int), .int ((cc n o : Nat) : Int)]) nl9
  refine ⟨_, _, rfl, .lst (SqL.of upd_same) (.cons (.int _) (.cons (.int _) .nil)), rfl, l2_shaped _ _, showable_lst (by omega) (by omega), szle (Nat.le_trans (shown_lst _ (by omega)) (by decide)), ?_⟩
  refine ⟨_, rfl, _, rfl, two, fun l10 nl10 => ?_⟩
  have sl10 := same_upd (o := .lst [.int ((cc n o : Nat) : Int), .int ((cc n o : Nat) : Int)]) nl10
  refine ⟨_, _, rfl, .lst (SqL.of upd_same) (.cons (.int _) (.cons (.int _) .nil)), rfl, l2_shaped _ _, showable_lst (by omega) (by omega), szle (Nat.le_trans (shown_lst _ (by omega)) (by decide)), rfl, false, ?_, iteF ?_⟩
  · refine congrArg V.bl ?_
    rw [Bool.not_eq_false']
    exact decide_eq_true rfl
  have s710 := s7.trans (s8.trans (s9.trans (sl9.trans sl10)))
  have hp10 := s710 _ _ hp6
  have hx10 := hx6.mono (fun v x (k : Nd H6 v x) => k.same s710)
  have sH10 := sH6.trans s710
  generalize upd (upd H9 l9 (.lst [.int ((cc n o : Nat) : Int), .int ((cc n o : Nat) : Int)])) l10 (.lst [.int ((cc n o : Nat) : Int), .int ((cc n o : Nat) : Int)]) = H10 at hp10 hx10 sH10
  -- the same tree twice
  refine ⟨_, rfl, _, rfl, n, n, rfl, n1, by omega, n1, by omega, fun H11 s11 => ?_⟩
  refine ⟨_, rfl, p1, _, rfl, .inl (SqL.of (s11 _ _ hp10)), rfl, false, ?_, iteF ?_⟩
  · refine congrArg V.bl ?_
    rw [Bool.not_eq_false']
    refine decide_eq_true (congrArg V.int ?_)
    rw [ccount_is hn n1 hn n1, xl]
    unfold cc
    rw [if_pos rfl]
  have hp11 := s11 _ _ hp10
  have hx11 := hx10.mono (fun v x (k : Nd H10 v x) => k.same s11)
  have sH11 := sH10.trans s11
  -- heights
  refine ⟨_, rfl, p1, rfl, ⟨_, SqL.of hp11⟩, fun D3 nD3 => lc_list (xs := xs) (fun i H' => Same H11 H' ∧ H' D3 = some (.lst (((nod n).take i).map fun x => V.int ((lb (x.2 - x.1) : Nat) : Int)))) ⟨same_upd nD3, upd_same⟩ (fun i H' _ k => SqL.of (k.1 _ _ hp11)) ?_ ?_⟩
  · rintro i x H12 hi ⟨s12, hD⟩
    obtain ⟨y, hyN, hny⟩ := hx11.nth hi
    have il : i < (nod n).length := (List.getElem?_eq_some_iff.mp hyN).1
    have yN := (nod_mem hn n1 y).mp (List.mem_of_getElem? hyN)
    have yN2 := yN.2.1
    refine ⟨rfl, ?_⟩
    refine ⟨_, rfl, y, _, rfl, hny.same s12, yN.1, by omega, _, hD, szlt (by rw [List.length_map, List.length_take]; omega), ?_, ?_⟩
    · exact fun a o k => by rw [upd_ne (ne_of_none k nD3)]; exact s12 _ _ k
    · rw [take_more hyN, List.map_append]
      exact upd_same
  rintro H12 ⟨s12, hD3⟩
  rw [et] at hD3
  -- the numbers
  refine ⟨10, rfl, RgOk.of_le (by decide) (by decide) (by decide) (by decide), fun q1 nq1 => ?_⟩
  have sq1 := same_upd (o := .lst (rgV 0 10)) nq1
  refine ⟨1, rfl, _, _, rfl, rfl, ⟨by decide, by decide, by decide⟩, _, _, rfl, rfl, ⟨by decide, by decide, by decide⟩, _, _, rfl, rfl, (by show 3 ≤ sizeLine; decide), fun q2 nq2 => ?_⟩
  generalize hH : upd (upd H12 q1 (.lst (rgV 0 10))) q2 _ = H13
  have hq2 : H13 q2 = some (.lst [.int (-1), .int (10 ^ (60 : Int).toNat), .int (0 - 10 ^ (60 : Int).toNat)]) := by
    rw [← hH]
    exact upd_same
  have sq2 : Same (upd H12 q1 (.lst (rgV 0 10))) H13 := by
    rw [← hH]
    exact same_upd nq2
  have hq1 := sq2 _ _ (upd_same (H := H12) (a := q1) (o := .lst (rgV 0 10)))
  refine ⟨q1, q2, _, _, rfl, rfl, hq1, hq2, (by show (rgV 0 10).length + 3 ≤ sizeLine; rw [rgV_length]; decide), fun q3 nq3 => ?_⟩
  have sq3 := same_upd (o := .lst (rgV 0 10 ++ [.int (-1), .int (10 ^ (60 : Int).toNat), .int (0 - 10 ^ (60 : Int).toNat)])) nq3
  have hall : ∀ v ∈ (rgV 0 10 ++ [.int (-1), .int (10 ^ (60 : Int).toNat), .int (0 - 10 ^ (60 : Int).toNat)] : List V), ∃ k : Int, v = .int k ∧ askable k := fun v hv => by
    rcases List.mem_append.mp hv with h | h
    · unfold rgV at h
      obtain ⟨j, h1, h2⟩ := List.mem_map.mp h
      have h3 := List.mem_range.mp h1
      exact ⟨_, h2.symm, .inr (.inl (by simp at h3; omega))⟩
    · simp only [List.mem_cons, List.not_mem_nil, or_false] at h
      rcases h with h | h | h
      · exact ⟨_, h, .inl (by decide)⟩
      · exact ⟨_, h, .inr (.inr rfl)⟩
      · exact ⟨_, h, .inl (by decide)⟩
  have hD4 := sq3 _ _ (sq2 _ _ (sq1 _ _ hD3))
  have sH14 := sH11.trans (s12.trans (sq1.trans (sq2.trans sq3)))
  have hq3 : (upd H13 q3 (.lst (rgV 0 10 ++ [.int (-1), .int (10 ^ (60 : Int).toNat), .int (0 - 10 ^ (60 : Int).toNat)]))) q3 = some (.lst (rgV 0 10 ++ [.int (-1), .int (10 ^ (60 : Int).toNat), .int (0 - 10 ^ (60 : Int).toNat)])) := upd_same
  generalize upd H13 q3 (.lst (rgV 0 10 ++ [.int (-1), .int (10 ^ (60 : Int).toNat), .int (0 - 10 ^ (60 : Int).toNat)])) = H14 at hD4 sH14 hq3
  generalize (rgV 0 10 ++ [.int (-1), .int (10 ^ (60 : Int).toNat), .int (0 - 10 ^ (60 : Int).toNat)] : List V) = ks at hall hq3
  refine ⟨q3, rfl, ⟨_, SqL.of hq3⟩, for_list (K := K) (a := q3) (xs := ks) (fun i σ H' => ∃ v7 : Option V, σ = [some (.int n), some (.int o), some (.ref p1), some (.ref p2), some (.int ((2 * n - npk n : Nat) : Int)), some (.int ((cc n o : Nat) : Int)), some (.ref D3), v7, none, none] ∧ Same H14 H')
    ⟨none, rfl, Same.refl _⟩ (fun i σ H' _ ⟨_, _, s5⟩ => SqL.of (s5 _ _ hq3)) ?_ ?_⟩
  · rintro i x σ H15 hi ⟨v7, rfl, s15⟩
    obtain ⟨k, rfl, hk⟩ := hall x (List.mem_of_getElem? hi)
    have hD5 := s15 _ _ hD4
    have hc := hcount_is hn n1 hk
    have cl : ((nod n).filter fun x => decide (((lb (x.2 - x.1) : Nat) : Int) = k)).length ≤ 141 := Nat.le_trans (List.length_filter_le _ _) (by omega)
    refine ⟨_, rfl, _, rfl, n, k, rfl, n1, by omega, _, rfl, ?_, ?_⟩
    · rw [hc]
      exact log_small (by omega)
    refine ⟨_, rfl, D3, rfl, ⟨_, SqL.of hD5⟩, fun D4 nD4 => lc_list (xs := (nod n).map fun x => V.int ((lb (x.2 - x.1) : Nat) : Int)) (fun i H' => ∃ zs : List V, Same H15 H' ∧ H' D4 = some (.lst zs) ∧ zs.length = (((nod n).take i).filter fun x => decide (((lb (x.2 - x.1) : Nat) : Int) = k)).length) ⟨[], same_upd nD4, upd_same, rfl⟩ (fun i H' _ ⟨_, k, _⟩ => SqL.of (k _ _ hD5)) ?_ ?_⟩
    · rintro j x H16 hj ⟨zs, s16, hD, hz⟩
      rw [List.getElem?_map] at hj
      cases hyN : (nod n)[j]? with
      | none => rw [hyN] at hj; cases hj
      | some y =>
        rw [hyN] at hj
        have ex : V.int ((lb (y.2 - y.1) : Nat) : Int) = x := Option.some.inj hj
        subst ex
        have jl : j < (nod n).length := (List.getElem?_eq_some_iff.mp hyN).1
        have zl : zs.length ≤ 141 := by
          rw [hz]
          refine Nat.le_trans (List.length_filter_le _ _) ?_
          rw [List.length_take]
          omega
        refine ⟨rfl, ?_⟩
        refine ⟨_, rfl, _, rfl, rfl, _, rfl, ?_⟩
        rw [take_more hyN, List.filter_append, List.length_append]
        refine ite2 (fun c => ?_) (fun c => ?_)
        · have c1 : V.int ((lb (y.2 - y.1) : Nat) : Int) = V.int k := of_decide_eq_true c
          refine ⟨zs, hD, szlt (by omega), zs ++ [.int 1], ?_, upd_same, ?_⟩
          · exact fun a o k => by rw [upd_ne (ne_of_none k nD4)]; exact s16 _ _ k
          · rw [List.length_append, hz, List.filter_cons, if_pos (decide_eq_true (V.int.inj c1))]; rfl
        · have c1 : ¬ V.int ((lb (y.2 - y.1) : Nat) : Int) = V.int k := of_decide_eq_false (Bool.eq_false_iff.mpr c)
          refine ⟨zs, s16, hD, ?_⟩
          rw [hz, List.filter_cons, if_neg (fun z => c1 (by rw [of_decide_eq_true z]))]; rfl
    rintro H16 ⟨zs, s16, hD6, hz⟩
    have et3 : (nod n).take ((nod n).map fun x => V.int ((lb (x.2 - x.1) : Nat) : Int)).length = nod n := List.take_of_length_le (by rw [List.length_map]; exact Nat.le_refl _)
    rw [et3] at hz
    refine ⟨D4, zs, rfl, .inl (SqL.of hD6), _, rfl, ?_, rfl, false, ?_, iteF ?_⟩
    · rw [hz]
      exact log_small (by omega)
    · refine congrArg V.bl ?_
      rw [Bool.not_eq_false', hc, hz]
      exact decide_eq_true rfl
    exact ⟨_, rfl, s15.trans s16⟩
  · rintro σ H15 ⟨v7, rfl, s15⟩
    exact q _ (sH14.trans s15)
end
end LT

namespace LT
open PySem PySem.Spec PyProof.Rows L2
theorem script_at {ns : List Int} {lo hi : Option Int} {i : Nat} {x : V} (h : (cutV (ns.map V.int) lo hi ++ [.int 0])[i]? = some x) : ∃ c : Int, x = .int c := by
  have m := List.mem_of_getElem? h
  rcases List.mem_append.mp m with m | m
  · unfold cutV at m
    have m2 := List.mem_of_mem_drop (List.mem_of_mem_take m)
    obtain ⟨c, _, e⟩ := List.mem_map.mp m2
    exact ⟨c, e.symm⟩
  · exact ⟨0, List.mem_singleton.mp m⟩
theorem sqSame {K : PySem.W.Frag} {H H' : Hp} {a : Addr} {xs : List V} (h : SqL K H a xs) (e : Same H H') : SqL K H' a xs :=
  h.elim (fun h => .inl (h.elim (fun h => .inl (e _ _ h)) fun ⟨o, h⟩ => .inr ⟨o, e _ _ h⟩)) fun h => .inr h
def spLaw (K : PySem.W.Frag) : Sp := fun vs H Q _ => ∃ (a : Addr) (ns : List Int), vs = [.ref a] ∧ SqL K H a (ns.map V.int) ∧ ns.length ≤ 63 ∧ ∀ H', Q (.bl true) H'
end LT

namespace LT
open PySem PySem.Spec PyProof.Rows L2
theorem h7 : hcount 7 0 = 7 ∧ hcount 7 1 = 3 ∧ hcount 7 2 = 2 ∧ hcount 7 3 = 1 ∧ hcount 7 4 = 0 := by decide +kernel
section
variable {P : Program} {w : World} {K : PySem.W.Frag} {mg : Str → Option Value} {base : Heap}
theorem ok_law {f g1 g2 g3 g4 g5 g6 : Addr} {fd d1 d2 d3 d4 d5 d6 : FuncData} (F : Fun K "law" "law" sLaw f fd)
    (GLawBag : FnOk P w K mg base CX0 1 g1 d1 ["cell"] spBag) (ALawBag : At K mg "_law_bag" g1 d1 ["cell"])
    (GLawPick : FnOk P w K mg base CX0 1 g2 d2 ["bag", "many"] spPick) (ALawPick : At K mg "_law_pick" g2 d2 ["bag", "many"])
    (GLawRight : GOk P w K mg base 10 g3 d3 ["size", "other"] spRight) (ALawRight : At K mg "_law_right" g3 d3 ["size", "other"])
    (GNodeCount : FnOk P w K mg base CX0 6 g4 d4 ["size"] spNodeCount) (ANodeCount : At K mg "node_count" g4 d4 ["size"])
    (GCommonCount : FnOk P w K mg base CX0 7 g5 d5 ["size", "other"] spCommon) (ACommonCount : At K mg "common_count" g5 d5 ["size", "other"])
    (GHeightCount : FnOk P w K mg base CX0 4 g6 d6 ["size", "number"] spHeights) (AHeightCount : At K mg "height_count" g6 d6 ["size", "number"])
    (z_range : mg "range" = none) : GOk P w K mg base 11 f fd ["script"] (spLaw K) := by
  refine okG F scLaw (fun vs H Q E h => ?_) (fun cdv A outer s H vs Q hg hr h => ?_)
  · obtain ⟨_, _, rfl, _⟩ := h
    rfl
  obtain ⟨a, ns, rfl, hS, h63, q⟩ := h
  refine' ⟨_, (pss_cons (ps_for PassesOwn.never rfl (pi_list (pe_op op_cat (pe_slice sl_list (pv 0) po_none (po_some pe_int)) (pe_lst (pa_cons pe_int pa_nil)))) (pg_name (i := 1) scLaw.nd rfl (Or.inl rfl))
    (pss_cons (ps_set (i := 2) scLaw.nd rfl (Or.inl rfl) (pe_call GLawBag (hr.mono (by decide)) rfl ALawBag.m ALawBag.kp ALawBag.b .nil pass0 (pa_cons (pv 1) pa_nil)))
    (pss_one (ps_for PassesOwn.never rfl (pi_range1 (by rfl) z_range (pa_cons pe_int pa_nil)) (pg_name (i := 3) scLaw.nd rfl (Or.inl rfl))
    (pss_one (ps_if (pt_not (pt_val (pe_callG GLawRight hg (hr.mono (by decide)) rfl ALawRight.m ALawRight.kp ALawRight.b (pa_cons (pe_op op_add pe_int (pe_call GLawPick (hr.mono (by decide)) rfl ALawPick.m ALawPick.kp ALawPick.b .nil pass0 (pa_cons (pv 2) (pa_cons pe_int pa_nil)))) (pa_cons (pe_op op_add pe_int (pe_call GLawPick (hr.mono (by decide)) rfl ALawPick.m ALawPick.kp ALawPick.b .nil pass0 (pa_cons (pv 2) (pa_cons pe_int pa_nil)))) pa_nil)))))
    (pss_one (ps_ret pe_bl))
    pss_nil))))))
    (pss_cons (ps_set (i := 4) scLaw.nd rfl (Or.inl rfl) (pe_lst (pa_cons (pe_call GNodeCount (hr.mono (by decide)) rfl ANodeCount.m ANodeCount.kp ANodeCount.b .nil pass0 (pa_cons pe_int pa_nil)) (pa_cons (pe_call GCommonCount (hr.mono (by decide)) rfl ACommonCount.m ACommonCount.kp ACommonCount.b .nil pass0 (pa_cons pe_int (pa_cons pe_int pa_nil))) (pa_cons (pe_lc (own := [("number", 5)]) rfl scLaw.nd (pi_range1 (by rfl) z_range (pa_cons pe_int pa_nil)) (blkOk_by (N := ["script", "cell", "bag", "turn", "told", "number"]) (sc := defScope sLaw) (by decide +kernel)) (fun _ _ _ _ _ => (pg_name (i := 5) scLaw.nd rfl (Or.inl rfl))) (fun _ _ _ _ _ => pts_nil) (fun _ _ _ _ _ => (pe_call GHeightCount (hr.mono (by decide)) rfl AHeightCount.m AHeightCount.kp AHeightCount.b .nil pass0 (pa_cons pe_int (pa_cons (pv 5) pa_nil))))) pa_nil)))))
    (pss_one (ps_ret (pe_cmpR (op_eqD hr.units) (pv 4) (pe_lst (pa_cons (pe_tup (pa_cons pe_int (pa_cons pe_int pa_nil))) (pa_cons pe_int (pa_cons (pe_lst (pa_cons pe_int (pa_cons pe_int (pa_cons pe_int (pa_cons pe_int (pa_cons pe_int pa_nil)))))) pa_nil)))) (nomark _)))))), ?_⟩
  refine ⟨_, rfl, 6, rfl, a, _, rfl, hS, fun c nc => ⟨(by show 1 ≤ sizeLine; decide), fun z nz => ?_⟩⟩
  have s1 := same_upd (o := .lst (cutV (ns.map V.int) none (some 6))) nc
  have s2 := same_upd (o := .lst [.int 0]) nz
  have hcl := cutV_length (ns.map V.int) none (some 6)
  rw [List.length_map] at hcl
  refine ⟨c, z, _, _, rfl, rfl, s2 _ _ upd_same, upd_same, szle (by rw [List.length_singleton]; omega), fun r nr => ?_⟩
  have s3 := same_upd (o := .lst (cutV (ns.map V.int) none (some 6) ++ [.int 0])) nr
  have hr0 : (upd (upd (upd H c (.lst (cutV (ns.map V.int) none (some 6)))) z (.lst [.int 0])) r (.lst (cutV (ns.map V.int) none (some 6) ++ [.int 0]))) r = some (.lst (cutV (ns.map V.int) none (some 6) ++ [.int 0])) := upd_same
  generalize upd (upd (upd H c (.lst (cutV (ns.map V.int) none (some 6)))) z (.lst [.int 0])) r (.lst (cutV (ns.map V.int) none (some 6) ++ [.int 0])) = H0 at hr0
  refine ⟨r, rfl, ⟨_, SqL.of hr0⟩, for_list (K := K) (a := r) (xs := cutV (ns.map V.int) none (some 6) ++ [.int 0]) (fun i σ H' => ∃ v1 v2 v3 : Option V, σ = [some (.ref a), v1, v2, v3, none, none] ∧ Same H0 H')
    ⟨none, none, none, rfl, Same.refl _⟩ (fun i σ H' _ ⟨_, _, _, _, s5⟩ => SqL.of (s5 _ _ hr0)) ?_ ?_⟩
  · rintro i x σ H1 hi ⟨v1, v2, v3, rfl, sm1⟩
    obtain ⟨cell, rfl⟩ := script_at hi
    refine ⟨_, rfl, cell, rfl, fun H2 b sm2 nb hb => ?_⟩
    have nb0 : H0 b = none := sm1.free nb
    refine ⟨2, rfl, by decide, by decide, for_range (lo := 0) (n := 2) (fun i σ H' => ∃ v3 : Option V, σ = [some (.ref a), some (.int cell), some (.ref b), v3, none, none] ∧ Same H0 H' ∧ BagAt H' b)
      ⟨v3, rfl, sm1.trans sm2, hb⟩ ?_ ?_⟩
    · rintro j σ H3 hj ⟨v3, rfl, sm3, hb3⟩
      refine ⟨_, rfl, b, 70, rfl, by decide, by decide, hb3, fun r4 H4 r40 r41 k4 hb4 => ⟨_, _, rfl, rfl, ?_⟩⟩
      refine ⟨_, rfl, b, 70, rfl, by decide, by decide, hb4, fun r5 H5 r50 r51 k5 hb5 => ⟨_, _, rfl, rfl, ?_⟩⟩
      obtain ⟨n4, rfl⟩ := Int.eq_ofNat_of_zero_le r40
      obtain ⟨n5, rfl⟩ := Int.eq_ofNat_of_zero_le r50
      have e : ([V.int (1 + (n4 : Int)), V.int (1 + (n5 : Int))] : List V) = [V.int ((1 + n4 : Nat) : Int), V.int ((1 + n5 : Nat) : Int)] := by
        rw [show ((1 + n4 : Nat) : Int) = 1 + (n4 : Int) by omega, show ((1 + n5 : Nat) : Int) = 1 + (n5 : Int) by omega]
      refine ⟨1 + n4, 1 + n5, e, by omega, by omega, by omega, by omega, fun H6 s6 => ⟨true, rfl, ?_⟩⟩
      exact ⟨_, rfl, fun u o k => s6 _ _ (by rw [k5 u (ne_of_none k nb0), k4 u (ne_of_none k nb0)]; exact sm3 _ _ k), hb5.same s6⟩
    · rintro σ H3 ⟨v3, rfl, sm3, hb3⟩
      exact ⟨_, _, _, rfl, sm3⟩
  · rintro σ H1 ⟨v1, v2, v3, rfl, sm1⟩
    have p7 : npk 7 = 3 := by decide +kernel
    have p5 : npk 5 = 2 := by decide +kernel
    refine ⟨7, rfl, by decide, by decide, fun H2 p2 s2 hp2 => ?_⟩
    refine ⟨7, 5, rfl, by decide, by decide, by decide, by decide, fun H3 s3 => ?_⟩
    have c75 : ccount 7 5 = 8 := by
      unfold ccount
      rw [if_neg (by decide), show min 7 5 = 5 from rfl, p5]
      rfl
    rw [c75]
    rw [p7] at hp2
    refine ⟨5, rfl, by decide, by decide, fun D nD => lc_range (lo := 0) (n := 5) (fun i H' => Same H3 H' ∧ H' D = some (.lst ((List.range i).map fun (j : Nat) => V.int (hcount 7 (j : Int))))) ⟨same_upd nD, upd_same⟩ ?_ ?_⟩
    · rintro j H4 hj ⟨s4, hD⟩
      have ej : (0 : Int) + (j : Int) = (j : Int) := by omega
      rw [ej]
      refine ⟨rfl, ?_⟩
      refine ⟨_, rfl, 7, (j : Int), rfl, by decide, by decide, _, hD, szlt (by rw [List.length_map, List.length_range]; omega), ?_, ?_⟩
      · exact fun a o k => by rw [upd_ne (ne_of_none k nD)]; exact s4 _ _ k
      · rw [List.range_succ, List.map_append]
        exact upd_same
    rintro H4 ⟨s4, hD⟩
    have e5 : ((List.range 5).map fun (j : Nat) => V.int (hcount 7 (j : Int))) = [.int 7, .int 3, .int 2, .int 1, .int 0] := by
      obtain ⟨a0, a1, a2, a3, a4⟩ := h7
      show [V.int (hcount 7 0), V.int (hcount 7 1), V.int (hcount 7 2), V.int (hcount 7 3), V.int (hcount 7 4)] = _
      rw [a0, a1, a2, a3, a4]
    rw [e5] at hD
    have hp4 := s4 _ _ (s3 _ _ hp2)
    refine ⟨(by show 3 ≤ sizeLine; decide), fun l1 n1 => ?_⟩
    have s5 := same_upd (o := .lst [.ref p2, .int 8, .ref D]) n1
    have h1 : (upd H4 l1 (.lst [.ref p2, .int 8, .ref D])) l1 = some (.lst [.ref p2, .int 8, .ref D]) := upd_same
    refine ⟨_, rfl, (by show 2 ≤ sizeLine; decide), fun l2 n2 => ⟨(by show 5 ≤ sizeLine; decide), fun l3 n3 => ⟨(by show 3 ≤ sizeLine; decide), fun l4 n4 => ?_⟩⟩⟩
    have s6 := same_upd (o := .tup [.int 11, .int 2]) n2
    have s7 := same_upd (o := .lst [.int 7, .int 3, .int 2, .int 1, .int 0]) n3
    have s8 := same_upd (o := .lst [.ref l2, .int 8, .ref l3]) n4
    have s58 := s6.trans (s7.trans s8)
    have sh : SeqAt.shaped (.list [.tuple [.int 11, .int 2], .int 8, .list [.int 7, .int 3, .int 2, .int 1, .int 0]]) = true := by
      show (PyData.canLay0 _ && decide (PyData.depth _ ≤ 64)) = true
      simp [PyData.canLay0, PyData.canLayAll0, PyData.depth, PyData.depthAll]
    refine ⟨.list [.tuple [.int 11, .int 2], .int 8, .list [.int 7, .int 3, .int 2, .int 1, .int 0]], .list [.tuple [.int 11, .int 2], .int 8, .list [.int 7, .int 3, .int 2, .int 1, .int 0]], ?_, ?_, sh, sh, ?_⟩
    · refine .lst (SqL.of (s58 _ _ h1)) (.cons (.tup (SqT.of (s58 _ _ (s5 _ _ hp4))) (.cons (.int _) (.cons (.int _) .nil))) (.cons (.int _) (.cons (.lst (SqL.of (s58 _ _ (s5 _ _ hD))) (.cons (.int _) (.cons (.int _) (.cons (.int _) (.cons (.int _) (.cons (.int _) .nil)))))) .nil)))
    · exact .lst (SqL.of upd_same) (.cons (.tup (SqT.of (s8 _ _ (s7 _ _ upd_same))) (.cons (.int _) (.cons (.int _) .nil))) (.cons (.int _) (.cons (.lst (SqL.of (s8 _ _ upd_same)) (.cons (.int _) (.cons (.int _) (.cons (.int _) (.cons (.int _) (.cons (.int _) .nil)))))) .nil)))
    rw [SeqAt.eqv_refl _ (SeqAt.canLay_of_shaped sh)]
    exact q _
end
end LT

namespace LT
open PySem PySem.Spec PyProof.Rows L2
theorem all_mk {l : PySem.W.OpenLaw} {w : World} {K : PySem.W.Frag} {h : Heap} {mg : Str → Option Value} {fa f0 f1 f2 f3 f4 f5 f6 f7 f8 f9 f10 f11 f12 f13 f14 f15 f16 f17 : Addr} (X : K.In h) (G : h.Ns mainGlobals mg) (hfa : mg "law" = some (.ref fa))
    {od0 an0 od1 an1 od2 an2 od3 an3 od4 an4 od5 an5 od6 an6 od7 an7 od8 an8 od9 an9 od10 an10 od11 an11 od12 an12 od13 an13 od14 an14 od15 an15 od16 an16 od17 an17 : Option Addr} {sl0 sl1 sl2 sl3 sl4 sl5 sl6 sl7 sl8 sl9 sl10 sl11 sl12 sl13 sl14 sl15 sl16 sl17 : Array (Option Value)} {oc0 kV0 dc0 pm0 cd0 ct0 oc1 kV1 dc1 pm1 cd1 ct1 oc2 kV2 dc2 pm2 cd2 ct2 oc3 kV3 dc3 pm3 cd3 ct3 oc4 kV4 dc4 pm4 cd4 ct4 oc5 kV5 dc5 pm5 cd5 ct5 oc6 kV6 dc6 pm6 cd6 ct6 oc7 kV7 dc7 pm7 cd7 ct7 oc8 kV8 dc8 pm8 cd8 ct8 oc9 kV9 dc9 pm9 cd9 ct9 oc10 kV10 dc10 pm10 cd10 ct10 oc11 kV11 dc11 pm11 cd11 ct11 oc12 kV12 dc12 pm12 cd12 ct12 oc13 kV13 dc13 pm13 cd13 ct13 oc14 kV14 dc14 pm14 cd14 ct14 oc15 kV15 dc15 pm15 cd15 ct15 oc16 kV16 dc16 pm16 cd16 ct16 oc17 kV17 dc17 pm17 cd17 ct17 : Value}
    (a0 : PySem.W.nsIn K mainGlobals "is_whole" = some (some (.ref f0))) (l0 : K.lookup f0 = some ⟨oc0, od0, .func (PySem.W.fnOf "is_whole" "is_whole" (defArgs sIsWhole) (defBody sIsWhole) (defScope sIsWhole) .none kV0 dc0 pm0 an0 cd0 ct0), sl0⟩) (c0 : PySem.W.codeIn K cd0 "is_whole" = true) (k0 : PySem.W.keepIn K (.ref f0) = true)
    (a1 : PySem.W.nsIn K mainGlobals "is_between" = some (some (.ref f1))) (l1 : K.lookup f1 = some ⟨oc1, od1, .func (PySem.W.fnOf "is_between" "is_between" (defArgs sIsBetween) (defBody sIsBetween) (defScope sIsBetween) .none kV1 dc1 pm1 an1 cd1 ct1), sl1⟩) (c1 : PySem.W.codeIn K cd1 "is_between" = true) (k1 : PySem.W.keepIn K (.ref f1) = true)
    (a2 : PySem.W.nsIn K mainGlobals "check_size" = some (some (.ref f2))) (l2 : K.lookup f2 = some ⟨oc2, od2, .func (PySem.W.fnOf "check_size" "check_size" (defArgs sCheckSize) (defBody sCheckSize) (defScope sCheckSize) .none kV2 dc2 pm2 an2 cd2 ct2), sl2⟩) (c2 : PySem.W.codeIn K cd2 "check_size" = true) (k2 : PySem.W.keepIn K (.ref f2) = true)
    (a3 : PySem.W.nsIn K mainGlobals "check_number" = some (some (.ref f3))) (l3 : K.lookup f3 = some ⟨oc3, od3, .func (PySem.W.fnOf "check_number" "check_number" (defArgs sCheckNumber) (defBody sCheckNumber) (defScope sCheckNumber) .none kV3 dc3 pm3 an3 cd3 ct3), sl3⟩) (c3 : PySem.W.codeIn K cd3 "check_number" = true) (k3 : PySem.W.keepIn K (.ref f3) = true)
    (a4 : PySem.W.nsIn K mainGlobals "power_within" = some (some (.ref f4))) (l4 : K.lookup f4 = some ⟨oc4, od4, .func (PySem.W.fnOf "power_within" "power_within" (defArgs sPowerWithin) (defBody sPowerWithin) (defScope sPowerWithin) .none kV4 dc4 pm4 an4 cd4 ct4), sl4⟩) (c4 : PySem.W.codeIn K cd4 "power_within" = true) (k4 : PySem.W.keepIn K (.ref f4) = true)
    (a5 : PySem.W.nsIn K mainGlobals "peaks" = some (some (.ref f5))) (l5 : K.lookup f5 = some ⟨oc5, od5, .func (PySem.W.fnOf "peaks" "peaks" (defArgs sPeaks) (defBody sPeaks) (defScope sPeaks) .none kV5 dc5 pm5 an5 cd5 ct5), sl5⟩) (c5 : PySem.W.codeIn K cd5 "peaks" = true) (k5 : PySem.W.keepIn K (.ref f5) = true)
    (a6 : PySem.W.nsIn K mainGlobals "edges" = some (some (.ref f6))) (l6 : K.lookup f6 = some ⟨oc6, od6, .func (PySem.W.fnOf "edges" "edges" (defArgs sEdges) (defBody sEdges) (defScope sEdges) .none kV6 dc6 pm6 an6 cd6 ct6), sl6⟩) (c6 : PySem.W.codeIn K cd6 "edges" = true) (k6 : PySem.W.keepIn K (.ref f6) = true)
    (a7 : PySem.W.nsIn K mainGlobals "node_count" = some (some (.ref f7))) (l7 : K.lookup f7 = some ⟨oc7, od7, .func (PySem.W.fnOf "node_count" "node_count" (defArgs sNodeCount) (defBody sNodeCount) (defScope sNodeCount) .none kV7 dc7 pm7 an7 cd7 ct7), sl7⟩) (c7 : PySem.W.codeIn K cd7 "node_count" = true) (k7 : PySem.W.keepIn K (.ref f7) = true)
    (a8 : PySem.W.nsIn K mainGlobals "common_count" = some (some (.ref f8))) (l8 : K.lookup f8 = some ⟨oc8, od8, .func (PySem.W.fnOf "common_count" "common_count" (defArgs sCommonCount) (defBody sCommonCount) (defScope sCommonCount) .none kV8 dc8 pm8 an8 cd8 ct8), sl8⟩) (c8 : PySem.W.codeIn K cd8 "common_count" = true) (k8 : PySem.W.keepIn K (.ref f8) = true)
    (a9 : PySem.W.nsIn K mainGlobals "height_count" = some (some (.ref f9))) (l9 : K.lookup f9 = some ⟨oc9, od9, .func (PySem.W.fnOf "height_count" "height_count" (defArgs sHeightCount) (defBody sHeightCount) (defScope sHeightCount) .none kV9 dc9 pm9 an9 cd9 ct9), sl9⟩) (c9 : PySem.W.codeIn K cd9 "height_count" = true) (k9 : PySem.W.keepIn K (.ref f9) = true)
    (a10 : PySem.W.nsIn K mainGlobals "_law_bag" = some (some (.ref f10))) (l10 : K.lookup f10 = some ⟨oc10, od10, .func (PySem.W.fnOf "_law_bag" "_law_bag" (defArgs sLawBag) (defBody sLawBag) (defScope sLawBag) .none kV10 dc10 pm10 an10 cd10 ct10), sl10⟩) (c10 : PySem.W.codeIn K cd10 "_law_bag" = true) (k10 : PySem.W.keepIn K (.ref f10) = true)
    (a11 : PySem.W.nsIn K mainGlobals "_law_pick" = some (some (.ref f11))) (l11 : K.lookup f11 = some ⟨oc11, od11, .func (PySem.W.fnOf "_law_pick" "_law_pick" (defArgs sLawPick) (defBody sLawPick) (defScope sLawPick) .none kV11 dc11 pm11 an11 cd11 ct11), sl11⟩) (c11 : PySem.W.codeIn K cd11 "_law_pick" = true) (k11 : PySem.W.keepIn K (.ref f11) = true)
    (a12 : PySem.W.nsIn K mainGlobals "_law_halved" = some (some (.ref f12))) (l12 : K.lookup f12 = some ⟨oc12, od12, .func (PySem.W.fnOf "_law_halved" "_law_halved" (defArgs sLawHalved) (defBody sLawHalved) (defScope sLawHalved) .none kV12 dc12 pm12 an12 cd12 ct12), sl12⟩) (c12 : PySem.W.codeIn K cd12 "_law_halved" = true) (k12 : PySem.W.keepIn K (.ref f12) = true)
    (a13 : PySem.W.nsIn K mainGlobals "_law_nodes" = some (some (.ref f13))) (l13 : K.lookup f13 = some ⟨oc13, od13, .func (PySem.W.fnOf "_law_nodes" "_law_nodes" (defArgs sLawNodes) (defBody sLawNodes) (defScope sLawNodes) .none kV13 dc13 pm13 an13 cd13 ct13), sl13⟩) (c13 : PySem.W.codeIn K cd13 "_law_nodes" = true) (k13 : PySem.W.keepIn K (.ref f13) = true)
    (a14 : PySem.W.nsIn K mainGlobals "_law_is_full" = some (some (.ref f14))) (l14 : K.lookup f14 = some ⟨oc14, od14, .func (PySem.W.fnOf "_law_is_full" "_law_is_full" (defArgs sLawIsFull) (defBody sLawIsFull) (defScope sLawIsFull) .none kV14 dc14 pm14 an14 cd14 ct14), sl14⟩) (c14 : PySem.W.codeIn K cd14 "_law_is_full" = true) (k14 : PySem.W.keepIn K (.ref f14) = true)
    (a15 : PySem.W.nsIn K mainGlobals "_law_height" = some (some (.ref f15))) (l15 : K.lookup f15 = some ⟨oc15, od15, .func (PySem.W.fnOf "_law_height" "_law_height" (defArgs sLawHeight) (defBody sLawHeight) (defScope sLawHeight) .none kV15 dc15 pm15 an15 cd15 ct15), sl15⟩) (c15 : PySem.W.codeIn K cd15 "_law_height" = true) (k15 : PySem.W.keepIn K (.ref f15) = true)
    (a16 : PySem.W.nsIn K mainGlobals "_law_right" = some (some (.ref f16))) (l16 : K.lookup f16 = some ⟨oc16, od16, .func (PySem.W.fnOf "_law_right" "_law_right" (defArgs sLawRight) (defBody sLawRight) (defScope sLawRight) .none kV16 dc16 pm16 an16 cd16 ct16), sl16⟩) (c16 : PySem.W.codeIn K cd16 "_law_right" = true) (k16 : PySem.W.keepIn K (.ref f16) = true)
    (a17 : PySem.W.nsIn K mainGlobals "law" = some (some (.ref f17))) (l17 : K.lookup f17 = some ⟨oc17, od17, .func (PySem.W.fnOf "law" "law" (defArgs sLaw) (defBody sLaw) (defScope sLaw) .none kV17 dc17 pm17 an17 cd17 ct17), sl17⟩) (c17 : PySem.W.codeIn K cd17 "law" = true) (k17 : PySem.W.keepIn K (.ref f17) = true)
    (z_bool : PySem.W.nsIn K mainGlobals "bool" = some none)
    (z_int : PySem.W.nsIn K mainGlobals "int" = some none)
    (z_isinstance : PySem.W.nsIn K mainGlobals "isinstance" = some none)
    (z_len : PySem.W.nsIn K mainGlobals "len" = some none)
    (z_list : PySem.W.nsIn K mainGlobals "list" = some none)
    (z_max : PySem.W.nsIn K mainGlobals "max" = some none)
    (z_min : PySem.W.nsIn K mainGlobals "min" = some none)
    (z_range : PySem.W.nsIn K mainGlobals "range" = some none)
    (z_repr : PySem.W.nsIn K mainGlobals "repr" = some none)
    {t_MOST_ENTRIES : Tok} (g_MOST_ENTRIES : PySem.W.nsIn K mainGlobals "MOST_ENTRIES" = some (some (.int 1000000000000000000000000000000 t_MOST_ENTRIES)))
    : ∃ fd : FuncData, (∀ (s : Shared) (v : Value), BindsTo s fd ⟨[v], []⟩ [("script", v)]) ∧ ∀ base : Heap, K.In base → base.Ns mainGlobals mg → GOk l.prog w K mg base 11 fa fd ["script"] (spLaw K) := by
  have e := hfa.symm.trans (PySem.W.mg_of X G a17)
  cases e
  have FIsWhole := fun_mk (st := sIsWhole) l0 c0 k0
  have FIsBetween := fun_mk (st := sIsBetween) l1 c1 k1
  have FCheckSize := fun_mk (st := sCheckSize) l2 c2 k2
  have FCheckNumber := fun_mk (st := sCheckNumber) l3 c3 k3
  have FPowerWithin := fun_mk (st := sPowerWithin) l4 c4 k4
  have FPeaks := fun_mk (st := sPeaks) l5 c5 k5
  have FEdges := fun_mk (st := sEdges) l6 c6 k6
  have FNodeCount := fun_mk (st := sNodeCount) l7 c7 k7
  have FCommonCount := fun_mk (st := sCommonCount) l8 c8 k8
  have FHeightCount := fun_mk (st := sHeightCount) l9 c9 k9
  have FLawBag := fun_mk (st := sLawBag) l10 c10 k10
  have FLawPick := fun_mk (st := sLawPick) l11 c11 k11
  have FLawHalved := fun_mk (st := sLawHalved) l12 c12 k12
  have FLawNodes := fun_mk (st := sLawNodes) l13 c13 k13
  have FLawIsFull := fun_mk (st := sLawIsFull) l14 c14 k14
  have FLawHeight := fun_mk (st := sLawHeight) l15 c15 k15
  have FLawRight := fun_mk (st := sLawRight) l16 c16 k16
  have FLaw := fun_mk (st := sLaw) l17 c17 k17
  have AIsWhole : At K mg "is_whole" f0 (PySem.W.fnOf "is_whole" "is_whole" (defArgs sIsWhole) (defBody sIsWhole) (defScope sIsWhole) .none kV0 dc0 pm0 an0 cd0 ct0) ["value"] := ⟨PySem.W.mg_of X G a0, k0, FIsWhole.binds (ps := ["value"]) fun _ _ _ _ _ _ us hl => match us, hl with | [_], _ => rfl⟩
  have AIsBetween : At K mg "is_between" f1 (PySem.W.fnOf "is_between" "is_between" (defArgs sIsBetween) (defBody sIsBetween) (defScope sIsBetween) .none kV1 dc1 pm1 an1 cd1 ct1) ["value", "low", "high"] := ⟨PySem.W.mg_of X G a1, k1, FIsBetween.binds (ps := ["value", "low", "high"]) fun _ _ _ _ _ _ us hl => match us, hl with | [_, _, _], _ => rfl⟩
  have ACheckSize : At K mg "check_size" f2 (PySem.W.fnOf "check_size" "check_size" (defArgs sCheckSize) (defBody sCheckSize) (defScope sCheckSize) .none kV2 dc2 pm2 an2 cd2 ct2) ["size"] := ⟨PySem.W.mg_of X G a2, k2, FCheckSize.binds (ps := ["size"]) fun _ _ _ _ _ _ us hl => match us, hl with | [_], _ => rfl⟩
  have ACheckNumber : At K mg "check_number" f3 (PySem.W.fnOf "check_number" "check_number" (defArgs sCheckNumber) (defBody sCheckNumber) (defScope sCheckNumber) .none kV3 dc3 pm3 an3 cd3 ct3) ["number"] := ⟨PySem.W.mg_of X G a3, k3, FCheckNumber.binds (ps := ["number"]) fun _ _ _ _ _ _ us hl => match us, hl with | [_], _ => rfl⟩
  have APowerWithin : At K mg "power_within" f4 (PySem.W.fnOf "power_within" "power_within" (defArgs sPowerWithin) (defBody sPowerWithin) (defScope sPowerWithin) .none kV4 dc4 pm4 an4 cd4 ct4) ["number"] := ⟨PySem.W.mg_of X G a4, k4, FPowerWithin.binds (ps := ["number"]) fun _ _ _ _ _ _ us hl => match us, hl with | [_], _ => rfl⟩
  have APeaks : At K mg "peaks" f5 (PySem.W.fnOf "peaks" "peaks" (defArgs sPeaks) (defBody sPeaks) (defScope sPeaks) .none kV5 dc5 pm5 an5 cd5 ct5) ["size"] := ⟨PySem.W.mg_of X G a5, k5, FPeaks.binds (ps := ["size"]) fun _ _ _ _ _ _ us hl => match us, hl with | [_], _ => rfl⟩
  have AEdges : At K mg "edges" f6 (PySem.W.fnOf "edges" "edges" (defArgs sEdges) (defBody sEdges) (defScope sEdges) .none kV6 dc6 pm6 an6 cd6 ct6) ["size"] := ⟨PySem.W.mg_of X G a6, k6, FEdges.binds (ps := ["size"]) fun _ _ _ _ _ _ us hl => match us, hl with | [_], _ => rfl⟩
  have ANodeCount : At K mg "node_count" f7 (PySem.W.fnOf "node_count" "node_count" (defArgs sNodeCount) (defBody sNodeCount) (defScope sNodeCount) .none kV7 dc7 pm7 an7 cd7 ct7) ["size"] := ⟨PySem.W.mg_of X G a7, k7, FNodeCount.binds (ps := ["size"]) fun _ _ _ _ _ _ us hl => match us, hl with | [_], _ => rfl⟩
  have ACommonCount : At K mg "common_count" f8 (PySem.W.fnOf "common_count" "common_count" (defArgs sCommonCount) (defBody sCommonCount) (defScope sCommonCount) .none kV8 dc8 pm8 an8 cd8 ct8) ["size", "other"] := ⟨PySem.W.mg_of X G a8, k8, FCommonCount.binds (ps := ["size", "other"]) fun _ _ _ _ _ _ us hl => match us, hl with | [_, _], _ => rfl⟩
  have AHeightCount : At K mg "height_count" f9 (PySem.W.fnOf "height_count" "height_count" (defArgs sHeightCount) (defBody sHeightCount) (defScope sHeightCount) .none kV9 dc9 pm9 an9 cd9 ct9) ["size", "number"] := ⟨PySem.W.mg_of X G a9, k9, FHeightCount.binds (ps := ["size", "number"]) fun _ _ _ _ _ _ us hl => match us, hl with | [_, _], _ => rfl⟩
  have ALawBag : At K mg "_law_bag" f10 (PySem.W.fnOf "_law_bag" "_law_bag" (defArgs sLawBag) (defBody sLawBag) (defScope sLawBag) .none kV10 dc10 pm10 an10 cd10 ct10) ["cell"] := ⟨PySem.W.mg_of X G a10, k10, FLawBag.binds (ps := ["cell"]) fun _ _ _ _ _ _ us hl => match us, hl with | [_], _ => rfl⟩
  have ALawPick : At K mg "_law_pick" f11 (PySem.W.fnOf "_law_pick" "_law_pick" (defArgs sLawPick) (defBody sLawPick) (defScope sLawPick) .none kV11 dc11 pm11 an11 cd11 ct11) ["bag", "many"] := ⟨PySem.W.mg_of X G a11, k11, FLawPick.binds (ps := ["bag", "many"]) fun _ _ _ _ _ _ us hl => match us, hl with | [_, _], _ => rfl⟩
  have ALawHalved : At K mg "_law_halved" f12 (PySem.W.fnOf "_law_halved" "_law_halved" (defArgs sLawHalved) (defBody sLawHalved) (defScope sLawHalved) .none kV12 dc12 pm12 an12 cd12 ct12) ["node"] := ⟨PySem.W.mg_of X G a12, k12, FLawHalved.binds (ps := ["node"]) fun _ _ _ _ _ _ us hl => match us, hl with | [_], _ => rfl⟩
  have ALawNodes : At K mg "_law_nodes" f13 (PySem.W.fnOf "_law_nodes" "_law_nodes" (defArgs sLawNodes) (defBody sLawNodes) (defScope sLawNodes) .none kV13 dc13 pm13 an13 cd13 ct13) ["node"] := ⟨PySem.W.mg_of X G a13, k13, FLawNodes.binds (ps := ["node"]) fun _ _ _ _ _ _ us hl => match us, hl with | [_], _ => rfl⟩
  have ALawIsFull : At K mg "_law_is_full" f14 (PySem.W.fnOf "_law_is_full" "_law_is_full" (defArgs sLawIsFull) (defBody sLawIsFull) (defScope sLawIsFull) .none kV14 dc14 pm14 an14 cd14 ct14) ["node"] := ⟨PySem.W.mg_of X G a14, k14, FLawIsFull.binds (ps := ["node"]) fun _ _ _ _ _ _ us hl => match us, hl with | [_], _ => rfl⟩
  have ALawHeight : At K mg "_law_height" f15 (PySem.W.fnOf "_law_height" "_law_height" (defArgs sLawHeight) (defBody sLawHeight) (defScope sLawHeight) .none kV15 dc15 pm15 an15 cd15 ct15) ["node"] := ⟨PySem.W.mg_of X G a15, k15, FLawHeight.binds (ps := ["node"]) fun _ _ _ _ _ _ us hl => match us, hl with | [_], _ => rfl⟩
  have ALawRight : At K mg "_law_right" f16 (PySem.W.fnOf "_law_right" "_law_right" (defArgs sLawRight) (defBody sLawRight) (defScope sLawRight) .none kV16 dc16 pm16 an16 cd16 ct16) ["size", "other"] := ⟨PySem.W.mg_of X G a16, k16, FLawRight.binds (ps := ["size", "other"]) fun _ _ _ _ _ _ us hl => match us, hl with | [_, _], _ => rfl⟩
  have z_bool := PySem.W.mg_none_of X G z_bool
  have z_int := PySem.W.mg_none_of X G z_int
  have z_isinstance := PySem.W.mg_none_of X G z_isinstance
  have z_len := PySem.W.mg_none_of X G z_len
  have z_list := PySem.W.mg_none_of X G z_list
  have z_max := PySem.W.mg_none_of X G z_max
  have z_min := PySem.W.mg_none_of X G z_min
  have z_range := PySem.W.mg_none_of X G z_range
  have z_repr := PySem.W.mg_none_of X G z_repr
  have g_MOST_ENTRIES := PySem.W.mg_of X G g_MOST_ENTRIES
  refine ⟨PySem.W.fnOf "law" "law" (defArgs sLaw) (defBody sLaw) (defScope sLaw) .none kV17 dc17 pm17 an17 cd17 ct17, fun s v => .of_eq rfl, fun base _ _ => ?_⟩
  have GIsWhole := ok_is_whole (P := l.prog) (w := w) (base := base) FIsWhole z_isinstance z_int z_bool
  have GIsBetween := ok_is_between FIsBetween GIsWhole AIsWhole
  have GCheckSize := ok_check_size FCheckSize GIsBetween AIsBetween g_MOST_ENTRIES
  have GCheckNumber := ok_check_number FCheckNumber GIsWhole AIsWhole
  have GPowerWithin := ok_power_within (P := l.prog) (w := w) (mg := mg) (base := base) FPowerWithin
  have GPeaks := ok_peaks FPeaks GCheckSize ACheckSize GPowerWithin APowerWithin
  have GEdges := ok_edges FEdges GPeaks APeaks
  have GNodeCount := ok_node_count FNodeCount GEdges AEdges z_len
  have GCommonCount := ok_common_count FCommonCount GCheckSize ACheckSize GNodeCount ANodeCount z_min
  have GHeightCount := ok_height_count FHeightCount GCheckSize ACheckSize GCheckNumber ACheckNumber
  have GLawBag := ok_law_bag (P := l.prog) (w := w) (base := base) FLawBag z_max
  have GLawPick := ok_law_pick (P := l.prog) (w := w) (base := base) FLawPick z_int
  have GLawHalved := ok_law_halved (P := l.prog) (w := w) (mg := mg) (base := base) FLawHalved
  have GLawNodes := ok_law_nodes FLawNodes ALawNodes GLawHalved ALawHalved 8
  have GLawIsFull := ok_law_is_full (P := l.prog) (w := w) (mg := mg) (base := base) FLawIsFull
  have GLawHeight := ok_law_height (P := l.prog) (w := w) (mg := mg) (base := base) FLawHeight
  have GLawRight := ok_law_right FLawRight GLawNodes ALawNodes GLawIsFull ALawIsFull GNodeCount ANodeCount GCommonCount ACommonCount GHeightCount AHeightCount GLawHeight ALawHeight z_len z_repr z_list z_range
  exact ok_law FLaw GLawBag ALawBag GLawPick ALawPick GLawRight ALawRight GNodeCount ANodeCount GCommonCount ACommonCount GHeightCount AHeightCount z_range
end LT
open PySem PySem.W PyProof.Rows
set_option maxRecDepth 100000 in
set_option maxHeartbeats 0 in
theorem PySem.Challenge.cw_logtrees_k02_counts_by_listing_holds : PySem.Challenge.rw_logtrees_k02_counts_by_listing.Holds := by
  w_on; o_law; k_head; (case hw => w_witness2)
  k_fill
  refine LT.walkG (l := PySem.Challenge.rw_logtrees_k02_counts_by_listing) (n := 63) (k := 11) (x := "script") (sp := fun w => LT.spLaw _) rfl (by decide) rfl ⟨rfl, by decide, by decide⟩ (fun w h Y => PySem.W.kIn_of Y) ?F (fun _ _ a ns hl _ hS => ⟨a, ns, rfl, hS, hl, fun _ => rfl⟩)
  case F =>
    intro w mg fa h KX G hmg
    refine' LT.all_mk KX G hmg ?a0 ?l0 ?c0 ?k0 ?a1 ?l1 ?c1 ?k1 ?a2 ?l2 ?c2 ?k2 ?a3 ?l3 ?c3 ?k3 ?a4 ?l4 ?c4 ?k4 ?a5 ?l5 ?c5 ?k5 ?a6 ?l6 ?c6 ?k6 ?a7 ?l7 ?c7 ?k7 ?a8 ?l8 ?c8 ?k8 ?a9 ?l9 ?c9 ?k9 ?a10 ?l10 ?c10 ?k10 ?a11 ?l11 ?c11 ?k11 ?a12 ?l12 ?c12 ?k12 ?a13 ?l13 ?c13 ?k13 ?a14 ?l14 ?c14 ?k14 ?a15 ?l15 ?c15 ?k15 ?a16 ?l16 ?c16 ?k16 ?a17 ?l17 ?c17 ?k17 ?z_bool ?z_int ?z_isinstance ?z_len ?z_list ?z_max ?z_min ?z_range ?z_repr ?g_MOST_ENTRIES
    (case a0 => k_is)
    (case l0 => k_is)
    (case c0 => k_is)
    (case k0 => k_is)
    (case a1 => k_is)
    (case l1 => k_is)
    (case c1 => k_is)
    (case k1 => k_is)
    (case a2 => k_is)
    (case l2 => k_is)
    (case c2 => k_is)
    (case k2 => k_is)
    (case a3 => k_is)
    (case l3 => k_is)
    (case c3 => k_is)
    (case k3 => k_is)
    (case a4 => k_is)
    (case l4 => k_is)
    (case c4 => k_is)
    (case k4 => k_is)
    (case a5 => k_is)
    (case l5 => k_is)
    (case c5 => k_is)
    (case k5 => k_is)
    (case a6 => k_is)
    (case l6 => k_is)
    (case c6 => k_is)
    (case k6 => k_is)
    (case a7 => k_is)
    (case l7 => k_is)
    (case c7 => k_is)
    (case k7 => k_is)
    (case a8 => k_is)
    (case l8 => k_is)
    (case c8 => k_is)
    (case k8 => k_is)
    (case a9 => k_is)
    (case l9 => k_is)
    (case c9 => k_is)
    (case k9 => k_is)
    (case a10 => k_is)
    (case l10 => k_is)
    (case c10 => k_is)
    (case k10 => k_is)
    (case a11 => k_is)
    (case l11 => k_is)
    (case c11 => k_is)
    (case k11 => k_is)
    (case a12 => k_is)
    (case l12 => k_is)
    (case c12 => k_is)
    (case k12 => k_is)
    (case a13 => k_is)
    (case l13 => k_is)
    (case c13 => k_is)
    (case k13 => k_is)
    (case a14 => k_is)
    (case l14 => k_is)
    (case c14 => k_is)
    (case k14 => k_is)
    (case a15 => k_is)
    (case l15 => k_is)
    (case c15 => k_is)
    (case k15 => k_is)
    (case a16 => k_is)
    (case l16 => k_is)
    (case c16 => k_is)
    (case k16 => k_is)
    (case a17 => k_is)
    (case l17 => k_is)
    (case c17 => k_is)
    (case k17 => k_is)
    (case z_bool => k_is)
    (case z_int => k_is)
    (case z_isinstance => k_is)
    (case z_len => k_is)
    (case z_list => k_is)
    (case z_max => k_is)
    (case z_min => k_is)
    (case z_range => k_is)
    (case z_repr => k_is)
    (case g_MOST_ENTRIES => k_is)
