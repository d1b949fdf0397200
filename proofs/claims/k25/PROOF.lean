import PyProof.Rows.All
import Wide.All
import OpenK.AllK
import Wide.FinOn
import HandS.ForMost
import HandS.Wide
import HandS.WideBits
import HandS.IsInst
import HandS.Style
import HandS.Deep
import HandS.RaiseMore
import HandS.Conv
import HandS.Flow
import HandS.SortRule
import HandS.NoneIn
import PyProof.ReprRoads
import PyProof.Rows.NestShow
import KE.DataMinMax
import KE.SortData
import PySem.Challenge.RW_logtrees_k25_cheapest_and_costliest_size
set_option Elab.async false
set_option linter.all false
set_option maxRecDepth 100000
set_option maxHeartbeats 4000000
namespace LT
/-- the greatest power of two less than m (m from 2) -/
def gp (m : Nat) : Nat := 2 ^ Nat.log2 (m - 1)
theorem gp_pos (m : Nat) : 0 < gp m := Nat.pow_pos (by decide)
theorem gp_lt {m : Nat} (h : 2 ≤ m) : gp m < m := by
  have := Nat.log2_self_le (n := m - 1) (by omega)
  unfold gp; omega
theorem gp_ge {m : Nat} (h : 2 ≤ m) : m ≤ 2 * gp m := by
  have := Nat.lt_log2_self (n := m - 1)
  unfold gp; rw [Nat.pow_succ] at this; omega
theorem pow_eq_of {i j : Nat} {m : Nat} (h1 : 2 ^ i < m) (h2 : m ≤ 2 * 2 ^ i) (h3 : 2 ^ j < m) (h4 : m ≤ 2 * 2 ^ j) : i = j := by
  have a : 2 ^ i < 2 ^ (j + 1) := by rw [Nat.pow_succ]; omega
  have b : 2 ^ j < 2 ^ (i + 1) := by rw [Nat.pow_succ]; omega
  have a' := (Nat.pow_lt_pow_iff_right (by decide : 1 < 2)).mp a
  have b' := (Nat.pow_lt_pow_iff_right (by decide : 1 < 2)).mp b
  omega
theorem gp_eq {i m : Nat} (h1 : 2 ^ i < m) (h2 : m ≤ 2 * 2 ^ i) : gp m = 2 ^ i := by
  have h : 2 ≤ m := by have := Nat.pow_pos (a := 2) (n := i) (by decide); omega
  have := pow_eq_of (gp_lt h) (gp_ge h) h1 h2
  unfold gp; rw [this]
theorem gp_pow (i : Nat) : gp (2 ^ (i + 1)) = 2 ^ i := gp_eq (by rw [Nat.pow_succ]; have := Nat.pow_pos (a := 2) (n := i) (by decide); omega) (by rw [Nat.pow_succ]; omega)

/-- siblings from the root's half down to the leaf's: nodes as (begin, length-end) pairs -/
def sib (b m e : Nat) : List (Nat × Nat) :=
  if h : m ≤ 1 then [] else
    if e < b + gp m then (b + gp m, b + m) :: sib b (gp m) e
    else (b, b + gp m) :: sib (b + gp m) (m - gp m) e
termination_by m
decreasing_by
  · exact gp_lt (by omega)
  · have := gp_pos m; omega
theorem sib_one {b m e : Nat} (h : m ≤ 1) : sib b m e = [] := by rw [sib]; simp [h]
theorem sib_low {b m e : Nat} (h : 2 ≤ m) (k : e < b + gp m) : sib b m e = (b + gp m, b + m) :: sib b (gp m) e := by
  rw [sib]; rw [dif_neg (by omega), if_pos k]
theorem sib_high {b m e : Nat} (h : 2 ≤ m) (k : ¬ e < b + gp m) : sib b m e = (b, b + gp m) :: sib (b + gp m) (m - gp m) e := by
  rw [sib]; rw [dif_neg (by omega), if_neg k]

/-! ### joining up again -/
def join (x y : Nat × Nat) : Nat × Nat := (min x.1 y.1, max x.2 y.2)
/-- the halves of a node -/
def halv (x : Nat × Nat) : (Nat × Nat) × (Nat × Nat) := ((x.1, x.1 + gp (x.2 - x.1)), (x.1 + gp (x.2 - x.1), x.2))
def ok1 (x y : Nat × Nat) : Prop := (join x y).1 + 2 ≤ (join x y).2 ∧ (halv (join x y) = (x, y) ∨ halv (join x y) = (y, x))
def oks : Nat × Nat → List (Nat × Nat) → Prop
  | _, [] => True
  | x, y :: r => ok1 x y ∧ oks (join x y) r
def top : Nat × Nat → List (Nat × Nat) → Nat × Nat
  | x, [] => x
  | x, y :: r => top (join x y) r
theorem oks_append : ∀ (x : Nat × Nat) (l r : List (Nat × Nat)), oks x l → oks (top x l) r → oks x (l ++ r)
  | _, [], _, _, h => h
  | x, y :: l, r, h1, h2 => ⟨h1.1, oks_append (join x y) l r h1.2 h2⟩
theorem top_append : ∀ (x : Nat × Nat) (l r : List (Nat × Nat)), top x (l ++ r) = top (top x l) r
  | _, [], _ => rfl
  | x, y :: l, r => top_append (join x y) l r
theorem sib_up : ∀ (m b e : Nat), b ≤ e → e < b + m → oks (e, e + 1) (sib b m e).reverse ∧ top (e, e + 1) (sib b m e).reverse = (b, b + m) := by
  intro m
  induction m using Nat.strongRecOn with
  | ind m ih =>
    intro b e h1 h2
    by_cases hm : m ≤ 1
    · have : m = 1 := by omega
      subst this
      rw [sib_one (by omega)]
      have : e = b := by omega
      subst this
      exact ⟨True.intro, rfl⟩
    · have g1 := gp_lt (m := m) (by omega)
      have g2 := gp_pos m
      by_cases k : e < b + gp m
      · rw [sib_low (by omega) k, List.reverse_cons]
        obtain ⟨p, q⟩ := ih (gp m) g1 b e h1 k
        have j : join (b, b + gp m) (b + gp m, b + m) = (b, b + m) := by
          unfold join; simp only []; rw [Nat.min_eq_left (by omega), Nat.max_eq_right (by omega)]
        refine ⟨oks_append _ _ _ p ?_, ?_⟩
        · rw [q]
          refine ⟨⟨?_, .inl ?_⟩, True.intro⟩
          · rw [j]; simp only []; omega
          · rw [j]; unfold halv; simp only []; rw [Nat.add_sub_cancel_left]
        · rw [top_append, q]; exact j
      · rw [sib_high (by omega) k, List.reverse_cons]
        obtain ⟨p, q⟩ := ih (m - gp m) (by omega) (b + gp m) e (by omega) (by omega)
        have e2 : b + gp m + (m - gp m) = b + m := by omega
        rw [e2] at q
        have j : join (b + gp m, b + m) (b, b + gp m) = (b, b + m) := by
          unfold join; simp only []; rw [Nat.min_eq_right (by omega), Nat.max_eq_left (by omega)]
        refine ⟨oks_append _ _ _ p ?_, ?_⟩
        · rw [q]
          refine ⟨⟨?_, .inr ?_⟩, True.intro⟩
          · rw [j]; simp only []; omega
          · rw [j]; unfold halv; simp only []; rw [Nat.add_sub_cancel_left]
        · rw [top_append, q]; exact j
theorem sib_len_pow (i : Nat) : ∀ (b e : Nat), b ≤ e → e < b + 2 ^ i → (sib b (2 ^ i) e).length = i := by
  induction i with
  | zero => intro b e h1 h2; rw [sib_one (by simp)]; rfl
  | succ i ih =>
    intro b e h1 h2
    have h3 : 2 ≤ 2 ^ (i + 1) := by rw [Nat.pow_succ]; have := Nat.pow_pos (a := 2) (n := i) (by decide); omega
    have g := gp_pow i
    have e2 : 2 ^ (i + 1) - 2 ^ i = 2 ^ i := by rw [Nat.pow_succ]; omega
    by_cases k : e < b + gp (2 ^ (i + 1))
    · rw [sib_low h3 k, List.length_cons, g, ih b e h1 (by omega)]
    · rw [sib_high h3 k, List.length_cons, g, e2, ih (b + 2 ^ i) e (by omega) (by rw [Nat.pow_succ] at h2; omega)]
/-! ### the peaks by digits: (begin, height) -/
def pk : Nat → Nat → Nat → List (Nat × Nat)
  | 0, _, _ => []
  | i + 1, n, b => if n.testBit i then (b, i) :: pk i n (b + 2 ^ i) else pk i n b
theorem mod_succ (n i : Nat) : n % 2 ^ (i + 1) = (if n.testBit i then 2 ^ i else 0) + n % 2 ^ i := by
  rw [Nat.mod_pow_succ, Nat.testBit_eq_decide_div_mod_eq, Nat.add_comm]
  have h : n / 2 ^ i % 2 = 0 ∨ n / 2 ^ i % 2 = 1 := by omega
  rcases h with h | h <;> rw [h] <;> simp
theorem pk_nil : ∀ (i n b : Nat), n % 2 ^ i = 0 → pk i n b = []
  | 0, _, _, _ => rfl
  | i + 1, n, b, h => by
    rw [mod_succ] at h
    have p := Nat.pow_pos (a := 2) (n := i) (by decide)
    unfold pk
    cases t : n.testBit i with
    | true => rw [t] at h; simp at h
    | false => rw [t] at h; simp at h; simp; exact pk_nil i n b h
theorem pk_ne : ∀ (i n b : Nat), n % 2 ^ i ≠ 0 → pk i n b ≠ []
  | 0, _, _, h => by simp [Nat.mod_one] at h
  | i + 1, n, b, h => by
    rw [mod_succ] at h
    unfold pk
    cases t : n.testBit i with
    | true => simp
    | false => rw [t] at h; simp at h; simp; exact pk_ne i n b (by omega)
theorem pk_begin : ∀ (i n b : Nat) (x : Nat × Nat), x ∈ pk i n b → b ≤ x.1 ∧ x.2 < i
  | 0, _, _, _, h => by simp [pk] at h
  | i + 1, n, b, x, h => by
    unfold pk at h
    cases t : n.testBit i with
    | true =>
      rw [t] at h; simp at h
      rcases h with h | h
      · subst h; exact ⟨Nat.le_refl _, Nat.lt_succ_self _⟩
      · have := pk_begin i n _ x h; have p := Nat.pow_pos (a := 2) (n := i) (by decide); omega
    | false =>
      rw [t] at h; simp at h
      have := pk_begin i n _ x h; omega
/-- what the law says of the levels: s the place of the first row, of t rows in all -/
def lev (t : Nat) : Nat → List (Nat × Nat) → List (Nat × Nat × Nat)
  | _, [] => []
  | s, x :: r => (x.1, x.1 + 2 ^ x.2, x.2 + min (s + 1) (t - 1)) :: lev t (s + 1) r
def due (e : Nat) (l : List (Nat × Nat × Nat)) : List Nat := (l.filter fun x => decide (x.1 ≤ e) && decide (e < x.2.1)).map fun x => x.2.2
theorem due_none (t e : Nat) : ∀ (l : List (Nat × Nat)) (s : Nat), (∀ x ∈ l, e < x.1) → due e (lev t s l) = []
  | [], _, _ => rfl
  | x :: r, s, h => by
    have h1 := h x (List.mem_cons_self)
    have ih := due_none t e r (s + 1) fun y hy => h y (List.mem_cons_of_mem _ hy)
    show List.map _ (List.filter _ ((x.1, x.1 + 2 ^ x.2, x.2 + min (s + 1) (t - 1)) :: lev t (s + 1) r)) = []
    rw [List.filter_cons, if_neg (by simp; omega)]
    exact ih
theorem due_is (n e : Nat) : ∀ (i b s : Nat), b ≤ e → e < b + n % 2 ^ i → due e (lev (s + (pk i n b).length) s (pk i n b)) = [(sib b (n % 2 ^ i) e).length + min s (s + (pk i n b).length - 1)] := by
  intro i
  induction i with
  | zero => intro b s h1 h2; simp [Nat.mod_one] at h2; omega
  | succ i ih =>
    intro b s h1 h2
    have p := Nat.pow_pos (a := 2) (n := i) (by decide)
    have ml := Nat.mod_lt n p
    cases t : n.testBit i with
    | false =>
      have e1 : n % 2 ^ (i + 1) = n % 2 ^ i := by rw [mod_succ, t]; simp
      have e2 : pk (i + 1) n b = pk i n b := by show (if n.testBit i = true then _ else _) = _; rw [t]; simp
      rw [e1] at h2
      rw [e1, e2]; exact ih b s h1 h2
    | true =>
      have e1 : n % 2 ^ (i + 1) = 2 ^ i + n % 2 ^ i := by rw [mod_succ, t]; simp
      have e2 : pk (i + 1) n b = (b, i) :: pk i n (b + 2 ^ i) := by show (if n.testBit i = true then _ else _) = _; rw [t]; simp
      rw [e1] at h2
      rw [e1, e2, List.length_cons]
      by_cases r0 : n % 2 ^ i = 0
      · rw [pk_nil i n _ r0, r0]
        rw [r0] at h2
        rw [Nat.add_zero] at h2
        rw [Nat.add_zero (2 ^ i), sib_len_pow i b e h1 h2]
        show List.map _ (List.filter _ [(b, b + 2 ^ i, i + min (s + 1) (s + (0 + 1) - 1))]) = _
        rw [List.filter_cons, if_pos (by simp; omega)]
        simp
      · have hne : 1 ≤ (pk i n (b + 2 ^ i)).length := by
          have := pk_ne i n (b + 2 ^ i) r0
          cases hh : pk i n (b + 2 ^ i) with
          | nil => exact absurd hh this
          | cons _ _ => rw [List.length_cons]; omega
        have g : gp (2 ^ i + n % 2 ^ i) = 2 ^ i := gp_eq (by omega) (by omega)
        by_cases k : e < b + 2 ^ i
        · rw [sib_low (by omega) (by rw [g]; exact k), g, List.length_cons, sib_len_pow i b e h1 k]
          have d := due_none (s + ((pk i n (b + 2 ^ i)).length + 1)) e (pk i n (b + 2 ^ i)) (s + 1) fun x hx => by have := pk_begin _ _ _ x hx; omega
          show List.map _ (List.filter _ ((b, b + 2 ^ i, i + min (s + 1) (s + ((pk i n (b + 2 ^ i)).length + 1) - 1)) :: lev (s + ((pk i n (b + 2 ^ i)).length + 1)) (s + 1) (pk i n (b + 2 ^ i)))) = _
          rw [List.filter_cons, if_pos (by simp; omega), List.map_cons]
          have d' : List.map (fun x => x.2.2) (List.filter (fun x => decide (x.1 ≤ e) && decide (e < x.2.1)) (lev (s + ((pk i n (b + 2 ^ i)).length + 1)) (s + 1) (pk i n (b + 2 ^ i)))) = [] := d
          rw [d']
          simp
          omega
        · rw [sib_high (by omega) (by rw [g]; exact k), g, List.length_cons, Nat.add_sub_cancel_left]
          have q := ih (b + 2 ^ i) (s + 1) (by omega) (by omega)
          have e3 : s + 1 + (pk i n (b + 2 ^ i)).length = s + ((pk i n (b + 2 ^ i)).length + 1) := by omega
          rw [e3] at q
          show List.map _ (List.filter _ ((b, b + 2 ^ i, i + min (s + 1) (s + ((pk i n (b + 2 ^ i)).length + 1) - 1)) :: lev (s + ((pk i n (b + 2 ^ i)).length + 1)) (s + 1) (pk i n (b + 2 ^ i)))) = _
          rw [List.filter_cons, if_neg (by simp; omega)]
          refine Eq.trans q ?_
          congr 1
          omega
/-! ### which pairs are nodes -/
/-- the bits of m - 1 -/
def lb (m : Nat) : Nat := if m ≤ 1 then 0 else Nat.log2 (m - 1) + 1
theorem lb_le {x i : Nat} (h : x ≤ 2 ^ i) : lb x ≤ i := by
  unfold lb
  by_cases k : x ≤ 1
  · rw [if_pos k]; omega
  · rw [if_neg k]
    have h1 := Nat.log2_self_le (n := x - 1) (by omega)
    have h2 : 2 ^ Nat.log2 (x - 1) < 2 ^ i := by omega
    exact (Nat.pow_lt_pow_iff_right (by decide : 1 < 2)).mp h2
theorem lb_ge (x : Nat) : x ≤ 2 ^ lb x := by
  unfold lb
  by_cases k : x ≤ 1
  · rw [if_pos k]; omega
  · rw [if_neg k]
    have := Nat.lt_log2_self (n := x - 1)
    omega
theorem lb_pow (i : Nat) : lb (2 ^ i) = i := by
  have h1 := lb_le (Nat.le_refl (2 ^ i))
  have h2 := (Nat.pow_le_pow_iff_right (by decide : 1 < 2)).mp (lb_ge (2 ^ i))
  omega
theorem lb_gp {m : Nat} (h : 2 ≤ m) : 2 ^ lb m = 2 * gp m := by
  unfold lb gp; rw [if_neg (by omega), Nat.pow_succ]; omega
def tree (n b m : Nat) : Prop := 2 ^ lb m ∣ b ∧ (m = 2 ^ lb m ∨ b + m = n)
theorem tree_root (n : Nat) : tree n 0 n := ⟨Nat.dvd_zero _, .inr (Nat.zero_add _)⟩
theorem tree_low {n b m : Nat} (h : 2 ≤ m) (t : tree n b m) : tree n b (gp m) := by
  obtain ⟨d, _⟩ := t
  rw [lb_gp h] at d
  have e : 2 ^ lb (gp m) = gp m := by unfold gp; rw [lb_pow]
  exact ⟨by rw [e]; exact Nat.dvd_trans (Nat.dvd_mul_left _ _) d, .inl e.symm⟩
theorem tree_high {n b m : Nat} (h : 2 ≤ m) (t : tree n b m) : tree n (b + gp m) (m - gp m) := by
  obtain ⟨d, k⟩ := t
  rw [lb_gp h] at d k
  have g1 := gp_lt h
  have g2 := gp_ge h
  have dg : 2 ^ lb (m - gp m) ∣ gp m := by
    have : lb (m - gp m) ≤ Nat.log2 (m - 1) := lb_le (by unfold gp at g1 g2 ⊢; omega)
    exact Nat.pow_dvd_pow 2 this
  refine ⟨Nat.dvd_add (Nat.dvd_trans dg (Nat.dvd_trans (Nat.dvd_mul_left _ _) d)) dg, ?_⟩
  rcases k with k | k
  · left
    have e : m - gp m = gp m := by omega
    rw [e]
    unfold gp; rw [lb_pow]
  · right; omega
theorem sib_len_le : ∀ (m b e : Nat), b ≤ e → e < b + m → (sib b m e).length ≤ lb m := by
  intro m
  induction m using Nat.strongRecOn with
  | ind m ih =>
    intro b e h1 h2
    by_cases hm : m ≤ 1
    · rw [sib_one hm]; exact Nat.zero_le _
    · have g1 := gp_lt (m := m) (by omega)
      have g2 := gp_ge (m := m) (by omega)
      have g3 := gp_pos m
      have e1 : lb m = Nat.log2 (m - 1) + 1 := by unfold lb; rw [if_neg hm]
      by_cases k : e < b + gp m
      · rw [sib_low (by omega) k, List.length_cons]
        have := ih (gp m) g1 b e h1 k
        have e2 : lb (gp m) = Nat.log2 (m - 1) := by unfold gp; rw [lb_pow]
        omega
      · rw [sib_high (by omega) k, List.length_cons]
        have := ih (m - gp m) (by omega) (b + gp m) e (by omega) (by omega)
        have e2 : lb (m - gp m) ≤ Nat.log2 (m - 1) := lb_le (by unfold gp at g1 g2 ⊢; omega)
        omega
end LT
namespace LT
open PySem PySem.Spec PyProof.Rows L2
def topS (i : Nat) : Stmt := PySem.Challenge.pw_logtrees_k25_cheapest_and_costliest_size.main.body.getD i (.Pass ⟨0, 0, 0, 0⟩)
abbrev sIsWhole : Stmt := topS 5
theorem scIsWhole : FnScope ["value"] ["value"] (defScope sIsWhole) := ⟨rfl, rfl, rfl, by decide +kernel, rfl, by decide +kernel, by decide +kernel⟩
abbrev sIsBetween : Stmt := topS 6
theorem scIsBetween : FnScope ["value", "low", "high"] ["value", "low", "high"] (defScope sIsBetween) := ⟨rfl, rfl, rfl, by decide +kernel, rfl, by decide +kernel, by decide +kernel⟩
abbrev sCheckSize : Stmt := topS 7
theorem scCheckSize : FnScope ["size"] ["size"] (defScope sCheckSize) := ⟨rfl, rfl, rfl, by decide +kernel, rfl, by decide +kernel, by decide +kernel⟩
abbrev sPowerWithin : Stmt := topS 9
theorem scPowerWithin : FnScope ["number"] ["number"] (defScope sPowerWithin) := ⟨rfl, rfl, rfl, by decide +kernel, rfl, by decide +kernel, by decide +kernel⟩
abbrev sPeaks : Stmt := topS 10
theorem scPeaks : FnScope ["size", "found", "begin", "end"] ["size"] (defScope sPeaks) := ⟨rfl, rfl, rfl, by decide +kernel, rfl, by decide +kernel, by decide +kernel⟩
abbrev sEdges : Stmt := topS 11
theorem scEdges : FnScope ["size", "begin", "_"] ["size"] (defScope sEdges) := ⟨rfl, rfl, rfl, by decide +kernel, rfl, by decide +kernel, by decide +kernel⟩
abbrev sRootSums : Stmt := topS 13
theorem scRootSums : FnScope ["size"] ["size"] (defScope sRootSums) := ⟨rfl, rfl, rfl, by decide +kernel, rfl, by decide +kernel, by decide +kernel⟩
abbrev sCheckStretch : Stmt := topS 14
theorem scCheckStretch : FnScope ["low", "high"] ["low", "high"] (defScope sCheckStretch) := ⟨rfl, rfl, rfl, by decide +kernel, rfl, by decide +kernel, by decide +kernel⟩
abbrev sCheapest : Stmt := topS 15
theorem scCheapest : FnScope ["low", "high", "found", "room", "size"] ["low", "high"] (defScope sCheapest) := ⟨rfl, rfl, rfl, by decide +kernel, rfl, by decide +kernel, by decide +kernel⟩
abbrev sCostliest : Stmt := topS 16
theorem scCostliest : FnScope ["low", "high", "size"] ["low", "high"] (defScope sCostliest) := ⟨rfl, rfl, rfl, by decide +kernel, rfl, by decide +kernel, by decide +kernel⟩
abbrev sLawWound : Stmt := topS 18
theorem scLawWound : FnScope ["script", "k", "cell"] ["script", "k"] (defScope sLawWound) := ⟨rfl, rfl, rfl, by decide +kernel, rfl, by decide +kernel, by decide +kernel⟩
abbrev sLawSpin : Stmt := topS 19
theorem scLawSpin : FnScope ["reel", "many", "drawn", "mixed"] ["reel", "many"] (defScope sLawSpin) := ⟨rfl, rfl, rfl, by decide +kernel, rfl, by decide +kernel, by decide +kernel⟩
abbrev sLawDrawnSize : Stmt := topS 20
theorem scLawDrawnSize : FnScope ["reel", "power", "other", "some"] ["reel"] (defScope sLawDrawnSize) := ⟨rfl, rfl, rfl, by decide +kernel, rfl, by decide +kernel, by decide +kernel⟩
abbrev sLawOnes : Stmt := topS 21
theorem scLawOnes : FnScope ["number", "found", "left"] ["number"] (defScope sLawOnes) := ⟨rfl, rfl, rfl, by decide +kernel, rfl, by decide +kernel, by decide +kernel⟩
abbrev sLawSmallRight : Stmt := topS 22
theorem scLawSmallRight : FnScope ["reel", "low", "high", "counts", "due", "size"] ["reel"] (defScope sLawSmallRight) := ⟨rfl, rfl, rfl, by decide +kernel, rfl, by decide +kernel, by decide +kernel⟩
abbrev sLawBounds : Stmt := topS 23
theorem scLawBounds : FnScope ["low", "high", "shift", "front", "beginning", "low_rest", "high_rest", "least", "most", "digit", "other"] ["low", "high"] (defScope sLawBounds) := ⟨rfl, rfl, rfl, by decide +kernel, rfl, by decide +kernel, by decide +kernel⟩
abbrev sLawGreatRight : Stmt := topS 24
theorem scLawGreatRight : FnScope ["reel", "one", "wide", "far", "low", "high", "least", "most", "told", "due", "is_least", "count", "size", "turn"] ["reel"] (defScope sLawGreatRight) := ⟨rfl, rfl, rfl, by decide +kernel, rfl, by decide +kernel, by decide +kernel⟩
abbrev sLaw : Stmt := topS 25
theorem scLaw : FnScope ["script", "k", "reel", "turn", "told"] ["script"] (defScope sLaw) := ⟨rfl, rfl, rfl, by decide +kernel, rfl, by decide +kernel, by decide +kernel⟩
/-- a def as it stands behind the top -/
structure At (K : PySem.W.Frag) (mg : Str → Option Value) (x : Str) (f : Addr) (fd : FuncData) (ps : List Str) : Prop where
  m : mg x = some (.ref f)
  kp : PySem.W.keepIn K (.ref f) = true
  b : Binds K fd ps []
theorem units1 {k : Nat} {A : Around} (r : Room k A) : A.units + 65 < cLine := by have := r.un; omega
/-- all but b as it was -/
def But (b : Addr) (H H' : Hp) : Prop := ∀ a o, a ≠ b → H a = some o → H' a = some o
theorem But.refl (b : Addr) (H : Hp) : But b H H := fun _ _ _ h => h
theorem But.trans {b : Addr} {H H1 H2 : Hp} (x : But b H H1) (y : But b H1 H2) : But b H H2 := fun a o n h => y a o n (x a o n h)
theorem But.of {b : Addr} {H H1 : Hp} (x : Same H H1) : But b H H1 := fun a o _ h => x a o h
theorem same_upd {H : Hp} {p : Addr} {o : HO} (h : H p = none) : Same H (upd H p o) := fun b x e => by
  rw [upd_ne (ne_of_none e h)]
  exact e
def BagAt (H : Hp) (b : Addr) : Prop := ∃ x y z : Int, H b = some (.lst [.int x, .int y, .int z])
theorem BagAt.same {H H' : Hp} {b : Addr} (h : BagAt H b) (s : Same H H') : BagAt H' b := by
  obtain ⟨x, y, z, e⟩ := h
  exact ⟨x, y, z, s _ _ e⟩
/-- a pair of ints -/
def Nd (H : Hp) (v : V) (x : Nat × Nat) : Prop := ∃ p, v = .ref p ∧ H p = some (.tup [.int x.1, .int x.2])
theorem Nd.same {H H' : Hp} {v : V} {x : Nat × Nat} (h : Nd H v x) (s : Same H H') : Nd H' v x := by
  obtain ⟨p, e, q⟩ := h
  exact ⟨p, e, s _ _ q⟩
theorem Nd.dp {K : PySem.W.Frag} {H : Hp} {v : V} {x : Nat × Nat} (h : Nd H v x) : Dp K H v (.tuple [.int x.1, .int x.2]) := by
  obtain ⟨p, rfl, q⟩ := h
  exact .tup (SqT.of q) (.cons (.int _) (.cons (.int _) .nil))
theorem nd_shaped (a b : Int) : SeqAt.shaped (.tuple [.int a, .int b]) = true := by
  show (PyData.canLay0 _ && decide (PyData.depth _ ≤ 64)) = true
  simp [PyData.canLay0, PyData.canLayAll0, PyData.depth, PyData.depthAll]
theorem nd_eqv (a b c d : Int) : PyData.eqv (.tuple [.int a, .int b]) (.tuple [.int c, .int d]) = (decide (a = c) && decide (b = d)) := by
  have e : PyData.eqv (.tuple [.int a, .int b]) (.tuple [.int c, .int d]) = ((a == c) && ((b == d) && true)) := by simp only [PyData.eqv, PyData.eqvAll]
  rw [e, Bool.and_true]
  by_cases h1 : a = c <;> by_cases h2 : b = d <;> simp [h1, h2]
/-- lists of values and what they stand for -/
inductive All2 {α : Type} (R : V → α → Prop) : List V → List α → Prop
  | nil : All2 R [] []
  | cons {v : V} {x : α} {vs : List V} {xs : List α} : R v x → All2 R vs xs → All2 R (v :: vs) (x :: xs)
section
variable {α : Type} {R R' : V → α → Prop}
theorem All2.mono (f : ∀ v x, R v x → R' v x) : ∀ {vs : List V} {xs : List α}, All2 R vs xs → All2 R' vs xs
  | _, _, .nil => .nil
  | _, _, .cons h t => .cons (f _ _ h) (All2.mono f t)
theorem All2.len : ∀ {vs : List V} {xs : List α}, All2 R vs xs → vs.length = xs.length
  | _, _, .nil => rfl
  | _, _, .cons _ t => by rw [List.length_cons, List.length_cons, All2.len t]
theorem All2.app : ∀ {vs : List V} {xs : List α} {us : List V} {ys : List α}, All2 R vs xs → All2 R us ys → All2 R (vs ++ us) (xs ++ ys)
  | _, _, _, _, .nil, h => h
  | _, _, _, _, .cons h t, k => .cons h (All2.app t k)
theorem All2.rev : ∀ {vs : List V} {xs : List α}, All2 R vs xs → All2 R vs.reverse xs.reverse
  | _, _, .nil => .nil
  | _, _, .cons h t => by
    rw [List.reverse_cons, List.reverse_cons]
    exact All2.app (All2.rev t) (.cons h .nil)
theorem All2.nth : ∀ {vs : List V} {xs : List α} {i : Nat} {v : V}, All2 R vs xs → vs[i]? = some v → ∃ x, xs[i]? = some x ∧ R v x
  | _, _, _, _, .nil, h => by simp at h
  | _, _, 0, _, .cons h t, e => by
    have := Option.some.inj e
    subst this
    exact ⟨_, rfl, h⟩
  | _, _, i + 1, _, .cons h t, e => by
    rw [List.getElem?_cons_succ] at e ⊢
    exact All2.nth t e
theorem All2.nth2 : ∀ {vs : List V} {xs : List α} {i : Nat} {x : α}, All2 R vs xs → xs[i]? = some x → ∃ v, vs[i]? = some v ∧ R v x
  | _, _, _, _, .nil, h => by simp at h
  | _, _, 0, _, .cons h t, e => by
    have := Option.some.inj e
    subst this
    exact ⟨_, rfl, h⟩
  | _, _, i + 1, _, .cons h t, e => by
    rw [List.getElem?_cons_succ] at e ⊢
    exact All2.nth2 t e
end

/-! ### rules within a comprehension: what they say of the written part is said of the def's -/
section
open PySem L2
variable {X : Cx} {s : Shared} {H : Hp} {sc : Scope} {ce : Env} {fp : List Addr}
theorem pg_tupB {es : List Expr} {k : Nat} {pos : Pos} {t : TGs} {n : Nat} (hc : X.calm = true) (h : PGs (X.blk s H sc ce fp) es t)
    (hn : (assignEach es (X.blk s H sc ce fp).env).length = n := by rfl) (hst : (assignEach es (X.blk s H sc ce fp).env).findIdx? (·.1) = none := by rfl) : PG (X.blk s H sc ce fp) (.Tuple es k pos) (gTup X.K n t) := pg_tup hc h hn hst
theorem ix_listB : IxR (X.blk s H sc ce fp) (rIxL X.K) := ix_list
theorem ix_tupB : IxR (X.blk s H sc ce fp) (rIxT X.K) := ix_tup
theorem call_len_seqB : CallR (X.blk s H sc ce fp) (.builtin "len") (fun xs H Q => ∃ p ys, xs = [.ref p] ∧ (SqL X.K H p ys ∨ SqT X.K H p ys) ∧ Q (.int ys.length) H) := call_len_seq
theorem op_eqDB (hu : X.A.units + 64 < cLine) : OpR (X.blk s H sc ce fp) (compareOp .Eq) (rEqD X.K) := op_eqD (X := X.blk s H sc ce fp) hu
theorem op_neDB (hu : X.A.units + 64 < cLine) : OpR (X.blk s H sc ce fp) (compareOp .NotEq) (rNeD X.K) := op_neD (X := X.blk s H sc ce fp) hu
theorem op_inDB (hu : X.A.units + 65 < cLine) : OpR (X.blk s H sc ce fp) (compareOp .In) (rInD X.K) := op_inD (X := X.blk s H sc ce fp) hu
theorem op_notInDB (hu : X.A.units + 65 < cLine) : OpR (X.blk s H sc ce fp) (compareOp .NotIn) (rNotInD X.K) := op_notInD (X := X.blk s H sc ce fp) hu
end
theorem Nd.upd {H : Hp} {v : V} {x : Nat × Nat} {s : Addr} {xs : List V} {o : HO} (h : Nd H v x) (hs : H s = some (.lst xs)) : Nd (upd H s o) v x := by
  obtain ⟨p, e, q⟩ := h
  exact ⟨p, e, by rw [upd_ne (ne_of q hs (by intro z; cases z))]; exact q⟩
def full (x : Nat × Nat) : Nat × Nat := (x.1, x.1 + 2 ^ x.2)
theorem pk_len : ∀ (i n b : Nat), (pk i n b).length ≤ i
  | 0, _, _ => Nat.le_refl _
  | i + 1, n, b => by
    show (if n.testBit i = true then (b, i) :: pk i n (b + 2 ^ i) else pk i n b).length ≤ i + 1
    by_cases t : n.testBit i = true
    · rw [if_pos t, List.length_cons]
      exact Nat.succ_le_succ (pk_len i n _)
    · rw [if_neg t]
      exact Nat.le_succ_of_le (pk_len i n b)
theorem take_more {α : Type} : ∀ {l : List α} {i : Nat} {x : α}, l[i]? = some x → l.take (i + 1) = l.take i ++ [x]
  | [], i, x, h => by simp at h
  | a :: l, 0, x, h => by
    have e : a = x := Option.some.inj h
    subst e
    rfl
  | a :: l, i + 1, x, h => by
    have ih := take_more (l := l) (i := i) (x := x) h
    show a :: l.take (i + 1) = a :: l.take i ++ [x]
    rw [ih]
    rfl
theorem szle {n : Nat} (h : n ≤ 100000) : n ≤ sizeLine := Nat.le_trans h (by decide)
theorem szlt {n : Nat} (h : n < 100000) : n < sizeLine := Nat.lt_of_lt_of_le h (by decide)
end LT

namespace LT
open PySem PySem.Spec PyProof.Rows L2
section
variable {P : Program} {w : World} {K : PySem.W.Frag} {mg : Str → Option Value} {base : Heap}
def spWhole : Sp := fun vs H Q _ => ∃ i : Int, vs = [.int i] ∧ Q (.bl true) H
theorem ok_is_whole {f : Addr} {fd : FuncData} (F : Fun K "is_whole" "is_whole" sIsWhole f fd) (z_isinstance : mg "isinstance" = none) (z_int : mg "int" = none) (z_bool : mg "bool" = none) : FnOk P w K mg base CX0 1 f fd ["value"] spWhole := by
  refine F.ok scIsWhole (fun vs H Q E h => ?_) (fun cdv A outer s H vs Q E hr h => ?_)
  · obtain ⟨i, rfl, _⟩ := h
    rfl
  obtain ⟨i, rfl, q⟩ := h
  refine ⟨_, (pss_one (ps_ret (pe_and (pe_callB call_isi (by rfl) z_isinstance (by decide +kernel) (pa_cons (pv 0) (pa_cons (pe_bltn (v := .ty "int") (u := .type "int") (by rfl) z_int (by decide +kernel) rfl) pa_nil))) (pe_one (pe_not (pe_callB call_isi (by rfl) z_isinstance (by decide +kernel) (pa_cons (pv 0) (pa_cons (pe_bltn (v := .ty "bool") (u := .type "bool") (by rfl) z_bool (by decide +kernel) rfl) pa_nil)))))))), ?_⟩
  refine ⟨_, rfl, _, _, _, _, true, rfl, .ty "int", .base (.int i), kit_ty (by decide +kernel), true, rfl, ?_⟩
  refine ⟨_, rfl, _, _, _, _, false, rfl, .ty "bool", .base (.int i), kit_ty (by decide +kernel), false, rfl, ?_⟩
  exact q
def spBetween : Sp := fun vs H Q _ => ∃ v lo hi : Int, vs = [.int v, .int lo, .int hi] ∧ Q (.bl (decide (lo ≤ v) && decide (v ≤ hi))) H
theorem ok_is_between {f g : Addr} {fd gd : FuncData} (F : Fun K "is_between" "is_between" sIsBetween f fd) (GIsWhole : FnOk P w K mg base CX0 1 g gd ["value"] spWhole) (AIsWhole : At K mg "is_whole" g gd ["value"]) : FnOk P w K mg base CX0 2 f fd ["value", "low", "high"] spBetween := by
  refine F.ok scIsBetween (fun vs H Q E h => ?_) (fun cdv A outer s H vs Q E hr h => ?_)
  · obtain ⟨i, _, _, rfl, _⟩ := h
    rfl
  obtain ⟨v, lo, hi, rfl, q⟩ := h
  refine ⟨_, (pss_one (ps_ret (pe_and (pe_call GIsWhole (hr.mono (by decide)) rfl AIsWhole.m AIsWhole.kp AIsWhole.b .nil pass0 (pa_cons (pv 0) pa_nil)) (pe_one (pe_chain op_le op_le (pv 1) (pv 0) (pv 2)))))), ?_⟩
  refine ⟨_, rfl, v, rfl, true, rfl, ?_⟩
  refine ⟨_, rfl, _, rfl, _, _, rfl, rfl, _, rfl, ?_⟩
  by_cases h1 : lo ≤ v
  · rw [decide_eq_true h1] at q ⊢
    exact ⟨_, rfl, _, _, rfl, rfl, q⟩
  · rw [decide_eq_false h1] at q ⊢
    exact q
def spCheckSize : Sp := fun vs H Q _ => ∃ n : Int, vs = [.int n] ∧ 1 ≤ n ∧ n ≤ 10 ^ 30 ∧ Q .non H
theorem ok_check_size {f g : Addr} {fd gd : FuncData} {t : Tok} (F : Fun K "check_size" "check_size" sCheckSize f fd) (GIsBetween : FnOk P w K mg base CX0 2 g gd ["value", "low", "high"] spBetween) (AIsBetween : At K mg "is_between" g gd ["value", "low", "high"]) (g_MOST_ENTRIES : mg "MOST_ENTRIES" = some (.int 1000000000000000000000000000000 t)) : FnOk P w K mg base CX0 3 f fd ["size"] spCheckSize := by
  refine F.ok scCheckSize (fun vs H Q E h => ?_) (fun cdv A outer s H vs Q E hr h => ?_)
  · obtain ⟨i, rfl, _⟩ := h
    rfl
  obtain ⟨n, rfl, h1, h2, q⟩ := h
  refine ⟨_, (pss_one (ps_if (pt_not (pt_val (pe_call GIsBetween (hr.mono (by decide)) rfl AIsBetween.m AIsBetween.kp AIsBetween.b .nil pass0 (pa_cons (pv 0) (pa_cons pe_int (pa_cons (pe_glob (v := .int 1000000000000000000000000000000) rfl g_MOST_ENTRIES ⟨_, rfl⟩) pa_nil))))))
    (pss_one ps_never)
    pss_nil)), ?_⟩
  refine ⟨_, rfl, n, 1, 1000000000000000000000000000000, rfl, _, rfl, ?_⟩
  rw [decide_eq_true h1, decide_eq_true (show n ≤ 1000000000000000000000000000000 from h2)]
  exact q
end
end LT

namespace LT
open PySem PySem.Spec PyProof.Rows L2
theorem bits_nat (k : Nat) : Builtin.Int.intBits (k : Int) = if k = 0 then 0 else k.log2 + 1 := by
  unfold Builtin.Int.intBits
  by_cases h : k = 0
  · subst h; rfl
  · rw [if_neg h, if_neg (by simpa using h)]
    rfl
theorem bits_lb {m : Nat} (h : 1 ≤ m) : Builtin.Int.intBits ((m - 1 : Nat) : Int) = lb m := by
  rw [bits_nat]
  unfold lb
  by_cases k : m ≤ 1
  · rw [if_pos k, if_pos (by omega)]
  · rw [if_neg k, if_neg (by omega)]
theorem lb100 {m : Nat} (h : m ≤ 10 ^ 30) : lb m ≤ 100 := lb_le (Nat.le_trans h (by decide))
theorem fmod_of_dvd {a b : Nat} (h : a ∣ b) : Int.fmod (b : Int) (a : Int) = 0 := by
  rw [Int.fmod_eq_emod_of_nonneg _ (Int.natCast_nonneg _)]
  exact Int.emod_eq_zero_of_dvd (Int.natCast_dvd_natCast.mpr h)
end LT

namespace LT
open PySem PySem.Spec PyProof.Rows L2
section
variable {P : Program} {w : World} {K : PySem.W.Frag} {mg : Str → Option Value} {base : Heap}
def spPower : Sp := fun vs H Q _ => ∃ (k : Nat), vs = [.int k] ∧ 1 ≤ k ∧ k ≤ 10 ^ 30 ∧ Q (.int ((2 ^ k.log2 : Nat) : Int)) H
theorem ok_power_within {f : Addr} {fd : FuncData} (F : Fun K "power_within" "power_within" sPowerWithin f fd) : FnOk P w K mg base CX0 1 f fd ["number"] spPower := by
  refine F.ok scPowerWithin (fun vs H Q E h => ?_) (fun cdv A outer s H vs Q E hr h => ?_)
  · obtain ⟨_, rfl, _⟩ := h
    rfl
  obtain ⟨k, rfl, h1, h30, q⟩ := h
  refine ⟨_, (pss_one (ps_ret (pe_op op_shl pe_int (pe_op op_sub (pe_bits (pv 0)) pe_int)))), ?_⟩
  refine ⟨_, rfl, _, rfl, _, _, rfl, rfl, ?_⟩
  dsimp only
  have e : ((Builtin.Int.intBits (k : Int) : Nat) : Int) - 1 = ((k.log2 : Nat) : Int) := by
    rw [bits_nat, if_neg (by omega)]
    omega
  rw [e]
  have l100 : k.log2 < 100 := (Nat.log2_lt (by omega)).mpr (Nat.lt_of_le_of_lt h30 (by decide))
  refine ⟨_, _, rfl, rfl, ⟨Int.natCast_nonneg _, by omega, by decide⟩, ?_⟩
  have e2 : (1 : Int) * 2 ^ ((k.log2 : Nat) : Int).toNat = ((2 ^ k.log2 : Nat) : Int) := by rw [Int.one_mul, Int.toNat_natCast]; exact (Int.natCast_pow 2 _).symm
  show Q (.int ((1 : Int) * 2 ^ ((k.log2 : Nat) : Int).toNat)) H
  rw [e2]
  exact q
end
end LT

namespace LT
open PySem PySem.Spec PyProof.Rows L2
theorem log2_is {r h : Nat} (h1 : 2 ^ h ≤ r) (h2 : r < 2 ^ (h + 1)) : r.log2 = h := (Nat.log2_eq_iff (by have := Nat.pow_pos (a := 2) (n := h) (by decide); omega)).mpr ⟨h1, h2⟩
theorem pk_step : ∀ (i n b : Nat), n % 2 ^ i ≠ 0 → ∃ h, h < i ∧ pk i n b = (b, h) :: pk h n (b + 2 ^ h) ∧ n % 2 ^ i = 2 ^ h + n % 2 ^ h
  | 0, n, b, hr => by simp [Nat.mod_one] at hr
  | i + 1, n, b, hr => by
    rw [mod_succ] at hr
    by_cases t : n.testBit i = true
    · refine ⟨i, Nat.lt_succ_self i, ?_, by rw [mod_succ, if_pos t]⟩
      show (if n.testBit i = true then _ else _) = _
      rw [if_pos t]
    · rw [if_neg t, Nat.zero_add] at hr
      obtain ⟨h, h1, h2, h3⟩ := pk_step i n b hr
      refine ⟨h, by omega, ?_, by rw [mod_succ, if_neg t, Nat.zero_add]; exact h3⟩
      show (if n.testBit i = true then _ else _) = _
      rw [if_neg t]
      exact h2
section
variable {P : Program} {w : World} {K : PySem.W.Frag} {mg : Str → Option Value} {base : Heap}
def spTops : Sp := fun vs H Q _ => ∃ (n : Nat), vs = [.int n] ∧ 1 ≤ n ∧ n ≤ 10 ^ 30 ∧ ∀ (H' : Hp) (p : Addr) (xs : List V), Same H H' → H p = none → H' p = some (.lst xs) → All2 (Nd H') xs ((pk 101 n 0).map full) → Q (.ref p) H'
theorem ok_peaks {f g1 g2 : Addr} {fd d1 d2 : FuncData} (F : Fun K "peaks" "peaks" sPeaks f fd) (GCheckSize : FnOk P w K mg base CX0 3 g1 d1 ["size"] spCheckSize) (ACheckSize : At K mg "check_size" g1 d1 ["size"])
    (GPowerWithin : FnOk P w K mg base CX0 1 g2 d2 ["number"] spPower) (APowerWithin : At K mg "power_within" g2 d2 ["number"]) : FnOk P w K mg base CX0 4 f fd ["size"] spTops := by
  refine F.ok scPeaks (fun vs H Q E h => ?_) (fun cdv A outer s H vs Q E hr h => ?_)
  · obtain ⟨_, rfl, _⟩ := h
    rfl
  obtain ⟨n, rfl, h1, h30, q⟩ := h
  refine ⟨_, (pss_cons (ps_expr (pe_call GCheckSize (hr.mono (by decide)) rfl ACheckSize.m ACheckSize.kp ACheckSize.b .nil pass0 (pa_cons (pv 0) pa_nil)))
    (pss_cons (ps_set (i := 1) scPeaks.nd rfl (Or.inl rfl) (pe_lst pa_nil))
    (pss_cons (ps_set (i := 2) scPeaks.nd rfl (Or.inl rfl) pe_int)
    (pss_cons (ps_while PassesOwn.never (pt_cmpR op_lt (pv 2) (pv 0) (nomark _))
    (pss_cons (ps_set (i := 3) scPeaks.nd rfl (Or.inl rfl) (pe_op op_add (pv 2) (pe_call GPowerWithin (hr.mono (by decide)) rfl APowerWithin.m APowerWithin.kp APowerWithin.b .nil pass0 (pa_cons (pe_op op_sub (pv 0) (pv 2)) pa_nil))))
    (pss_cons (ps_expr (pe_bm PySem.F.plainAttrs_list PySem.F.slot_list_append PySem.F.type_list_append mt_append (pv 1) (pa_cons (pe_tup (pa_cons (pv 2) (pa_cons (pv 3) pa_nil))) pa_nil)))
    (pss_one (ps_set (i := 2) scPeaks.nd rfl (Or.inl rfl) (pv 3))))))
    (pss_one (ps_ret (pv 1))))))), ?_⟩
  refine ⟨_, rfl, n, rfl, by omega, by omega, ?_⟩
  refine ⟨Nat.zero_le _, fun fa nf => ?_⟩
  have nm : n % 2 ^ 101 = n := Nat.mod_eq_of_lt (Nat.lt_of_le_of_lt h30 (by decide))
  refine ⟨fun mu σ H' => ∃ (i b : Nat) (v3 : Option V) (xs : List V) (done : List (Nat × Nat)), σ = [some (.int n), some (.ref fa), some (.int b), v3] ∧ Same H H' ∧ H' fa = some (.lst xs) ∧ All2 (Nd H') xs (done.map full) ∧ done ++ pk i n b = pk 101 n 0 ∧ b + n % 2 ^ i = n ∧ mu = n - b,
    ⟨n, 101, 0, none, [], [], rfl, same_upd nf, upd_same, .nil, rfl, by omega, by omega⟩, ?_⟩
  rintro m σ H1 ⟨i, b, v3, xs, done, rfl, sm, hf, hx, hd, hb, rfl⟩
  refine ⟨_, rfl, _, rfl, _, _, rfl, rfl, _, rfl, ite2 (fun c => ?_) (fun c => ?_)⟩
  · have c1 : (b : Int) < (n : Int) := of_decide_eq_true c
    obtain ⟨h, hi, hp, hm⟩ := pk_step i n b (by omega)
    have ph := Nat.pow_pos (a := 2) (n := h) (by decide)
    have lh : (n - b).log2 = h := log2_is (by omega) (by have := Nat.mod_lt n ph; rw [Nat.pow_succ]; omega)
    have dl : done.length ≤ 101 := by
      have k1 := congrArg List.length hd
      rw [List.length_append] at k1
      have k2 := pk_len 101 n 0
      omega
    refine ⟨fun σ' H' => ∃ mu, mu < n - b ∧ ∃ (i b : Nat) (v3 : Option V) (xs : List V) (done : List (Nat × Nat)), σ' = [some (.int n), some (.ref fa), some (.int b), v3] ∧ Same H H' ∧ H' fa = some (.lst xs) ∧ All2 (Nd H') xs (done.map full) ∧ done ++ pk i n b = pk 101 n 0 ∧ b + n % 2 ^ i = n ∧ mu = n - b, fun σ' H' h => h, ?_⟩
    have e1 : (n : Int) - (b : Int) = ((n - b : Nat) : Int) := by omega
    refine ⟨_, rfl, _, rfl, _, rfl, _, _, rfl, rfl, n - b, congrArg (fun z => [V.int z]) e1, by omega, by omega, _, _, rfl, rfl, ?_⟩
    have e2 : (b : Int) + ((2 ^ (n - b).log2 : Nat) : Int) = ((b + 2 ^ h : Nat) : Int) := by rw [lh]; omega
    dsimp only
    rw [e2]
    refine ⟨_, rfl, .inl ⟨rfl, _, SqL.of hf⟩, _, rfl, _, rfl, (by show 2 ≤ sizeLine; decide), fun t nt => ?_⟩
    have s1 := same_upd (o := .tup [.int (b : Int), .int ((b + 2 ^ h : Nat) : Int)]) nt
    have hf1 := s1 _ _ hf
    refine ⟨fa, _, _, rfl, rfl, hf1, szlt (by rw [hx.len, List.length_map]; omega), ?_⟩
    refine ⟨_, rfl, ?_⟩
    refine ⟨n - (b + 2 ^ h), by omega, h, b + 2 ^ h, _, xs ++ [.ref t], done ++ [(b, h)], rfl, ?_, upd_same, ?_, ?_, by omega, rfl⟩
    · exact fun a o k => by rw [upd_ne (ne_of_none k nf)]; exact s1 _ _ (sm _ _ k)
    · rw [List.map_append]
      refine (hx.mono (fun v x (k : Nd H1 v x) => (k.same s1).upd hf1)).app (.cons ?_ .nil)
      exact Nd.upd (x := full (b, h)) ⟨t, rfl, upd_same⟩ hf1
    · rw [← hd, hp, List.append_assoc]
      rfl
  · have c1 : ¬ (b : Int) < (n : Int) := of_decide_eq_false (Bool.eq_false_iff.mpr c)
    rw [pk_nil i n b (by omega), List.append_nil] at hd
    rw [hd] at hx
    exact ⟨_, rfl, q H1 fa xs sm nf hf hx⟩
end
end LT

namespace LT
open PySem PySem.Spec PyProof.Rows L2
theorem cut_last (xs : List V) : cutV xs none (some (-1)) = xs.dropLast := by
  unfold cutV
  have e : HT.sIx xs.length xs.length (some (-1)) = xs.length - 1 := by
    show (if (-1 : Int) < 0 then ((-1 : Int) + (xs.length : Int)).toNat else min (-1 : Int).toNat xs.length) = _
    rw [if_pos (by decide)]
    omega
  rw [e, HT.sIx_none, List.drop_zero, Nat.sub_zero, List.dropLast_eq_take]
theorem All2.droplast {α : Type} {R : V → α → Prop} : ∀ {vs : List V} {xs : List α}, All2 R vs xs → All2 R vs.dropLast xs.dropLast
  | _, _, .nil => .nil
  | _, _, .cons _ .nil => .nil
  | _, _, .cons h (.cons k t) => .cons h (All2.droplast (.cons k t))
section
variable {P : Program} {w : World} {K : PySem.W.Frag} {mg : Str → Option Value} {base : Heap}
def spEdges : Sp := fun vs H Q _ => ∃ (n : Nat), vs = [.int n] ∧ 1 ≤ n ∧ n ≤ 10 ^ 30 ∧ ∀ (H' : Hp) (p : Addr) (xs : List V), Same H H' → H p = none → H' p = some (.lst xs) → All2 (Nd H') xs (((pk 101 n 0).map full).dropLast.map fun x => (x.1, n)) → Q (.ref p) H'
theorem ok_edges {f g1 : Addr} {fd d1 : FuncData} (F : Fun K "edges" "edges" sEdges f fd) (GPeaks : FnOk P w K mg base CX0 4 g1 d1 ["size"] spTops) (APeaks : At K mg "peaks" g1 d1 ["size"]) : FnOk P w K mg base CX0 5 f fd ["size"] spEdges := by
  refine F.ok scEdges (fun vs H Q E h => ?_) (fun cdv A outer s H vs Q E hr h => ?_)
  · obtain ⟨_, rfl, _⟩ := h
    rfl
  obtain ⟨n, rfl, h1, h30, q⟩ := h
  refine ⟨_, (pss_one (ps_ret (pe_lc (own := [("begin", 1), ("_", 2)]) rfl scEdges.nd (pi_list (pe_slice sl_list (pe_call GPeaks (hr.mono (by decide)) rfl APeaks.m APeaks.kp APeaks.b .nil pass0 (pa_cons (pv 0) pa_nil)) po_none (po_some (pe_un un_neg pe_int)))) (blkOk_by (N := ["size", "begin", "_"]) (sc := defScope sEdges) (by decide +kernel)) (fun _ _ _ _ _ => (pg_tupB (n := 2) rfl (pgs_cons (pg_name (i := 1) scEdges.nd rfl (Or.inl rfl)) (pgs_cons (pg_name (i := 2) scEdges.nd rfl (Or.inl rfl)) pgs_nil)))) (fun _ _ _ _ _ => pts_nil) (fun _ _ _ _ _ => (pe_tup (pa_cons (pv 1) (pa_cons (pv 0) pa_nil))))))), ?_⟩
  refine ⟨_, rfl, n, rfl, h1, h30, fun H1 p xs sm np hp hx => ?_⟩
  have L101 : ((pk 101 n 0).map full).length ≤ 101 := by rw [List.length_map]; exact pk_len 101 n 0
  generalize (pk 101 n 0).map full = L at q hx L101
  refine ⟨1, rfl, -1, rfl, p, _, rfl, SqL.of hp, fun c nc => ?_⟩
  have sc := same_upd (o := .lst (cutV xs none (some (-1)))) nc
  have hc : (upd H1 c (.lst (cutV xs none (some (-1))))) c = some (.lst xs.dropLast) := by rw [upd_same, cut_last]
  have hx1 := (hx.mono (fun v x (k : Nd H1 v x) => k.same sc)).droplast
  generalize upd H1 c (.lst (cutV xs none (some (-1)))) = H2 at hc hx1 sc
  refine ⟨c, rfl, ⟨_, SqL.of hc⟩, fun D nD => lc_list (xs := xs.dropLast) (fun i H' => ∃ ys : List V, Same H2 H' ∧ H' D = some (.lst ys) ∧ All2 (Nd H') ys ((L.dropLast.take i).map fun x => (x.1, n))) ⟨[], same_upd nD, upd_same, .nil⟩ (fun i H' _ ⟨_, k, _⟩ => SqL.of (k _ _ hc)) ?_ ?_⟩
  · rintro i x H3 hi ⟨ys, s3, hD, hy3⟩
    obtain ⟨y, hy, xp, rfl, hxp⟩ := hx1.nth hi
    have il : i < L.dropLast.length := (List.getElem?_eq_some_iff.mp hy).1
    rw [List.length_dropLast] at il
    refine ⟨xp, _, rfl, SqT.of (s3 _ _ hxp), rfl, _, _, rfl, _, _, rfl, rfl, rfl, ?_⟩
    refine ⟨_, rfl, _, rfl, (by show 2 ≤ sizeLine; decide), fun t nt => ?_⟩
    have st := same_upd (o := .tup [.int (y.1 : Int), .int (n : Int)]) nt
    refine ⟨ys, st _ _ hD, szlt (by rw [hy3.len, List.length_map, List.length_take, List.length_dropLast]; omega), ys ++ [.ref t], ?_, upd_same, ?_⟩
    · exact fun a o k => by rw [upd_ne (ne_of_none k nD)]; exact st _ _ (s3 _ _ k)
    · rw [take_more hy, List.map_append]
      exact (hy3.mono (fun v x (k : Nd H3 v x) => (k.same st).upd (st _ _ hD))).app (.cons (Nd.upd (x := (y.1, n)) ⟨t, rfl, upd_same⟩ (st _ _ hD)) .nil)
  rintro H3 ⟨ys, s3, hD, hy3⟩
  have et : L.dropLast.take xs.dropLast.length = L.dropLast := List.take_of_length_le (by rw [hx1.len]; exact Nat.le_refl _)
  rw [et] at hy3
  refine q H3 D ys (sm.trans (sc.trans s3)) ?_ hD hy3
  exact (sm.trans sc).free nD
end
end LT

namespace LT
open PySem PySem.Spec PyProof.Rows L2
theorem fm0 (x : Int) {m : Int} (h : 0 < m) : 0 ≤ x.fmod m := by
  rw [Int.fmod_eq_emod_of_nonneg _ (by omega)]
  exact Int.emod_nonneg _ (by omega)
theorem fm1 (x : Int) {m : Int} (h : 0 < m) : x.fmod m < m := by
  rw [Int.fmod_eq_emod_of_nonneg _ (by omega)]
  exact Int.emod_lt_of_pos _ h
def CPowW (i j : Int) : Prop := 0 ≤ j ∧ (Builtin.Int.intBits i : Int) * j ≤ 2 ^ 27
theorem op_powW {X : Cx} : OpR X (binaryOp .Pow) (rI CPowW fun i j => .int (i ^ j.toNat)) := opI fun _ _ _ _ _ _ _ hc q => pow_int hc.1 hc.2 q
theorem intBits_le {i : Int} {k : Nat} (h : i.natAbs < 2 ^ k) : Builtin.Int.intBits i ≤ k := by
  unfold Builtin.Int.intBits
  split
  · omega
  · rename_i c
    have : i.natAbs ≠ 0 := by simpa using c
    have := (Nat.log2_lt this).mpr h
    omega
theorem powW3 {i : Int} (h : i.natAbs < 2 ^ 1000) : CPowW i 3 := by
  have := intBits_le h
  refine ⟨by decide, ?_⟩
  omega
/-- a reel: three ints, the last one a count -/
def ReelAt (H : Hp) (b : Addr) (c : Nat) : Prop := ∃ x y z : Int, H b = some (.lst [.int x, .int y, .int z]) ∧ y.natAbs < 2 ^ 200 ∧ 0 ≤ z ∧ z ≤ c
theorem ReelAt.same {H H' : Hp} {b : Addr} {c : Nat} (h : ReelAt H b c) (s : Same H H') : ReelAt H' b c := by
  obtain ⟨x, y, z, e, r⟩ := h
  exact ⟨x, y, z, s _ _ e, r⟩
theorem ReelAt.mono {H : Hp} {b : Addr} {c d : Nat} (h : ReelAt H b c) (k : c ≤ d) : ReelAt H b d := by
  obtain ⟨x, y, z, e, r1, r2, r3⟩ := h
  exact ⟨x, y, z, e, r1, r2, by omega⟩
theorem ReelAt.ne {H : Hp} {b p : Addr} {c : Nat} (h : ReelAt H b c) (n : H p = none) : p ≠ b := fun z => by
  obtain ⟨_, _, _, e, _⟩ := h
  rw [← z, n] at e
  cases e
theorem ReelAt.upd {H : Hp} {b p : Addr} {c : Nat} {o : HO} (h : ReelAt H b c) (n : p ≠ b) : ReelAt (upd H p o) b c := by
  obtain ⟨x, y, z, e, r⟩ := h
  exact ⟨x, y, z, by rw [upd_ne (fun z => n z.symm)]; exact e, r⟩
section
variable {P : Program} {w : World} {K : PySem.W.Frag} {mg : Str → Option Value} {base : Heap}
def spWound (K : PySem.W.Frag) : Sp := fun vs H Q _ => ∃ (a : Addr) (ns : List Int) (k : Nat), vs = [.ref a, .int k] ∧ SqL K H a (ns.map V.int) ∧ k ≤ 63 ∧ ∀ (H' : Hp) (p : Addr), Same H H' → H p = none → ReelAt H' p 0 → Q (.ref p) H'
theorem ok_law_wound {f : Addr} {fd : FuncData} (F : Fun K "_law_wound" "_law_wound" sLawWound f fd) (z_max : mg "max" = none) (z_len : mg "len" = none) (z_int : mg "int" = none) : FnOk P w K mg base CX0 1 f fd ["script", "k"] (spWound K) := by
  refine F.ok scLawWound (fun vs H Q E h => ?_) (fun cdv A outer s H vs Q E hr h => ?_)
  · obtain ⟨_, _, _, rfl, _⟩ := h
    rfl
  obtain ⟨a, ns, k, rfl, hS, hk, q⟩ := h
  refine ⟨_, (pss_cons (ps_set (i := 2) scLawWound.nd rfl (Or.inl rfl) pe_int)
    (pss_cons (ps_if (pt_cmpR op_lt (pv 1) (pe_callB call_len_seq (by rfl) z_len PySem.boot_len (pa_cons (pv 0) pa_nil)) (nomark _))
    (pss_one (ps_set (i := 2) scLawWound.nd rfl (Or.inl rfl) (pe_ix ix_list (pv 0) (pv 1) (fun _ _ => rfl))))
    pss_nil)
    (pss_one (ps_ret (pe_lst (pa_cons (pe_callB (call_max2 rfl) (by rfl) z_max (by decide +kernel) (pa_cons pe_int (pa_cons (pe_op op_sub (pv 2) (pe_op op_pow pe_int pe_int)) pa_nil))) (pa_cons (pe_op op_add (pe_op op_add (pe_op op_mul (pe_op op_modN (pe_callTy call_int1 (by rfl) z_int (by decide +kernel) (pa_cons (pv 2) pa_nil)) (pe_op op_add (pe_op op_pow pe_int pe_int) pe_int)) pe_int) (pe_op op_mul pe_int (pv 1))) pe_int) (pa_cons pe_int pa_nil)))))))), ?_⟩
  have fin : ∀ (cell : Int), Q (.ref 0) H → True := fun _ _ => trivial
  refine ⟨_, rfl, _, rfl, a, _, rfl, .inl hS, _, _, rfl, rfl, _, rfl, ite2 (fun c => ?_) (fun c => ?_)⟩
  · have c1 : (k : Int) < ((ns.map V.int).length : Int) := of_decide_eq_true c
    have c2 : k < (ns.map V.int).length := by omega
    have c3 : k < ns.length := by rw [List.length_map] at c2; exact c2
    have e : (ns.map V.int)[k]? = some (.int ns[k]) := by rw [List.getElem?_map, List.getElem?_eq_getElem c3]; rfl
    generalize ns[k] = cell at e
    refine ⟨_, rfl, _, rfl, a, _, _, _, rfl, rfl, hS, atI_nat e, ?_⟩
    refine ⟨_, rfl, _, _, rfl, rfl, ⟨by decide, by decide, by decide⟩, _, _, rfl, rfl, _, _, rfl, _, rfl, .inl ⟨_, rfl, _, _, rfl, rfl, ⟨by decide, by decide, by decide⟩, _, _, rfl, rfl, _, _, rfl, rfl, (by show (10 ^ (38 : Int).toNat + 133 : Int) ≠ 0; decide), _, _, rfl, rfl, .inr ⟨by decide, by decide⟩, _, rfl, _, _, rfl, rfl, .inl ⟨by decide, by decide⟩, _, _, rfl, rfl, _, _, rfl, rfl, (by show 3 ≤ sizeLine; decide), fun p np => ?_⟩⟩
    have f0 := fm0 cell (m := 10 ^ (38 : Int).toNat + 133) (by decide)
    have f1 := fm1 cell (m := 10 ^ (38 : Int).toNat + 133) (by decide)
    have e10 : (10 : Int) ^ (38 : Int).toNat = 100000000000000000000000000000000000000 := by decide
    rw [e10] at f0 f1
    refine q _ p (same_upd np) np ⟨_, _, _, upd_same, ?_, by decide, by decide⟩
    rw [e10]
    generalize cell.fmod (100000000000000000000000000000000000000 + 133) = z at f0 f1
    omega
  · refine ⟨_, rfl, _, _, rfl, rfl, ⟨by decide, by decide, by decide⟩, _, _, rfl, rfl, _, _, rfl, _, rfl, .inl ⟨_, rfl, _, _, rfl, rfl, ⟨by decide, by decide, by decide⟩, _, _, rfl, rfl, _, _, rfl, rfl, (by show (10 ^ (38 : Int).toNat + 133 : Int) ≠ 0; decide), _, _, rfl, rfl, .inr ⟨by decide, by decide⟩, _, rfl, _, _, rfl, rfl, .inl ⟨by decide, by decide⟩, _, _, rfl, rfl, _, _, rfl, rfl, (by show 3 ≤ sizeLine; decide), fun p np => ?_⟩⟩
    have f0 := fm0 0 (m := 10 ^ (38 : Int).toNat + 133) (by decide)
    have f1 := fm1 0 (m := 10 ^ (38 : Int).toNat + 133) (by decide)
    have e10 : (10 : Int) ^ (38 : Int).toNat = 100000000000000000000000000000000000000 := by decide
    rw [e10] at f0 f1
    refine q _ p (same_upd np) np ⟨_, _, _, upd_same, ?_, by decide, by decide⟩
    rw [e10]
    generalize (0 : Int).fmod (100000000000000000000000000000000000000 + 133) = z at f0 f1
    omega
def spSpin : Sp := fun vs H Q _ => ∃ (b : Addr) (many : Int) (c : Nat), vs = [.ref b, .int many] ∧ 0 < many ∧ many.natAbs < 2 ^ 250 ∧ ReelAt H b c ∧ c ≤ 10 ^ 9 ∧
  ∀ (r : Nat) (H' : Hp), (r : Int) < many → (∀ a, a ≠ b → H' a = H a) → ReelAt H' b (c + 1) → Q (.int r) H'
theorem ok_law_spin {f : Addr} {fd : FuncData} (F : Fun K "_law_spin" "_law_spin" sLawSpin f fd) (z_int : mg "int" = none) : FnOk P w K mg base CX0 1 f fd ["reel", "many"] spSpin := by
  refine F.ok scLawSpin (fun vs H Q E h => ?_) (fun cdv A outer s H vs Q E hr h => ?_)
  · obtain ⟨_, _, _, rfl, _⟩ := h
    rfl
  obtain ⟨b, many, cn, rfl, hm, hm2, ⟨x, y, z, h0, hy, z0, zc⟩, hc, q0⟩ := h
  have q : ∀ (i : Int) (H' : Hp), (∀ a, a ≠ b → H' a = H a) → ReelAt H' b (cn + 1) → Q (.int (i.fmod many)) H' := fun i H' k1 k2 => by
    have a0 := fm0 i hm
    have a1 := fm1 i hm
    obtain ⟨r, e⟩ := Int.eq_ofNat_of_zero_le a0
    rw [e] at a1 ⊢
    exact q0 r H' a1 k1 k2
  refine ⟨_, (pss_cons (ps_if (pt_cmpR op_gt (pe_ix ix_list (pv 0) pe_int (fun _ _ => rfl)) pe_int (nomark _))
    (pss_cons (ps_set (i := 2) scLawSpin.nd rfl (Or.inl rfl) (pe_op op_modN (pe_callTy call_int1 (by rfl) z_int (by decide +kernel) (pa_cons (pe_ix ix_list (pv 0) pe_int (fun _ _ => rfl)) pa_nil)) (pv 1)))
    (pss_cons (ps_asg (pe_op op_fdivW (pe_ix ix_list (pv 0) pe_int (fun _ _ => rfl)) (pv 1)) (pg_sub (pv 0) pe_int set_list))
    (pss_one (ps_ret (pv 2)))))
    pss_nil)
    (pss_cons (ps_asg (pe_op op_add (pe_ix ix_list (pv 0) pe_int (fun _ _ => rfl)) pe_int) (pg_sub (pv 0) pe_int set_list))
    (pss_cons (ps_set (i := 3) scLawSpin.nd rfl (Or.inl rfl) (pe_op op_modN (pe_callTy call_int1 (by rfl) z_int (by decide +kernel) (pa_cons (pe_op op_powW (pe_op op_add (pe_ix ix_list (pv 0) pe_int (fun _ _ => rfl)) (pe_op op_mul pe_int (pe_ix ix_list (pv 0) pe_int (fun _ _ => rfl)))) pe_int) pa_nil)) (pe_op op_add (pe_op op_pow pe_int pe_int) pe_int)))
    (pss_cons (ps_set (i := 3) scLawSpin.nd rfl (Or.inl rfl) (pe_op op_modN (pe_callTy call_int1 (by rfl) z_int (by decide +kernel) (pa_cons (pe_op op_powW (pe_op op_add (pv 3) (pe_op op_mul pe_int (pe_ix ix_list (pv 0) pe_int (fun _ _ => rfl)))) pe_int) pa_nil)) (pe_op op_add (pe_op op_pow pe_int pe_int) pe_int)))
    (pss_one (ps_ret (pe_op op_modN (pe_callTy call_int1 (by rfl) z_int (by decide +kernel) (pa_cons (pe_op op_fdivW (pv 3) pe_int) pa_nil)) (pv 1)))))))), ?_⟩
  refine ⟨_, rfl, b, _, _, _, rfl, rfl, SqL.of h0, atI_nat (j := 0) rfl, _, _, rfl, rfl, _, rfl, ite2 (fun c => ?_) (fun c => ?_)⟩
  · refine ⟨_, rfl, b, _, _, _, rfl, rfl, SqL.of h0, atI_nat (j := 0) rfl, .inl ⟨_, rfl, _, rfl, _, _, rfl, rfl, by omega, ?_⟩⟩
    refine ⟨_, rfl, b, _, _, _, rfl, rfl, SqL.of h0, atI_nat (j := 0) rfl, _, rfl, _, _, rfl, rfl, wide_div hm hm2 (by decide) (by decide), _, rfl, b, _, _, 0, rfl, rfl, h0, rfl, ?_⟩
    refine ⟨_, rfl, ?_⟩
    exact q x _ (fun a ha => upd_ne ha) ⟨_, y, z, upd_same, hy, z0, by omega⟩
  · refine ⟨_, rfl, b, _, _, _, rfl, rfl, SqL.of h0, atI_nat (j := 2) rfl, _, _, rfl, rfl, _, rfl, b, _, _, 2, rfl, rfl, h0, rfl, ?_⟩
    dsimp only
    have h1 : (upd H b (.lst ([.int x, .int y, .int z].set 2 (.int (z + 1))))) b = some (.lst [.int x, .int y, .int (z + 1)]) := upd_same
    have k1 : ∀ a, a ≠ b → (upd H b (.lst ([.int x, .int y, .int z].set 2 (.int (z + 1))))) a = H a := fun a ha => upd_ne ha
    generalize upd H b (.lst ([.int x, .int y, .int z].set 2 (.int (z + 1)))) = H1 at h1 k1
    refine ⟨_, rfl, b, _, _, _, rfl, rfl, SqL.of h1, atI_nat (j := 1) rfl, _, rfl, b, _, _, _, rfl, rfl, SqL.of h1, atI_nat (j := 2) rfl, _, _, rfl, rfl, .inl ⟨by decide, by decide⟩, _, _, rfl, rfl, _, _, rfl, rfl, powW3 (by omega), .inl ⟨_, rfl, _, _, rfl, rfl, ⟨by decide, by decide, by decide⟩, _, _, rfl, rfl, _, _, rfl, rfl, (by show (10 ^ (42 : Int).toNat + 63 : Int) ≠ 0; decide), ?_⟩⟩
    dsimp only
    have e10 : (10 : Int) ^ (42 : Int).toNat = 1000000000000000000000000000000000000000000 := by decide
    rw [e10]
    have a0 := fm0 ((y + 86028121 * (z + 1)) ^ (3 : Int).toNat) (m := 1000000000000000000000000000000000000000000 + 63) (by decide)
    have a1 := fm1 ((y + 86028121 * (z + 1)) ^ (3 : Int).toNat) (m := 1000000000000000000000000000000000000000000 + 63) (by decide)
    generalize ((y + 86028121 * (z + 1)) ^ (3 : Int).toNat).fmod (1000000000000000000000000000000000000000000 + 63) = mi at a0 a1
    refine ⟨_, rfl, _, rfl, b, _, _, _, rfl, rfl, SqL.of h1, atI_nat (j := 2) rfl, _, _, rfl, rfl, .inl ⟨by decide, by decide⟩, _, _, rfl, rfl, _, _, rfl, rfl, powW3 (by omega), .inl ⟨_, rfl, _, _, rfl, rfl, ⟨by decide, by decide, by decide⟩, _, _, rfl, rfl, _, _, rfl, rfl, (by show (10 ^ (44 : Int).toNat + 57 : Int) ≠ 0; decide), ?_⟩⟩
    dsimp only
    generalize ((mi + 67867967 * (z + 1)) ^ (3 : Int).toNat).fmod (10 ^ (44 : Int).toNat + 57) = mj
    refine ⟨_, rfl, _, _, rfl, rfl, wide_div (by decide) (b := 20) (by decide) (by decide) (by decide), .inl ⟨_, rfl, _, rfl, _, _, rfl, rfl, by omega, ?_⟩⟩
    exact q _ _ k1 ⟨_, _, _, h1, hy, by omega, by omega⟩
end
end LT

namespace LT
open PySem PySem.Spec PyProof.Rows L2
section
variable {P : Program} {w : World} {K : PySem.W.Frag} {mg : Str → Option Value} {base : Heap}
theorem shl_nat (k : Nat) : (1 : Int) * 2 ^ ((k : Nat) : Int).toNat = ((2 ^ k : Nat) : Int) := by rw [Int.one_mul, Int.toNat_natCast]; exact (Int.natCast_pow 2 k).symm
def spDrawnSize : Sp := fun vs H Q _ => ∃ (b : Addr) (c : Nat), vs = [.ref b] ∧ ReelAt H b c ∧ c ≤ 10 ^ 8 ∧
  ∀ (n : Nat) (H' : Hp), 1 ≤ n → n ≤ 10 ^ 30 → But b H H' → ReelAt H' b (c + 5) → Q (.int n) H'
theorem ok_law_drawn_size {f g1 : Addr} {fd d1 : FuncData} (F : Fun K "_law_drawn_size" "_law_drawn_size" sLawDrawnSize f fd) (GLawSpin : FnOk P w K mg base CX0 1 g1 d1 ["reel", "many"] spSpin) (ALawSpin : At K mg "_law_spin" g1 d1 ["reel", "many"]) (z_min : mg "min" = none) (z_int : mg "int" = none) :
    FnOk P w K mg base CX0 2 f fd ["reel"] spDrawnSize := by
  refine F.ok scLawDrawnSize (fun vs H Q E h => ?_) (fun cdv A outer s H vs Q E hr h => ?_)
  · obtain ⟨_, _, rfl, _⟩ := h
    rfl
  obtain ⟨b, c, rfl, hb, hc, q⟩ := h
  refine ⟨_, (pss_cons (ps_par (i := 1) (j := 2) (by rfl) scLawDrawnSize.nd rfl rfl (by decide) rfl rfl (pa_cons (pe_call GLawSpin (hr.mono (by decide)) rfl ALawSpin.m ALawSpin.kp ALawSpin.b .nil pass0 (pa_cons (pv 0) (pa_cons pe_int pa_nil))) (pa_cons (pe_call GLawSpin (hr.mono (by decide)) rfl ALawSpin.m ALawSpin.kp ALawSpin.b .nil pass0 (pa_cons (pv 0) (pa_cons pe_int pa_nil))) pa_nil)) (by rfl))
    (pss_cons (ps_set (i := 3) scLawDrawnSize.nd rfl (Or.inl rfl) (pe_lst (pa_cons (pe_op op_add pe_int (pe_call GLawSpin (hr.mono (by decide)) rfl ALawSpin.m ALawSpin.kp ALawSpin.b .nil pass0 (pa_cons (pv 0) (pa_cons (pe_op op_pow pe_int pe_int) pa_nil)))) (pa_cons (pe_op op_add (pe_op op_shl pe_int (pv 1)) (pe_op op_shl pe_int (pv 2))) (pa_cons (pe_op op_sub (pe_op op_shl pe_int (pe_op op_add (pv 1) pe_int)) pe_int) pa_nil)))))
    (pss_cons (ps_set (i := 3) scLawDrawnSize.nd rfl (Or.inl rfl) (pe_op op_cat (pv 3) (pe_lst (pa_cons (pe_op op_add (pe_op op_sub (pe_op op_sub (pe_op op_shl pe_int (pe_op op_add (pv 1) pe_int)) pe_int) (pe_op op_shl pe_int (pe_callB (call_min2 rfl) (by rfl) z_min (by decide +kernel) (pa_cons (pv 1) (pa_cons (pv 2) pa_nil))))) (pe_callTy call_int1 (by rfl) z_int (by decide +kernel) (pa_cons (pe_cmpR op_eq (pv 1) pe_int (nomark _)) pa_nil))) (pa_cons (pe_op op_add pe_int (pe_call GLawSpin (hr.mono (by decide)) rfl ALawSpin.m ALawSpin.kp ALawSpin.b .nil pass0 (pa_cons (pv 0) (pa_cons pe_int pa_nil)))) pa_nil)))))
    (pss_one (ps_ret (pe_ix ix_list (pv 3) (pe_call GLawSpin (hr.mono (by decide)) rfl ALawSpin.m ALawSpin.kp ALawSpin.b .nil pass0 (pa_cons (pv 0) (pa_cons pe_int pa_nil))) (fun _ _ => rfl))))))), ?_⟩
  refine ⟨_, rfl, b, 99, c, rfl, by decide, by decide, hb, by omega, fun pw H1 p1 k1 b1 => ?_⟩
  refine ⟨_, rfl, b, 99, _, rfl, by decide, by decide, b1, by omega, fun ot H2 o1 k2 b2 => ?_⟩
  refine ⟨_, _, rfl, ?_⟩
  have B2 : But b H H2 := fun a o n h => by rw [k2 a n, k1 a n]; exact h
  refine ⟨_, rfl, _, _, rfl, rfl, ⟨by decide, by decide, by decide⟩, b, _, _, rfl, by decide, by decide, b2, by omega, fun r3 H3 r31 k3 b3 => ?_⟩
  have B3 : But b H H3 := fun a o n h => by rw [k3 a n]; exact B2 a o n h
  refine ⟨_, _, rfl, rfl, ?_⟩
  refine ⟨_, rfl, _, _, rfl, rfl, ⟨Int.natCast_nonneg _, by omega, by decide⟩, _, rfl, _, _, rfl, rfl, ⟨Int.natCast_nonneg _, by omega, by decide⟩, _, _, rfl, rfl, ?_⟩
  refine ⟨_, rfl, _, _, rfl, rfl, _, _, rfl, rfl, ⟨by omega, by omega, by decide⟩, _, _, rfl, rfl, (by show 3 ≤ sizeLine; decide), fun l nl => ?_⟩
  dsimp only
  have ep : (pw : Int) + 1 = ((pw + 1 : Nat) : Int) := by omega
  rw [ep, shl_nat, shl_nat, shl_nat]
  have p0 := Nat.pow_pos (a := 2) (n := pw) (by decide)
  have q0 := Nat.pow_pos (a := 2) (n := ot) (by decide)
  have pb : 2 ^ pw ≤ 2 ^ 98 := Nat.pow_le_pow_right (by decide) (by omega)
  have qb : 2 ^ ot ≤ 2 ^ 98 := Nat.pow_le_pow_right (by decide) (by omega)
  have ps : 2 ^ (pw + 1) = 2 * 2 ^ pw := by rw [Nat.pow_succ]; omega
  have lb_ : l ≠ b := b3.ne nl
  have s4 := same_upd (o := .lst [.int (1 + (r3 : Int)), .int (((2 ^ pw : Nat) : Int) + ((2 ^ ot : Nat) : Int)), .int (((2 ^ (pw + 1) : Nat) : Int) - 1)]) nl
  have h4 : (upd H3 l (.lst [.int (1 + (r3 : Int)), .int (((2 ^ pw : Nat) : Int) + ((2 ^ ot : Nat) : Int)), .int (((2 ^ (pw + 1) : Nat) : Int) - 1)])) l = some (.lst [.int (1 + (r3 : Int)), .int (((2 ^ pw : Nat) : Int) + ((2 ^ ot : Nat) : Int)), .int (((2 ^ (pw + 1) : Nat) : Int) - 1)]) := upd_same
  have B4 := B3.trans (But.of (b := b) s4)
  have b4 := b3.same s4
  generalize upd H3 l (.lst [.int (1 + (r3 : Int)), .int (((2 ^ pw : Nat) : Int) + ((2 ^ ot : Nat) : Int)), .int (((2 ^ (pw + 1) : Nat) : Int) - 1)]) = H4 at h4 B4 b4
  have em : (if (ot : Int) < (pw : Int) then (ot : Int) else (pw : Int)) = ((min pw ot : Nat) : Int) := by split <;> omega
  have mb : 2 ^ (min pw ot) ≤ 2 ^ pw := Nat.pow_le_pow_right (by decide) (by omega)
  have m0 := Nat.pow_pos (a := 2) (n := min pw ot) (by decide)
  refine ⟨_, rfl, _, rfl, _, _, rfl, rfl, _, _, rfl, rfl, ⟨by omega, by omega, by decide⟩, _, _, rfl, rfl, _, rfl, _, rfl, _, _, rfl, ?_⟩
  rw [em]
  refine ⟨_, _, rfl, rfl, ⟨Int.natCast_nonneg _, by omega, by decide⟩, _, _, rfl, rfl, _, rfl, rfl, .inr ⟨_, rfl, _, _, rfl, rfl, ?_⟩⟩
  dsimp only
  rw [ep, shl_nat, shl_nat]
  refine ⟨_, rfl, b, 99, _, rfl, by decide, by decide, b4, by omega, fun r5 H5 r51 k5 b5 => ⟨_, _, rfl, rfl, (by show 2 ≤ sizeLine; decide), fun l2 n2 => ?_⟩⟩
  have B5 : But b H H5 := fun a o n h => by rw [k5 a n]; exact B4 a o n h
  have h5 : H5 l = some _ := (k5 l lb_).trans h4
  have s6 := same_upd (o := .lst [.int (((2 ^ (pw + 1) : Nat) : Int) - 1 - ((2 ^ min pw ot : Nat) : Int) + if decide ((V.int (pw : Int)) = V.int 0) = true then 1 else 0), .int (1 + (r5 : Int))]) n2
  refine ⟨l, l2, _, _, rfl, rfl, s6 _ _ h5, upd_same, (by show 3 + 2 ≤ sizeLine; decide), fun l3 n3 => ?_⟩
  have s7 := same_upd (o := .lst ([.int (1 + (r3 : Int)), .int (((2 ^ pw : Nat) : Int) + ((2 ^ ot : Nat) : Int)), .int (((2 ^ (pw + 1) : Nat) : Int) - 1)] ++ [.int (((2 ^ (pw + 1) : Nat) : Int) - 1 - ((2 ^ min pw ot : Nat) : Int) + if decide ((V.int (pw : Int)) = V.int 0) = true then 1 else 0), .int (1 + (r5 : Int))])) n3
  have hz : (if decide ((V.int (pw : Int)) = V.int 0) = true then (1 : Int) else 0) = if pw = 0 then 1 else 0 := by
    by_cases c : pw = 0
    · subst c; rfl
    · rw [if_neg c]
      exact if_neg (fun z => c (by have := V.int.inj (of_decide_eq_true z); omega))
  have e30 : (10 : Int) ^ (30 : Int).toNat = 1000000000000000000000000000000 := by decide
  rw [e30] at r31
  have hv : ∀ r : Nat, (r : Int) < 5 → ∃ n : Nat, atI ([V.int (1 + (r3 : Int)), .int (((2 ^ pw : Nat) : Int) + ((2 ^ ot : Nat) : Int)), .int (((2 ^ (pw + 1) : Nat) : Int) - 1)] ++ [.int (((2 ^ (pw + 1) : Nat) : Int) - 1 - ((2 ^ min pw ot : Nat) : Int) + if decide ((V.int (pw : Int)) = V.int 0) = true then 1 else 0), .int (1 + (r5 : Int))]) (r : Int) = some (.int (n : Int)) ∧ 1 ≤ n ∧ n ≤ 10 ^ 30 := by
    intro r hr5
    have key : ∀ (i : Int), (1 ≤ i ∧ i ≤ 10 ^ 30) → ∀ (o : Option V), o = some (.int i) → ∃ n : Nat, o = some (.int (n : Int)) ∧ 1 ≤ n ∧ n ≤ 10 ^ 30 := fun i hi o ho => by
      obtain ⟨n, rfl⟩ := Int.eq_ofNat_of_zero_le (show 0 ≤ i by omega)
      exact ⟨n, ho, by omega, by omega⟩
    rw [hz]
    have : r = 0 ∨ r = 1 ∨ r = 2 ∨ r = 3 ∨ r = 4 := by omega
    rcases this with rfl | rfl | rfl | rfl | rfl
    · exact key _ (by omega) _ (atI_nat (j := 0) rfl)
    · exact key _ (by omega) _ (atI_nat (j := 1) rfl)
    · exact key _ (by omega) _ (atI_nat (j := 2) rfl)
    · refine key _ ?_ _ (atI_nat (j := 3) rfl)
      by_cases c : pw = 0
      · subst c
        rw [if_pos rfl]
        have : min 0 ot = 0 := by omega
        rw [this]
        decide
      · rw [if_neg c]
        have : 2 ≤ 2 ^ pw := Nat.pow_le_pow_right (n := 2) (by decide) (show 1 ≤ pw by omega)
        omega
    · exact key _ (by omega) _ (atI_nat (j := 4) rfl)
  generalize [V.int (1 + (r3 : Int)), .int (((2 ^ pw : Nat) : Int) + ((2 ^ ot : Nat) : Int)), .int (((2 ^ (pw + 1) : Nat) : Int) - 1)] ++ [.int (((2 ^ (pw + 1) : Nat) : Int) - 1 - ((2 ^ min pw ot : Nat) : Int) + if decide ((V.int (pw : Int)) = V.int 0) = true then 1 else 0), .int (1 + (r5 : Int))] = L at s7 hv ⊢
  have b7 := (b5.same s6).same s7
  have h7 : (upd (upd H5 l2 (.lst [.int (((2 ^ (pw + 1) : Nat) : Int) - 1 - ((2 ^ min pw ot : Nat) : Int) + if decide ((V.int (pw : Int)) = V.int 0) = true then 1 else 0), .int (1 + (r5 : Int))])) l3 (.lst L)) l3 = some (.lst L) := upd_same
  have B7 := (B5.trans (But.of (b := b) s6)).trans (But.of (b := b) s7)
  generalize upd (upd H5 l2 (.lst [.int (((2 ^ (pw + 1) : Nat) : Int) - 1 - ((2 ^ min pw ot : Nat) : Int) + if decide ((V.int (pw : Int)) = V.int 0) = true then 1 else 0), .int (1 + (r5 : Int))])) l3 (.lst L) = H7 at b7 h7 B7
  have l3b : l3 ≠ b := (b5.same s6).ne n3
  refine ⟨_, rfl, _, rfl, b, 5, _, rfl, by decide, by decide, b7, by omega, fun r H8 r8 k8 b8 => ?_⟩
  obtain ⟨n, hn, n1, n30⟩ := hv r r8
  exact ⟨l3, _, _, _, rfl, rfl, SqL.of ((k8 l3 l3b).trans h7), hn, q n H8 n1 n30 (fun a o z h => by rw [k8 a z]; exact B7 a o z h) b8⟩
end
end LT

namespace LT
open PySem PySem.Spec PyProof.Rows L2 PySem.SeqAt PySem.W
section
variable {prog : Program} {w : World} {A : Around} {E : Value → Shared → Prop} {s : Shared}
theorem min_two_data {a b : Value} {x y : PyData} {as : List Addr} {Q : Value → Shared → Prop} (hh : A.handled = none) (hr : ReadsAll s.heap [a, b] [x, y] as) (ha : AlikeAll [x, y]) (hu : A.units + 1 + PyData.depthAll [x, y] < cLine)
    (h : ∀ h' tk, (∀ b o, s.heap.get? b = some o → h'.get? b = some o) → Q (if dataLt y x then b else a) { s with heap := h', toks := tk }) :
    wpAny (model prog w) A (call (.builtin "min") [a, b]) Q E s := by
  have hname : (toString "min" ++ toString ".loop" : String) = "min.loop" := by decide
  refine call_function_tree F.kind_min F.plain_min F.entry_min (F.args_min2 _ _) ?_
  show wpAny _ A.in1 (Builtin.Builtins.bindParams "min" ["key", "default"] 0 ⟨[], []⟩ >>= _) _ _ s
  refine wpAny_bind (wpAny_of_eq (show Builtin.Builtins.bindParams "min" ["key", "default"] 0 ⟨[], []⟩ = pure [none, none] from rfl) ?_)
  show wpAny _ A.in1 (newTuple [a, b] >>= _) _ _ s
  refine wpAny_bind (wpAny_newObj_type ?_)
  have hT : (s.heap.push { cls := .type "tuple", data := .seq #[a, b] }).IsTuple s.heap.objs.size #[a, b] := ⟨_, Heap.get?_push_size _ rfl, rfl, 0, rfl⟩
  have kp : ∀ c o, s.heap.get? c = some o → (s.heap.push { cls := .type "tuple", data := .seq #[a, b] }).get? c = some o := fun c o e => Heap.get?_push_of_some _ e
  have hr1 : ReadsAll (s.heap.push { cls := .type "tuple", data := .seq #[a, b] }) (#[a, b] : Array Value).toList [x, y] as := PyProof.Rows.ReadsAll.keeps kp hr
  refine wpAny_bind (iter_tupleW (A := A.in1) (s := { s with heap := s.heap.push { cls := .type "tuple", data := .seq #[a, b] } }) hh hT fun s₂ e W st hfp hw hk => ?_)
  refine wpAny_bind (wpAny_newObj_type ?_)
  have hSf : s₂.heap.objs.size ∉ _ := fun hm => Nat.lt_irrefl _ (hfp _ hm)
  rw [hname]
  refine wpAny_pure ⟨plainId_quiet F.plain_min_loop _, codeAny_min_loop_firstH W _ hw _ (cmpIn_lt (s := { s with heap := s.heap.push { cls := .type "tuple", data := .seq #[a, b] } }) (A := A.in1) hr1 ha (by show A.units + 1 + _ < _; exact hu)) s₂.heap.objs.size hSf (fresh_in hk) _ (by show 0 < 2; decide) (fun b o e => Heap.get?_push_of_some _ (hk b o e)) (W.frame 0 s₂ _ s₂.toks st (Nat.le_refl _) fun b _ o e => Heap.get?_push_of_some _ e) (Heap.get?_push_size _ rfl) fun v s' hP hm => ?_⟩
  have m := Moved.drop_new (tk := s₂.toks) hm (Nat.le_refl _)
  obtain ⟨h', tk, rfl, hk'⟩ := moved_old e rfl m
  have hv : v = if dataLt y x then b else a := by
    have hP' : (#[a, b] : Array Value)[if dataLt y x then 1 else 0]? = some v := hP
    cases hd : dataLt y x with
    | true => rw [hd] at hP'; exact (Option.some.inj hP').symm
    | false => rw [hd] at hP'; exact (Option.some.inj hP').symm
  rw [hv]
  exact h h' tk fun b o e => hk' b o (kp b o e)
end
theorem call_min2D {X : Cx} (hc : X.calm = true) (hu : X.A.units + 65 < cLine) : CallR X (.builtin "min") (fun xs H Q => ∃ x y d e, xs = [x, y] ∧ Dp X.K H x d ∧ Dp X.K H y e ∧ AlikeAll [d, e] ∧ PyData.depthAll [d, e] ≤ 64 ∧ Q (if dataLt e d then y else x) H) := by
  intro pins s σ H xs us Q I r h
  obtain ⟨x, y, d, e, rfl, hd, he, ha, hl, q⟩ := h
  obtain ⟨as, ra⟩ := Dp.readsAll I [d, e] [x, y] us (.cons hd (.cons he .nil)) r
  obtain ⟨u, u', rfl, r1, r2⟩ := vals2 r
  refine min_two_data (I.ok.hd hc) ra ha (by omega) fun h' tk k => ⟨_, H, I.kept k, ?_, q⟩
  cases dataLt e d with
  | true => exact r2
  | false => exact r1
theorem call_min2DB {X : Cx} {s : Shared} {H : Hp} {sc : Scope} {ce : Env} {fp : List Addr} (hc : X.calm = true) (hu : X.A.units + 65 < cLine) : CallR (X.blk s H sc ce fp) (.builtin "min") (fun xs H Q => ∃ x y d e, xs = [x, y] ∧ Dp X.K H x d ∧ Dp X.K H y e ∧ AlikeAll [d, e] ∧ PyData.depthAll [d, e] ≤ 64 ∧ Q (if dataLt e d then y else x) H) := call_min2D (X := X.blk s H sc ce fp) hc hu
theorem pairs_alike (a b c d : Int) : AlikeAll [.tuple [.int a, .int b], .tuple [.int c, .int d]] := by
  refine ⟨fun x hx y hy => ?_, fun x hx => ?_⟩
  · simp only [List.mem_cons, List.not_mem_nil, or_false] at hx hy
    rcases hx with rfl | rfl <;> rcases hy with rfl | rfl <;> simp [alike, alikeAll]
  · simp only [List.mem_cons, List.not_mem_nil, or_false] at hx
    rcases hx with rfl | rfl <;> exact fun z => nomatch z
end LT

namespace LT
open PySem PySem.Spec PyProof.Rows L2
/-- the digits 1 -/
def ones (n : Nat) : Nat := if h : n = 0 then 0 else n % 2 + ones (n / 2)
termination_by n
decreasing_by omega
theorem ones_zero : ones 0 = 0 := by rw [ones]; rfl
theorem ones_step (n : Nat) : ones n = n % 2 + ones (n / 2) := by
  by_cases h : n = 0
  · subst h; rw [Nat.zero_mod, Nat.zero_div, ones_zero]
  · rw [ones, dif_neg h]
theorem ones_one : ones 1 = 1 := by rw [ones_step]; show 1 + ones 0 = 1; rw [ones_zero]
theorem ones_dbl (n : Nat) : ones (2 * n) = ones n := by rw [ones_step, Nat.mul_mod_right, Nat.zero_add, Nat.mul_div_cancel_left _ (by decide)]
theorem ones_dbl1 (n : Nat) : ones (2 * n + 1) = ones n + 1 := by
  rw [ones_step, show (2 * n + 1) % 2 = 1 by omega, show (2 * n + 1) / 2 = n by omega]; omega
theorem ones_pos {n : Nat} (h : 1 ≤ n) : 1 ≤ ones n := by
  induction n using Nat.strongRecOn with
  | ind n ih =>
    rw [ones_step]
    by_cases c : n % 2 = 1
    · omega
    · have := ih (n / 2) (by omega) (by omega)
      omega
theorem ones_split : ∀ (i a r : Nat), r < 2 ^ i → ones (2 ^ i * a + r) = ones a + ones r
  | 0, a, r, h => by
    have : r = 0 := by simp at h; omega
    subst this
    rw [Nat.pow_zero, Nat.one_mul, Nat.add_zero, ones_zero, Nat.add_zero]
  | i + 1, a, r, h => by
    rw [Nat.pow_succ] at h
    have e : 2 ^ (i + 1) * a + r = 2 * (2 ^ i * a + r / 2) + r % 2 := by
      rw [Nat.pow_succ, Nat.mul_right_comm]
      omega
    have ih := ones_split i a (r / 2) (by omega)
    have s := ones_step r
    have c : r % 2 = 0 ∨ r % 2 = 1 := by omega
    rcases c with c | c
    · rw [e, c, Nat.add_zero, ones_dbl, ih]; omega
    · rw [e, c, ones_dbl1, ih]; omega
theorem ones_pow (i : Nat) : ones (2 ^ i) = 1 := by
  have := ones_split i 1 0 (Nat.pow_pos (by decide))
  rw [Nat.mul_one, Nat.add_zero, ones_one, ones_zero] at this
  exact this
theorem ones_le (i n : Nat) (h : n < 2 ^ i) : ones n ≤ i := by
  induction i generalizing n with
  | zero => have : n = 0 := by simp at h; omega
            subst this; rw [ones_zero]; exact Nat.le_refl _
  | succ i ih =>
    rw [Nat.pow_succ] at h
    have := ih (n / 2) (by omega)
    rw [ones_step]
    omega
theorem ones_le_self (n : Nat) : ones n ≤ n := by
  induction n using Nat.strongRecOn with
  | ind n ih =>
    by_cases c : n = 0
    · subst c; rw [ones_zero]; exact Nat.le_refl _
    · have := ih (n / 2) (by omega)
      rw [ones_step]
      omega
theorem pk_ones : ∀ (i n b : Nat), (pk i n b).length = ones (n % 2 ^ i)
  | 0, n, b => by rw [Nat.pow_zero, Nat.mod_one, ones_zero]; rfl
  | i + 1, n, b => by
    rw [mod_succ]
    have ml := Nat.mod_lt n (Nat.pow_pos (a := 2) (n := i) (by decide))
    by_cases t : n.testBit i = true
    · show (if n.testBit i = true then (b, i) :: pk i n (b + 2 ^ i) else pk i n b).length = _
      rw [if_pos t, if_pos t, List.length_cons, pk_ones i n _]
      have := ones_split i 1 (n % 2 ^ i) ml
      rw [Nat.mul_one, ones_one] at this
      omega
    · show (if n.testBit i = true then (b, i) :: pk i n (b + 2 ^ i) else pk i n b).length = _
      rw [if_neg t, if_neg t, pk_ones i n _, Nat.zero_add]
section
variable {P : Program} {w : World} {K : PySem.W.Frag} {mg : Str → Option Value} {base : Heap}
theorem bitAnd_low1 (n : Nat) : Builtin.bitAnd (n : Int) 1 = ((n % 2 : Nat) : Int) := by
  have := bitAnd_pp (x := (n : Int)) (y := 1) (Int.natCast_nonneg n) (by decide)
  rw [this, Int.toNat_natCast]
  show (((n &&& 1 : Nat)) : Int) = _
  rw [Nat.and_one_is_mod]
def spOnes : Sp := fun vs H Q _ => ∃ (n : Nat), vs = [.int n] ∧ n < 2 ^ 400 ∧ Q (.int ((ones n : Nat) : Int)) H
theorem ok_law_ones {f : Addr} {fd : FuncData} (F : Fun K "_law_ones" "_law_ones" sLawOnes f fd) : FnOk P w K mg base CX0 1 f fd ["number"] spOnes := by
  refine F.ok scLawOnes (fun vs H Q E h => ?_) (fun cdv A outer s H vs Q E hr h => ?_)
  · obtain ⟨_, rfl, _⟩ := h
    rfl
  obtain ⟨n, rfl, hn, q⟩ := h
  refine ⟨_, (pss_cons (ps_par (i := 1) (j := 2) (by rfl) scLawOnes.nd rfl rfl (by decide) rfl rfl (pa_cons pe_int (pa_cons (pv 0) pa_nil)) (by rfl))
    (pss_cons (ps_while PassesOwn.never (pt_cmpR op_gt (pv 2) pe_int (nomark _))
    (pss_one (ps_par (i := 1) (j := 2) (by rfl) scLawOnes.nd rfl rfl (by decide) rfl rfl (pa_cons (pe_op op_add (pv 1) (pe_op op_and (pv 2) pe_int)) (pa_cons (pe_op op_shr (pv 2) pe_int) pa_nil)) (by rfl))))
    (pss_one (ps_ret (pv 1))))), ?_⟩
  refine ⟨_, rfl, _, _, rfl, ?_⟩
  refine ⟨fun mu σ H' => ∃ (d l : Nat), σ = [some (.int n), some (.int (d : Int)), some (.int (l : Int))] ∧ H' = H ∧ d + ones l = ones n ∧ mu = l + 0, ⟨n, 0, n, rfl, rfl, Nat.zero_add _, rfl⟩, ?_⟩
  rintro m σ H1 ⟨d, l, rfl, rfl, hd, hm⟩
  refine ⟨_, rfl, _, _, rfl, rfl, _, rfl, ite2 (fun c1 => ?_) (fun c1 => ?_)⟩
  · have c2 : (l : Int) > 0 := of_decide_eq_true c1
    refine ⟨_, fun σ' H' h => h, _, rfl, _, rfl, _, _, rfl, rfl, _, _, rfl, rfl, _, rfl, _, _, rfl, rfl, (by show (0 : Int) ≤ 1; decide), _, _, rfl, ?_⟩
    have st := ones_step l
    have e1 : (d : Int) + Builtin.bitAnd (l : Int) 1 = ((d + l % 2 : Nat) : Int) := by rw [bitAnd_low1]; rfl
    have e2 : (l : Int) / 2 ^ (1 : Int).toNat = ((l / 2 : Nat) : Int) := by
      show (l : Int) / 2 ^ 1 = _
      omega
    refine ⟨l / 2, by omega, d + l % 2, l / 2, ?_, rfl, by omega, rfl⟩
    rw [← e1, ← e2]
    rfl
  · have c2 : ¬ (l : Int) > 0 := of_decide_eq_false (Bool.eq_false_iff.mpr c1)
    have l0 : l = 0 := by omega
    subst l0
    rw [ones_zero, Nat.add_zero] at hd
    subst hd
    exact ⟨_, rfl, q⟩
end
end LT

namespace LT
open PySem PySem.Spec PyProof.Rows L2
theorem ones_ge (n : Nat) : 2 ^ ones n ≤ n + 1 := by
  induction n using Nat.strongRecOn with
  | ind n ih =>
    by_cases c : n = 0
    · subst c; rw [ones_zero]; decide
    · have := ih (n / 2) (by omega)
      rw [ones_step]
      have d : n % 2 = 0 ∨ n % 2 = 1 := by omega
      rcases d with d | d
      · rw [d, Nat.zero_add]; omega
      · rw [d, Nat.add_comm, Nat.pow_succ]; omega
theorem ones_full (i : Nat) : ones (2 ^ i - 1) = i := by
  induction i with
  | zero => exact ones_zero
  | succ i ih =>
    have p := Nat.pow_pos (a := 2) (n := i) (by decide)
    rw [ones_step, Nat.pow_succ, show (2 ^ i * 2 - 1) % 2 = 1 by omega, show (2 ^ i * 2 - 1) / 2 = 2 ^ i - 1 by omega, ih]
    omega
/-- the least multiple of 2 ^ i from l on -/
def up (l i : Nat) : Nat := (l + 2 ^ i - 1) / 2 ^ i * 2 ^ i
theorem up_ge (l i : Nat) : l ≤ up l i := by
  have p := Nat.pow_pos (a := 2) (n := i) (by decide)
  unfold up
  have h1 := Nat.div_add_mod (l + 2 ^ i - 1) (2 ^ i)
  have h2 := Nat.mod_lt (l + 2 ^ i - 1) p
  rw [Nat.mul_comm] at h1
  omega
theorem up_le {l i m : Nat} (h : l ≤ m) (d : 2 ^ i ∣ m) : up l i ≤ m := by
  have p := Nat.pow_pos (a := 2) (n := i) (by decide)
  obtain ⟨k, rfl⟩ := d
  unfold up
  rw [Nat.mul_comm (2 ^ i) k]
  refine Nat.mul_le_mul_right _ ?_
  rw [← Nat.lt_succ_iff, Nat.div_lt_iff_lt_mul p, Nat.succ_mul, Nat.mul_comm k]
  omega
theorem up_dvd (l i : Nat) : 2 ^ i ∣ up l i := Nat.dvd_mul_left _ _
theorem up_zero (l : Nat) : up l 0 = l := by unfold up; rw [Nat.pow_zero, Nat.div_one, Nat.mul_one]; omega
/-- the last power with a multiple up to m -/
theorem up_best {l m : Nat} (h1 : 1 ≤ l) (h : l ≤ m) : ∃ i, 2 ^ i ≤ m ∧ up l i ≤ m ∧ ones (up l i) ≤ ones m := by
  have far : ∀ k, m < 2 ^ k → m < up l k := fun k hk => by
    have a := up_ge l k
    obtain ⟨c, hc⟩ := up_dvd l k
    have c1 : c ≠ 0 := fun z => by subst z; rw [hc] at a; omega
    have := Nat.le_mul_of_pos_right (2 ^ k) (Nat.pos_of_ne_zero c1)
    omega
  have ex : ∃ i, up l i ≤ m ∧ m < up l (i + 1) := by
    have key : ∀ k, m < up l k → ∃ i, up l i ≤ m ∧ m < up l (i + 1) := by
      intro k
      induction k with
      | zero => intro z; rw [up_zero] at z; omega
      | succ k ih =>
        intro z
        by_cases c : up l k ≤ m
        · exact ⟨k, c, z⟩
        · exact ih (by omega)
    exact key m (far m Nat.lt_two_pow_self)
  obtain ⟨i, hi, hj⟩ := ex
  have p := Nat.pow_pos (a := 2) (n := i) (by decide)
  have ge := up_ge l i
  obtain ⟨a, ha⟩ := up_dvd l i
  have a1 : 1 ≤ a := by
    have : a ≠ 0 := fun z => by subst z; omega
    omega
  have odd : a % 2 = 1 := by
    have d : a % 2 = 0 ∨ a % 2 = 1 := by omega
    rcases d with d | d
    · exfalso
      have : 2 ^ (i + 1) ∣ up l i := by
        rw [ha, Nat.pow_succ, show a = 2 * (a / 2) by omega, ← Nat.mul_assoc]
        exact Nat.dvd_mul_right _ _
      have := up_le ge this
      omega
    · exact d
  have nx : up l (i + 1) ≤ up l i + 2 ^ i := by
    refine up_le (by omega) ?_
    rw [ha, Nat.pow_succ, show 2 ^ i * a + 2 ^ i = 2 ^ i * 2 * ((a + 1) / 2) by
      rw [Nat.mul_assoc, show 2 * ((a + 1) / 2) = a + 1 by omega, Nat.mul_succ]]
    exact Nat.dvd_mul_right _ _
  refine ⟨i, ?_, hi, ?_⟩
  · have := Nat.le_mul_of_pos_right (2 ^ i) a1
    omega
  · have e : m = 2 ^ i * a + (m - up l i) := by omega
    rw [e, ones_split i a _ (by omega), ha]
    have := ones_split i a 0 p
    rw [Nat.add_zero, ones_zero] at this
    omega
/-- c is one less than the fewest digits 1 between l and h, s the first number that has so many -/
def least (l h c s : Nat) : Prop := l ≤ s ∧ s ≤ h ∧ ones s = c + 1 ∧ ∀ m, l ≤ m → m ≤ h → c + 1 ≤ ones m ∧ (ones m = c + 1 → s ≤ m)
def most (l h c s : Nat) : Prop := l ≤ s ∧ s ≤ h ∧ ones s = c + 1 ∧ ∀ m, l ≤ m → m ≤ h → ones m ≤ c + 1 ∧ (ones m = c + 1 → s ≤ m)
theorem least_one {l h c s d t : Nat} (x : least l h c s) (y : least l h d t) : c = d ∧ s = t := by
  obtain ⟨x1, x2, x3, x4⟩ := x
  obtain ⟨y1, y2, y3, y4⟩ := y
  have a := x4 t y1 y2
  have b := y4 s x1 x2
  have e : c = d := by omega
  subst e
  have a2 := a.2 y3
  have b2 := b.2 x3
  omega
theorem most_one {l h c s d t : Nat} (x : most l h c s) (y : most l h d t) : c = d ∧ s = t := by
  obtain ⟨x1, x2, x3, x4⟩ := x
  obtain ⟨y1, y2, y3, y4⟩ := y
  have a := x4 t y1 y2
  have b := y4 s x1 x2
  have e : c = d := by omega
  subst e
  have a2 := a.2 y3
  have b2 := b.2 x3
  omega
/-- the best of the first j candidates -/
def bestUp (l h j c s : Nat) : Prop := l ≤ s ∧ s ≤ h ∧ ones s = c + 1 ∧ ∀ i, i < j → up l i ≤ h → c + 1 ≤ ones (up l i) ∧ (ones (up l i) = c + 1 → s ≤ up l i)
theorem least_of {l h j c s : Nat} (l1 : 1 ≤ l) (x : bestUp l h j c s) (hj : h < 2 ^ j) : least l h c s := by
  obtain ⟨x1, x2, x3, x4⟩ := x
  refine ⟨x1, x2, x3, fun m m1 m2 => ?_⟩
  obtain ⟨i, a, b, d⟩ := up_best l1 m1
  have ij : i < j := (Nat.pow_lt_pow_iff_right (by decide : 1 < 2)).mp (show 2 ^ i < 2 ^ j by omega)
  obtain ⟨k1, k2⟩ := x4 i ij (by omega)
  refine ⟨by omega, fun z => ?_⟩
  have := k2 (by omega)
  omega
/-- the next number with more digits 1 -/
def nxt (s : Nat) : Nat := s ||| (s + 1)
theorem nxt_even (a : Nat) : nxt (2 * a) = 2 * a + 1 := by
  unfold nxt
  apply Nat.eq_of_testBit_eq
  intro i
  rw [Nat.testBit_or]
  cases i with
  | zero => simp [Nat.testBit_zero]
  | succ i =>
    rw [Nat.testBit_succ, Nat.testBit_succ, show (2 * a + 1) / 2 = a by omega, show 2 * a / 2 = a by omega, Bool.or_self]
theorem nxt_odd (a : Nat) : nxt (2 * a + 1) = 2 * nxt a + 1 := by
  unfold nxt
  apply Nat.eq_of_testBit_eq
  intro i
  rw [Nat.testBit_or]
  cases i with
  | zero => simp [Nat.testBit_zero]
  | succ i =>
    rw [Nat.testBit_succ, Nat.testBit_succ, Nat.testBit_succ, show (2 * a + 1) / 2 = a by omega, show (2 * a + 1 + 1) / 2 = a + 1 by omega, show (2 * (a ||| (a + 1)) + 1) / 2 = (a ||| (a + 1)) by omega, Nat.testBit_or]
theorem nxt_is (s : Nat) : s < nxt s ∧ ones (nxt s) = ones s + 1 ∧ ∀ m, s ≤ m → m < nxt s → ones m ≤ ones s := by
  induction s using Nat.strongRecOn with
  | ind s ih =>
    have d : s = 2 * (s / 2) ∨ s = 2 * (s / 2) + 1 := by omega
    rcases d with d | d
    · generalize s / 2 = a at d
      subst d
      rw [nxt_even]
      refine ⟨by omega, by rw [ones_dbl1, ones_dbl], fun m h1 h2 => ?_⟩
      have : m = 2 * a := by omega
      rw [this]
      exact Nat.le_refl _
    · have lt : s / 2 < s := by omega
      obtain ⟨i1, i2, i3⟩ := ih (s / 2) lt
      generalize s / 2 = a at d i1 i2 i3
      subst d
      rw [nxt_odd]
      refine ⟨by omega, by rw [ones_dbl1, ones_dbl1, i2], fun m h1 h2 => ?_⟩
      have sm := ones_step m
      rw [ones_dbl1]
      by_cases c : m / 2 < nxt a
      · have := i3 (m / 2) (by omega) c
        omega
      · have e : m / 2 = nxt a := by omega
        rw [e, i2] at sm
        omega
/-- s so far: none ahead of it has so many digits 1 -/
def firstSo (l s : Nat) : Prop := l ≤ s ∧ ∀ m, l ≤ m → m < s → ones m < ones s
theorem first_next {l s : Nat} (x : firstSo l s) : firstSo l (nxt s) := by
  obtain ⟨a, b, c⟩ := nxt_is s
  refine ⟨by have := x.1; omega, fun m h1 h2 => ?_⟩
  by_cases k : m < s
  · have := x.2 m h1 k; omega
  · have := c m (by omega) h2; omega
theorem most_of {l h s : Nat} (l1 : 1 ≤ l) (x : firstSo l s) (k : s ≤ h) (k2 : h < nxt s) : most l h (ones s - 1) s := by
  have o := ones_pos (n := s) (by have := x.1; omega)
  refine ⟨x.1, k, by omega, fun m h1 h2 => ?_⟩
  by_cases c : m < s
  · have := x.2 m h1 c; omega
  · have := (nxt_is s).2.2 m (by omega) (by omega)
    omega
end LT

namespace LT
open PySem PySem.Spec PyProof.Rows L2
theorem npk_ones {n : Nat} (h : n ≤ 10 ^ 30) : (pk 101 n 0).length = ones n := by rw [pk_ones, Nat.mod_eq_of_lt (Nat.lt_of_le_of_lt h (by decide))]
section
variable {P : Program} {w : World} {K : PySem.W.Frag} {mg : Str → Option Value} {base : Heap}
def spRootSums : Sp := fun vs H Q _ => ∃ (n : Nat), vs = [.int n] ∧ 1 ≤ n ∧ n ≤ 10 ^ 30 ∧ ∀ (H' : Hp), Same H H' → Q (.int ((ones n - 1 : Nat) : Int)) H'
theorem ok_root_sums {f g1 : Addr} {fd d1 : FuncData} (F : Fun K "root_sums" "root_sums" sRootSums f fd) (GEdges : FnOk P w K mg base CX0 5 g1 d1 ["size"] spEdges) (AEdges : At K mg "edges" g1 d1 ["size"]) (z_len : mg "len" = none) : FnOk P w K mg base CX0 6 f fd ["size"] spRootSums := by
  refine F.ok scRootSums (fun vs H Q E h => ?_) (fun cdv A outer s H vs Q E hr h => ?_)
  · obtain ⟨_, rfl, _⟩ := h
    rfl
  obtain ⟨n, rfl, h1, h30, q⟩ := h
  refine ⟨_, (pss_one (ps_ret (pe_callB call_len_seq (by rfl) z_len PySem.boot_len (pa_cons (pe_call GEdges (hr.mono (by decide)) rfl AEdges.m AEdges.kp AEdges.b .nil pass0 (pa_cons (pv 0) pa_nil)) pa_nil)))), ?_⟩
  refine ⟨_, rfl, n, rfl, h1, h30, fun H1 p xs sm np hp hx => ⟨p, xs, rfl, .inl (SqL.of hp), ?_⟩⟩
  dsimp only
  rw [hx.len, List.length_map, List.length_dropLast, List.length_map, npk_ones h30]
  exact q H1 sm
def spStretch : Sp := fun vs H Q _ => ∃ (l h : Nat), vs = [.int l, .int h] ∧ 1 ≤ l ∧ l ≤ h ∧ h ≤ 10 ^ 30 ∧ Q .non H
theorem ok_check_stretch {f g1 : Addr} {fd d1 : FuncData} (F : Fun K "_check_stretch" "_check_stretch" sCheckStretch f fd) (GCheckSize : FnOk P w K mg base CX0 3 g1 d1 ["size"] spCheckSize) (ACheckSize : At K mg "check_size" g1 d1 ["size"]) : FnOk P w K mg base CX0 4 f fd ["low", "high"] spStretch := by
  refine F.ok scCheckStretch (fun vs H Q E h => ?_) (fun cdv A outer s H vs Q E hr h => ?_)
  · obtain ⟨_, _, rfl, _⟩ := h
    rfl
  obtain ⟨l, h, rfl, l1, lh, h30, q⟩ := h
  refine ⟨_, (pss_cons (ps_expr (pe_call GCheckSize (hr.mono (by decide)) rfl ACheckSize.m ACheckSize.kp ACheckSize.b .nil pass0 (pa_cons (pv 0) pa_nil)))
    (pss_cons (ps_expr (pe_call GCheckSize (hr.mono (by decide)) rfl ACheckSize.m ACheckSize.kp ACheckSize.b .nil pass0 (pa_cons (pv 1) pa_nil)))
    (pss_one (ps_if (pt_cmpR op_gt (pv 0) (pv 1) (nomark _))
    (pss_one ps_never)
    pss_nil)))), ?_⟩
  refine ⟨_, rfl, _, rfl, by omega, by omega, _, rfl, _, rfl, by omega, by omega, _, rfl, _, rfl, _, _, rfl, rfl, false, congrArg V.bl (decide_eq_false (by show ¬ (l : Int) > (h : Int); omega)), ?_⟩
  exact q
def spCheapest : Sp := fun vs H Q _ => ∃ (l h : Nat), vs = [.int l, .int h] ∧ 1 ≤ l ∧ l ≤ h ∧ h ≤ 10 ^ 30 ∧ ∀ (H' : Hp) (p : Addr) (c s : Nat), Same H H' → H p = none → Nd H' (.ref p) (c, s) → least l h c s → Q (.ref p) H'
theorem neg_fmod (l i : Nat) : (l : Int) + Int.fmod (-(l : Int)) ((2 ^ i : Nat) : Int) = ((up l i : Nat) : Int) := by
  have p := Nat.pow_pos (a := 2) (n := i) (by decide)
  rw [Int.fmod_eq_emod_of_nonneg _ (Int.natCast_nonneg _)]
  unfold up
  generalize 2 ^ i = m at p
  have h1 := Nat.div_add_mod (l + m - 1) m
  have h2 := Nat.mod_lt (l + m - 1) p
  have e : (-(l : Int)) % (m : Int) = ((m - 1 - (l + m - 1) % m : Nat) : Int) := by
    have h3 : -(l : Int) = ((m - 1 - (l + m - 1) % m : Nat) : Int) + (m : Int) * (-(((l + m - 1) / m : Nat) : Int)) := by
      have h4 : ((m * ((l + m - 1) / m) : Nat) : Int) = (m : Int) * (((l + m - 1) / m : Nat) : Int) := Int.natCast_mul _ _
      rw [Int.mul_neg, ← h4]
      omega
    rw [h3, Int.add_mul_emod_self_left]
    exact Int.emod_eq_of_lt (Int.natCast_nonneg _) (by omega)
  rw [e]
  rw [Nat.mul_comm] at h1
  omega
theorem ok_cheapest {f g1 g2 : Addr} {fd d1 d2 : FuncData} (F : Fun K "cheapest" "cheapest" sCheapest f fd) (GCheckStretch : FnOk P w K mg base CX0 4 g1 d1 ["low", "high"] spStretch) (ACheckStretch : At K mg "_check_stretch" g1 d1 ["low", "high"])
    (GRootSums : FnOk P w K mg base CX0 6 g2 d2 ["size"] spRootSums) (ARootSums : At K mg "root_sums" g2 d2 ["size"]) (z_min : mg "min" = none) : FnOk P w K mg base CX0 7 f fd ["low", "high"] spCheapest := by
  refine F.ok scCheapest (fun vs H Q E h => ?_) (fun cdv A outer s H vs Q E hr h => ?_)
  · obtain ⟨_, _, rfl, _⟩ := h
    rfl
  obtain ⟨l, h, rfl, l1, lh, h30, q⟩ := h
  have two : 2 ≤ sizeLine := by decide
  refine ⟨_, (pss_cons (ps_expr (pe_call GCheckStretch (hr.mono (by decide)) rfl ACheckStretch.m ACheckStretch.kp ACheckStretch.b .nil pass0 (pa_cons (pv 0) (pa_cons (pv 1) pa_nil))))
    (pss_cons (ps_set (i := 2) scCheapest.nd rfl (Or.inl rfl) (pe_tup (pa_cons (pe_call GRootSums (hr.mono (by decide)) rfl ARootSums.m ARootSums.kp ARootSums.b .nil pass0 (pa_cons (pv 0) pa_nil)) (pa_cons (pv 0) pa_nil))))
    (pss_cons (ps_set (i := 3) scCheapest.nd rfl (Or.inl rfl) pe_int)
    (pss_cons (ps_while PassesOwn.never (pt_cmpR op_le (pv 3) (pv 1) (nomark _))
    (pss_cons (ps_set (i := 4) scCheapest.nd rfl (Or.inl rfl) (pe_op op_add (pv 0) (pe_op op_modN (pe_un un_neg (pv 0)) (pv 3))))
    (pss_cons (ps_if (pt_cmpR op_le (pv 4) (pv 1) (nomark _))
    (pss_one (ps_set (i := 2) scCheapest.nd rfl (Or.inl rfl) (pe_callB (call_min2D rfl (units1 hr)) (by rfl) z_min (by decide +kernel) (pa_cons (pv 2) (pa_cons (pe_tup (pa_cons (pe_call GRootSums (hr.mono (by decide)) rfl ARootSums.m ARootSums.kp ARootSums.b .nil pass0 (pa_cons (pv 4) pa_nil)) (pa_cons (pv 4) pa_nil))) pa_nil)))))
    pss_nil)
    (pss_one (ps_set (i := 3) scCheapest.nd rfl (Or.inl rfl) (pe_op op_mul (pv 3) pe_int))))))
    (pss_one (ps_ret (pv 2))))))), ?_⟩
  refine ⟨_, rfl, _, rfl, l, h, rfl, l1, lh, h30, ?_⟩
  refine ⟨_, rfl, l, rfl, l1, by omega, fun H1 s1 => ⟨_, rfl, two, fun t nt => ?_⟩⟩
  have s2 := same_upd (o := .tup [.int ((ones l - 1 : Nat) : Int), .int (l : Int)]) nt
  have ol := ones_pos l1
  have hb1 : bestUp l h 1 (ones l - 1) l := ⟨Nat.le_refl _, lh, by omega, fun i hi _ => by
    have : i = 0 := by omega
    subst this
    rw [up_zero]
    omega⟩
  refine ⟨fun mu σ H' => ∃ (j c s : Nat) (p : Addr) (v4 : Option V), σ = [some (.int (l : Int)), some (.int (h : Int)), some (.ref p), some (.int ((2 ^ j : Nat) : Int)), v4] ∧ Same H H' ∧ H p = none ∧ Nd H' (.ref p) (c, s) ∧ bestUp l h j c s ∧ 1 ≤ j ∧ j ≤ 101 ∧ mu = 101 - j,
    ⟨100, 1, ones l - 1, l, t, none, rfl, s1.trans s2, s1.free nt, ⟨t, rfl, upd_same⟩, hb1, by decide, by decide, rfl⟩, ?_⟩
  rintro mu σ H2 ⟨j, c, s, p, v4, rfl, sm, np, hp, hb, j1, j101, rfl⟩
  have pj := Nat.pow_pos (a := 2) (n := j) (by decide)
  refine ⟨_, rfl, _, rfl, _, _, rfl, rfl, _, rfl, ite2 (fun c1 => ?_) (fun c1 => ?_)⟩
  · have c2 : ((2 ^ j : Nat) : Int) ≤ (h : Int) := of_decide_eq_true c1
    have jl : j < 100 := by
      have : 2 ^ j < 2 ^ 100 := by
        have : (10 : Nat) ^ 30 < 2 ^ 100 := by decide
        omega
      exact (Nat.pow_lt_pow_iff_right (by decide : 1 < 2)).mp this
    have er : ((2 ^ j : Nat) : Int) * 2 = ((2 ^ (j + 1) : Nat) : Int) := by rw [Nat.pow_succ]; omega
    refine ⟨_, fun σ' H' h => h, _, rfl, _, rfl, _, rfl, _, rfl, _, _, rfl, rfl, (by omega), _, _, rfl, rfl, ?_⟩
    dsimp only
    rw [neg_fmod]
    have ug := up_ge l j
    refine ⟨_, rfl, _, rfl, _, _, rfl, rfl, _, rfl, ite2 (fun c3 => ?_) (fun c3 => ?_)⟩
    · have c4 : ((up l j : Nat) : Int) ≤ (h : Int) := of_decide_eq_true c3
      have ou := ones_pos (n := up l j) (by omega)
      refine ⟨_, rfl, _, rfl, up l j, rfl, by omega, by omega, fun H3 s3 => ⟨_, rfl, two, fun t2 nt2 => ?_⟩⟩
      have s4 := same_upd (o := .tup [.int ((ones (up l j) - 1 : Nat) : Int), .int ((up l j : Nat) : Int)]) nt2
      have ht2 : Nd (upd H3 t2 (.tup [.int ((ones (up l j) - 1 : Nat) : Int), .int ((up l j : Nat) : Int)])) (.ref t2) (ones (up l j) - 1, up l j) := ⟨t2, rfl, upd_same⟩
      have s34 := s3.trans s4
      have hp4 := hp.same s34
      generalize upd H3 t2 (.tup [.int ((ones (up l j) - 1 : Nat) : Int), .int ((up l j : Nat) : Int)]) = H4 at s4 ht2 s34 hp4
      refine ⟨_, _, _, _, rfl, hp4.dp, ht2.dp, pairs_alike _ _ _ _, by simp [PyData.depthAll, PyData.depth], ?_⟩
      rw [PySem.W.dataLt_ii]
      obtain ⟨b1, b2, b3, b4⟩ := hb
      have nt20 : H t2 = none := sm.free (s3.free nt2)
      by_cases k : ((ones (up l j) - 1 : Nat) : Int) < (c : Int) ∨ (((ones (up l j) - 1 : Nat) : Int) = (c : Int) ∧ ((up l j : Nat) : Int) < (s : Int))
      · rw [decide_eq_true k]
        refine ⟨_, rfl, _, _, rfl, rfl, .inr ⟨by decide, by decide⟩, ?_⟩
        dsimp only
        rw [er]
        refine ⟨101 - (j + 1), by omega, j + 1, ones (up l j) - 1, up l j, t2, _, rfl, sm.trans s34, nt20, ht2, ⟨ug, by omega, by omega, fun i hi hu => ?_⟩, by omega, by omega, rfl⟩
        by_cases e : i < j
        · have := b4 i e hu
          omega
        · have : i = j := by omega
          subst this
          omega
      · rw [decide_eq_false k]
        refine ⟨_, rfl, _, _, rfl, rfl, .inr ⟨by decide, by decide⟩, ?_⟩
        dsimp only
        rw [er]
        refine ⟨101 - (j + 1), by omega, j + 1, c, s, p, _, rfl, sm.trans s34, np, hp4, ⟨b1, b2, b3, fun i hi hu => ?_⟩, by omega, by omega, rfl⟩
        by_cases e : i < j
        · exact b4 i e hu
        · have : i = j := by omega
          subst this
          omega
    · have c4 : ¬ ((up l j : Nat) : Int) ≤ (h : Int) := of_decide_eq_false (Bool.eq_false_iff.mpr c3)
      refine ⟨_, rfl, _, _, rfl, rfl, .inr ⟨by decide, by decide⟩, ?_⟩
      dsimp only
      rw [er]
      obtain ⟨b1, b2, b3, b4⟩ := hb
      refine ⟨101 - (j + 1), by omega, j + 1, c, s, p, _, rfl, sm, np, hp, ⟨b1, b2, b3, fun i hi hu => ?_⟩, by omega, by omega, rfl⟩
      by_cases e : i < j
      · exact b4 i e hu
      · have : i = j := by omega
        subst this
        omega
  · have c2 : ¬ ((2 ^ j : Nat) : Int) ≤ (h : Int) := of_decide_eq_false (Bool.eq_false_iff.mpr c1)
    exact ⟨_, rfl, q H2 p c s sm np hp (least_of l1 hb (by omega))⟩
def spCostliest : Sp := fun vs H Q _ => ∃ (l h : Nat), vs = [.int l, .int h] ∧ 1 ≤ l ∧ l ≤ h ∧ h ≤ 10 ^ 30 ∧ ∀ (H' : Hp) (p : Addr) (c s : Nat), Same H H' → H p = none → Nd H' (.ref p) (c, s) → most l h c s → Q (.ref p) H'
theorem or_next (s : Nat) : Builtin.bitOr (s : Int) ((s : Int) + 1) = ((nxt s : Nat) : Int) := by
  rw [show (s : Int) + 1 = ((s + 1 : Nat) : Int) from rfl, bitOr_nn (Int.natCast_nonneg _) (Int.natCast_nonneg _), Int.toNat_natCast, Int.toNat_natCast]
  rfl
theorem ok_costliest {f g1 g2 : Addr} {fd d1 d2 : FuncData} (F : Fun K "costliest" "costliest" sCostliest f fd) (GCheckStretch : FnOk P w K mg base CX0 4 g1 d1 ["low", "high"] spStretch) (ACheckStretch : At K mg "_check_stretch" g1 d1 ["low", "high"])
    (GRootSums : FnOk P w K mg base CX0 6 g2 d2 ["size"] spRootSums) (ARootSums : At K mg "root_sums" g2 d2 ["size"]) : FnOk P w K mg base CX0 7 f fd ["low", "high"] spCostliest := by
  refine F.ok scCostliest (fun vs H Q E h => ?_) (fun cdv A outer s H vs Q E hr h => ?_)
  · obtain ⟨_, _, rfl, _⟩ := h
    rfl
  obtain ⟨l, h, rfl, l1, lh, h30, q⟩ := h
  have two : 2 ≤ sizeLine := by decide
  refine ⟨_, (pss_cons (ps_expr (pe_call GCheckStretch (hr.mono (by decide)) rfl ACheckStretch.m ACheckStretch.kp ACheckStretch.b .nil pass0 (pa_cons (pv 0) (pa_cons (pv 1) pa_nil))))
    (pss_cons (ps_set (i := 2) scCostliest.nd rfl (Or.inl rfl) (pv 0))
    (pss_cons (ps_while PassesOwn.never (pt_cmpR op_le (pe_op op_or (pv 2) (pe_op op_add (pv 2) pe_int)) (pv 1) (nomark _))
    (pss_one (ps_set (i := 2) scCostliest.nd rfl (Or.inl rfl) (pe_op op_or (pv 2) (pe_op op_add (pv 2) pe_int)))))
    (pss_one (ps_ret (pe_tup (pa_cons (pe_call GRootSums (hr.mono (by decide)) rfl ARootSums.m ARootSums.kp ARootSums.b .nil pass0 (pa_cons (pv 2) pa_nil)) (pa_cons (pv 2) pa_nil)))))))), ?_⟩
  refine ⟨_, rfl, _, rfl, l, h, rfl, l1, lh, h30, ?_⟩
  refine ⟨_, rfl, ?_⟩
  refine ⟨fun mu σ H' => ∃ (s : Nat), σ = [some (.int (l : Int)), some (.int (h : Int)), some (.int (s : Int))] ∧ H' = H ∧ firstSo l s ∧ s ≤ h ∧ mu = h - s,
    ⟨h - l, l, rfl, rfl, ⟨Nat.le_refl _, fun m a b => absurd b (by omega)⟩, lh, rfl⟩, ?_⟩
  rintro mu σ H2 ⟨s, rfl, rfl, hs, sh, rfl⟩
  have nx := nxt_is s
  refine ⟨_, rfl, _, rfl, _, _, rfl, rfl, _, _, rfl, rfl, _, rfl, _, _, rfl, rfl, _, rfl, ite2 (fun c1 => ?_) (fun c1 => ?_)⟩
  · have c2 : Builtin.bitOr (s : Int) ((s : Int) + 1) ≤ (h : Int) := of_decide_eq_true c1
    rw [or_next] at c2
    refine ⟨_, fun σ' H' h => h, _, rfl, _, rfl, _, _, rfl, rfl, _, _, rfl, rfl, ?_⟩
    dsimp only
    rw [or_next]
    exact ⟨h - nxt s, by omega, nxt s, rfl, rfl, first_next hs, by omega, rfl⟩
  · have c2 : ¬ Builtin.bitOr (s : Int) ((s : Int) + 1) ≤ (h : Int) := of_decide_eq_false (Bool.eq_false_iff.mpr c1)
    rw [or_next] at c2
    refine ⟨_, rfl, s, rfl, by have := hs.1; omega, by omega, fun H3 s3 => ⟨_, rfl, two, fun t nt => ?_⟩⟩
    refine q _ t (ones s - 1) s (s3.trans (same_upd nt)) (s3.free nt) ⟨t, rfl, upd_same⟩ (most_of l1 hs sh (by omega))
end
end LT

namespace LT
open PySem PySem.Spec PyProof.Rows L2
/-- the last digit at which two numbers differ -/
theorem top_diff {m h : Nat} (mh : m < h) : ∀ k, m / 2 ^ k = h / 2 ^ k → ∃ d, d < k ∧ m / 2 ^ d + 1 = h / 2 ^ d ∧ m / 2 ^ d % 2 = 0 ∧ m / 2 ^ (d + 1) = h / 2 ^ (d + 1)
  | 0, e => by rw [Nat.pow_zero, Nat.div_one, Nat.div_one] at e; omega
  | k + 1, e => by
    by_cases c : m / 2 ^ k = h / 2 ^ k
    · obtain ⟨d, a, b⟩ := top_diff mh k c
      exact ⟨d, by omega, b⟩
    · refine ⟨k, by omega, ?_, ?_, e⟩
      all_goals
        have e2 := e
        rw [Nat.pow_succ, ← Nat.div_div_eq_div_mul, ← Nat.div_div_eq_div_mul] at e2
        have := Nat.div_le_div_right (c := 2 ^ k) (Nat.le_of_lt mh)
        omega
theorem ones_at (k m : Nat) : ones m = ones (m / 2 ^ k) + ones (m % 2 ^ k) := by
  have h := Nat.div_add_mod m (2 ^ k)
  have s := ones_split k (m / 2 ^ k) (m % 2 ^ k) (Nat.mod_lt _ (Nat.pow_pos (by decide)))
  rw [h] at s
  exact s
/-- the greatest number below h that differs from it at d first -/
def oth (h d : Nat) : Nat := h / 2 ^ d * 2 ^ d - 1
theorem oth_is {m h d : Nat} (e : m / 2 ^ d + 1 = h / 2 ^ d) (e0 : m / 2 ^ d % 2 = 0) : m ≤ oth h d ∧ ones m ≤ ones (oth h d) := by
  have p := Nat.pow_pos (a := 2) (n := d) (by decide)
  have h1 := Nat.div_add_mod m (2 ^ d)
  have h2 := Nat.mod_lt m p
  have o1 := ones_at d m
  have o2 := ones_le d _ h2
  have e1 : oth h d = 2 ^ d * (m / 2 ^ d) + (2 ^ d - 1) := by
    unfold oth
    rw [← e, Nat.succ_mul, Nat.mul_comm]
    omega
  have o3 := ones_split d (m / 2 ^ d) (2 ^ d - 1) (by omega)
  rw [ones_full, ← e1] at o3
  constructor
  · omega
  · omega
def isMin (l h a : Nat) : Prop := (∃ m, l ≤ m ∧ m ≤ h ∧ ones m = a) ∧ ∀ m, l ≤ m → m ≤ h → a ≤ ones m
def isMax (l h a : Nat) : Prop := (∃ m, l ≤ m ∧ m ≤ h ∧ ones m = a) ∧ ∀ m, l ≤ m → m ≤ h → ones m ≤ a
theorem least_min {l h c s a : Nat} (x : least l h c s) (y : isMin l h a) : a = c + 1 := by
  obtain ⟨x1, x2, x3, x4⟩ := x
  obtain ⟨⟨m, m1, m2, m3⟩, y2⟩ := y
  have := y2 s x1 x2
  have := (x4 m m1 m2).1
  omega
theorem most_max {l h c s a : Nat} (x : most l h c s) (y : isMax l h a) : a = c + 1 := by
  obtain ⟨x1, x2, x3, x4⟩ := x
  obtain ⟨⟨m, m1, m2, m3⟩, y2⟩ := y
  have := y2 s x1 x2
  have := (x4 m m1 m2).1
  omega
/-- where two numbers differ: all above is the same, at the place itself the greater has a 1 -/
theorem parts_of {l h : Nat} (lh : l < h) : l / 2 ^ ((l ^^^ h).log2 + 1) = h / 2 ^ ((l ^^^ h).log2 + 1) ∧ h / 2 ^ ((l ^^^ h).log2) = 2 * (h / 2 ^ ((l ^^^ h).log2 + 1)) + 1 ∧ l / 2 ^ ((l ^^^ h).log2) = 2 * (h / 2 ^ ((l ^^^ h).log2 + 1)) := by
  have xne : l ^^^ h ≠ 0 := fun z => by
    have : l = h := Nat.eq_of_testBit_eq fun i => by
      have t : (l ^^^ h).testBit i = false := by rw [z]; exact Nat.zero_testBit i
      rw [Nat.testBit_xor] at t
      revert t
      cases l.testBit i <;> cases h.testBit i <;> simp
    omega
  have x1 := Nat.log2_self_le xne
  have x2 := Nat.lt_log2_self (n := l ^^^ h)
  generalize hk : (l ^^^ h).log2 = k at *
  have e1 : l / 2 ^ (k + 1) = h / 2 ^ (k + 1) := by
    apply Nat.eq_of_testBit_eq
    intro i
    rw [Nat.testBit_div_two_pow, Nat.testBit_div_two_pow]
    have t : (l ^^^ h).testBit (i + (k + 1)) = false := Nat.testBit_lt_two_pow (Nat.lt_of_lt_of_le x2 (Nat.pow_le_pow_right (by decide) (by omega)))
    rw [Nat.testBit_xor] at t
    revert t
    cases l.testBit (i + (k + 1)) <;> cases h.testBit (i + (k + 1)) <;> simp
  have tk : (l ^^^ h).testBit k = true := by
    rw [Nat.testBit_eq_decide_div_mod_eq]
    have : (l ^^^ h) / 2 ^ k = 1 := by
      have a : 1 ≤ (l ^^^ h) / 2 ^ k := (Nat.le_div_iff_mul_le (Nat.pow_pos (by decide))).mpr (by omega)
      have b : (l ^^^ h) / 2 ^ k < 2 := (Nat.div_lt_iff_lt_mul (Nat.pow_pos (by decide))).mpr (by rw [Nat.pow_succ] at x2; omega)
      omega
    rw [this]
    rfl
  rw [Nat.testBit_xor, Nat.testBit_eq_decide_div_mod_eq, Nat.testBit_eq_decide_div_mod_eq] at tk
  have d1 : l / 2 ^ (k + 1) = l / 2 ^ k / 2 := by rw [Nat.pow_succ, ← Nat.div_div_eq_div_mul]
  have d2 : h / 2 ^ (k + 1) = h / 2 ^ k / 2 := by rw [Nat.pow_succ, ← Nat.div_div_eq_div_mul]
  have le := Nat.div_le_div_right (c := 2 ^ k) (Nat.le_of_lt lh)
  have ne : l / 2 ^ k % 2 ≠ h / 2 ^ k % 2 := fun z => by rw [z] at tk; simp at tk
  rw [d2] at e1 ⊢
  rw [d1] at e1
  refine ⟨by rw [d1]; exact e1, by omega, by omega⟩
theorem same_part {l h m e : Nat} (e1 : l / 2 ^ e = h / 2 ^ e) (h1 : l ≤ m) (h2 : m ≤ h) : m / 2 ^ e = h / 2 ^ e := by
  have a := Nat.div_le_div_right (c := 2 ^ e) h1
  have b := Nat.div_le_div_right (c := 2 ^ e) h2
  omega
theorem min_is {l h k : Nat} (lh : l < h) (e1 : l / 2 ^ (k + 1) = h / 2 ^ (k + 1)) (e2 : h / 2 ^ k = 2 * (h / 2 ^ (k + 1)) + 1) (e3 : l / 2 ^ k = 2 * (h / 2 ^ (k + 1))) :
    isMin l h (ones (h / 2 ^ (k + 1)) + if 0 < l - h / 2 ^ (k + 1) * 2 ^ (k + 1) then 1 else 0) := by
  have pk := Nat.pow_pos (a := 2) (n := k) (by decide)
  have pk1 := Nat.pow_pos (a := 2) (n := k + 1) (by decide)
  have l1 := Nat.div_add_mod l (2 ^ (k + 1))
  have lk := Nat.div_add_mod l (2 ^ k)
  have lm := Nat.mod_lt l pk
  have hk := Nat.div_add_mod h (2 ^ k)
  rw [e1] at l1
  rw [e3] at lk
  rw [e2] at hk
  generalize ha : h / 2 ^ (k + 1) = a at *
  have c1 : a * 2 ^ (k + 1) = 2 ^ (k + 1) * a := Nat.mul_comm _ _
  have c2 : 2 ^ k * (2 * a) = 2 ^ (k + 1) * a := by rw [Nat.pow_succ, Nat.mul_assoc]
  have c3 : 2 ^ k * (2 * a + 1) = 2 ^ k * (2 * a) + 2 ^ k := by rw [Nat.mul_succ]
  have oa := ones_split (k + 1) a 0 pk1
  rw [Nat.add_zero, ones_zero, Nat.add_zero] at oa
  have lower : ∀ m, l ≤ m → m ≤ h → ones m = ones a + ones (m % 2 ^ (k + 1)) ∧ m = 2 ^ (k + 1) * a + m % 2 ^ (k + 1) := fun m h1 h2 => by
    have sp := same_part (e := k + 1) (show l / 2 ^ (k + 1) = h / 2 ^ (k + 1) by rw [ha]; exact e1) h1 h2
    rw [ha] at sp
    have o := ones_at (k + 1) m
    have d := Nat.div_add_mod m (2 ^ (k + 1))
    rw [sp] at o d
    exact ⟨o, d.symm⟩
  by_cases z : 0 < l - a * 2 ^ (k + 1)
  · rw [if_pos z]
    refine ⟨⟨2 ^ k * (2 * a + 1), by omega, by omega, ?_⟩, fun m h1 h2 => ?_⟩
    · have := ones_split k (2 * a + 1) 0 pk
      rw [Nat.add_zero, ones_zero, Nat.add_zero, ones_dbl1] at this
      exact this
    · obtain ⟨o, d⟩ := lower m h1 h2
      have := ones_pos (n := m % 2 ^ (k + 1)) (by omega)
      omega
  · rw [if_neg z]
    refine ⟨⟨l, Nat.le_refl _, Nat.le_of_lt lh, ?_⟩, fun m h1 h2 => ?_⟩
    · have : l = 2 ^ (k + 1) * a := by omega
      rw [this, oa, Nat.add_zero]
    · obtain ⟨o, d⟩ := lower m h1 h2
      omega
theorem max_is {l h k mo : Nat} (e1 : l / 2 ^ k = h / 2 ^ k) (x : ∃ m, l ≤ m ∧ m ≤ h ∧ ones m = mo) (hh : ones h ≤ mo) (ho : ∀ d, d < k → h / 2 ^ d % 2 = 1 → l ≤ oth h d → ones (oth h d) ≤ mo) : isMax l h mo := by
  refine ⟨x, fun m h1 h2 => ?_⟩
  by_cases c : m = h
  · rw [c]; exact hh
  · obtain ⟨d, dk, a, b, _⟩ := top_diff (show m < h by omega) k (same_part e1 h1 h2)
    obtain ⟨u, v⟩ := oth_is a b
    have := ho d dk (by omega) (by omega)
    omega
theorem rest_bit {h k d : Nat} (dk : d < k) : (h - h / 2 ^ k * 2 ^ k) / 2 ^ d % 2 = h / 2 ^ d % 2 := by
  have e : h - h / 2 ^ k * 2 ^ k = h % 2 ^ k := by
    have := Nat.div_add_mod h (2 ^ k)
    rw [Nat.mul_comm] at this
    omega
  rw [e]
  have t := Nat.testBit_mod_two_pow h k d
  rw [Nat.testBit_eq_decide_div_mod_eq, Nat.testBit_eq_decide_div_mod_eq, decide_eq_true dk, Bool.true_and] at t
  have a : (h % 2 ^ k) / 2 ^ d % 2 = 0 ∨ (h % 2 ^ k) / 2 ^ d % 2 = 1 := by omega
  have b : h / 2 ^ d % 2 = 0 ∨ h / 2 ^ d % 2 = 1 := by omega
  rcases a with a | a <;> rcases b with b | b <;> rw [a, b] at t ⊢ <;> simp at t
theorem first_at {f : Nat → Int} {x : Int} : ∀ m, (∃ j, j < m ∧ f j = x) → ∃ j, j < m ∧ f j = x ∧ ∀ i, i < j → f i ≠ x
  | 0, ⟨_, h, _⟩ => absurd h (by omega)
  | m + 1, ⟨j, h1, h2⟩ => by
    by_cases c : ∃ j, j < m ∧ f j = x
    · obtain ⟨i, a, b, d⟩ := first_at m c
      exact ⟨i, by omega, b, d⟩
    · refine ⟨j, h1, h2, fun i hi z => c ⟨i, by omega, z⟩⟩
end LT

namespace LT
open PySem PySem.Spec PyProof.Rows L2
/-! ### promises of defs that show things: what is being shown around them is told to be nothing -/
structure GOk (P : Program) (w : World) (K : PySem.W.Frag) (mg : Str → Option Value) (base : Heap) (k : Nat) (f : Addr) (fd : FuncData) (ps : List Str) (sp : Sp) : Prop where
  len : ∀ vs H Q E, sp vs H Q E → vs.length = ps.length
  run : ∀ (A : Around) (outer : List Env) (s : Shared) (H : Hp) (args : Args) (us : List Value) (vs : List V) (Q : VK), A.guards = some [] → Room k A → Env0 P w K mg base A outer s H → BindsTo s fd args (ps.zip us) → Vals vs us → sp vs H Q E0 →
    codeAny (model P w) A (.call (.ref f) args) (CR CX0 outer P w H s Q E0) s
section
variable {P : Program} {w : World} {K : PySem.W.Frag} {mg : Str → Option Value} {base : Heap} {k : Nat} {f : Addr} {fd : FuncData} {ps : List Str} {sp : Sp}
theorem GOk.of (F : FnOk P w K mg base CX0 k f fd ps sp) : GOk P w K mg base k f fd ps sp := by
  refine ⟨F.len, ?_⟩
  intro A outer s H args us vs Q _
  exact F.run A outer s H args us vs Q E0
theorem GOk.mono {j : Nat} (F : GOk P w K mg base j f fd ps sp) (h : j ≤ k) : GOk P w K mg base k f fd ps sp := by
  refine ⟨F.len, ?_⟩
  intro A outer s H args us vs Q hg hr
  exact F.run A outer s H args us vs Q hg (hr.mono h)
/-- a def by its body, as Fun.ok -/
theorem okG {x qual : Str} {st : Stmt} {N : List Str} (F : Fun K x qual st f fd) (S : FnScope N ps (defScope st)) (len : ∀ vs H Q E, sp vs H Q E → vs.length = ps.length)
    (body : ∀ (cdv : Value) (A : Around) (outer : List Env) (s : Shared) (H : Hp) (vs : List V) (Q : VK), A.guards = some [] → Room k (A.deeper (envOfC qual (defScope st) s.heap.objs.size f cdv)) → sp vs H Q E0 →
      ∃ t, PSs (cxOf CX0 P w K mg base N qual (defScope st) f cdv A outer s H E0).nox (defBody st) t ∧ t { nx := fun _ H' => Q .non H', rt := Q } (start N vs) H) : GOk P w K mg base (k + 1) f fd ps sp := by
  obtain ⟨oc, od, kV, doc, pm, an, cdv, ct, osl, e, lk, hcd⟩ := F.ex
  subst e
  refine ⟨len, ?_⟩
  intro A outer s H args us vs Q hg hr ev hb rv hsp
  have nvs := len _ _ _ _ hsp
  have there : K.In s.heap := ev.mod.kin.keeps (fun b o q => (ev.bs b o q).1)
  have noLim : s.heap.NoLimit := ev.mod.nolimit.keeps (fun b o q => (ev.bs b o q).1)
  have kinds : ∀ y ∈ ps.zip us, (defScope st).names.lookup y.1 = some .local ∨ ((defScope st).names.lookup y.1 = some .cell ∧ ((cellsFrom (s.heap.objs.size + 1) (defScope st).names []).lookup y.1).isSome = true) := by
    intro y hy
    rcases S.par y.1 (List.of_mem_zip hy).1 with q | q
    · exact Or.inl q
    · exact Or.inr ⟨q, PySem.W.cellsFrom_some _ _ _ (Or.inl q)⟩
  apply codeAny_call_function hr.depth (there _ _ lk) rfl S.co S.gen rfl (PySem.W.codeRec_of there hcd)
  apply hb
  apply wpAny_newFunctionEnv_cells S.kind kinds
  intro env he s1 made
  subst he
  refine ⟨noLim.keeps made.toInCall.keep, codeAny_func ?_⟩
  obtain ⟨t, ht, hq⟩ := body cdv A outer s H vs Q hg (hr.deeper _) hsp
  have I : Inv (cxOf CX0 P w K mg base N qual (defScope st) f cdv A outer s H E0) [] (start N vs) H s1 := inv_start S hr.hd ev nvs rv made
  have ran := ht.nox.run [] s1 (start N vs) H _ I hq
  apply wpAny_mono ran
  · intro fl s' hs
    have fin : ∀ {σ' : L2.St} {H' : Hp} {v : V} {u : Value}, Inv (cxOf CX0 P w K mg base N qual (defScope st) f cdv A outer s H E0) [] σ' H' s' → RelV v u → Q v H' → CE outer P w H s Q u s' := by
      intro σ' H' v u J r q
      exact ⟨v, H', J.os, J.bare, J.base, J.hok, r, q⟩
    match fl, hs with
    | .ret u, ⟨v, σ', H', J, r, q⟩ => exact fin J r q
    | .next, ⟨σ', H', J, q⟩ => exact fin (v := V.non) (u := Value.none) J rfl q
    | .brk, ⟨_, _, _, q⟩ => exact False.elim q
    | .cont, ⟨_, _, _, q⟩ => exact False.elim q
  · intro e s' hs
    exact hs
end
section
variable {X : Cx} {k : Nat} {f : Addr} {fd : FuncData} {ps : List Str} {sp : Sp} {x : Str} {p pos : Pos} {e : Expr} {es : List Expr} {t : TA}
theorem runG {pins : List (Addr × Obj)} {σ : L2.St} {H : Hp} {s : Shared} {Q : VK} {us : List Value} {vs : List V} (F : GOk X.prog X.w X.K X.mg X.base k f fd ps sp) (hg : X.A.guards = some []) (hr : Room k X.A) (hb : Binds X.K fd ps [])
    (I : Inv X pins σ H s) (rv : Vals vs us) (h : sp vs H Q E0) : wpAny (model X.prog X.w) X.A (call (.ref f) us) (EP X pins σ Q) X.xe s := by
  have n : (us ++ []).length = ps.length := by
    rw [List.append_nil, ← rv.length]
    exact F.len _ _ _ _ h
  have b := hb s us I.kIn n
  rw [List.append_nil] at b
  apply wpAny_call
  apply codeAny_mono (F.run X.A X.stack s H ⟨us, []⟩ us vs Q hg hr I.env0 b rv h)
  intro res s' hq
  match res, hq with
  | .error _, hq => exact False.elim hq
  | .ok (.ret u), hq => exact I.after hq
  | .ok .next, hq => exact False.elim hq
  | .ok .brk, hq => exact False.elim hq
  | .ok .cont, hq => exact False.elim hq
theorem pe_callG (F : GOk X.prog X.w X.K X.mg X.base k f fd ps sp) (hgd : X.A.guards = some []) (hr : Room k X.A) (hg : Gl X x) (hm : X.mg x = some (.ref f)) (hk : PySem.W.keepIn X.K (.ref f) = true) (hb : Binds X.K fd ps [])
    (ha : PA X (e :: es) t) (hdb : (x == ("__debug__" : Str)) = false := by decide) (he : starEach (e :: es) X.env = (false, eval e X.env) :: starEach es X.env := by rfl) (hpl : (backTo pos (starEach es X.env)).any (·.1) = false := by rfl) :
    PE X (.Call (.Name x p) (e :: es) [] pos) (tCall sp [] E0 t) := by
  constructor
  intro pins s σ H Q I h
  apply wpAny_Call_Name_kw
  refine ld_glob I hg hm ?_ hdb
  apply PySem.W.callWith_K (h₀ := X.base) I.ok.mod.kin hk _ he hpl
  apply thn (ha.run pos pins s σ H _ I h)
  intro us s1 hh
  obtain ⟨vs, H1, I1, rv, q⟩ := hh
  rw [List.append_nil] at q
  exact ⟨I1.kIn, runG F hgd hr hb I1 rv q⟩
/-- repr of lists and tuples of plain data -/
theorem call_repr (hg : X.A.guards = some []) (hu : X.A.units + 65 < cLine) :
    CallR X (.builtin "repr") (fun xs H Q => ∃ y d, xs = [y] ∧ Dp X.K H y d ∧ PyProof.Rows.isDisplay d = true ∧ SeqAt.shaped d = true ∧ d.showable = true ∧ d.shown.length ≤ sizeLine ∧ Q (.str d.shown) H) := by
  intro pins s σ H xs us Q I r h
  obtain ⟨y, d, rfl, hd, hi, hsh, hs, hl, q⟩ := h
  obtain ⟨u, rfl, r1⟩ := vals1 r
  obtain ⟨as, r2⟩ := Dp.reads I d y u hd r1
  obtain ⟨a, rfl⟩ := PyProof.Rows.isRef_of_reads r2 hi
  have dp := SeqAt.depth_of_shaped hsh
  refine repr_of_reads' r2 hs (PyData.noDict_hsm (PyData.hasDict_of_canLay d (SeqAt.canLay_of_shaped hsh))) hg (by omega) (fun _ _ q => q) ?_ hl
  intro h' u tk kept
  exact ⟨.str d.shown, H, I.kept kept, ⟨_, rfl⟩, q⟩
theorem call_reprB {s : Shared} {H : Hp} {sc : Scope} {ce : Env} {fp : List Addr} (hg : X.A.guards = some []) (hu : X.A.units + 65 < cLine) :
    CallR (X.blk s H sc ce fp) (.builtin "repr") (fun xs H Q => ∃ y d, xs = [y] ∧ Dp X.K H y d ∧ PyProof.Rows.isDisplay d = true ∧ SeqAt.shaped d = true ∧ d.showable = true ∧ d.shown.length ≤ sizeLine ∧ Q (.str d.shown) H) := call_repr (X := X.blk s H sc ce fp) hg hu
end
end LT

namespace LT
open PySem PySem.Spec PyProof.Rows L2
section
variable {P : Program} {w : World} {K : PySem.W.Frag} {mg mb : Str → Option Value} {k : Nat} {fa a : Addr} {fd : FuncData} {x : Str} {sp : Sp} {s₁ : Shared} {vs : List Value} {ns : List Int}
/-- what is told of the heap ahead of the law's call: the script alone, where it is no object of the top -/
def told (K : PySem.W.Frag) (a : Addr) (ob : Obj) (ns : List Int) : Hp := fun b => if b = a ∧ K.lookup a = none then some (.frz ob (.lst (ns.map V.int))) else none
theorem told_at {ob : Obj} {b : Addr} {u : HO} (h : told K a ob ns b = some u) : b = a ∧ K.lookup a = none ∧ u = .frz ob (.lst (ns.map V.int)) := by
  unfold told at h
  by_cases c : b = a ∧ K.lookup a = none
  · rw [if_pos c] at h
    exact ⟨c.1, c.2, (Option.some.inj h).symm⟩
  · rw [if_neg c] at h
    cases h
/-- the law's call, from a promise that asks that nothing is being shown -/
theorem lawG (there : K.In s₁.heap) (globs : s₁.heap.Ns mainGlobals mg) (blts : s₁.heap.Ns builtinsNs mb) (boot : ∀ y : Str, y ≠ "__name__" → mb y = bootBuiltins y) (noLim : s₁.heap.NoLimit) (noGens : s₁.gens = #[])
    (obj : s₁.heap.get? a = some { cls := .type "list", data := .seq vs.toArray }) (areI : IntsAre vs ns) (few : ns.length ≤ sizeLine) (hr : Room k callerA)
    (F : ∀ base : Heap, K.In base → base.Ns mainGlobals mg → GOk P w K mg base k fa fd [x] sp) (binds : ∀ (s : Shared) (u : Value), BindsTo s fd ⟨[u], []⟩ [(x, u)])
    (keeps : ∀ H : Hp, Only H → SqL K H a (ns.map V.int) → sp [.ref a] H (fun v _ => v = .bl true) E0) :
    codeAny (model P w) callerA (.call (.ref fa) ⟨[.ref a], []⟩) (fun r s' => r = .ok (.ret (.bool true)) ∧ OldK s₁.heap s'.heap ∧ s'.os = s₁.os ∧ AllBare s'.gens) s₁ := by
  generalize ho : ({ cls := .type "list", data := .seq vs.toArray } : Obj) = ob at obj
  have items := vals_ints areI
  have only : Only (told K a ob ns) := by
    intro b
    cases q : told K a ob ns b with
    | none => exact Or.inl rfl
    | some u => exact Or.inr ⟨ob, ns.map V.int, by rw [(told_at q).2.2]⟩
  have sq : SqL K (told K a ob ns) a (ns.map V.int) := by
    cases q : K.lookup a with
    | none => exact Or.inl (Or.inr ⟨ob, if_pos ⟨rfl, q⟩⟩)
    | some o =>
      have same : o = ob := Option.some.inj ((there a o q).symm.trans obj)
      subst same
      subst ho
      refine Or.inr ⟨_, vs.toArray, _, q, rfl, rfl, rfl, ?_, by simpa using items⟩
      rw [List.size_toArray, areI.length]
      exact few
  have fits : HOk P w (told K a ob ns) s₁.heap := by
    intro b u q
    obtain ⟨rfl, _, rfl⟩ := told_at q
    subst ho
    exact ⟨obj, by rw [List.length_map]; exact few, vs, _, items, obj⟩
  have behind : ∀ {b : Addr} {o : Obj}, s₁.heap.get? b = some o → told K a ob ns b = none → (hidT s₁.heap (told K a ob ns)).get? b = some o := fun q n => hidT_get q n
  have nsp : ∀ {b : Addr} {m : Str → Option Value}, s₁.heap.Ns b m → (hidT s₁.heap (told K a ob ns)).Ns b m := by
    rintro b m ⟨o, es, ep, q, d, r⟩
    refine ⟨o, es, ep, behind q ?_, d, r⟩
    cases z : told K a ob ns b with
    | none => rfl
    | some u =>
      obtain ⟨rfl, _, _⟩ := told_at z
      rw [obj] at q
      cases q
      subst ho
      cases (show Data.seq vs.toArray _ = Data.dict es ep from d)
  have inB : K.In (hidT s₁.heap (told K a ob ns)) := by
    intro b o q
    refine behind (there b o q) ?_
    cases z : told K a ob ns b with
    | none => rfl
    | some u =>
      obtain ⟨rfl, n, _⟩ := told_at z
      rw [n] at q
      cases q
  have M : Mod K mg (hidT s₁.heap (told K a ob ns)) := by
    obtain ⟨mc, c1, c2⟩ := noLim
    exact ⟨inB, nsp globs, ⟨mb, nsp blts, boot⟩, ⟨mc, nsp c1, c2⟩⟩
  have ev : Env0 P w K mg (hidT s₁.heap (told K a ob ns)) callerA [] s₁ (told K a ob ns) :=
    { frames := rfl, mod := M, bs := fun _ _ q => of_hidT q, bsz := Nat.le_of_eq (hidT_size _ _), funs := trivial, frf := fun b q => absurd (show b ∈ ([] : List Addr) from q) List.not_mem_nil, hok := fits, bare := .of_eq noGens }
  have ran := (F _ inB (nsp globs)).run callerA [] s₁ (told K a ob ns) ⟨[.ref a], []⟩ [.ref a] [.ref a] _ rfl hr ev (binds s₁ (.ref a)) (.cons rfl .nil) (keeps _ only sq)
  apply codeAny_mono ran
  intro res s' h
  match res, h with
  | .error _, h => exact False.elim h
  | .ok .next, h => exact False.elim h
  | .ok .brk, h => exact False.elim h
  | .ok .cont, h => exact False.elim h
  | .ok (.ret u), ⟨v, H', os, bare, un, hok', rv, q⟩ =>
    have qv : v = .bl true := q
    subst qv
    have qu : u = Value.bool true := rv
    subst qu
    refine ⟨rfl, OldK.of_keep ?_, os, bare⟩
    intro b o q1
    cases z : told K a ob ns b with
    | none => exact un.keep b o q1 z (fun m => absurd (show b ∈ ([] : List Addr) from m) List.not_mem_nil) List.not_mem_nil
    | some c =>
      obtain ⟨rfl, n, rfl⟩ := told_at z
      obtain ⟨e1, _⟩ := fits _ _ z
      obtain ⟨e2, _⟩ := hok' _ _ (un.frzs _ _ _ z)
      rw [q1] at e1
      cases e1
      exact e2
end
theorem walkG {l : PySem.W.OpenLaw} {n k : Nat} {q : Program} {loose : List Str} {XP : (Str → Option Value) → Heap → Prop} {YP : World → Heap → Prop} {d : DefRec} {K : Params → PySem.W.Frag} {sp : World → Sp} {x : Str}
    (hn : l.most = some n) (hn2 : n ≤ sizeLine) (hdf : d.params.defaults = []) (hr : Room k callerA) (hY : ∀ (w : World) (h : Heap), YP w h → (K w.params).In h)
    (F : ∀ (w : World) (mg : Str → Option Value) (fa : Addr) (h : Heap), (K w.params).In h → h.Ns mainGlobals mg → mg d.name = some (.ref fa) →
      ∃ fd : FuncData, (∀ (s : Shared) (u : Value), BindsTo s fd ⟨[u], []⟩ [(x, u)]) ∧ ∀ base : Heap, (K w.params).In base → base.Ns mainGlobals mg → GOk l.prog w (K w.params) mg base k fa fd [x] (sp w))
    (keeps : ∀ (w : World) (H : Hp) (a : Addr) (ns : List Int), ns.length ≤ n → Only H → SqL (K w.params) H a (ns.map V.int) → sp w [.ref a] H (fun v _ => v = .bl true) E0) :
    PySem.W.WalkO q loose XP YP l.row.toRowW d [] (fun f vs => PySem.call f vs) := by
  apply Att.attach_call hn hdf
  intro w s₀ s₁ mg mb fa o pm cd doc a vs ns G Y ho hd hcd hmg hobj hints hlen hg
  obtain ⟨fd, hb, hF⟩ := F w mg fa _ (hY w _ Y) G.T.g hmg
  exact lawG (hY w _ Y) G.T.g G.T.b G.T.builtins G.T.nolimit hg hobj hints (Nat.le_trans hlen hn2) hr hF hb (fun H hO hS => keeps w H a ns hlen hO hS)
end LT

namespace LT
open PySem PySem.Spec PyProof.Rows L2
def nd (x : Nat × Nat) : PyData := .tuple [.int x.1, .int x.2]
theorem nds_lay : ∀ l : List (Nat × Nat), PyData.canLayAll0 (l.map nd) = true
  | [] => by simp [PyData.canLayAll0]
  | x :: l => by simp [PyData.canLayAll0, nd, PyData.canLay0, nds_lay l]
theorem nds_depth : ∀ l : List (Nat × Nat), PyData.depthAll (l.map nd) ≤ 2
  | [] => by simp [PyData.depthAll]
  | x :: l => by
    have := nds_depth l
    simp only [List.map_cons, PyData.depthAll, nd, PyData.depth]
    omega
theorem nds_shaped (l : List (Nat × Nat)) : SeqAt.shaped (.list (l.map nd)) = true := by
  have h := nds_depth l
  have h2 : PyData.depth (.list (l.map nd)) ≤ 64 := by
    simp only [PyData.depth]
    omega
  show (PyData.canLay0 (.list (l.map nd)) && decide (PyData.depth (.list (l.map nd)) ≤ 64)) = true
  rw [Bool.and_eq_true]
  exact ⟨by simp only [PyData.canLay0]; exact nds_lay l, decide_eq_true h2⟩
theorem nds_dp {K : PySem.W.Frag} {H : Hp} : ∀ {vs : List V} {l : List (Nat × Nat)}, All2 (Nd H) vs l → DpAll K H vs (l.map nd)
  | _, _, .nil => .nil
  | _, _, .cons h t => .cons h.dp (nds_dp t)
theorem nds_any (l : List (Nat × Nat)) (x : Nat × Nat) : (l.map nd).any (fun z => PyData.eqv z (.tuple [.int x.1, .int x.2])) = decide (x ∈ l) := by
  induction l with
  | nil => simp
  | cons y l ih =>
    rw [List.map_cons, List.any_cons, ih]
    show (PyData.eqv (.tuple [.int y.1, .int y.2]) _ || _) = _
    rw [nd_eqv]
    by_cases c : x = y
    · subst c
      simp
    · have e : (decide ((y.1 : Int) = (x.1 : Int)) && decide ((y.2 : Int) = (x.2 : Int))) = false := by
        rw [Bool.and_eq_false_iff]
        by_cases c1 : y.1 = x.1
        · right
          refine decide_eq_false (fun z => c (Prod.ext c1.symm ?_))
          omega
        · left
          exact decide_eq_false (fun z => c1 (by omega))
      rw [e, Bool.false_or]
      simp [c]
end LT

namespace LT
open PySem PySem.Spec PyProof.Rows L2
/-! ### lists of ints as data -/
theorem ints_lay : ∀ ns : List Int, PyData.canLayAll0 (ns.map PyData.int) = true
  | [] => by simp [PyData.canLayAll0]
  | n :: ns => by simp [PyData.canLayAll0, PyData.canLay0, ints_lay ns]
theorem ints_depth : ∀ ns : List Int, PyData.depthAll (ns.map PyData.int) ≤ 1
  | [] => by simp [PyData.depthAll]
  | n :: ns => by
    have := ints_depth ns
    simp only [List.map_cons, PyData.depthAll, PyData.depth]
    omega
theorem ints_shaped (ns : List Int) : SeqAt.shaped (.list (ns.map PyData.int)) = true := by
  have h := ints_depth ns
  have h2 : PyData.depth (.list (ns.map PyData.int)) ≤ 64 := by
    simp only [PyData.depth]
    omega
  show (PyData.canLay0 (.list (ns.map PyData.int)) && decide (PyData.depth (.list (ns.map PyData.int)) ≤ 64)) = true
  rw [Bool.and_eq_true]
  exact ⟨by simp only [PyData.canLay0]; exact ints_lay ns, decide_eq_true h2⟩
theorem ints_dp {K : PySem.W.Frag} {H : Hp} : ∀ ns : List Int, DpAll K H (ns.map V.int) (ns.map PyData.int)
  | [] => .nil
  | n :: ns => .cons (.int n) (ints_dp ns)
theorem ints_nil : ∀ ns : List Int, PyData.eqv (.list (ns.map PyData.int)) (.list []) = ns.isEmpty
  | [] => by simp only [List.map_nil, PyData.eqv, PyData.eqvAll, List.isEmpty_nil]
  | n :: ns => by simp only [List.map_cons, PyData.eqv, PyData.eqvAll, List.isEmpty_cons]
theorem nil_shaped : SeqAt.shaped (.list []) = true := ints_shaped []
end LT

namespace LT
open PySem PySem.Spec PyProof.Rows L2
/-! ### what is shown fits -/
def small (x : Nat × Nat) : Prop := x.1 ≤ 1000 ∧ x.2 ≤ 1000
theorem int_short {a : Nat} (h : a ≤ 1000000) : (PyData.shown (.int ((a : Nat) : Int))).length ≤ 13 := PyData.shown_int_le (by show a < 10 ^ 12; omega)
theorem int_weight {a : Nat} (h : a ≤ 1000000) : PyData.weight (.int ((a : Nat) : Int)) ≤ 20 := by
  show (if ((a : Nat) : Int) == 0 then 0 else ((a : Nat) : Int).natAbs.log2 + 1) ≤ 20
  split
  · omega
  · rename_i z
    have : ((a : Nat) : Int).natAbs = a := rfl
    rw [this]
    have a0 : a ≠ 0 := fun e => z (by subst e; rfl)
    have := (Nat.log2_lt (k := 20) a0).mpr (by omega)
    omega
theorem nds_short : ∀ l : List (Nat × Nat), (∀ x ∈ l, small x) → PyData.intsShortAll 13 (l.map nd) = true
  | [], _ => rfl
  | x :: l, h => by
    have hx := h x List.mem_cons_self
    simp only [List.map_cons, PyData.intsShortAll, nd, PyData.intsShort, Bool.and_eq_true, decide_eq_true_eq, Bool.and_true]
    exact ⟨⟨int_short (by have := hx.1; omega), int_short (by have := hx.2; omega)⟩, nds_short l fun y hy => h y (List.mem_cons_of_mem _ hy)⟩
theorem nds_weight : ∀ l : List (Nat × Nat), (∀ x ∈ l, small x) → PyData.weightAll (l.map nd) ≤ 43 * l.length
  | [], _ => Nat.le_refl _
  | x :: l, h => by
    have hx := h x List.mem_cons_self
    have ih := nds_weight l fun y hy => h y (List.mem_cons_of_mem _ hy)
    have w1 := int_weight (a := x.1) (by have := hx.1; omega)
    have w2 := int_weight (a := x.2) (by have := hx.2; omega)
    have e : PyData.weightAll ((x :: l).map nd) = (PyData.weight (.int ((x.1 : Nat) : Int)) + 1 + (PyData.weight (.int ((x.2 : Nat) : Int)) + 1 + 0)) + 1 + PyData.weightAll (l.map nd) := by
      simp only [List.map_cons, PyData.weightAll, nd, PyData.weight]
    rw [e, List.length_cons]
    omega
theorem nds_fits (l : List (Nat × Nat)) (h : ∀ x ∈ l, small x) (hl : l.length ≤ 1000) : (PyData.list (l.map nd)).shown.length ≤ sizeLine := by
  have w := nds_weight l h
  refine PyData.shown_fits (B := 13) (by decide) (by decide) (PyData.leavesShort_of_canLay0 13 _ ?_ ?_) ?_
  · simp only [PyData.canLay0]
    exact nds_lay l
  · simp only [PyData.intsShort]
    exact nds_short l h
  · show PyData.weightAll (l.map nd) ≤ 2 ^ 20
    omega
theorem nds_showable : ∀ l : List (Nat × Nat), (∀ x ∈ l, small x) → PyData.showableAll (l.map nd) = true
  | [], _ => rfl
  | x :: l, h => by
    have hx := h x List.mem_cons_self
    simp only [List.map_cons, PyData.showableAll, nd, PyData.showable, Bool.and_eq_true, Bool.and_true]
    exact ⟨⟨decide_eq_true (Nat.lt_of_le_of_lt (Nat.log2_le_self _) (by have := hx.1; show ((x.1 : Nat) : Int).natAbs < 1920; omega)), decide_eq_true (Nat.lt_of_le_of_lt (Nat.log2_le_self _) (by have := hx.2; show ((x.2 : Nat) : Int).natAbs < 1920; omega))⟩, nds_showable l fun y hy => h y (List.mem_cons_of_mem _ hy)⟩
def nats (l : List Nat) : List PyData := l.map fun a => .int ((a : Nat) : Int)
theorem nats_short : ∀ l : List Nat, (∀ x ∈ l, x ≤ 1000) → PyData.intsShortAll 13 (nats l) = true
  | [], _ => rfl
  | x :: l, h => by
    have hx := h x List.mem_cons_self
    simp only [nats, List.map_cons, PyData.intsShortAll, PyData.intsShort, Bool.and_eq_true, decide_eq_true_eq]
    exact ⟨int_short (by omega), nats_short l fun y hy => h y (List.mem_cons_of_mem _ hy)⟩
theorem nats_weight : ∀ l : List Nat, (∀ x ∈ l, x ≤ 1000) → PyData.weightAll (nats l) ≤ 21 * l.length
  | [], _ => Nat.le_refl _
  | x :: l, h => by
    have hx := h x List.mem_cons_self
    have ih := nats_weight l fun y hy => h y (List.mem_cons_of_mem _ hy)
    have w1 := int_weight (a := x) (by omega)
    have e : PyData.weightAll (nats (x :: l)) = PyData.weight (.int ((x : Nat) : Int)) + 1 + PyData.weightAll (nats l) := by
      simp only [nats, List.map_cons, PyData.weightAll]
    rw [e, List.length_cons]
    omega
theorem nats_lay (l : List Nat) : PyData.canLayAll0 (nats l) = true := by
  unfold nats
  have := ints_lay (l.map fun a => ((a : Nat) : Int))
  rw [List.map_map] at this
  exact this
theorem nats_shaped (l : List Nat) : SeqAt.shaped (.list (nats l)) = true := by
  have := ints_shaped (l.map fun a => ((a : Nat) : Int))
  rw [List.map_map] at this
  exact this
theorem nats_dp {K : PySem.W.Frag} {H : Hp} (l : List Nat) : DpAll K H (l.map fun a => V.int ((a : Nat) : Int)) (nats l) := by
  have := ints_dp (K := K) (H := H) (l.map fun a => ((a : Nat) : Int))
  rw [List.map_map, List.map_map] at this
  exact this
theorem nats_fits (l : List Nat) (h : ∀ x ∈ l, x ≤ 1000) (hl : l.length ≤ 1000) : (PyData.list (nats l)).shown.length ≤ sizeLine := by
  have w := nats_weight l h
  refine PyData.shown_fits (B := 13) (by decide) (by decide) (PyData.leavesShort_of_canLay0 13 _ ?_ ?_) ?_
  · simp only [PyData.canLay0]
    exact nats_lay l
  · simp only [PyData.intsShort]
    exact nats_short l h
  · show PyData.weightAll (nats l) ≤ 2 ^ 20
    omega
theorem nats_showable : ∀ l : List Nat, (∀ x ∈ l, x ≤ 1000) → PyData.showableAll (nats l) = true
  | [], _ => rfl
  | x :: l, h => by
    have hx := h x List.mem_cons_self
    simp only [nats, List.map_cons, PyData.showableAll, PyData.showable, Bool.and_eq_true]
    exact ⟨decide_eq_true (Nat.lt_of_le_of_lt (Nat.log2_le_self _) (by show ((x : Nat) : Int).natAbs < 1920; omega)), nats_showable l fun y hy => h y (List.mem_cons_of_mem _ hy)⟩
/-- a whole number and a pair of them -/
def numPair (a b c : Nat) : PyData := .list [.int ((a : Nat) : Int), .tuple [.int ((b : Nat) : Int), .int ((c : Nat) : Int)]]
theorem numPair_shaped (a b c : Nat) : SeqAt.shaped (numPair a b c) = true := by
  show (PyData.canLay0 _ && decide (PyData.depth _ ≤ 64)) = true
  simp [numPair, PyData.canLay0, PyData.canLayAll0, PyData.depth, PyData.depthAll]
theorem numPair_showable {a b c : Nat} (h1 : a ≤ 1000000) (h2 : b ≤ 1000) (h3 : c ≤ 1000) : (numPair a b c).showable = true := by
  simp only [numPair, PyData.showable, PyData.showableAll, Bool.and_eq_true, Bool.and_true]
  have big : ∀ x : Nat, x ≤ 1000000 → decide (((x : Nat) : Int).natAbs.log2 < 1920) = true := fun x hx => decide_eq_true (by
    show x.log2 < 1920
    by_cases z : x = 0
    · subst z; decide
    · have := (Nat.log2_lt (k := 20) z).mpr (by omega)
      omega)
  exact ⟨big a h1, big b (by omega), big c (by omega)⟩
theorem numPair_fits {a b c : Nat} (h1 : a ≤ 1000000) (h2 : b ≤ 1000) (h3 : c ≤ 1000) : (numPair a b c).shown.length ≤ sizeLine := by
  have w1 := int_weight h1
  have w2 := int_weight (a := b) (by omega)
  have w3 := int_weight (a := c) (by omega)
  refine PyData.shown_fits (B := 13) (by decide) (by decide) (PyData.leavesShort_of_canLay0 13 _ ?_ ?_) ?_
  · simp [numPair, PyData.canLay0, PyData.canLayAll0]
  · simp only [numPair, PyData.intsShort, PyData.intsShortAll, Bool.and_eq_true, decide_eq_true_eq, Bool.and_true]
    exact ⟨int_short h1, int_short (by omega), int_short (by omega)⟩
  · have e : (numPair a b c).weight = PyData.weight (.int ((a : Nat) : Int)) + 1 + ((PyData.weight (.int ((b : Nat) : Int)) + 1 + (PyData.weight (.int ((c : Nat) : Int)) + 1 + 0)) + 1 + 0) := by
      simp only [numPair, PyData.weight, PyData.weightAll]
    rw [e]
    omega
/-! ### repr of single values -/
def reprS : V → Str
  | .int i => toString i
  | .bl b => if b then "True" else "False"
  | _ => "None"
def reprOk : V → Prop
  | .int i => i.natAbs.log2 < 1920
  | .bl _ => True
  | .non => True
  | _ => False
theorem call_reprS {X : Cx} : CallR X (.builtin "repr") (fun xs H Q => ∃ v, xs = [v] ∧ reprOk v ∧ Q (.str (reprS v)) H) := by
  intro pins s σ H xs us Q I r h
  obtain ⟨v, rfl, ok, q⟩ := h
  cases v with
  | int i =>
    obtain ⟨u, rfl, t, rfl⟩ := vals1 r
    exact PySem.P.repr_of_int ok ⟨.str _, H, I.tok _, ⟨_, rfl⟩, q⟩
  | bl b =>
    obtain ⟨u, rfl, e⟩ := vals1 r
    cases (show u = Value.bool b from e)
    exact PySem.P.repr_of_bool ⟨.str _, H, I.tok _, ⟨_, rfl⟩, q⟩
  | non =>
    obtain ⟨u, rfl, e⟩ := vals1 r
    cases (show u = Value.none from e)
    exact PySem.P.repr_of_none ⟨.str _, H, I.tok _, ⟨_, rfl⟩, q⟩
  | str _ => exact ok.elim
  | byt _ => exact ok.elim
  | flt _ => exact ok.elim
  | ref _ => exact ok.elim
  | ty _ => exact ok.elim
end LT

namespace LT
open PySem PySem.Spec PyProof.Rows L2
def cnt (l m : Nat) : List Int := (List.range m).map fun j => ((ones (l + j) : Nat) : Int) - 1
theorem cnt_at {l m j : Nat} (h : j < m) : ((cnt l m).map V.int)[j]? = some (.int (((ones (l + j) : Nat) : Int) - 1)) := by
  unfold cnt
  rw [List.getElem?_map, List.getElem?_map, List.getElem?_range h]
  rfl
theorem cnt_len (l m : Nat) : (cnt l m).length = m := by unfold cnt; rw [List.length_map, List.length_range]
theorem cnt_mem {l m : Nat} {x : Int} : x ∈ cnt l m ↔ ∃ j, j < m ∧ ((ones (l + j) : Nat) : Int) - 1 = x := by
  unfold cnt
  rw [List.mem_map]
  exact ⟨fun ⟨j, a, b⟩ => ⟨j, List.mem_range.mp a, b⟩, fun ⟨j, a, b⟩ => ⟨j, List.mem_range.mpr a, b⟩⟩
theorem bitXor_nn (l h : Nat) : Builtin.bitXor (l : Int) (h : Int) = ((l ^^^ h : Nat) : Int) := by
  rw [Bits.bitXor_pp (Int.natCast_nonneg _) (Int.natCast_nonneg _), Int.toNat_natCast, Int.toNat_natCast]
section
variable {P : Program} {w : World} {K : PySem.W.Frag} {mg : Str → Option Value} {base : Heap}
def spRight : Sp := fun vs H Q _ => ∃ (b : Addr) (c : Nat), vs = [.ref b] ∧ ReelAt H b c ∧ c ≤ 10 ^ 6 ∧ ∀ (H' : Hp), But b H H' → ReelAt H' b (c + 50) → Q (.bl true) H'
theorem ok_law_small_right {f g1 g2 g3 g4 : Addr} {fd d1 d2 d3 d4 : FuncData} (F : Fun K "_law_small_right" "_law_small_right" sLawSmallRight f fd)
    (GLawSpin : FnOk P w K mg base CX0 1 g1 d1 ["reel", "many"] spSpin) (ALawSpin : At K mg "_law_spin" g1 d1 ["reel", "many"])
    (GLawOnes : FnOk P w K mg base CX0 1 g2 d2 ["number"] spOnes) (ALawOnes : At K mg "_law_ones" g2 d2 ["number"])
    (GCheapest : FnOk P w K mg base CX0 7 g3 d3 ["low", "high"] spCheapest) (ACheapest : At K mg "cheapest" g3 d3 ["low", "high"])
    (GCostliest : FnOk P w K mg base CX0 7 g4 d4 ["low", "high"] spCostliest) (ACostliest : At K mg "costliest" g4 d4 ["low", "high"])
    (z_range : mg "range" = none) (z_repr : mg "repr" = none) (z_min : mg "min" = none) (z_max : mg "max" = none) : GOk P w K mg base 8 f fd ["reel"] spRight := by
  refine okG F scLawSmallRight (fun vs H Q E h => ?_) (fun cdv A outer s H vs Q hg hr h => ?_)
  · obtain ⟨_, _, rfl, _⟩ := h
    rfl
  obtain ⟨b, c, rfl, hb, hc, q⟩ := h
  refine' ⟨_, (pss_cons (ps_set (i := 1) scLawSmallRight.nd rfl (Or.inl rfl) (pe_op op_add pe_int (pe_call GLawSpin (hr.mono (by decide)) rfl ALawSpin.m ALawSpin.kp ALawSpin.b .nil pass0 (pa_cons (pv 0) (pa_cons pe_int pa_nil)))))
    (pss_cons (ps_set (i := 2) scLawSmallRight.nd rfl (Or.inl rfl) (pe_op op_add (pv 1) (pe_call GLawSpin (hr.mono (by decide)) rfl ALawSpin.m ALawSpin.kp ALawSpin.b .nil pass0 (pa_cons (pv 0) (pa_cons (pe_ix ix_list (pe_lst (pa_cons pe_int (pa_cons pe_int pa_nil))) (pe_call GLawSpin (hr.mono (by decide)) rfl ALawSpin.m ALawSpin.kp ALawSpin.b .nil pass0 (pa_cons (pv 0) (pa_cons pe_int pa_nil))) (fun _ _ => rfl)) pa_nil)))))
    (pss_cons ?cc1
    (pss_cons (ps_set (i := 4) scLawSmallRight.nd rfl (Or.inl rfl) (pe_lst (pa_cons (pe_tup (pa_cons (pe_callB (cr_min rfl) (by rfl) z_min (by decide +kernel) (pa_cons (pv 3) pa_nil)) (pa_cons (pe_op op_add (pv 1) (pe_bm PySem.F.plainAttrs_list PySem.F.slot_list_index PySem.F.type_list_index mt_index (pv 3) (pa_cons (pe_callB (cr_min rfl) (by rfl) z_min (by decide +kernel) (pa_cons (pv 3) pa_nil)) pa_nil))) pa_nil))) (pa_cons (pe_tup (pa_cons (pe_callB (cr_max rfl) (by rfl) z_max (by decide +kernel) (pa_cons (pv 3) pa_nil)) (pa_cons (pe_op op_add (pv 1) (pe_bm PySem.F.plainAttrs_list PySem.F.slot_list_index PySem.F.type_list_index mt_index (pv 3) (pa_cons (pe_callB (cr_max rfl) (by rfl) z_max (by decide +kernel) (pa_cons (pv 3) pa_nil)) pa_nil))) pa_nil))) pa_nil))))
    (pss_one (ps_ret (pe_cmpR op_eq (pe_callB (call_repr hg (units1 hr)) (by rfl) z_repr (by decide +kernel) (pa_cons (pe_lst (pa_cons (pe_call GCheapest (hr.mono (by decide)) rfl ACheapest.m ACheapest.kp ACheapest.b .nil pass0 (pa_cons (pv 1) (pa_cons (pv 2) pa_nil))) (pa_cons (pe_call GCostliest (hr.mono (by decide)) rfl ACostliest.m ACostliest.kp ACostliest.b .nil pass0 (pa_cons (pv 1) (pa_cons (pv 2) pa_nil))) pa_nil))) pa_nil)) (pe_callB (call_repr hg (units1 hr)) (by rfl) z_repr (by decide +kernel) (pa_cons (pv 4) pa_nil)) (nomark _)))))))), ?_⟩
  case cc1 => exact (ps_setLc (i := 3) (own := [("size", 5)]) rfl scLawSmallRight.nd rfl rfl (sw_true rfl rfl rfl (by decide +kernel)) (pi_range2 (by rfl) z_range (pa_cons (pv 1) (pa_cons (pe_op op_add (pv 2) pe_int) pa_nil))) (blkOk_by (N := ["reel", "low", "high", "counts", "due", "size"]) (sc := defScope sLawSmallRight) (by decide +kernel)) (fun _ _ _ _ _ => (pg_name (i := 5) scLawSmallRight.nd rfl (Or.inl rfl))) (fun _ _ _ _ _ => pts_nil) (fun _ _ _ _ _ => (pe_op op_sub (pe_call GLawOnes (hr.mono (by decide)) rfl ALawOnes.m ALawOnes.kp ALawOnes.b .nil pass0 (pa_cons (pv 5) pa_nil)) pe_int)))
  have two : 2 ≤ sizeLine := by decide
  refine ⟨_, rfl, b, 200, c, rfl, by decide, by decide, hb, by omega, fun r1 H1 r11 k1 b1 => ⟨_, _, rfl, rfl, ?_⟩⟩
  have B1 : But b H H1 := fun a o n h => by rw [k1 a n]; exact h
  have e1 : (1 : Int) + (r1 : Int) = ((1 + r1 : Nat) : Int) := by omega
  dsimp only
  rw [e1]
  have ll : 1 ≤ 1 + r1 ∧ 1 + r1 ≤ 200 := by omega
  generalize 1 + r1 = l at ll
  refine ⟨_, rfl, _, rfl, two, fun t nt => ?_⟩
  have s2 := same_upd (o := .lst [.int 9, .int 200]) nt
  have h2 : (upd H1 t (.lst [.int 9, .int 200])) t = some (.lst [.int 9, .int 200]) := upd_same
  have B2 := B1.trans (But.of (b := b) s2)
  have b2 := b1.same s2
  have tb := b1.ne nt
  generalize upd H1 t (.lst [.int 9, .int 200]) = H2 at h2 B2 b2
  refine ⟨_, rfl, b, 2, _, rfl, by decide, by decide, b2, by omega, fun r2 H3 r21 k3 b3 => ?_⟩
  have B3 : But b H H3 := fun a o n h => by rw [k3 a n]; exact B2 a o n h
  have hv : ∃ m : Nat, atI [V.int 9, V.int 200] (r2 : Int) = some (.int (m : Int)) ∧ 1 ≤ m ∧ m ≤ 200 := by
    have : r2 = 0 ∨ r2 = 1 := by omega
    rcases this with rfl | rfl
    · exact ⟨9, atI_nat (j := 0) rfl, by decide, by decide⟩
    · exact ⟨200, atI_nat (j := 1) rfl, by decide, by decide⟩
  obtain ⟨m, hm, m1, m200⟩ := hv
  refine ⟨t, _, _, _, rfl, rfl, SqL.of ((k3 t tb).trans h2), hm, b, m, _, rfl, by omega, by omega, b3, by omega, fun r4 H4 r41 k4 b4 => ⟨_, _, rfl, rfl, ?_⟩⟩
  have B4 : But b H H4 := fun a o n h => by rw [k4 a n]; exact B3 a o n h
  have e2 : (l : Int) + (r4 : Int) = ((l + r4 : Nat) : Int) := rfl
  dsimp only
  rw [e2]
  have hh : l ≤ l + r4 ∧ l + r4 ≤ 400 := by omega
  generalize l + r4 = h at hh
  refine ⟨_, rfl, _, rfl, _, _, rfl, rfl, (l : Int), ((h : Int) + 1), rfl, ⟨by omega, by omega, by omega, by omega⟩, fun D nD => ?_⟩
  have en : ((h : Int) + 1 - (l : Int)).toNat = h + 1 - l := by omega
  rw [en]
  have h30 : h ≤ 10 ^ 30 := by omega
  refine lc_range (lo := (l : Int)) (n := h + 1 - l) (fun i H' => Same H4 H' ∧ H' D = some (.lst ((cnt l i).map V.int))) ⟨same_upd nD, upd_same⟩ ?_ ?_
  · rintro j H5 hj ⟨s5, hD⟩
    refine ⟨rfl, ?_⟩
    refine ⟨_, rfl, l + j, rfl, Nat.lt_of_lt_of_le (show l + j < 2 ^ 10 by omega) (Nat.pow_le_pow_right (by decide) (by decide)), _, _, rfl, rfl, ?_⟩
    refine ⟨_, hD, szlt (by rw [List.length_map, cnt_len]; omega), ?_, ?_⟩
    · exact fun a o k => by rw [upd_ne (ne_of_none k nD)]; exact s5 _ _ k
    · unfold cnt
      rw [List.range_succ, List.map_append, List.map_append]
      exact upd_same
  rintro H5 ⟨s5, hD⟩
  have B5 := B4.trans (But.of (b := b) s5)
  have b5 := b4.same s5
  have cl := cnt_len l (h + 1 - l)
  have cm := fun x => cnt_mem (l := l) (m := h + 1 - l) (x := x)
  have cat := fun j hj => cnt_at (l := l) (m := h + 1 - l) (j := j) hj
  generalize cnt l (h + 1 - l) = C at hD cl cm cat
  have allF : (C.map V.int).all flatV = true := by
    rw [List.all_eq_true]
    intro v hv
    obtain ⟨i, _, rfl⟩ := List.mem_map.mp hv
    rfl
  have mine : ∀ x ∈ C, (∀ y ∈ C, x ≤ y) → ∃ j, j < h + 1 - l ∧ ((ones (l + j) : Nat) : Int) - 1 = x ∧ (∀ i, i < j → ((ones (l + i) : Nat) : Int) - 1 ≠ x) ∧ ∃ c : Nat, x = (c : Int) ∧ least l h c (l + j) := fun x hx hy => by
    obtain ⟨j, j1, j2, j3⟩ := first_at _ ((cm x).mp hx)
    have op := ones_pos (n := l + j) (by omega)
    refine ⟨j, j1, j2, j3, ones (l + j) - 1, by omega, by omega, by omega, by omega, fun m m1 m2 => ?_⟩
    have hm := hy _ ((cm _).mpr ⟨m - l, by omega, rfl⟩)
    rw [show l + (m - l) = m by omega] at hm
    refine ⟨by omega, fun z => ?_⟩
    by_cases w : m < l + j
    · have := j3 (m - l) (by omega)
      rw [show l + (m - l) = m by omega] at this
      omega
    · omega
  have maxe : ∀ x ∈ C, (∀ y ∈ C, y ≤ x) → ∃ j, j < h + 1 - l ∧ ((ones (l + j) : Nat) : Int) - 1 = x ∧ (∀ i, i < j → ((ones (l + i) : Nat) : Int) - 1 ≠ x) ∧ ∃ c : Nat, x = (c : Int) ∧ most l h c (l + j) := fun x hx hy => by
    obtain ⟨j, j1, j2, j3⟩ := first_at _ ((cm x).mp hx)
    have op := ones_pos (n := l + j) (by omega)
    refine ⟨j, j1, j2, j3, ones (l + j) - 1, by omega, by omega, by omega, by omega, fun m m1 m2 => ?_⟩
    have hm := hy _ ((cm _).mpr ⟨m - l, by omega, rfl⟩)
    rw [show l + (m - l) = m by omega] at hm
    refine ⟨by omega, fun z => ?_⟩
    by_cases w : m < l + j
    · have := j3 (m - l) (by omega)
      rw [show l + (m - l) = m by omega] at this
      omega
    · omega
  have Cp : 0 < C.length := by omega
  refine ⟨_, rfl, D, C, rfl, SqL.of hD, Cp, fun mn hmn hmin => ?_⟩
  obtain ⟨j, j1, j2, j3, cc, ecc, hle⟩ := mine mn hmn hmin
  refine ⟨_, rfl, _, rfl, .inl ⟨rfl, _, SqL.of hD⟩, _, rfl, D, C, rfl, SqL.of hD, Cp, fun mn2 hmn2 hmin2 => ?_⟩
  have e3 : mn2 = mn := Int.le_antisymm (hmin2 _ hmn) (hmin _ hmn2)
  subst e3
  refine ⟨D, _, _, j, _, rfl, rfl, SqL.of hD, rfl, allF, cat j j1, ?_, ?_, ?_⟩
  · rw [j2]; simp [eqV]
  · intro i z' hij hz
    rw [cat i (by omega)] at hz
    cases hz
    have := j3 i hij
    simp [eqV]
    exact this
  refine ⟨_, _, rfl, rfl, two, fun t1 nt1 => ?_⟩
  have e4 : (l : Int) + (j : Int) = ((l + j : Nat) : Int) := rfl
  dsimp only
  rw [e4, ecc]
  have u1 := same_upd (o := .tup [.int (cc : Int), .int ((l + j : Nat) : Int)]) nt1
  have ht1 : Nd (upd H5 t1 (.tup [.int (cc : Int), .int ((l + j : Nat) : Int)])) (.ref t1) (cc, l + j) := ⟨t1, rfl, upd_same⟩
  have hD1 := u1 _ _ hD
  have B6 := B5.trans (But.of (b := b) u1)
  have b6 := b5.same u1
  generalize upd H5 t1 (.tup [.int (cc : Int), .int ((l + j : Nat) : Int)]) = H6 at ht1 hD1 B6 b6
  refine ⟨_, rfl, D, C, rfl, SqL.of hD1, Cp, fun mx hmx hmax => ?_⟩
  obtain ⟨j', j1', j2', j3', cc', ecc', hle'⟩ := maxe mx hmx hmax
  refine ⟨_, rfl, _, rfl, .inl ⟨rfl, _, SqL.of hD1⟩, _, rfl, D, C, rfl, SqL.of hD1, Cp, fun mx2 hmx2 hmax2 => ?_⟩
  have e3 : mx2 = mx := Int.le_antisymm (hmax _ hmx2) (hmax2 _ hmx)
  subst e3
  refine ⟨D, _, _, j', _, rfl, rfl, SqL.of hD1, rfl, allF, cat j' j1', ?_, ?_, ?_⟩
  · rw [j2']; simp [eqV]
  · intro i z' hij hz
    rw [cat i (by omega)] at hz
    cases hz
    have := j3' i hij
    simp [eqV]
    exact this
  refine ⟨_, _, rfl, rfl, two, fun t2 nt2 => ?_⟩
  have e4 : (l : Int) + (j' : Int) = ((l + j' : Nat) : Int) := rfl
  dsimp only
  rw [e4, ecc']
  have u2 := same_upd (o := .tup [.int (cc' : Int), .int ((l + j' : Nat) : Int)]) nt2
  have ht2 : Nd (upd H6 t2 (.tup [.int (cc' : Int), .int ((l + j' : Nat) : Int)])) (.ref t2) (cc', l + j') := ⟨t2, rfl, upd_same⟩
  have ht12 := ht1.same u2
  have B7 := B6.trans (But.of (b := b) u2)
  have b7 := b6.same u2
  generalize upd H6 t2 (.tup [.int (cc' : Int), .int ((l + j' : Nat) : Int)]) = H7 at ht2 ht12 B7 b7
  refine ⟨two, fun du ndu => ?_⟩
  have u3 := same_upd (o := .lst [.ref t1, .ref t2]) ndu
  have hdu : (upd H7 du (.lst [.ref t1, .ref t2])) du = some (.lst [.ref t1, .ref t2]) := upd_same
  have x1 := ht12.same u3
  have x2 := ht2.same u3
  have B8 := B7.trans (But.of (b := b) u3)
  have b8 := b7.same u3
  generalize upd H7 du (.lst [.ref t1, .ref t2]) = H8 at hdu x1 x2 B8 b8
  refine ⟨_, rfl, _, rfl, l, h, rfl, ll.1, hh.1, h30, fun H9 p1 c1 s1 s9 np1 hp1 le1 => ?_⟩
  refine ⟨_, rfl, _, rfl, l, h, rfl, ll.1, hh.1, h30, fun H10 p2 c2 s2' s10 np2 hp2 le2 => ⟨two, fun l3 nl3 => ?_⟩⟩
  obtain ⟨y1, y2⟩ := least_one le1 hle
  obtain ⟨y3, y4⟩ := most_one le2 hle'
  subst y1 y2 y3 y4
  have u4 := same_upd (o := .lst [.ref p1, .ref p2]) nl3
  have sm1 : small (c1, l + j) := by
    obtain ⟨a1, a2, a3, _⟩ := le1
    have := ones_le_self (l + j)
    exact ⟨by show c1 ≤ 1000; omega, by show l + j ≤ 1000; omega⟩
  have sm2 : small (c2, l + j') := by
    obtain ⟨a1, a2, a3, _⟩ := le2
    have := ones_le_self (l + j')
    exact ⟨by show c2 ≤ 1000; omega, by show l + j' ≤ 1000; omega⟩
  have sml : ∀ x ∈ [(c1, l + j), (c2, l + j')], small x := fun x hx => by
    simp only [List.mem_cons, List.not_mem_nil, or_false] at hx
    rcases hx with rfl | rfl
    · exact sm1
    · exact sm2
  have a1 := ((hp1.same s10).same u4)
  have a2 := hp2.same u4
  have h3 : (upd H10 l3 (.lst [.ref p1, .ref p2])) l3 = some (.lst [.ref p1, .ref p2]) := upd_same
  have x1 := ((x1.same s9).same s10).same u4
  have x2 := ((x2.same s9).same s10).same u4
  have hdu := u4 _ _ (s10 _ _ (s9 _ _ hdu))
  have B11 := ((B8.trans (But.of (b := b) s9)).trans (But.of (b := b) s10)).trans (But.of (b := b) u4)
  have b11 := ((b8.same s9).same s10).same u4
  generalize upd H10 l3 (.lst [.ref p1, .ref p2]) = H11 at a1 a2 h3 x1 x2 hdu B11 b11
  have sh := nds_shaped [(c1, l + j), (c2, l + j')]
  have shw : (PyData.list ([(c1, l + j), (c2, l + j')].map nd)).showable = true := by simp only [PyData.showable]; exact nds_showable _ sml
  have fit := nds_fits [(c1, l + j), (c2, l + j')] sml (by show 2 ≤ 1000; decide)
  refine ⟨_, .list ([(c1, l + j), (c2, l + j')].map nd), rfl, .lst (SqL.of h3) (nds_dp (.cons a1 (.cons a2 .nil))), rfl, sh, shw, fit, ?_⟩
  refine ⟨_, rfl, _, .list ([(c1, l + j), (c2, l + j')].map nd), rfl, .lst (SqL.of hdu) (nds_dp (.cons x1 (.cons x2 .nil))), rfl, sh, shw, fit, rfl, ?_⟩
  rw [decide_eq_true (rfl : V.str _ = V.str _)]
  exact q _ B11 (b11.mono (by omega))
end
end LT

namespace LT
open PySem PySem.Spec PyProof.Rows L2
section
variable {P : Program} {w : World} {K : PySem.W.Frag} {mg : Str → Option Value} {base : Heap}
def spBounds : Sp := fun vs H Q _ => ∃ (l h : Nat), vs = [.int l, .int h] ∧ 1 ≤ l ∧ l ≤ h ∧ h ≤ 10 ^ 30 ∧ ∀ (H' : Hp) (p : Addr) (lo hi : Nat), Same H H' → H p = none → H' p = some (.lst [.int lo, .int hi]) → isMin l h lo → isMax l h hi → Q (.ref p) H'
theorem dv_cast (n k : Nat) : (n : Int) / 2 ^ ((k : Nat) : Int).toNat = ((n / 2 ^ k : Nat) : Int) := by
  rw [Int.toNat_natCast]
  have : (2 : Int) ^ k = ((2 ^ k : Nat) : Int) := (Int.natCast_pow 2 k).symm
  rw [this]
  exact (Int.natCast_ediv _ _).symm
theorem ml_cast (n k : Nat) : (n : Int) * 2 ^ ((k : Nat) : Int).toNat = ((n * 2 ^ k : Nat) : Int) := by
  rw [Int.toNat_natCast]
  have : (2 : Int) ^ k = ((2 ^ k : Nat) : Int) := (Int.natCast_pow 2 k).symm
  rw [this]
  exact (Int.natCast_mul _ _).symm
theorem max_castZ (a c : Nat) : (if ((c : Nat) : Int) > (a : Int) then (c : Int) else (a : Int)) = ((max a c : Nat) : Int) := by split <;> omega
theorem ok_law_bounds {f g2 : Addr} {fd d2 : FuncData} (F : Fun K "_law_bounds" "_law_bounds" sLawBounds f fd)
    (GLawOnes : FnOk P w K mg base CX0 1 g2 d2 ["number"] spOnes) (ALawOnes : At K mg "_law_ones" g2 d2 ["number"])
    (z_range : mg "range" = none) (z_max : mg "max" = none) (z_int : mg "int" = none) : FnOk P w K mg base CX0 2 f fd ["low", "high"] spBounds := by
  refine F.ok scLawBounds (fun vs H Q E h => ?_) (fun cdv A outer s H vs Q E hr h => ?_)
  · obtain ⟨_, _, rfl, _⟩ := h
    rfl
  obtain ⟨l, h, rfl, l1, lh, h30, q⟩ := h
  refine ⟨_, (pss_cons (ps_if (pt_cmpR op_eq (pv 0) (pv 1) (nomark _))
    (pss_one (ps_ret (pe_op op_rep (pe_lst (pa_cons (pe_call GLawOnes (hr.mono (by decide)) rfl ALawOnes.m ALawOnes.kp ALawOnes.b .nil pass0 (pa_cons (pv 0) pa_nil)) pa_nil)) pe_int)))
    pss_nil)
    (pss_cons (ps_set (i := 2) scLawBounds.nd rfl (Or.inl rfl) (pe_bits (pe_op op_xor (pv 0) (pv 1))))
    (pss_cons (ps_par (i := 3) (j := 4) (by rfl) scLawBounds.nd rfl rfl (by decide) rfl rfl (pa_cons (pe_call GLawOnes (hr.mono (by decide)) rfl ALawOnes.m ALawOnes.kp ALawOnes.b .nil pass0 (pa_cons (pe_op op_shr (pv 1) (pv 2)) pa_nil)) (pa_cons (pe_op op_shlW (pe_op op_shr (pv 1) (pv 2)) (pv 2)) pa_nil)) (by rfl))
    (pss_cons (ps_par (i := 5) (j := 6) (by rfl) scLawBounds.nd rfl rfl (by decide) rfl rfl (pa_cons (pe_op op_sub (pv 0) (pv 4)) (pa_cons (pe_op op_sub (pv 1) (pv 4)) pa_nil)) (by rfl))
    (pss_cons (ps_set (i := 7) scLawBounds.nd rfl (Or.inl rfl) (pe_op op_add (pv 3) (pe_callTy call_int1 (by rfl) z_int (by decide +kernel) (pa_cons (pe_cmpR op_gt (pv 5) pe_int (nomark _)) pa_nil))))
    (pss_cons (ps_set (i := 8) scLawBounds.nd rfl (Or.inl rfl) (pe_call GLawOnes (hr.mono (by decide)) rfl ALawOnes.m ALawOnes.kp ALawOnes.b .nil pass0 (pa_cons (pv 1) pa_nil)))
    (pss_cons (ps_for PassesOwn.never rfl (pi_range1 (by rfl) z_range (pa_cons (pv 2) pa_nil)) (pg_name (i := 9) scLawBounds.nd rfl (Or.inl rfl))
    (pss_one (ps_if (pt_cmpR op_eq (pe_op op_and (pe_op op_shr (pv 6) (pv 9)) pe_int) pe_int (nomark _))
    (pss_cons (ps_set (i := 10) scLawBounds.nd rfl (Or.inl rfl) (pe_op op_sub (pe_op op_shlW (pe_op op_shr (pv 1) (pv 9)) (pv 9)) pe_int))
    (pss_one (ps_if (pt_cmpR op_ge (pv 10) (pv 0) (nomark _))
    (pss_one (ps_set (i := 8) scLawBounds.nd rfl (Or.inl rfl) (pe_callB (call_max2 rfl) (by rfl) z_max (by decide +kernel) (pa_cons (pv 8) (pa_cons (pe_call GLawOnes (hr.mono (by decide)) rfl ALawOnes.m ALawOnes.kp ALawOnes.b .nil pass0 (pa_cons (pv 10) pa_nil)) pa_nil)))))
    pss_nil)))
    pss_nil)))
    (pss_one (ps_ret (pe_lst (pa_cons (pv 7) (pa_cons (pv 8) pa_nil)))))))))))), ?_⟩
  have two : 2 ≤ sizeLine := by decide
  have small : ∀ x, x ≤ h → x < 2 ^ 400 := fun x hx => Nat.lt_of_le_of_lt (Nat.le_trans hx h30) (by decide)
  refine ⟨_, rfl, _, rfl, rfl, _, rfl, ite2 (fun c1 => ?_) (fun c1 => ?_)⟩
  · have e : l = h := by
      have := V.int.inj (of_decide_eq_true c1)
      omega
    subst e
    refine ⟨_, rfl, l, rfl, small l (Nat.le_refl _), (by show 1 ≤ sizeLine; decide), fun p np => ?_⟩
    refine ⟨p, _, _, rfl, rfl, upd_same, by decide, by decide, (by show 1 * 2 ≤ sizeLine; decide), fun p2 np2 => ?_⟩
    have s1 := same_upd (o := .lst [.int ((ones l : Nat) : Int)]) np
    refine q _ p2 (ones l) (ones l) (s1.trans (same_upd np2)) (s1.free np2) upd_same ⟨⟨l, Nat.le_refl _, Nat.le_refl _, rfl⟩, fun m a b => ?_⟩ ⟨⟨l, Nat.le_refl _, Nat.le_refl _, rfl⟩, fun m a b => ?_⟩
    all_goals
      have : m = l := by omega
      rw [this]
      exact Nat.le_refl _
  · have ne : l ≠ h := fun z => c1 (decide_eq_true (by rw [z]))
    have lt : l < h := by omega
    obtain ⟨p1, p2, p3⟩ := parts_of lt
    have xne : l ^^^ h ≠ 0 := fun z => by
      rw [z] at p1 p2 p3
      have e0 : Nat.log2 0 = 0 := by decide
      rw [e0, Nat.pow_zero, Nat.div_one] at p2 p3
      rw [e0] at p1
      have : l = h := Nat.eq_of_testBit_eq fun i => by
        have t : (l ^^^ h).testBit i = false := by rw [z]; exact Nat.zero_testBit i
        rw [Nat.testBit_xor] at t
        revert t
        cases l.testBit i <;> cases h.testBit i <;> simp
      omega
    have xlt : (l ^^^ h).log2 < 100 := (Nat.log2_lt xne).mpr (Nat.xor_lt_two_pow (Nat.lt_of_le_of_lt (Nat.le_trans lh h30) (by decide)) (Nat.lt_of_le_of_lt h30 (by decide)))
    have mi := min_is lt p1 p2 p3
    have bx : ((Builtin.Int.intBits (Builtin.bitXor (l : Int) (h : Int)) : Nat) : Int) = (((l ^^^ h).log2 + 1 : Nat) : Int) := by
      rw [bitXor_nn, bits_nat, if_neg xne]
    generalize (l ^^^ h).log2 = k at *
    have ha : h / 2 ^ (k + 1) ≤ h := Nat.div_le_self _ _
    have hb : h / 2 ^ (k + 1) * 2 ^ (k + 1) ≤ h := Nat.div_mul_le_self _ _
    have hbl : h / 2 ^ (k + 1) * 2 ^ (k + 1) ≤ l := by rw [← p1]; exact Nat.div_mul_le_self _ _
    refine ⟨_, rfl, _, rfl, _, _, rfl, rfl, _, rfl, ?_⟩
    dsimp only
    rw [bx]
    have sh0 : (0 : Int) ≤ ((k + 1 : Nat) : Int) := Int.natCast_nonneg _
    refine ⟨_, rfl, _, rfl, _, _, rfl, rfl, sh0, h / 2 ^ (k + 1), congrArg (fun z => [V.int z]) (dv_cast _ _), small _ ha, ?_⟩
    refine ⟨_, rfl, _, rfl, _, _, rfl, rfl, sh0, _, rfl, _, _, rfl, rfl, ?_, _, _, rfl, ?_⟩
    · show CShl ((h : Int) / 2 ^ ((k + 1 : Nat) : Int).toNat) ((k + 1 : Nat) : Int)
      rw [dv_cast]
      exact shl_ok (n := 400) (small _ ha) (by omega)
    dsimp only
    rw [dv_cast, ml_cast]
    refine ⟨_, rfl, _, rfl, _, _, rfl, rfl, _, rfl, _, rfl, _, _, rfl, rfl, _, _, rfl, ?_⟩
    dsimp only
    rw [show (l : Int) - ((h / 2 ^ (k + 1) * 2 ^ (k + 1) : Nat) : Int) = ((l - h / 2 ^ (k + 1) * 2 ^ (k + 1) : Nat) : Int) by omega, show (h : Int) - ((h / 2 ^ (k + 1) * 2 ^ (k + 1) : Nat) : Int) = ((h - h / 2 ^ (k + 1) * 2 ^ (k + 1) : Nat) : Int) by omega]
    refine ⟨_, rfl, _, rfl, _, _, rfl, rfl, .inr ⟨_, rfl, _, _, rfl, rfl, ?_⟩⟩
    have el : ((ones (h / 2 ^ (k + 1)) : Nat) : Int) + (if decide (((l - h / 2 ^ (k + 1) * 2 ^ (k + 1) : Nat) : Int) > 0) = true then 1 else 0) = ((ones (h / 2 ^ (k + 1)) + (if 0 < l - h / 2 ^ (k + 1) * 2 ^ (k + 1) then 1 else 0) : Nat) : Int) := by
      by_cases z : 0 < l - h / 2 ^ (k + 1) * 2 ^ (k + 1)
      · rw [if_pos z, if_pos (decide_eq_true (by omega))]
        omega
      · rw [if_neg z, if_neg (by rw [decide_eq_true_eq]; omega)]
        omega
    dsimp only
    rw [el]
    generalize ones (h / 2 ^ (k + 1)) + (if 0 < l - h / 2 ^ (k + 1) * 2 ^ (k + 1) then 1 else 0) = lo at mi
    have rb := fun d (dk : d < k + 1) => rest_bit (h := h) dk
    generalize h - h / 2 ^ (k + 1) * 2 ^ (k + 1) = re at rb
    generalize l - h / 2 ^ (k + 1) * 2 ^ (k + 1) = le
    generalize ones (h / 2 ^ (k + 1)) = fr
    generalize h / 2 ^ (k + 1) * 2 ^ (k + 1) = be
    refine ⟨_, rfl, h, rfl, small h (Nat.le_refl _), ?_⟩
    refine ⟨_, rfl, ((k + 1 : Nat) : Int), rfl, by omega, by omega, for_range (lo := 0) (n := k + 1) (fun i σ H' => ∃ (mo : Nat) (v9 v10 : Option V), σ = [some (.int (l : Int)), some (.int (h : Int)), some (.int ((k + 1 : Nat) : Int)), some (.int (fr : Int)), some (.int (be : Int)), some (.int (le : Int)), some (.int (re : Int)), some (.int (lo : Int)), some (.int (mo : Int)), v9, v10] ∧ H' = H ∧ (∃ m, l ≤ m ∧ m ≤ h ∧ ones m = mo) ∧ ones h ≤ mo ∧ ∀ d, d < i → h / 2 ^ d % 2 = 1 → l ≤ oth h d → ones (oth h d) ≤ mo)
      ⟨ones h, none, none, rfl, rfl, ⟨h, lh, Nat.le_refl _, rfl⟩, Nat.le_refl _, fun d z => absurd z (by omega)⟩ ?_ ?_⟩
    · rintro i σ H1 hi ⟨mo, v9, v10, rfl, rfl, hx, hh, ho⟩
      have ei : (0 : Int) + (i : Int) = (i : Int) := by omega
      rw [ei]
      have i0 : (0 : Int) ≤ (i : Int) := Int.natCast_nonneg _
      have bitv : Builtin.bitAnd ((re : Int) / 2 ^ ((i : Nat) : Int).toNat) 1 = ((h / 2 ^ i % 2 : Nat) : Int) := by rw [dv_cast, bitAnd_low1, rb i hi]
      refine ⟨_, rfl, _, rfl, _, _, rfl, rfl, i0, _, _, rfl, rfl, rfl, _, rfl, ite2 (fun c2 => ?_) (fun c2 => ?_)⟩
      · have o1 : h / 2 ^ i % 2 = 1 := by
          have := V.int.inj (of_decide_eq_true c2)
          rw [bitv] at this
          omega
        have hi2 : h / 2 ^ i ≤ h := Nat.div_le_self _ _
        have pi := Nat.pow_pos (a := 2) (n := i) (by decide)
        have hq : 1 ≤ h / 2 ^ i := by
          generalize h / 2 ^ i = z at o1
          omega
        have pos : 1 ≤ h / 2 ^ i * 2 ^ i := Nat.mul_pos hq pi
        have le2 : h / 2 ^ i * 2 ^ i ≤ h := Nat.div_mul_le_self _ _
        refine ⟨_, rfl, _, rfl, _, _, rfl, rfl, i0, _, rfl, _, _, rfl, rfl, ?_, _, _, rfl, rfl, ?_⟩
        · show CShl ((h : Int) / 2 ^ ((i : Nat) : Int).toNat) ((i : Nat) : Int)
          rw [dv_cast]
          exact shl_ok (n := 400) (small _ hi2) (by omega)
        dsimp only
        rw [dv_cast, ml_cast, show ((h / 2 ^ i * 2 ^ i : Nat) : Int) - 1 = ((oth h i : Nat) : Int) by unfold oth; omega]
        refine ⟨_, rfl, _, rfl, _, _, rfl, rfl, _, rfl, ite2 (fun c3 => ?_) (fun c3 => ?_)⟩
        · have c4 : ((oth h i : Nat) : Int) ≥ (l : Int) := of_decide_eq_true c3
          have ou : oth h i ≤ h := by unfold oth; omega
          refine ⟨_, rfl, _, rfl, oth h i, rfl, small _ ou, _, _, rfl, ?_⟩
          rw [max_castZ]
          refine ⟨max mo (ones (oth h i)), _, _, rfl, rfl, ?_, by omega, fun d z o l2 => ?_⟩
          · by_cases w : mo ≤ ones (oth h i)
            · exact ⟨oth h i, by omega, ou, by omega⟩
            · obtain ⟨m, a, b, e⟩ := hx
              exact ⟨m, a, b, by omega⟩
          · by_cases w : d < i
            · have := ho d w o l2
              omega
            · have : d = i := by omega
              subst this
              omega
        · have c4 : ¬ ((oth h i : Nat) : Int) ≥ (l : Int) := of_decide_eq_false (Bool.eq_false_iff.mpr c3)
          refine ⟨mo, _, _, rfl, rfl, hx, hh, fun d z o l2 => ?_⟩
          by_cases w : d < i
          · exact ho d w o l2
          · have : d = i := by omega
            subst this
            omega
      · have o1 : ¬ h / 2 ^ i % 2 = 1 := fun z => c2 (decide_eq_true (by
          show V.int (Builtin.bitAnd ((re : Int) / 2 ^ ((i : Nat) : Int).toNat) 1) = V.int 1
          rw [bitv, z]
          rfl))
        refine ⟨mo, _, _, rfl, rfl, hx, hh, fun d z o l2 => ?_⟩
        by_cases w : d < i
        · exact ho d w o l2
        · have : d = i := by omega
          subst this
          exact absurd o o1
    · rintro σ H1 ⟨mo, v9, v10, rfl, rfl, hx, hh, ho⟩
      refine ⟨_, rfl, _, rfl, two, fun p np => ?_⟩
      exact q _ p lo mo (same_upd np) np upd_same mi (max_is p1 hx hh ho)
end
end LT

namespace LT
open PySem PySem.Spec PyProof.Rows L2
theorem ne_no {x y : V} (h : x = y) : V.bl (!decide (x = y)) = V.bl false := by rw [decide_eq_true h]; rfl
theorem sort2 {a b : Int} {ns : List Int} (p : ns.Perm [a, b]) (s : ns.Pairwise (· ≤ ·)) : ns = if a ≤ b then [a, b] else [b, a] := by
  split
  · rename_i h
    exact List.Perm.eq_of_pairwise (le := (· ≤ ·)) (fun _ _ _ _ h1 h2 => Int.le_antisymm h1 h2) s (.cons (fun y hy => by rw [List.mem_singleton] at hy; omega) (.cons (fun _ hy => absurd hy List.not_mem_nil) .nil)) p
  · rename_i h
    exact List.Perm.eq_of_pairwise (le := (· ≤ ·)) (fun _ _ _ _ h1 h2 => Int.le_antisymm h1 h2) s (.cons (fun y hy => by rw [List.mem_singleton] at hy; omega) (.cons (fun _ hy => absurd hy List.not_mem_nil) .nil)) (p.trans (.swap _ _ _))
theorem least_self {l c s : Nat} (x : least l l c s) : s = l ∧ c = ones l - 1 := by
  obtain ⟨x1, x2, x3, x4⟩ := x
  have e : s = l := by omega
  subst e
  exact ⟨rfl, by omega⟩
theorem most_self {l c s : Nat} (x : most l l c s) : s = l ∧ c = ones l - 1 := by
  obtain ⟨x1, x2, x3, x4⟩ := x
  have e : s = l := by omega
  subst e
  exact ⟨rfl, by omega⟩
section
variable {P : Program} {w : World} {K : PySem.W.Frag} {mg : Str → Option Value} {base : Heap}
theorem ok_law_great_right {f g1 g2 g3 g4 g5 g6 g7 : Addr} {fd d1 d2 d3 d4 d5 d6 d7 : FuncData} (F : Fun K "_law_great_right" "_law_great_right" sLawGreatRight f fd)
    (GLawSpin : FnOk P w K mg base CX0 1 g1 d1 ["reel", "many"] spSpin) (ALawSpin : At K mg "_law_spin" g1 d1 ["reel", "many"])
    (GLawOnes : FnOk P w K mg base CX0 1 g2 d2 ["number"] spOnes) (ALawOnes : At K mg "_law_ones" g2 d2 ["number"])
    (GCheapest : FnOk P w K mg base CX0 7 g3 d3 ["low", "high"] spCheapest) (ACheapest : At K mg "cheapest" g3 d3 ["low", "high"])
    (GCostliest : FnOk P w K mg base CX0 7 g4 d4 ["low", "high"] spCostliest) (ACostliest : At K mg "costliest" g4 d4 ["low", "high"])
    (GLawDrawnSize : FnOk P w K mg base CX0 2 g5 d5 ["reel"] spDrawnSize) (ALawDrawnSize : At K mg "_law_drawn_size" g5 d5 ["reel"])
    (GLawBounds : FnOk P w K mg base CX0 2 g6 d6 ["low", "high"] spBounds) (ALawBounds : At K mg "_law_bounds" g6 d6 ["low", "high"])
    (GRootSums : FnOk P w K mg base CX0 6 g7 d7 ["size"] spRootSums) (ARootSums : At K mg "root_sums" g7 d7 ["size"])
    (z_range : mg "range" = none) (z_sorted : mg "sorted" = none) (z_min : mg "min" = none) (z_int : mg "int" = none) : FnOk P w K mg base CX0 8 f fd ["reel"] spRight := by
  refine F.ok scLawGreatRight (fun vs H Q E h => ?_) (fun cdv A outer s H vs Q E hr h => ?_)
  · obtain ⟨_, _, rfl, _⟩ := h
    rfl
  obtain ⟨b, c, rfl, hb, hc, q⟩ := h
  refine ⟨_, (pss_cons (ps_set (i := 1) scLawGreatRight.nd rfl (Or.inl rfl) (pe_call GLawDrawnSize (hr.mono (by decide)) rfl ALawDrawnSize.m ALawDrawnSize.kp ALawDrawnSize.b .nil pass0 (pa_cons (pv 0) pa_nil)))
    (pss_cons (ps_set (i := 2) scLawGreatRight.nd rfl (Or.inl rfl) (pe_op op_shl pe_int (pe_call GLawSpin (hr.mono (by decide)) rfl ALawSpin.m ALawSpin.kp ALawSpin.b .nil pass0 (pa_cons (pv 0) (pa_cons (pe_bits (pv 1)) pa_nil)))))
    (pss_cons (ps_set (i := 3) scLawGreatRight.nd rfl (Or.inl rfl) (pe_lst (pa_cons (pe_call GLawDrawnSize (hr.mono (by decide)) rfl ALawDrawnSize.m ALawDrawnSize.kp ALawDrawnSize.b .nil pass0 (pa_cons (pv 0) pa_nil)) (pa_cons (pe_callB (call_min2 rfl) (by rfl) z_min (by decide +kernel) (pa_cons (pe_op op_pow pe_int pe_int) (pa_cons (pe_op op_add (pv 1) (pe_call GLawSpin (hr.mono (by decide)) rfl ALawSpin.m ALawSpin.kp ALawSpin.b .nil pass0 (pa_cons (pv 0) (pa_cons pe_int pa_nil)))) pa_nil))) (pa_cons (pe_callB (call_min2 rfl) (by rfl) z_min (by decide +kernel) (pa_cons (pe_op op_pow pe_int pe_int) (pa_cons (pe_op op_add (pe_op op_sub (pv 1) (pe_op op_modN (pe_callTy call_int1 (by rfl) z_int (by decide +kernel) (pa_cons (pv 1) pa_nil)) (pv 2))) (pv 2)) pa_nil))) pa_nil)))))
    (pss_cons (ps_asg (pe_callB cr_sorted (by rfl) z_sorted (by decide +kernel) (pa_cons (pe_lst (pa_cons (pv 1) (pa_cons (pe_ix ix_list (pv 3) (pe_call GLawSpin (hr.mono (by decide)) rfl ALawSpin.m ALawSpin.kp ALawSpin.b .nil pass0 (pa_cons (pv 0) (pa_cons pe_int pa_nil))) (fun _ _ => rfl)) pa_nil))) pa_nil)) (pg_unl (by rfl) (pgs_cons (pg_name (i := 4) scLawGreatRight.nd rfl (Or.inl rfl)) (pgs_cons (pg_name (i := 5) scLawGreatRight.nd rfl (Or.inl rfl)) pgs_nil))))
    (pss_cons (ps_asg (pe_call GLawBounds (hr.mono (by decide)) rfl ALawBounds.m ALawBounds.kp ALawBounds.b .nil pass0 (pa_cons (pv 4) (pa_cons (pv 5) pa_nil))) (pg_unl (by rfl) (pgs_cons (pg_name (i := 6) scLawGreatRight.nd rfl (Or.inl rfl)) (pgs_cons (pg_name (i := 7) scLawGreatRight.nd rfl (Or.inl rfl)) pgs_nil))))
    (pss_cons (ps_for PassesOwn.never rfl (pi_tup (pe_tup (pa_cons (pe_tup (pa_cons (pe_call GCheapest (hr.mono (by decide)) rfl ACheapest.m ACheapest.kp ACheapest.b .nil pass0 (pa_cons (pv 4) (pa_cons (pv 5) pa_nil))) (pa_cons (pv 6) (pa_cons pe_bl pa_nil)))) (pa_cons (pe_tup (pa_cons (pe_call GCostliest (hr.mono (by decide)) rfl ACostliest.m ACostliest.kp ACostliest.b .nil pass0 (pa_cons (pv 4) (pa_cons (pv 5) pa_nil))) (pa_cons (pv 7) (pa_cons pe_bl pa_nil)))) pa_nil)))) (pg_tup (by rfl) (pgs_cons (pg_name (i := 8) scLawGreatRight.nd rfl (Or.inl rfl)) (pgs_cons (pg_name (i := 9) scLawGreatRight.nd rfl (Or.inl rfl)) (pgs_cons (pg_name (i := 10) scLawGreatRight.nd rfl (Or.inl rfl)) pgs_nil))))
    (pss_cons (ps_asg (pv 8) (pg_tup (by rfl) (pgs_cons (pg_name (i := 11) scLawGreatRight.nd rfl (Or.inl rfl)) (pgs_cons (pg_name (i := 12) scLawGreatRight.nd rfl (Or.inl rfl)) pgs_nil))))
    (pss_cons (ps_if (PW.pt (pw_or (pt_cmpR op_ne (pv 11) (pe_op op_sub (pv 9) pe_int) (nomark _)) (pw_or (pt_not (pt_chain op_le op_le (pv 4) (pv 12) (pv 5))) (pw_or1 (pt_cmpR op_ne (pe_call GRootSums (hr.mono (by decide)) rfl ARootSums.m ARootSums.kp ARootSums.b .nil pass0 (pa_cons (pv 12) pa_nil)) (pv 11) (nomark _))))))
    (pss_one (ps_ret pe_bl))
    pss_nil)
    (pss_one (ps_if (PW.pt (pw_and (pt_cmpR op_gt (pv 12) (pv 4) (nomark _)) (pw_and1 (pt_cmpR op_eq (pe_ix ix_list (pe_call GLawBounds (hr.mono (by decide)) rfl ALawBounds.m ALawBounds.kp ALawBounds.b .nil pass0 (pa_cons (pv 4) (pa_cons (pe_op op_sub (pv 12) pe_int) pa_nil))) (pe_callTy call_int1 (by rfl) z_int (by decide +kernel) (pa_cons (pe_not (pv 10)) pa_nil)) (fun _ _ => rfl)) (pv 9) (nomark _)))))
    (pss_one (ps_ret pe_bl))
    pss_nil)))))
    (pss_cons (ps_for PassesOwn.never rfl (pi_range1 (by rfl) z_range (pa_cons pe_int pa_nil)) (pg_name (i := 13) scLawGreatRight.nd rfl (Or.inl rfl))
    (pss_cons (ps_set (i := 12) scLawGreatRight.nd rfl (Or.inl rfl) (pe_op op_add (pv 4) (pe_call GLawSpin (hr.mono (by decide)) rfl ALawSpin.m ALawSpin.kp ALawSpin.b .nil pass0 (pa_cons (pv 0) (pa_cons (pe_op op_add (pe_op op_sub (pv 5) (pv 4)) pe_int) pa_nil)))))
    (pss_one (ps_if (pt_not (pt_chain op_le op_le (pv 6) (pe_call GLawOnes (hr.mono (by decide)) rfl ALawOnes.m ALawOnes.kp ALawOnes.b .nil pass0 (pa_cons (pv 12) pa_nil)) (pv 7)))
    (pss_one (ps_ret pe_bl))
    pss_nil))))
    (pss_one (ps_ret (pe_chain (op_eqD hr.units) (op_eqD hr.units) (pe_call GCheapest (hr.mono (by decide)) rfl ACheapest.m ACheapest.kp ACheapest.b .nil pass0 (pa_cons (pv 4) (pa_cons (pv 4) pa_nil))) (pe_call GCostliest (hr.mono (by decide)) rfl ACostliest.m ACostliest.kp ACostliest.b .nil pass0 (pa_cons (pv 4) (pa_cons (pv 4) pa_nil))) (pe_tup (pa_cons (pe_call GRootSums (hr.mono (by decide)) rfl ARootSums.m ARootSums.kp ARootSums.b .nil pass0 (pa_cons (pv 4) pa_nil)) (pa_cons (pv 4) pa_nil))))))))))))), ?_⟩
  have two : 2 ≤ sizeLine := by decide
  have three : 3 ≤ sizeLine := by decide
  refine ⟨_, rfl, b, c, rfl, hb, by omega, fun one H1 o1 o30 B1 b1 => ?_⟩
  have bn : Builtin.Int.intBits (one : Int) = one.log2 + 1 := by rw [bits_nat, if_neg (by omega)]
  have l100 : one.log2 < 100 := (Nat.log2_lt (by omega)).mpr (Nat.lt_of_le_of_lt o30 (by decide))
  refine ⟨_, rfl, _, rfl, _, rfl, b, _, _, rfl, (by rw [bn]; omega), (by rw [bn]; omega), b1, by omega, fun pw H2 p1 k2 b2 => ?_⟩
  rw [bn] at p1
  have B2 : But b H H2 := fun a o n h => by rw [k2 a n]; exact B1 a o n h
  refine ⟨_, _, rfl, rfl, ⟨Int.natCast_nonneg _, by omega, by decide⟩, ?_⟩
  dsimp only
  rw [shl_nat]
  have pp := Nat.pow_pos (a := 2) (n := pw) (by decide)
  generalize 2 ^ pw = M at pp
  refine ⟨_, rfl, b, _, rfl, b2, by omega, fun f1 H3 f11 f130 B3 b3 => ?_⟩
  refine ⟨_, _, rfl, rfl, ⟨by decide, by decide, by decide⟩, _, rfl, _, rfl, b, 99, _, rfl, by decide, by decide, b3, by omega, fun r4 H4 r41 k4 b4 => ⟨_, _, rfl, rfl, _, _, rfl, ?_⟩⟩
  have B4 : But b H H4 := fun a o n h => by rw [k4 a n]; exact B3 a o n (B2 a o n h)
  refine ⟨_, _, rfl, rfl, ⟨by decide, by decide, by decide⟩, _, rfl, _, rfl, .inl ⟨_, rfl, _, rfl, _, _, rfl, rfl, (by omega), _, _, rfl, rfl, _, rfl, _, _, rfl, rfl, _, _, rfl, three, fun fa nfa => ?_⟩⟩
  have e30 : (10 : Int) ^ (30 : Int).toNat = 10 ^ 30 := rfl
  dsimp only
  rw [e30]
  have v2 : ∃ n : Nat, (if (one : Int) + (r4 : Int) < 10 ^ 30 then (one : Int) + (r4 : Int) else 10 ^ 30) = (n : Int) ∧ 1 ≤ n ∧ n ≤ 10 ^ 30 := by
    refine ⟨if one + r4 < 10 ^ 30 then one + r4 else 10 ^ 30, ?_, ?_, ?_⟩ <;> split <;> (try split) <;> omega
  have f0 := Int.emod_nonneg (one : Int) (show (M : Int) ≠ 0 by omega)
  have f1' := Int.emod_lt_of_pos (one : Int) (show (0 : Int) < (M : Int) by omega)
  rw [← Int.fmod_eq_emod_of_nonneg _ (Int.natCast_nonneg M)] at f0 f1'
  have v3 : ∃ n : Nat, (if (one : Int) - Int.fmod (one : Int) (M : Int) + (M : Int) < 10 ^ 30 then (one : Int) - Int.fmod (one : Int) (M : Int) + (M : Int) else 10 ^ 30) = (n : Int) ∧ 1 ≤ n ∧ n ≤ 10 ^ 30 := by
    generalize Int.fmod (one : Int) (M : Int) = z at f0 f1'
    have : 1 ≤ (one : Int) - z + (M : Int) := by omega
    generalize (one : Int) - z + (M : Int) = y at this
    obtain ⟨n, rfl⟩ := Int.eq_ofNat_of_zero_le (show 0 ≤ y by omega)
    refine ⟨if n < 10 ^ 30 then n else 10 ^ 30, ?_, ?_, ?_⟩ <;> split <;> (try split) <;> omega
  obtain ⟨n2, e2, n21, n230⟩ := v2
  obtain ⟨n3, e3, n31, n330⟩ := v3
  rw [e2, e3]
  have u4 := same_upd (o := .lst [.int (f1 : Int), .int (n2 : Int), .int (n3 : Int)]) nfa
  have hfa : (upd H4 fa (.lst [.int (f1 : Int), .int (n2 : Int), .int (n3 : Int)])) fa = some (.lst ([f1, n2, n3].map fun x : Nat => V.int (x : Int))) := upd_same
  have hl : ∀ x ∈ [f1, n2, n3], 1 ≤ x ∧ x ≤ 10 ^ 30 := by
    intro x hx
    simp only [List.mem_cons, List.not_mem_nil, or_false] at hx
    rcases hx with rfl | rfl | rfl
    · exact ⟨f11, f130⟩
    · exact ⟨n21, n230⟩
    · exact ⟨n31, n330⟩
  have B5 := B4.trans (But.of (b := b) u4)
  have b5 := b4.same u4
  have fab := b4.ne nfa
  have ln : [f1, n2, n3].length = 3 := rfl
  generalize upd H4 fa (.lst [.int (f1 : Int), .int (n2 : Int), .int (n3 : Int)]) = H5 at hfa B5 b5
  generalize [f1, n2, n3] = L at hfa hl ln
  refine ⟨_, rfl, _, rfl, _, rfl, b, 3, _, rfl, by decide, by decide, b5, by omega, fun r6 H6 r61 k6 b6 => ?_⟩
  have B6 : But b H H6 := fun a o n h => by rw [k6 a n]; exact B5 a o n h
  have rl : r6 < L.length := by omega
  have hat : (L.map fun x : Nat => V.int (x : Int))[r6]? = some (.int (L[r6] : Int)) := by rw [List.getElem?_map, List.getElem?_eq_getElem rl]; rfl
  obtain ⟨x1, x30⟩ := hl L[r6] (List.getElem_mem rl)
  generalize L[r6] = x at hat x1 x30
  refine ⟨fa, _, _, _, rfl, rfl, SqL.of ((k6 fa fab).trans hfa), atI_nat hat, two, fun sl nsl => ?_⟩
  have u7 := same_upd (o := .lst [.int (one : Int), .int (x : Int)]) nsl
  have hsl : (upd H6 sl (.lst [.int (one : Int), .int (x : Int)])) sl = some (.lst ([(one : Int), (x : Int)].map V.int)) := upd_same
  have B7 := B6.trans (But.of (b := b) u7)
  have b7 := b6.same u7
  generalize upd H6 sl (.lst [.int (one : Int), .int (x : Int)]) = H7 at hsl B7 b7
  refine ⟨sl, _, rfl, SqL.of hsl, (by show 2 < 64; decide), fun ns so pe pw nso => ?_⟩
  have es := sort2 pe pw
  have hlh : ∃ l h : Nat, ns = [(l : Int), (h : Int)] ∧ 1 ≤ l ∧ l ≤ h ∧ h ≤ 10 ^ 30 := by
    rw [es]
    by_cases k : (one : Int) ≤ (x : Int)
    · exact ⟨one, x, if_pos k, o1, by omega, x30⟩
    · exact ⟨x, one, if_neg k, x1, by omega, o30⟩
  obtain ⟨l, h, rfl, l1, lh, h30⟩ := hlh
  have u8 := same_upd (o := .lst ([(l : Int), (h : Int)].map V.int)) nso
  have B8 := B7.trans (But.of (b := b) u8)
  have b8 := b7.same u8
  refine ⟨so, _, rfl, SqL.of upd_same, rfl, _, _, rfl, _, _, rfl, rfl, ?_⟩
  generalize upd H7 so (.lst ([(l : Int), (h : Int)].map V.int)) = H8 at B8 b8
  refine ⟨_, rfl, _, rfl, l, h, rfl, l1, lh, h30, fun H9 pb lo hi s9 npb hpb mn mx => ?_⟩
  have B9 := B8.trans (But.of (b := b) s9)
  have b9 := b8.same s9
  refine ⟨pb, _, rfl, SqL.of hpb, rfl, _, _, rfl, _, _, rfl, rfl, ?_⟩
  refine ⟨_, rfl, _, rfl, l, h, rfl, l1, lh, h30, fun H10 q1 c1 s1 s10 nq1 hq1 le1 => ⟨_, rfl, three, fun t1 nt1 => ?_⟩⟩
  have u11 := same_upd (o := .tup [.ref q1, .int (lo : Int), .bl true]) nt1
  have hT1 : (upd H10 t1 (.tup [.ref q1, .int (lo : Int), .bl true])) t1 = some (.tup [.ref q1, .int (lo : Int), .bl true]) := upd_same
  have B11 := (B9.trans (But.of (b := b) s10)).trans (But.of (b := b) u11)
  have b11 := (b9.same s10).same u11
  have hq1 := hq1.same u11
  generalize upd H10 t1 (.tup [.ref q1, .int (lo : Int), .bl true]) = H11 at hT1 B11 b11 hq1
  refine ⟨_, rfl, _, rfl, l, h, rfl, l1, lh, h30, fun H12 q2 c2 s2 s12 nq2 hq2 le2 => ⟨_, rfl, three, fun t2 nt2 => ?_⟩⟩
  have u13 := same_upd (o := .tup [.ref q2, .int (hi : Int), .bl false]) nt2
  have hT2 : (upd H12 t2 (.tup [.ref q2, .int (hi : Int), .bl false])) t2 = some (.tup [.ref q2, .int (hi : Int), .bl false]) := upd_same
  have B13 := (B11.trans (But.of (b := b) s12)).trans (But.of (b := b) u13)
  have b13 := (b11.same s12).same u13
  have hq1 := (hq1.same s12).same u13
  have hq2 := hq2.same u13
  have hT1 := u13 _ _ (s12 _ _ hT1)
  generalize upd H12 t2 (.tup [.ref q2, .int (hi : Int), .bl false]) = H13 at hT1 hT2 B13 b13 hq1 hq2
  refine ⟨two, fun t3 nt3 => ?_⟩
  have u14 := same_upd (o := .tup [.ref t1, .ref t2]) nt3
  have hT3 : (upd H13 t3 (.tup [.ref t1, .ref t2])) t3 = some (.tup [.ref t1, .ref t2]) := upd_same
  have B14 := B13.trans (But.of (b := b) u14)
  have b14 := b13.same u14
  have hq1 := hq1.same u14
  have hq2 := hq2.same u14
  have hT1 := u14 _ _ hT1
  have hT2 := u14 _ _ hT2
  generalize upd H13 t3 (.tup [.ref t1, .ref t2]) = H14 at hT1 hT2 hT3 B14 b14 hq1 hq2
  have elo := least_min le1 mn
  have ehi := most_max le2 mx
  subst elo
  subst ehi
  obtain ⟨y1, y2, y3, y4⟩ := le1
  obtain ⟨w1', w2', w3', w4'⟩ := le2
  obtain ⟨_, z1, hp1'⟩ := id hq1
  cases z1
  obtain ⟨_, z2, hp2'⟩ := id hq2
  cases z2
  refine ⟨t3, rfl, ⟨_, SqT.of hT3⟩, for_tup (K := K) (a := t3) (xs := [.ref t1, .ref t2]) (fun j σ H' => ∃ (v8 v9 v10 v11 v12 v13 : Option V), σ = [some (.ref b), some (.int (one : Int)), some (.int (M : Int)), some (.ref fa), some (.int (l : Int)), some (.int (h : Int)), some (.int ((c1 + 1 : Nat) : Int)), some (.int ((c2 + 1 : Nat) : Int)), v8, v9, v10, v11, v12, v13] ∧ But b H H' ∧ Same H14 H' ∧ ReelAt H' b (c + 30))
    ⟨none, none, none, none, none, none, rfl, B14, Same.refl _, b14.mono (by omega)⟩ (fun i σ H' _ ⟨_, _, _, _, _, _, _, _, k, _⟩ => SqT.of (k _ _ hT3)) ?_ ?_⟩
  · rintro j v σ H15 hj ⟨v8, v9, v10, v11, v12, v13, rfl, B5, C5, b5⟩
    match j, hj with
    | 0, hj =>
      have e : V.ref t1 = v := Option.some.inj hj
      subst e
      refine ⟨t1, _, rfl, SqT.of (C5 _ _ hT1), rfl, _, _, rfl, _, _, rfl, _, _, rfl, rfl, ?_⟩
      refine ⟨_, rfl, q1, _, rfl, SqT.of (C5 _ _ hp1'), rfl, _, _, rfl, _, _, rfl, rfl, ?_⟩
      refine ⟨_, rfl, _, rfl, _, _, rfl, rfl, rfl, false, ne_no (congrArg V.int (by omega)), ?_⟩
      refine ⟨_, rfl, _, rfl, _, _, rfl, rfl, true, congrArg V.bl (decide_eq_true (by show (l : Int) ≤ (s1 : Int); omega)), _, rfl, _, _, rfl, rfl, true, congrArg V.bl (decide_eq_true (by show (s1 : Int) ≤ (h : Int); omega)), ?_⟩
      refine ⟨_, rfl, s1, rfl, by omega, by omega, fun H6 s6 => ⟨_, rfl, rfl, false, ne_no (congrArg V.int (by omega)), ?_⟩⟩
      by_cases gt : l < s1
      · refine ⟨_, rfl, _, rfl, _, _, rfl, rfl, true, congrArg V.bl (decide_eq_true (by show (s1 : Int) > (l : Int); omega)), ?_⟩
        refine ⟨_, rfl, _, rfl, _, _, rfl, rfl, l, s1 - 1, congrArg (fun z => [V.int (l : Int), V.int z]) (by omega), l1, by omega, by omega, fun H7 p7 lo7 hi7 s7 np7 hp7 mn7 mx7 => ?_⟩
        refine ⟨_, rfl, true, rfl, .inr ⟨_, rfl, p7, _, _, _, rfl, rfl, SqL.of hp7, atI_nat (j := 0) rfl, _, rfl, rfl, false, congrArg V.bl (decide_eq_false (fun z => ?_)), ?_⟩⟩
        · have z2 := V.int.inj z
          obtain ⟨⟨m, w1, w2, w3⟩, _⟩ := mn7
          have := (y4 m w1 (by omega)).2 (by omega)
          omega
        exact ⟨_, _, _, _, _, _, rfl, B5.trans (But.of (s6.trans s7)), C5.trans (s6.trans s7), (b5.same s6).same s7⟩
      · refine ⟨_, rfl, _, rfl, _, _, rfl, rfl, false, congrArg V.bl (decide_eq_false (by show ¬ (s1 : Int) > (l : Int); omega)), ?_⟩
        exact ⟨_, _, _, _, _, _, rfl, B5.trans (But.of s6), C5.trans s6, b5.same s6⟩
    | 1, hj =>
      have e : V.ref t2 = v := Option.some.inj hj
      subst e
      refine ⟨t2, _, rfl, SqT.of (C5 _ _ hT2), rfl, _, _, rfl, _, _, rfl, _, _, rfl, rfl, ?_⟩
      refine ⟨_, rfl, q2, _, rfl, SqT.of (C5 _ _ hp2'), rfl, _, _, rfl, _, _, rfl, rfl, ?_⟩
      refine ⟨_, rfl, _, rfl, _, _, rfl, rfl, rfl, false, ne_no (congrArg V.int (by omega)), ?_⟩
      refine ⟨_, rfl, _, rfl, _, _, rfl, rfl, true, congrArg V.bl (decide_eq_true (by show (l : Int) ≤ (s2 : Int); omega)), _, rfl, _, _, rfl, rfl, true, congrArg V.bl (decide_eq_true (by show (s2 : Int) ≤ (h : Int); omega)), ?_⟩
      refine ⟨_, rfl, s2, rfl, by omega, by omega, fun H6 s6 => ⟨_, rfl, rfl, false, ne_no (congrArg V.int (by omega)), ?_⟩⟩
      by_cases gt : l < s2
      · refine ⟨_, rfl, _, rfl, _, _, rfl, rfl, true, congrArg V.bl (decide_eq_true (by show (s2 : Int) > (l : Int); omega)), ?_⟩
        refine ⟨_, rfl, _, rfl, _, _, rfl, rfl, l, s2 - 1, congrArg (fun z => [V.int (l : Int), V.int z]) (by omega), l1, by omega, by omega, fun H7 p7 lo7 hi7 s7 np7 hp7 mn7 mx7 => ?_⟩
        refine ⟨_, rfl, false, rfl, .inr ⟨_, rfl, p7, _, _, _, rfl, rfl, SqL.of hp7, atI_nat (j := 1) rfl, _, rfl, rfl, false, congrArg V.bl (decide_eq_false (fun z => ?_)), ?_⟩⟩
        · have z2 := V.int.inj z
          obtain ⟨⟨m, w1, w2, w3⟩, _⟩ := mx7
          have := (w4' m w1 (by omega)).2 (by omega)
          omega
        exact ⟨_, _, _, _, _, _, rfl, B5.trans (But.of (s6.trans s7)), C5.trans (s6.trans s7), (b5.same s6).same s7⟩
      · refine ⟨_, rfl, _, rfl, _, _, rfl, rfl, false, congrArg V.bl (decide_eq_false (by show ¬ (s2 : Int) > (l : Int); omega)), ?_⟩
        exact ⟨_, _, _, _, _, _, rfl, B5.trans (But.of s6), C5.trans s6, b5.same s6⟩
    | j + 2, hj => cases hj
  · rintro σ H15 ⟨v8, v9, v10, v11, v12, v13, rfl, B15, _, b15⟩
    refine ⟨4, rfl, by decide, by decide, for_range (lo := 0) (n := 4) (fun i σ H' => ∃ (v8 v9 v10 v11 v12 v13 : Option V), σ = [some (.ref b), some (.int (one : Int)), some (.int (M : Int)), some (.ref fa), some (.int (l : Int)), some (.int (h : Int)), some (.int ((c1 + 1 : Nat) : Int)), some (.int ((c2 + 1 : Nat) : Int)), v8, v9, v10, v11, v12, v13] ∧ But b H H' ∧ ReelAt H' b (c + 30 + i))
      ⟨_, _, _, _, _, _, rfl, B15, b15⟩ ?_ ?_⟩
    · rintro i σ H16 hi ⟨v8, v9, v10, v11, v12, v13, rfl, B16, b16⟩
      refine ⟨_, rfl, _, rfl, _, rfl, _, rfl, _, _, rfl, rfl, _, _, rfl, rfl, b, _, _, rfl, by omega, by omega, b16, by omega, fun r H17 r1 k17 b17 => ⟨_, _, rfl, rfl, ?_⟩⟩
      have er : (l : Int) + (r : Int) = ((l + r : Nat) : Int) := rfl
      dsimp only
      rw [er]
      have lr : l ≤ l + r ∧ l + r ≤ h := by omega
      have B17 : But b H H17 := fun a o n h => by rw [k17 a n]; exact B16 a o n h
      generalize l + r = m at lr
      have m1 := (y4 m lr.1 lr.2).1
      have m2 := (w4' m lr.1 lr.2).1
      refine ⟨_, rfl, _, rfl, m, rfl, Nat.lt_of_le_of_lt (Nat.le_trans lr.2 h30) (by decide), _, _, rfl, rfl, true, congrArg V.bl (decide_eq_true (by show ((c1 + 1 : Nat) : Int) ≤ ((ones m : Nat) : Int); omega)), _, rfl, _, _, rfl, rfl, true, congrArg V.bl (decide_eq_true (by show ((ones m : Nat) : Int) ≤ ((c2 + 1 : Nat) : Int); omega)), ?_⟩
      exact ⟨_, _, _, _, _, _, rfl, B17, b17⟩
    · rintro σ H16 ⟨v8, v9, v10, v11, v12, v13, rfl, B16, b16⟩
      refine ⟨_, rfl, _, rfl, l, l, rfl, l1, Nat.le_refl _, by omega, fun H17 p1 e1 f1 s17 _ hp1 ll1 => ?_⟩
      refine ⟨_, rfl, _, rfl, l, l, rfl, l1, Nat.le_refl _, by omega, fun H18 p2 e2 f2 s18 _ hp2 ll2 => ?_⟩
      obtain ⟨x1, x2⟩ := least_self ll1
      obtain ⟨x3, x4⟩ := most_self ll2
      rw [x1, x2] at hp1
      rw [x3, x4] at hp2
      refine ⟨_, _, (hp1.same s18).dp, hp2.dp, nd_shaped _ _, nd_shaped _ _, true, congrArg V.bl (SeqAt.eqv_refl _ (SeqAt.canLay_of_shaped (nd_shaped _ _))), ?_⟩
      refine ⟨_, rfl, l, rfl, l1, by omega, fun H19 s19 => ⟨_, rfl, two, fun t nt => ?_⟩⟩
      have u20 := same_upd (o := .tup [.int ((ones l - 1 : Nat) : Int), .int (l : Int)]) nt
      have ht : Nd (upd H19 t (.tup [.int ((ones l - 1 : Nat) : Int), .int (l : Int)])) (.ref t) (ones l - 1, l) := ⟨t, rfl, upd_same⟩
      refine ⟨_, _, ((hp2.same s19).same u20).dp, ht.dp, nd_shaped _ _, nd_shaped _ _, ?_⟩
      rw [SeqAt.eqv_refl _ (SeqAt.canLay_of_shaped (nd_shaped _ _))]
      exact q _ ((((B16.trans (But.of s17)).trans (But.of s18)).trans (But.of s19)).trans (But.of u20)) (((((b16.same s17).same s18).same s19).same u20).mono (by omega))
end
end LT

namespace LT
open PySem PySem.Spec PyProof.Rows L2
theorem script_at {ns : List Int} {lo hi : Option Int} {i : Nat} {x : V} (h : (cutV (ns.map V.int) lo hi ++ [.int 0])[i]? = some x) : ∃ c : Int, x = .int c := by
  have m := List.mem_of_getElem? h
  rcases List.mem_append.mp m with m | m
  · unfold cutV at m
    have m2 := List.mem_of_mem_drop (List.mem_of_mem_take m)
    obtain ⟨c, _, e⟩ := List.mem_map.mp m2
    exact ⟨c, e.symm⟩
  · exact ⟨0, List.mem_singleton.mp m⟩
theorem sqSame {K : PySem.W.Frag} {H H' : Hp} {a : Addr} {xs : List V} (h : SqL K H a xs) (e : Same H H') : SqL K H' a xs :=
  h.elim (fun h => .inl (h.elim (fun h => .inl (e _ _ h)) fun ⟨o, h⟩ => .inr ⟨o, e _ _ h⟩)) fun h => .inr h
def spLaw (K : PySem.W.Frag) : Sp := fun vs H Q _ => ∃ (a : Addr) (ns : List Int), vs = [.ref a] ∧ SqL K H a (ns.map V.int) ∧ ns.length ≤ 63 ∧ ∀ H', Q (.bl true) H'
end LT

namespace LT
open PySem PySem.Spec PyProof.Rows L2
theorem turns_is (k : Int) (len : Nat) (h : 1 ≤ k) : ∃ m : Nat, m ≤ k.toNat ∧ (if (if (len : Int) < k then (len : Int) else k) > 1 then (if (len : Int) < k then (len : Int) else k) else 1) = (m : Int) := by
  refine ⟨(if (if (len : Int) < k then (len : Int) else k) > 1 then (if (len : Int) < k then (len : Int) else k) else 1).toNat, ?_, ?_⟩ <;> split <;> split <;> omega
theorem lst_is {l h c s : Nat} (d t : Nat) (x : least l h c s) (y : least l h d t) : (c, s) = (d, t) := by
  obtain ⟨a, b⟩ := least_one x y
  rw [a, b]
theorem mst_is {l h c s : Nat} (d t : Nat) (x : most l h c s) (y : most l h d t) : (c, s) = (d, t) := by
  obtain ⟨a, b⟩ := most_one x y
  rw [a, b]
def onesS (n : Nat) : Nat := n % 2 + (n / 2 % 2 + (n / 2 / 2 % 2 + (n / 2 / 2 / 2 % 2 + (n / 2 / 2 / 2 / 2 % 2 + 0))))
theorem onesS_is {n : Nat} (h : n < 32) : ones n = onesS n := by
  have h1 : n / 2 < 16 := by omega
  have h2 : n / 2 / 2 < 8 := by omega
  have h3 : n / 2 / 2 / 2 < 4 := by generalize n / 2 / 2 = z at h2; omega
  have h4 : n / 2 / 2 / 2 / 2 < 2 := by generalize n / 2 / 2 / 2 = z at h3; omega
  have h5 : n / 2 / 2 / 2 / 2 / 2 = 0 := by generalize n / 2 / 2 / 2 / 2 = z at h4; omega
  unfold onesS
  rw [ones_step n, ones_step (n / 2), ones_step (n / 2 / 2), ones_step (n / 2 / 2 / 2), ones_step (n / 2 / 2 / 2 / 2), h5, ones_zero]
theorem least57 : least 5 7 1 5 := ⟨by decide, by decide, by rw [onesS_is (by decide)]; decide, fun m h1 h2 => by
  have : m = 5 ∨ m = 6 ∨ m = 7 := by omega
  rcases this with rfl | rfl | rfl <;> rw [onesS_is (by decide)] <;> decide⟩
theorem most512 : most 5 12 2 7 := ⟨by decide, by decide, by rw [onesS_is (by decide)]; decide, fun m h1 h2 => by
  have : m = 5 ∨ m = 6 ∨ m = 7 ∨ m = 8 ∨ m = 9 ∨ m = 10 ∨ m = 11 ∨ m = 12 := by omega
  rcases this with rfl | rfl | rfl | rfl | rfl | rfl | rfl | rfl <;> rw [onesS_is (by decide)] <;> decide⟩
theorem least520 : least 5 20 0 8 := ⟨by decide, by decide, by rw [onesS_is (by decide)]; decide, fun m h1 h2 => by
  have o := ones_pos (n := m) (by omega)
  refine ⟨o, fun z => ?_⟩
  by_cases c : 8 ≤ m
  · exact c
  · exfalso
    have : m = 5 ∨ m = 6 ∨ m = 7 := by omega
    rcases this with rfl | rfl | rfl <;> rw [onesS_is (by decide)] at z <;> revert z <;> decide⟩
theorem most30 : most 1 (10 ^ 30) 98 (2 ^ 99 - 1) := by
  refine ⟨by decide, by decide, ones_full 99, fun m h1 h2 => ?_⟩
  have g := ones_ge m
  have l := ones_le 100 m (Nat.lt_of_le_of_lt h2 (by decide))
  constructor
  · by_cases c : ones m ≤ 99
    · exact c
    · exfalso
      have : ones m = 100 := by omega
      rw [this] at g
      have : (10 : Nat) ^ 30 + 1 < 2 ^ 100 := by decide
      omega
  · intro z
    rw [z] at g
    omega
section
variable {P : Program} {w : World} {K : PySem.W.Frag} {mg : Str → Option Value} {base : Heap}
theorem ok_law {f g1 g2 g3 g4 g5 : Addr} {fd d1 d2 d3 d4 d5 : FuncData} (F : Fun K "law" "law" sLaw f fd)
    (GLawWound : FnOk P w K mg base CX0 1 g1 d1 ["script", "k"] (spWound K)) (ALawWound : At K mg "_law_wound" g1 d1 ["script", "k"])
    (GLawSmallRight : GOk P w K mg base 8 g2 d2 ["reel"] spRight) (ALawSmallRight : At K mg "_law_small_right" g2 d2 ["reel"])
    (GLawGreatRight : FnOk P w K mg base CX0 8 g3 d3 ["reel"] spRight) (ALawGreatRight : At K mg "_law_great_right" g3 d3 ["reel"])
    (GCheapest : FnOk P w K mg base CX0 7 g4 d4 ["low", "high"] spCheapest) (ACheapest : At K mg "cheapest" g4 d4 ["low", "high"])
    (GCostliest : FnOk P w K mg base CX0 7 g5 d5 ["low", "high"] spCostliest) (ACostliest : At K mg "costliest" g5 d5 ["low", "high"])
    (z_range : mg "range" = none) (z_len : mg "len" = none) (z_max : mg "max" = none) (z_min : mg "min" = none) : GOk P w K mg base 9 f fd ["script"] (spLaw K) := by
  refine okG F scLaw (fun vs H Q E h => ?_) (fun cdv A outer s H vs Q hg hr h => ?_)
  · obtain ⟨_, _, rfl, _⟩ := h
    rfl
  obtain ⟨a, ns, rfl, hS, h63, q⟩ := h
  refine' ⟨_, (pss_cons (ps_for PassesOwn.never rfl (pi_range1 (by rfl) z_range (pa_cons (pe_callB (call_max2 rfl) (by rfl) z_max (by decide +kernel) (pa_cons pe_int (pa_cons (pe_callB (call_min2 rfl) (by rfl) z_min (by decide +kernel) (pa_cons pe_int (pa_cons (pe_callB call_len_seq (by rfl) z_len PySem.boot_len (pa_cons (pv 0) pa_nil)) pa_nil))) pa_nil))) pa_nil)) (pg_name (i := 1) scLaw.nd rfl (Or.inl rfl))
    (pss_cons (ps_set (i := 2) scLaw.nd rfl (Or.inl rfl) (pe_call GLawWound (hr.mono (by decide)) rfl ALawWound.m ALawWound.kp ALawWound.b .nil pass0 (pa_cons (pv 0) (pa_cons (pv 1) pa_nil))))
    (pss_one (ps_for PassesOwn.never rfl (pi_range1 (by rfl) z_range (pa_cons pe_int pa_nil)) (pg_name (i := 3) scLaw.nd rfl (Or.inl rfl))
    (pss_one (ps_if (PW.pt (pw_or (pt_not (pt_val (pe_callG GLawSmallRight hg (hr.mono (by decide)) rfl ALawSmallRight.m ALawSmallRight.kp ALawSmallRight.b (pa_cons (pv 2) pa_nil)))) (pw_or1 (pt_not (pt_val (pe_call GLawGreatRight (hr.mono (by decide)) rfl ALawGreatRight.m ALawGreatRight.kp ALawGreatRight.b .nil pass0 (pa_cons (pv 2) pa_nil)))))))
    (pss_one (ps_ret pe_bl))
    pss_nil))))))
    (pss_cons (ps_set (i := 4) scLaw.nd rfl (Or.inl rfl) (pe_lst (pa_cons (pe_call GCheapest (hr.mono (by decide)) rfl ACheapest.m ACheapest.kp ACheapest.b .nil pass0 (pa_cons pe_int (pa_cons pe_int pa_nil))) (pa_cons (pe_call GCostliest (hr.mono (by decide)) rfl ACostliest.m ACostliest.kp ACostliest.b .nil pass0 (pa_cons pe_int (pa_cons pe_int pa_nil))) (pa_cons (pe_call GCheapest (hr.mono (by decide)) rfl ACheapest.m ACheapest.kp ACheapest.b .nil pass0 (pa_cons pe_int (pa_cons pe_int pa_nil))) (pa_cons (pe_ix ix_tup (pe_call GCostliest (hr.mono (by decide)) rfl ACostliest.m ACostliest.kp ACostliest.b .nil pass0 (pa_cons pe_int (pa_cons (pe_op op_pow pe_int pe_int) pa_nil))) pe_int (fun _ _ => rfl)) pa_nil))))))
    (pss_one (ps_ret (pe_and (pe_cmpR (op_eqD hr.units) (pe_slice sl_list (pv 4) po_none (po_some pe_int)) (pe_lst (pa_cons (pe_tup (pa_cons pe_int (pa_cons pe_int pa_nil))) (pa_cons (pe_tup (pa_cons pe_int (pa_cons pe_int pa_nil))) (pa_cons (pe_tup (pa_cons pe_int (pa_cons pe_int pa_nil))) pa_nil)))) (nomark _)) (pe_and (pe_cmpR op_eq (pe_ix ix_list (pv 4) pe_int (fun _ _ => rfl)) pe_int (nomark _)) (pe_one (pe_cmpR op_eq (pe_ix ix_tup (pe_call GCostliest (hr.mono (by decide)) rfl ACostliest.m ACostliest.kp ACostliest.b .nil pass0 (pa_cons pe_int (pa_cons (pe_op op_pow pe_int pe_int) pa_nil))) pe_int (fun _ _ => rfl)) (pe_op op_sub (pe_op op_shl pe_int pe_int) pe_int) (nomark _))))))))), ?_⟩
  have two : 2 ≤ sizeLine := by decide
  obtain ⟨m, m6, em⟩ := turns_is 6 (ns.map V.int).length (by decide)
  refine ⟨_, rfl, a, _, rfl, .inl hS, _, _, rfl, _, _, rfl, ?_⟩
  refine ⟨(m : Int), congrArg (fun z => [V.int z]) em, by omega, by omega, for_range (lo := 0) (n := m) (fun i σ H' => ∃ v1 v2 v3 : Option V, σ = [some (.ref a), v1, v2, v3, none] ∧ Same H H') ⟨none, none, none, rfl, Same.refl _⟩ ?_ ?_⟩
  · rintro k σ H2 hk ⟨v1, v2, v3, rfl, s2⟩
    have ek : (0 : Int) + (k : Int) = ((k : Nat) : Int) := by omega
    rw [ek]
    refine ⟨_, rfl, _, rfl, a, ns, k, rfl, sqSame hS s2, by omega, fun H3 b s3 nb hb => ?_⟩
    have nb1 : H b = none := s2.free nb
    refine ⟨6, rfl, by decide, by decide, for_range (lo := 0) (n := 6) (fun i σ H' => ∃ v3 : Option V, σ = [some (.ref a), some (.int (k : Int)), some (.ref b), v3, none] ∧ Same H H' ∧ ReelAt H' b (i * 100)) ⟨v3, rfl, s2.trans s3, hb⟩ ?_ ?_⟩
    · rintro j σ H4 hj ⟨v3, rfl, s4, hb4⟩
      refine ⟨_, rfl, b, _, rfl, hb4, by omega, fun H5 B5 hb5 => ⟨true, rfl, ?_⟩⟩
      refine ⟨_, rfl, b, _, rfl, hb5, by omega, fun H6 B6 hb6 => ⟨true, rfl, ?_⟩⟩
      exact ⟨_, rfl, fun u o z => B6 _ _ (ne_of_none z nb1) (B5 _ _ (ne_of_none z nb1) (s4 _ _ z)), hb6.mono (by omega)⟩
    · rintro σ H4 ⟨v3, rfl, s4, hb4⟩
      exact ⟨_, _, _, rfl, s4⟩
  · rintro σ H2 ⟨v1, v2, v3, rfl, s2⟩
    refine ⟨5, 7, rfl, by decide, by decide, by decide, fun H3 p1 c1 x1 s3 _ hp1 l1 => ⟨5, 12, rfl, by decide, by decide, by decide, fun H4 p2 c2 x2 s4 _ hp2 l2 => ⟨5, 20, rfl, by decide, by decide, by decide, fun H5 p3 c3 x3 s5 _ hp3 l3 => ?_⟩⟩⟩
    refine ⟨_, _, rfl, rfl, ⟨by decide, by decide, by decide⟩, 1, 10 ^ 30, rfl, by decide, by decide, by decide, fun H6 p4 c4 x4 s6 _ hp4 l4 => ?_⟩
    obtain ⟨_, z, hq4⟩ := id hp4
    cases z
    rw [lst_is 1 5 l1 least57] at hp1
    rw [mst_is 2 7 l2 most512] at hp2
    rw [lst_is 0 8 l3 least520] at hp3
    have e4 := most_one l4 most30
    refine ⟨p4, _, _, _, rfl, rfl, SqT.of hq4, atI_nat (j := 0) rfl, (by show 4 ≤ sizeLine; decide), fun tl ntl => ?_⟩
    have u7 := same_upd (o := .lst [.ref p1, .ref p2, .ref p3, .int (c4 : Int)]) ntl
    have htl : (upd H6 tl (.lst [.ref p1, .ref p2, .ref p3, .int (c4 : Int)])) tl = some (.lst [.ref p1, .ref p2, .ref p3, .int (c4 : Int)]) := upd_same
    have hp1 := (((hp1.same s4).same s5).same s6).same u7
    have hp2 := ((hp2.same s5).same s6).same u7
    have hp3 := (hp3.same s6).same u7
    generalize upd H6 tl (.lst [.ref p1, .ref p2, .ref p3, .int (c4 : Int)]) = H7 at htl hp1 hp2 hp3
    refine ⟨_, rfl, 3, rfl, tl, _, rfl, SqL.of htl, fun sl nsl => ?_⟩
    have u8 := same_upd (o := .lst (cutV [V.ref p1, .ref p2, .ref p3, .int (c4 : Int)] none (some 3))) nsl
    have hsl : (upd H7 sl (.lst (cutV [V.ref p1, .ref p2, .ref p3, .int (c4 : Int)] none (some 3)))) sl = some (.lst [.ref p1, .ref p2, .ref p3]) := upd_same
    have hp1 := hp1.same u8
    have hp2 := hp2.same u8
    have hp3 := hp3.same u8
    have htl := u8 _ _ htl
    generalize upd H7 sl (.lst (cutV [V.ref p1, .ref p2, .ref p3, .int (c4 : Int)] none (some 3))) = H8 at htl hsl hp1 hp2 hp3
    refine ⟨two, fun t1 n1 => ⟨two, fun t2 n2 => ⟨two, fun t3 n3 => ⟨(by show 3 ≤ sizeLine; decide), fun l5 n5 => ?_⟩⟩⟩⟩
    have w1 := same_upd (o := .tup [.int 1, .int 5]) n1
    have w2 := same_upd (o := .tup [.int 2, .int 7]) n2
    have w3 := same_upd (o := .tup [.int 0, .int 8]) n3
    have w4 := same_upd (o := .lst [.ref t1, .ref t2, .ref t3]) n5
    have sh := nds_shaped [(1, 5), (2, 7), (0, 8)]
    have q1 : Nd (upd (upd (upd (upd H8 t1 (.tup [.int 1, .int 5])) t2 (.tup [.int 2, .int 7])) t3 (.tup [.int 0, .int 8])) l5 (.lst [.ref t1, .ref t2, .ref t3])) (.ref t1) (1, 5) := ⟨t1, rfl, w4 _ _ (w3 _ _ (w2 _ _ upd_same))⟩
    have q2 : Nd (upd (upd (upd (upd H8 t1 (.tup [.int 1, .int 5])) t2 (.tup [.int 2, .int 7])) t3 (.tup [.int 0, .int 8])) l5 (.lst [.ref t1, .ref t2, .ref t3])) (.ref t2) (2, 7) := ⟨t2, rfl, w4 _ _ (w3 _ _ upd_same)⟩
    have q3 : Nd (upd (upd (upd (upd H8 t1 (.tup [.int 1, .int 5])) t2 (.tup [.int 2, .int 7])) t3 (.tup [.int 0, .int 8])) l5 (.lst [.ref t1, .ref t2, .ref t3])) (.ref t3) (0, 8) := ⟨t3, rfl, w4 _ _ upd_same⟩
    have hl5 : (upd (upd (upd (upd H8 t1 (.tup [.int 1, .int 5])) t2 (.tup [.int 2, .int 7])) t3 (.tup [.int 0, .int 8])) l5 (.lst [.ref t1, .ref t2, .ref t3])) l5 = some (.lst [.ref t1, .ref t2, .ref t3]) := upd_same
    have w := ((w1.trans w2).trans w3).trans w4
    generalize upd (upd (upd (upd H8 t1 (.tup [.int 1, .int 5])) t2 (.tup [.int 2, .int 7])) t3 (.tup [.int 0, .int 8])) l5 (.lst [.ref t1, .ref t2, .ref t3]) = H9 at q1 q2 q3 hl5 w
    refine ⟨.list ([(1, 5), (2, 7), (0, 8)].map nd), .list ([(1, 5), (2, 7), (0, 8)].map nd), .lst (SqL.of (w _ _ hsl)) (nds_dp (.cons (hp1.same w) (.cons (hp2.same w) (.cons (hp3.same w) .nil)))), .lst (SqL.of hl5) (nds_dp (.cons q1 (.cons q2 (.cons q3 .nil)))), sh, sh, true, congrArg V.bl (SeqAt.eqv_refl _ (SeqAt.canLay_of_shaped sh)), ?_⟩
    refine ⟨_, rfl, tl, _, _, _, rfl, rfl, SqL.of (w _ _ htl), atI_nat (j := 3) rfl, rfl, true, congrArg V.bl (decide_eq_true (congrArg V.int (by omega))), ?_⟩
    refine ⟨_, _, rfl, rfl, ⟨by decide, by decide, by decide⟩, 1, 10 ^ 30, rfl, by decide, by decide, by decide, fun H10 p5 c5 x5 s10 _ hp5 l6 => ?_⟩
    obtain ⟨_, z, hq5⟩ := id hp5
    cases z
    have e5 := most_one l6 most30
    refine ⟨p5, _, _, _, rfl, rfl, SqT.of hq5, atI_nat (j := 1) rfl, _, _, rfl, rfl, ⟨by decide, by decide, by decide⟩, _, _, rfl, rfl, rfl, ?_⟩
    have ef : V.int (x5 : Int) = V.int (1 * 2 ^ (99 : Int).toNat - 1) := congrArg V.int (by rw [e5.2]; decide)
    dsimp only
    rw [decide_eq_true ef]
    exact q _
end
end LT

namespace LT
open PySem PySem.Spec PyProof.Rows L2
theorem all_mk {l : PySem.W.OpenLaw} {w : World} {K : PySem.W.Frag} {h : Heap} {mg : Str → Option Value} {fa f0 f1 f2 f3 f4 f5 f6 f7 f8 f9 f10 f11 f12 f13 f14 f15 f16 f17 : Addr} (X : K.In h) (G : h.Ns mainGlobals mg) (hfa : mg "law" = some (.ref fa))
    {od0 an0 od1 an1 od2 an2 od3 an3 od4 an4 od5 an5 od6 an6 od7 an7 od8 an8 od9 an9 od10 an10 od11 an11 od12 an12 od13 an13 od14 an14 od15 an15 od16 an16 od17 an17 : Option Addr} {sl0 sl1 sl2 sl3 sl4 sl5 sl6 sl7 sl8 sl9 sl10 sl11 sl12 sl13 sl14 sl15 sl16 sl17 : Array (Option Value)} {oc0 kV0 dc0 pm0 cd0 ct0 oc1 kV1 dc1 pm1 cd1 ct1 oc2 kV2 dc2 pm2 cd2 ct2 oc3 kV3 dc3 pm3 cd3 ct3 oc4 kV4 dc4 pm4 cd4 ct4 oc5 kV5 dc5 pm5 cd5 ct5 oc6 kV6 dc6 pm6 cd6 ct6 oc7 kV7 dc7 pm7 cd7 ct7 oc8 kV8 dc8 pm8 cd8 ct8 oc9 kV9 dc9 pm9 cd9 ct9 oc10 kV10 dc10 pm10 cd10 ct10 oc11 kV11 dc11 pm11 cd11 ct11 oc12 kV12 dc12 pm12 cd12 ct12 oc13 kV13 dc13 pm13 cd13 ct13 oc14 kV14 dc14 pm14 cd14 ct14 oc15 kV15 dc15 pm15 cd15 ct15 oc16 kV16 dc16 pm16 cd16 ct16 oc17 kV17 dc17 pm17 cd17 ct17 : Value}
    (a0 : PySem.W.nsIn K mainGlobals "is_whole" = some (some (.ref f0))) (l0 : K.lookup f0 = some ⟨oc0, od0, .func (PySem.W.fnOf "is_whole" "is_whole" (defArgs sIsWhole) (defBody sIsWhole) (defScope sIsWhole) .none kV0 dc0 pm0 an0 cd0 ct0), sl0⟩) (c0 : PySem.W.codeIn K cd0 "is_whole" = true) (k0 : PySem.W.keepIn K (.ref f0) = true)
    (a1 : PySem.W.nsIn K mainGlobals "is_between" = some (some (.ref f1))) (l1 : K.lookup f1 = some ⟨oc1, od1, .func (PySem.W.fnOf "is_between" "is_between" (defArgs sIsBetween) (defBody sIsBetween) (defScope sIsBetween) .none kV1 dc1 pm1 an1 cd1 ct1), sl1⟩) (c1 : PySem.W.codeIn K cd1 "is_between" = true) (k1 : PySem.W.keepIn K (.ref f1) = true)
    (a2 : PySem.W.nsIn K mainGlobals "check_size" = some (some (.ref f2))) (l2 : K.lookup f2 = some ⟨oc2, od2, .func (PySem.W.fnOf "check_size" "check_size" (defArgs sCheckSize) (defBody sCheckSize) (defScope sCheckSize) .none kV2 dc2 pm2 an2 cd2 ct2), sl2⟩) (c2 : PySem.W.codeIn K cd2 "check_size" = true) (k2 : PySem.W.keepIn K (.ref f2) = true)
    (a3 : PySem.W.nsIn K mainGlobals "power_within" = some (some (.ref f3))) (l3 : K.lookup f3 = some ⟨oc3, od3, .func (PySem.W.fnOf "power_within" "power_within" (defArgs sPowerWithin) (defBody sPowerWithin) (defScope sPowerWithin) .none kV3 dc3 pm3 an3 cd3 ct3), sl3⟩) (c3 : PySem.W.codeIn K cd3 "power_within" = true) (k3 : PySem.W.keepIn K (.ref f3) = true)
    (a4 : PySem.W.nsIn K mainGlobals "peaks" = some (some (.ref f4))) (l4 : K.lookup f4 = some ⟨oc4, od4, .func (PySem.W.fnOf "peaks" "peaks" (defArgs sPeaks) (defBody sPeaks) (defScope sPeaks) .none kV4 dc4 pm4 an4 cd4 ct4), sl4⟩) (c4 : PySem.W.codeIn K cd4 "peaks" = true) (k4 : PySem.W.keepIn K (.ref f4) = true)
    (a5 : PySem.W.nsIn K mainGlobals "edges" = some (some (.ref f5))) (l5 : K.lookup f5 = some ⟨oc5, od5, .func (PySem.W.fnOf "edges" "edges" (defArgs sEdges) (defBody sEdges) (defScope sEdges) .none kV5 dc5 pm5 an5 cd5 ct5), sl5⟩) (c5 : PySem.W.codeIn K cd5 "edges" = true) (k5 : PySem.W.keepIn K (.ref f5) = true)
    (a6 : PySem.W.nsIn K mainGlobals "root_sums" = some (some (.ref f6))) (l6 : K.lookup f6 = some ⟨oc6, od6, .func (PySem.W.fnOf "root_sums" "root_sums" (defArgs sRootSums) (defBody sRootSums) (defScope sRootSums) .none kV6 dc6 pm6 an6 cd6 ct6), sl6⟩) (c6 : PySem.W.codeIn K cd6 "root_sums" = true) (k6 : PySem.W.keepIn K (.ref f6) = true)
    (a7 : PySem.W.nsIn K mainGlobals "_check_stretch" = some (some (.ref f7))) (l7 : K.lookup f7 = some ⟨oc7, od7, .func (PySem.W.fnOf "_check_stretch" "_check_stretch" (defArgs sCheckStretch) (defBody sCheckStretch) (defScope sCheckStretch) .none kV7 dc7 pm7 an7 cd7 ct7), sl7⟩) (c7 : PySem.W.codeIn K cd7 "_check_stretch" = true) (k7 : PySem.W.keepIn K (.ref f7) = true)
    (a8 : PySem.W.nsIn K mainGlobals "cheapest" = some (some (.ref f8))) (l8 : K.lookup f8 = some ⟨oc8, od8, .func (PySem.W.fnOf "cheapest" "cheapest" (defArgs sCheapest) (defBody sCheapest) (defScope sCheapest) .none kV8 dc8 pm8 an8 cd8 ct8), sl8⟩) (c8 : PySem.W.codeIn K cd8 "cheapest" = true) (k8 : PySem.W.keepIn K (.ref f8) = true)
    (a9 : PySem.W.nsIn K mainGlobals "costliest" = some (some (.ref f9))) (l9 : K.lookup f9 = some ⟨oc9, od9, .func (PySem.W.fnOf "costliest" "costliest" (defArgs sCostliest) (defBody sCostliest) (defScope sCostliest) .none kV9 dc9 pm9 an9 cd9 ct9), sl9⟩) (c9 : PySem.W.codeIn K cd9 "costliest" = true) (k9 : PySem.W.keepIn K (.ref f9) = true)
    (a10 : PySem.W.nsIn K mainGlobals "_law_wound" = some (some (.ref f10))) (l10 : K.lookup f10 = some ⟨oc10, od10, .func (PySem.W.fnOf "_law_wound" "_law_wound" (defArgs sLawWound) (defBody sLawWound) (defScope sLawWound) .none kV10 dc10 pm10 an10 cd10 ct10), sl10⟩) (c10 : PySem.W.codeIn K cd10 "_law_wound" = true) (k10 : PySem.W.keepIn K (.ref f10) = true)
    (a11 : PySem.W.nsIn K mainGlobals "_law_spin" = some (some (.ref f11))) (l11 : K.lookup f11 = some ⟨oc11, od11, .func (PySem.W.fnOf "_law_spin" "_law_spin" (defArgs sLawSpin) (defBody sLawSpin) (defScope sLawSpin) .none kV11 dc11 pm11 an11 cd11 ct11), sl11⟩) (c11 : PySem.W.codeIn K cd11 "_law_spin" = true) (k11 : PySem.W.keepIn K (.ref f11) = true)
    (a12 : PySem.W.nsIn K mainGlobals "_law_drawn_size" = some (some (.ref f12))) (l12 : K.lookup f12 = some ⟨oc12, od12, .func (PySem.W.fnOf "_law_drawn_size" "_law_drawn_size" (defArgs sLawDrawnSize) (defBody sLawDrawnSize) (defScope sLawDrawnSize) .none kV12 dc12 pm12 an12 cd12 ct12), sl12⟩) (c12 : PySem.W.codeIn K cd12 "_law_drawn_size" = true) (k12 : PySem.W.keepIn K (.ref f12) = true)
    (a13 : PySem.W.nsIn K mainGlobals "_law_ones" = some (some (.ref f13))) (l13 : K.lookup f13 = some ⟨oc13, od13, .func (PySem.W.fnOf "_law_ones" "_law_ones" (defArgs sLawOnes) (defBody sLawOnes) (defScope sLawOnes) .none kV13 dc13 pm13 an13 cd13 ct13), sl13⟩) (c13 : PySem.W.codeIn K cd13 "_law_ones" = true) (k13 : PySem.W.keepIn K (.ref f13) = true)
    (a14 : PySem.W.nsIn K mainGlobals "_law_small_right" = some (some (.ref f14))) (l14 : K.lookup f14 = some ⟨oc14, od14, .func (PySem.W.fnOf "_law_small_right" "_law_small_right" (defArgs sLawSmallRight) (defBody sLawSmallRight) (defScope sLawSmallRight) .none kV14 dc14 pm14 an14 cd14 ct14), sl14⟩) (c14 : PySem.W.codeIn K cd14 "_law_small_right" = true) (k14 : PySem.W.keepIn K (.ref f14) = true)
    (a15 : PySem.W.nsIn K mainGlobals "_law_bounds" = some (some (.ref f15))) (l15 : K.lookup f15 = some ⟨oc15, od15, .func (PySem.W.fnOf "_law_bounds" "_law_bounds" (defArgs sLawBounds) (defBody sLawBounds) (defScope sLawBounds) .none kV15 dc15 pm15 an15 cd15 ct15), sl15⟩) (c15 : PySem.W.codeIn K cd15 "_law_bounds" = true) (k15 : PySem.W.keepIn K (.ref f15) = true)
    (a16 : PySem.W.nsIn K mainGlobals "_law_great_right" = some (some (.ref f16))) (l16 : K.lookup f16 = some ⟨oc16, od16, .func (PySem.W.fnOf "_law_great_right" "_law_great_right" (defArgs sLawGreatRight) (defBody sLawGreatRight) (defScope sLawGreatRight) .none kV16 dc16 pm16 an16 cd16 ct16), sl16⟩) (c16 : PySem.W.codeIn K cd16 "_law_great_right" = true) (k16 : PySem.W.keepIn K (.ref f16) = true)
    (a17 : PySem.W.nsIn K mainGlobals "law" = some (some (.ref f17))) (l17 : K.lookup f17 = some ⟨oc17, od17, .func (PySem.W.fnOf "law" "law" (defArgs sLaw) (defBody sLaw) (defScope sLaw) .none kV17 dc17 pm17 an17 cd17 ct17), sl17⟩) (c17 : PySem.W.codeIn K cd17 "law" = true) (k17 : PySem.W.keepIn K (.ref f17) = true)
    (z_bool : PySem.W.nsIn K mainGlobals "bool" = some none)
    (z_int : PySem.W.nsIn K mainGlobals "int" = some none)
    (z_isinstance : PySem.W.nsIn K mainGlobals "isinstance" = some none)
    (z_len : PySem.W.nsIn K mainGlobals "len" = some none)
    (z_max : PySem.W.nsIn K mainGlobals "max" = some none)
    (z_min : PySem.W.nsIn K mainGlobals "min" = some none)
    (z_range : PySem.W.nsIn K mainGlobals "range" = some none)
    (z_repr : PySem.W.nsIn K mainGlobals "repr" = some none)
    (z_sorted : PySem.W.nsIn K mainGlobals "sorted" = some none)
    {t_MOST_ENTRIES : Tok} (g_MOST_ENTRIES : PySem.W.nsIn K mainGlobals "MOST_ENTRIES" = some (some (.int 1000000000000000000000000000000 t_MOST_ENTRIES)))
    : ∃ fd : FuncData, (∀ (s : Shared) (v : Value), BindsTo s fd ⟨[v], []⟩ [("script", v)]) ∧ ∀ base : Heap, K.In base → base.Ns mainGlobals mg → GOk l.prog w K mg base 9 fa fd ["script"] (spLaw K) := by
  have e := hfa.symm.trans (PySem.W.mg_of X G a17)
  cases e
  have FIsWhole := fun_mk (st := sIsWhole) l0 c0 k0
  have FIsBetween := fun_mk (st := sIsBetween) l1 c1 k1
  have FCheckSize := fun_mk (st := sCheckSize) l2 c2 k2
  have FPowerWithin := fun_mk (st := sPowerWithin) l3 c3 k3
  have FPeaks := fun_mk (st := sPeaks) l4 c4 k4
  have FEdges := fun_mk (st := sEdges) l5 c5 k5
  have FRootSums := fun_mk (st := sRootSums) l6 c6 k6
  have FCheckStretch := fun_mk (st := sCheckStretch) l7 c7 k7
  have FCheapest := fun_mk (st := sCheapest) l8 c8 k8
  have FCostliest := fun_mk (st := sCostliest) l9 c9 k9
  have FLawWound := fun_mk (st := sLawWound) l10 c10 k10
  have FLawSpin := fun_mk (st := sLawSpin) l11 c11 k11
  have FLawDrawnSize := fun_mk (st := sLawDrawnSize) l12 c12 k12
  have FLawOnes := fun_mk (st := sLawOnes) l13 c13 k13
  have FLawSmallRight := fun_mk (st := sLawSmallRight) l14 c14 k14
  have FLawBounds := fun_mk (st := sLawBounds) l15 c15 k15
  have FLawGreatRight := fun_mk (st := sLawGreatRight) l16 c16 k16
  have FLaw := fun_mk (st := sLaw) l17 c17 k17
  have AIsWhole : At K mg "is_whole" f0 (PySem.W.fnOf "is_whole" "is_whole" (defArgs sIsWhole) (defBody sIsWhole) (defScope sIsWhole) .none kV0 dc0 pm0 an0 cd0 ct0) ["value"] := ⟨PySem.W.mg_of X G a0, k0, FIsWhole.binds (ps := ["value"]) fun _ _ _ _ _ _ us hl => match us, hl with | [_], _ => rfl⟩
  have AIsBetween : At K mg "is_between" f1 (PySem.W.fnOf "is_between" "is_between" (defArgs sIsBetween) (defBody sIsBetween) (defScope sIsBetween) .none kV1 dc1 pm1 an1 cd1 ct1) ["value", "low", "high"] := ⟨PySem.W.mg_of X G a1, k1, FIsBetween.binds (ps := ["value", "low", "high"]) fun _ _ _ _ _ _ us hl => match us, hl with | [_, _, _], _ => rfl⟩
  have ACheckSize : At K mg "check_size" f2 (PySem.W.fnOf "check_size" "check_size" (defArgs sCheckSize) (defBody sCheckSize) (defScope sCheckSize) .none kV2 dc2 pm2 an2 cd2 ct2) ["size"] := ⟨PySem.W.mg_of X G a2, k2, FCheckSize.binds (ps := ["size"]) fun _ _ _ _ _ _ us hl => match us, hl with | [_], _ => rfl⟩
  have APowerWithin : At K mg "power_within" f3 (PySem.W.fnOf "power_within" "power_within" (defArgs sPowerWithin) (defBody sPowerWithin) (defScope sPowerWithin) .none kV3 dc3 pm3 an3 cd3 ct3) ["number"] := ⟨PySem.W.mg_of X G a3, k3, FPowerWithin.binds (ps := ["number"]) fun _ _ _ _ _ _ us hl => match us, hl with | [_], _ => rfl⟩
  have APeaks : At K mg "peaks" f4 (PySem.W.fnOf "peaks" "peaks" (defArgs sPeaks) (defBody sPeaks) (defScope sPeaks) .none kV4 dc4 pm4 an4 cd4 ct4) ["size"] := ⟨PySem.W.mg_of X G a4, k4, FPeaks.binds (ps := ["size"]) fun _ _ _ _ _ _ us hl => match us, hl with | [_], _ => rfl⟩
  have AEdges : At K mg "edges" f5 (PySem.W.fnOf "edges" "edges" (defArgs sEdges) (defBody sEdges) (defScope sEdges) .none kV5 dc5 pm5 an5 cd5 ct5) ["size"] := ⟨PySem.W.mg_of X G a5, k5, FEdges.binds (ps := ["size"]) fun _ _ _ _ _ _ us hl => match us, hl with | [_], _ => rfl⟩
  have ARootSums : At K mg "root_sums" f6 (PySem.W.fnOf "root_sums" "root_sums" (defArgs sRootSums) (defBody sRootSums) (defScope sRootSums) .none kV6 dc6 pm6 an6 cd6 ct6) ["size"] := ⟨PySem.W.mg_of X G a6, k6, FRootSums.binds (ps := ["size"]) fun _ _ _ _ _ _ us hl => match us, hl with | [_], _ => rfl⟩
  have ACheckStretch : At K mg "_check_stretch" f7 (PySem.W.fnOf "_check_stretch" "_check_stretch" (defArgs sCheckStretch) (defBody sCheckStretch) (defScope sCheckStretch) .none kV7 dc7 pm7 an7 cd7 ct7) ["low", "high"] := ⟨PySem.W.mg_of X G a7, k7, FCheckStretch.binds (ps := ["low", "high"]) fun _ _ _ _ _ _ us hl => match us, hl with | [_, _], _ => rfl⟩
  have ACheapest : At K mg "cheapest" f8 (PySem.W.fnOf "cheapest" "cheapest" (defArgs sCheapest) (defBody sCheapest) (defScope sCheapest) .none kV8 dc8 pm8 an8 cd8 ct8) ["low", "high"] := ⟨PySem.W.mg_of X G a8, k8, FCheapest.binds (ps := ["low", "high"]) fun _ _ _ _ _ _ us hl => match us, hl with | [_, _], _ => rfl⟩
  have ACostliest : At K mg "costliest" f9 (PySem.W.fnOf "costliest" "costliest" (defArgs sCostliest) (defBody sCostliest) (defScope sCostliest) .none kV9 dc9 pm9 an9 cd9 ct9) ["low", "high"] := ⟨PySem.W.mg_of X G a9, k9, FCostliest.binds (ps := ["low", "high"]) fun _ _ _ _ _ _ us hl => match us, hl with | [_, _], _ => rfl⟩
  have ALawWound : At K mg "_law_wound" f10 (PySem.W.fnOf "_law_wound" "_law_wound" (defArgs sLawWound) (defBody sLawWound) (defScope sLawWound) .none kV10 dc10 pm10 an10 cd10 ct10) ["script", "k"] := ⟨PySem.W.mg_of X G a10, k10, FLawWound.binds (ps := ["script", "k"]) fun _ _ _ _ _ _ us hl => match us, hl with | [_, _], _ => rfl⟩
  have ALawSpin : At K mg "_law_spin" f11 (PySem.W.fnOf "_law_spin" "_law_spin" (defArgs sLawSpin) (defBody sLawSpin) (defScope sLawSpin) .none kV11 dc11 pm11 an11 cd11 ct11) ["reel", "many"] := ⟨PySem.W.mg_of X G a11, k11, FLawSpin.binds (ps := ["reel", "many"]) fun _ _ _ _ _ _ us hl => match us, hl with | [_, _], _ => rfl⟩
  have ALawDrawnSize : At K mg "_law_drawn_size" f12 (PySem.W.fnOf "_law_drawn_size" "_law_drawn_size" (defArgs sLawDrawnSize) (defBody sLawDrawnSize) (defScope sLawDrawnSize) .none kV12 dc12 pm12 an12 cd12 ct12) ["reel"] := ⟨PySem.W.mg_of X G a12, k12, FLawDrawnSize.binds (ps := ["reel"]) fun _ _ _ _ _ _ us hl => match us, hl with | [_], _ => rfl⟩
  have ALawOnes : At K mg "_law_ones" f13 (PySem.W.fnOf "_law_ones" "_law_ones" (defArgs sLawOnes) (defBody sLawOnes) (defScope sLawOnes) .none kV13 dc13 pm13 an13 cd13 ct13) ["number"] := ⟨PySem.W.mg_of X G a13, k13, FLawOnes.binds (ps := ["number"]) fun _ _ _ _ _ _ us hl => match us, hl with | [_], _ => rfl⟩
  have ALawSmallRight : At K mg "_law_small_right" f14 (PySem.W.fnOf "_law_small_right" "_law_small_right" (defArgs sLawSmallRight) (defBody sLawSmallRight) (defScope sLawSmallRight) .none kV14 dc14 pm14 an14 cd14 ct14) ["reel"] := ⟨PySem.W.mg_of X G a14, k14, FLawSmallRight.binds (ps := ["reel"]) fun _ _ _ _ _ _ us hl => match us, hl with | [_], _ => rfl⟩
  have ALawBounds : At K mg "_law_bounds" f15 (PySem.W.fnOf "_law_bounds" "_law_bounds" (defArgs sLawBounds) (defBody sLawBounds) (defScope sLawBounds) .none kV15 dc15 pm15 an15 cd15 ct15) ["low", "high"] := ⟨PySem.W.mg_of X G a15, k15, FLawBounds.binds (ps := ["low", "high"]) fun _ _ _ _ _ _ us hl => match us, hl with | [_, _], _ => rfl⟩
  have ALawGreatRight : At K mg "_law_great_right" f16 (PySem.W.fnOf "_law_great_right" "_law_great_right" (defArgs sLawGreatRight) (defBody sLawGreatRight) (defScope sLawGreatRight) .none kV16 dc16 pm16 an16 cd16 ct16) ["reel"] := ⟨PySem.W.mg_of X G a16, k16, FLawGreatRight.binds (ps := ["reel"]) fun _ _ _ _ _ _ us hl => match us, hl with | [_], _ => rfl⟩
  have z_bool := PySem.W.mg_none_of X G z_bool
  have z_int := PySem.W.mg_none_of X G z_int
  have z_isinstance := PySem.W.mg_none_of X G z_isinstance
  have z_len := PySem.W.mg_none_of X G z_len
  have z_max := PySem.W.mg_none_of X G z_max
  have z_min := PySem.W.mg_none_of X G z_min
  have z_range := PySem.W.mg_none_of X G z_range
  have z_repr := PySem.W.mg_none_of X G z_repr
  have z_sorted := PySem.W.mg_none_of X G z_sorted
  have g_MOST_ENTRIES := PySem.W.mg_of X G g_MOST_ENTRIES
  refine ⟨PySem.W.fnOf "law" "law" (defArgs sLaw) (defBody sLaw) (defScope sLaw) .none kV17 dc17 pm17 an17 cd17 ct17, fun s v => .of_eq rfl, fun base _ _ => ?_⟩
  have GIsWhole := ok_is_whole (P := l.prog) (w := w) (base := base) FIsWhole z_isinstance z_int z_bool
  have GIsBetween := ok_is_between FIsBetween GIsWhole AIsWhole
  have GCheckSize := ok_check_size FCheckSize GIsBetween AIsBetween g_MOST_ENTRIES
  have GPowerWithin := ok_power_within (P := l.prog) (w := w) (mg := mg) (base := base) FPowerWithin
  have GPeaks := ok_peaks FPeaks GCheckSize ACheckSize GPowerWithin APowerWithin
  have GEdges := ok_edges FEdges GPeaks APeaks
  have GRootSums := ok_root_sums FRootSums GEdges AEdges z_len
  have GCheckStretch := ok_check_stretch FCheckStretch GCheckSize ACheckSize
  have GCheapest := ok_cheapest FCheapest GCheckStretch ACheckStretch GRootSums ARootSums z_min
  have GCostliest := ok_costliest FCostliest GCheckStretch ACheckStretch GRootSums ARootSums
  have GLawWound := ok_law_wound (P := l.prog) (w := w) (base := base) FLawWound z_max z_len z_int
  have GLawSpin := ok_law_spin (P := l.prog) (w := w) (base := base) FLawSpin z_int
  have GLawDrawnSize := ok_law_drawn_size FLawDrawnSize GLawSpin ALawSpin z_min z_int
  have GLawOnes := ok_law_ones (P := l.prog) (w := w) (mg := mg) (base := base) FLawOnes
  have GLawSmallRight := ok_law_small_right FLawSmallRight GLawSpin ALawSpin GLawOnes ALawOnes GCheapest ACheapest GCostliest ACostliest z_range z_repr z_min z_max
  have GLawBounds := ok_law_bounds FLawBounds GLawOnes ALawOnes z_range z_max z_int
  have GLawGreatRight := ok_law_great_right FLawGreatRight GLawSpin ALawSpin GLawOnes ALawOnes GCheapest ACheapest GCostliest ACostliest GLawDrawnSize ALawDrawnSize GLawBounds ALawBounds GRootSums ARootSums z_range z_sorted z_min z_int
  exact ok_law FLaw GLawWound ALawWound GLawSmallRight ALawSmallRight GLawGreatRight ALawGreatRight GCheapest ACheapest GCostliest ACostliest z_range z_len z_max z_min
end LT
open PySem PySem.W PyProof.Rows
set_option maxRecDepth 100000 in
set_option maxHeartbeats 0 in
theorem PySem.Challenge.cw_logtrees_k25_cheapest_and_costliest_size_holds : PySem.Challenge.rw_logtrees_k25_cheapest_and_costliest_size.Holds := by
  w_on; o_law; k_head; (case hw => w_witness2)
  k_fill
  refine LT.walkG (l := PySem.Challenge.rw_logtrees_k25_cheapest_and_costliest_size) (n := 63) (k := 9) (x := "script") (sp := fun w => LT.spLaw _) rfl (by decide) rfl ⟨rfl, by decide, by decide⟩ (fun w h Y => PySem.W.kIn_of Y) ?F (fun _ _ a ns hl _ hS => ⟨a, ns, rfl, hS, hl, fun _ => rfl⟩)
  case F =>
    intro w mg fa h KX G hmg
    refine' LT.all_mk KX G hmg ?a0 ?l0 ?c0 ?k0 ?a1 ?l1 ?c1 ?k1 ?a2 ?l2 ?c2 ?k2 ?a3 ?l3 ?c3 ?k3 ?a4 ?l4 ?c4 ?k4 ?a5 ?l5 ?c5 ?k5 ?a6 ?l6 ?c6 ?k6 ?a7 ?l7 ?c7 ?k7 ?a8 ?l8 ?c8 ?k8 ?a9 ?l9 ?c9 ?k9 ?a10 ?l10 ?c10 ?k10 ?a11 ?l11 ?c11 ?k11 ?a12 ?l12 ?c12 ?k12 ?a13 ?l13 ?c13 ?k13 ?a14 ?l14 ?c14 ?k14 ?a15 ?l15 ?c15 ?k15 ?a16 ?l16 ?c16 ?k16 ?a17 ?l17 ?c17 ?k17 ?z_bool ?z_int ?z_isinstance ?z_len ?z_max ?z_min ?z_range ?z_repr ?z_sorted ?g_MOST_ENTRIES
    (case a0 => k_is)
    (case l0 => k_is)
    (case c0 => k_is)
    (case k0 => k_is)
    (case a1 => k_is)
    (case l1 => k_is)
    (case c1 => k_is)
    (case k1 => k_is)
    (case a2 => k_is)
    (case l2 => k_is)
    (case c2 => k_is)
    (case k2 => k_is)
    (case a3 => k_is)
    (case l3 => k_is)
    (case c3 => k_is)
    (case k3 => k_is)
    (case a4 => k_is)
    (case l4 => k_is)
    (case c4 => k_is)
    (case k4 => k_is)
    (case a5 => k_is)
    (case l5 => k_is)
    (case c5 => k_is)
    (case k5 => k_is)
    (case a6 => k_is)
    (case l6 => k_is)
    (case c6 => k_is)
    (case k6 => k_is)
    (case a7 => k_is)
    (case l7 => k_is)
    (case c7 => k_is)
    (case k7 => k_is)
    (case a8 => k_is)
    (case l8 => k_is)
    (case c8 => k_is)
    (case k8 => k_is)
    (case a9 => k_is)
    (case l9 => k_is)
    (case c9 => k_is)
    (case k9 => k_is)
    (case a10 => k_is)
    (case l10 => k_is)
    (case c10 => k_is)
    (case k10 => k_is)
    (case a11 => k_is)
    (case l11 => k_is)
    (case c11 => k_is)
    (case k11 => k_is)
    (case a12 => k_is)
    (case l12 => k_is)
    (case c12 => k_is)
    (case k12 => k_is)
    (case a13 => k_is)
    (case l13 => k_is)
    (case c13 => k_is)
    (case k13 => k_is)
    (case a14 => k_is)
    (case l14 => k_is)
    (case c14 => k_is)
    (case k14 => k_is)
    (case a15 => k_is)
    (case l15 => k_is)
    (case c15 => k_is)
    (case k15 => k_is)
    (case a16 => k_is)
    (case l16 => k_is)
    (case c16 => k_is)
    (case k16 => k_is)
    (case a17 => k_is)
    (case l17 => k_is)
    (case c17 => k_is)
    (case k17 => k_is)
    (case z_bool => k_is)
    (case z_int => k_is)
    (case z_isinstance => k_is)
    (case z_len => k_is)
    (case z_max => k_is)
    (case z_min => k_is)
    (case z_range => k_is)
    (case z_repr => k_is)
    (case z_sorted => k_is)
    (case g_MOST_ENTRIES => k_is)
